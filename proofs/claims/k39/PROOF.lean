import PyProof.Rows.All
import Wide.All
import OpenK.AllK
import Wide.FinOn
import HandS.ForMost
import HandS.Wide
import HandS.Deep
import HandS.TupAny
import HandS.Conv
import HandS.IsInst
import HandS.RaiseMore
import HandS.Style
import HandS.Property
import KE.KCallOwn
import HandS.TryOnly
import HandS.Steps
import KE.GoesEnum
import KE.IntTextLaws
import HandS.StrMore
import HandS.Flow
import KE.KDictWalk
import KE.DataMinMax
import HandS.More
import PyProof.StrOps2
import KE.KDictDisplayH
import PyProof.Rows.TupDisplay
import PySem.Challenge.RW_stackworks_k39_fewest_instructions_by_se
set_option Elab.async false
set_option linter.all false
set_option maxRecDepth 100000
set_option maxHeartbeats 2000000
/-! Lw: readings of the hand layer over abstract slots (what a slot holds, as data) and abstract owned objects; everything else of the heap only grows. -/
namespace Lw
open PySem PySem.Spec PyProof.Rows L2

abbrev Fr := PySem.W.Frag

/-! ### data, told so that it stays: a tuple that begins with a text is tracked itself (a dict may have it as a key) -/
def Trk (xs : List V) : Prop := (∃ z r, xs = .str z :: r) ∨ ∃ ks : List Key, xs = ks.map kV
theorem Trk.str (z : Str) (r : List V) : Trk (.str z :: r) := .inl ⟨z, r, rfl⟩
theorem Trk.keys (ks : List Key) : Trk (ks.map kV) := .inr ⟨ks, rfl⟩
theorem Trk.noRef {a : Addr} {r : List V} : ¬ Trk (.ref a :: r) := by
  rintro (⟨z, q, h⟩ | ⟨ks, h⟩)
  · cases h
  · cases ks with
    | nil => cases h
    | cons k ks =>
      rw [List.map_cons] at h
      injection h with h _
      cases k <;> cases h
mutual
inductive Dt (K : Fr) (H : Hp) : V → PyData → Prop
  | non : Dt K H .non .none
  | bl (b : Bool) : Dt K H (.bl b) (.bool b)
  | int (i : Int) : Dt K H (.int i) (.int i)
  | str (x : Str) : Dt K H (.str x) (.str x)
  | lst {a : Addr} {xs : List V} {ds : List PyData} : SqL K H a xs → DtAll K H xs ds → Dt K H (.ref a) (.list ds)
  | tup {a : Addr} {xs : List V} {ds : List PyData} : SqT K H a xs → (Trk xs → H a = some (.tup xs)) → DtAll K H xs ds → Dt K H (.ref a) (.tuple ds)
inductive DtAll (K : Fr) (H : Hp) : List V → List PyData → Prop
  | nil : DtAll K H [] []
  | cons {v : V} {vs : List V} {d : PyData} {ds : List PyData} : Dt K H v d → DtAll K H vs ds → DtAll K H (v :: vs) (d :: ds)
end
theorem seq_l {K : Fr} {H H' : Hp} {a : Addr} {xs : List V} (e : Same H H') (h : SqT K H a xs) : SqT K H' a xs := by
  rcases h with (h | ⟨o, h⟩) | h
  · exact .inl (.inl (e _ _ h))
  · exact .inl (.inr ⟨o, e _ _ h⟩)
  · exact .inr h
mutual
theorem dp_mono {K : Fr} {H H' : Hp} (e : Same H H') : ∀ {v : V} {d : PyData}, Dt K H v d → Dt K H' v d
  | _, _, .non => .non
  | _, _, .bl b => .bl b
  | _, _, .int i => .int i
  | _, _, .str x => .str x
  | _, _, .lst h1 h2 => .lst (e.seq h1) (dpa_mono e h2)
  | _, _, .tup h1 h0 h2 => .tup (seq_l e h1) (fun q => e _ _ (h0 q)) (dpa_mono e h2)
theorem dpa_mono {K : Fr} {H H' : Hp} (e : Same H H') : ∀ {vs : List V} {ds : List PyData}, DtAll K H vs ds → DtAll K H' vs ds
  | _, _, .nil => .nil
  | _, _, .cons h1 h2 => .cons (dp_mono e h1) (dpa_mono e h2)
end
mutual
theorem Dt.dp {K : Fr} {H : Hp} : ∀ {v : V} {d : PyData}, Dt K H v d → Dp K H v d
  | _, _, .non => .non
  | _, _, .bl b => .bl b
  | _, _, .int i => .int i
  | _, _, .str x => .str x
  | _, _, .lst h1 h2 => .lst h1 (DtAll.dp h2)
  | _, _, .tup h1 _ h2 => .tup h1 (DtAll.dp h2)
theorem DtAll.dp {K : Fr} {H : Hp} : ∀ {vs : List V} {ds : List PyData}, DtAll K H vs ds → DpAll K H vs ds
  | _, _, .nil => .nil
  | _, _, .cons h1 h2 => .cons (Dt.dp h1) (DtAll.dp h2)
end
theorem same_new {H : Hp} {p : Addr} {o : HO} (h : H p = none) : Same H (upd H p o) := fun b x e => by
  rw [upd_ne (ne_of_none e h)]
  exact e

/-! ### abstract values, abstract owned objects -/
structure Pr where
  p : Fr → V → Hp → Prop
  mono : ∀ {K v B B'}, Same B B' → p K v B → p K v B'
inductive AV where
  | d (x : PyData)
  | r (a : Addr)
  | x (P : Pr)
def AV.h (K : Fr) : AV → V → Hp → Prop
  | .d t, v, B => Dt K B v t
  | .r a, v, _ => v = .ref a
  | .x P, v, B => P.p K v B
abbrev AV.i (n : Int) : AV := .d (.int n)
abbrev AV.b (b : Bool) : AV := .d (.bool b)
abbrev AV.s (z : Str) : AV := .d (.str z)
theorem AV.mono {K : Fr} {B B' : Hp} (e : Same B B') : ∀ {R : AV} {v : V}, R.h K v B → R.h K v B'
  | .d _, _, h => dp_mono e h
  | .r _, _, h => h
  | .x P, _, h => P.mono e h
theorem h_i {K : Fr} {B : Hp} {v : V} {n : Int} (h : (AV.i n).h K v B) : v = .int n := by cases (show Dt K B v (.int n) from h); rfl
theorem h_b {K : Fr} {B : Hp} {v : V} {n : Bool} (h : (AV.b n).h K v B) : v = .bl n := by cases (show Dt K B v (.bool n) from h); rfl
theorem h_s {K : Fr} {B : Hp} {v : V} {n : Str} (h : (AV.s n).h K v B) : v = .str n := by cases (show Dt K B v (.str n) from h); rfl
theorem h_n {K : Fr} {B : Hp} {v : V} (h : (AV.d .none).h K v B) : v = .non := by cases (show Dt K B v .none from h); rfl

def AllH (K : Fr) (B : Hp) : List AV → List V → Prop
  | [], [] => True
  | a :: as, v :: vs => a.h K v B ∧ AllH K B as vs
  | _, _ => False
theorem AllH.mono {K : Fr} {B B' : Hp} (e : Same B B') : ∀ {as : List AV} {vs : List V}, AllH K B as vs → AllH K B' as vs
  | [], [], h => h
  | _ :: _, _ :: _, h => ⟨AV.mono e h.1, AllH.mono e h.2⟩
  | [], _ :: _, h => h.elim
  | _ :: _, [], h => h.elim
theorem AllH.length {K : Fr} {B : Hp} : ∀ {as : List AV} {vs : List V}, AllH K B as vs → as.length = vs.length
  | [], [], _ => rfl
  | _ :: _, _ :: _, h => congrArg (· + 1) (AllH.length h.2)
  | [], _ :: _, h => h.elim
  | _ :: _, [], h => h.elim
theorem AllH.get {K : Fr} {B : Hp} : ∀ {as : List AV} {vs : List V} {i : Nat} {a : AV}, AllH K B as vs → as[i]? = some a → ∃ v, vs[i]? = some v ∧ a.h K v B
  | a :: as, v :: vs, 0, _, h, e => ⟨v, rfl, by cases e; exact h.1⟩
  | a :: as, v :: vs, i + 1, _, h, e => AllH.get (as := as) (vs := vs) (i := i) h.2 e
  | [], _, i, _, _, e => by simp at e
  | _ :: _, [], _, _, h, _ => h.elim
theorem AllH.set {K : Fr} {B : Hp} {a : AV} {v : V} (ha : a.h K v B) : ∀ {as : List AV} {vs : List V} (i : Nat), AllH K B as vs → AllH K B (as.set i a) (vs.set i v)
  | [], [], _, h => h
  | _ :: _, _ :: _, 0, h => ⟨ha, h.2⟩
  | _ :: _, _ :: _, i + 1, h => ⟨h.1, AllH.set ha i h.2⟩
  | [], _ :: _, _, h => h.elim
  | _ :: _, [], _, h => h.elim
theorem AllH.app {K : Fr} {B : Hp} : ∀ {as bs : List AV} {vs ws : List V}, AllH K B as vs → AllH K B bs ws → AllH K B (as ++ bs) (vs ++ ws)
  | [], _, [], _, _, h => h
  | _ :: _, _, _ :: _, _, h, k => ⟨h.1, AllH.app h.2 k⟩
  | [], _, _ :: _, _, h, _ => h.elim
  | _ :: _, _, [], _, h, _ => h.elim
theorem AllH.data {K : Fr} {B : Hp} : ∀ {ds : List PyData} {vs : List V}, AllH K B (ds.map .d) vs → DtAll K B vs ds
  | [], [], _ => .nil
  | _ :: _, _ :: _, h => .cons h.1 (AllH.data h.2)
  | [], _ :: _, h => h.elim
  | _ :: _, [], h => h.elim
theorem AllH.of {K : Fr} {B : Hp} : ∀ {ds : List PyData} {vs : List V}, DtAll K B vs ds → AllH K B (ds.map .d) vs
  | _, _, .nil => trivial
  | _, _, .cons h1 h2 => ⟨h1, AllH.of h2⟩

/-- attributes by name, in order -/
def FsH (K : Fr) (B : Hp) : List (Str × AV) → List (Str × V) → Prop
  | [], [] => True
  | a :: as, v :: vs => a.1 = v.1 ∧ a.2.h K v.2 B ∧ FsH K B as vs
  | _, _ => False
theorem FsH.mono {K : Fr} {B B' : Hp} (e : Same B B') : ∀ {as : List (Str × AV)} {vs : List (Str × V)}, FsH K B as vs → FsH K B' as vs
  | [], [], h => h
  | _ :: _, _ :: _, h => ⟨h.1, AV.mono e h.2.1, FsH.mono e h.2.2⟩
  | [], _ :: _, h => h.elim
  | _ :: _, [], h => h.elim
theorem FsH.length {K : Fr} {B : Hp} : ∀ {as : List (Str × AV)} {vs : List (Str × V)}, FsH K B as vs → as.length = vs.length
  | [], [], _ => rfl
  | _ :: _, _ :: _, h => congrArg (· + 1) (FsH.length h.2.2)
  | [], _ :: _, h => h.elim
  | _ :: _, [], h => h.elim
def putA (f : Str) (R : AV) : List (Str × AV) → List (Str × AV)
  | [] => [(f, R)]
  | (g, x) :: r => if g = f then (g, R) :: r else (g, x) :: putA f R r
theorem FsH.put {K : Fr} {B : Hp} {f : Str} {R : AV} {v : V} (hv : R.h K v B) : ∀ {as : List (Str × AV)} {vs : List (Str × V)}, FsH K B as vs → FsH K B (putA f R as) (putF f v vs)
  | [], [], _ => ⟨rfl, hv, trivial⟩
  | (g, a) :: as, (g', x) :: vs, h => by
    have e : g = g' := h.1
    subst e
    unfold putA putF
    by_cases q : g = f
    · rw [if_pos q, if_pos q]
      exact ⟨rfl, hv, h.2.2⟩
    · rw [if_neg q, if_neg q]
      exact ⟨rfl, h.2.1, FsH.put hv h.2.2⟩
  | [], _ :: _, h => h.elim
  | _ :: _, [], h => h.elim
theorem FsH.get {K : Fr} {B : Hp} {f : Str} {R : AV} : ∀ {as : List (Str × AV)} {vs : List (Str × V)}, FsH K B as vs → as.lookup f = some R → ∃ v, vs.lookup f = some v ∧ R.h K v B
  | [], [], _, e => nomatch e
  | (g, a) :: as, (g', x) :: vs, h, e => by
    have eg : g = g' := h.1
    subst eg
    by_cases q : (f == g) = true
    · simp only [List.lookup, q] at e ⊢
      cases e
      exact ⟨x, rfl, h.2.1⟩
    · have q' : (f == g) = false := by simpa using q
      simp only [List.lookup, q'] at e ⊢
      exact FsH.get h.2.2 e
  | [], _ :: _, h, _ => h.elim
  | _ :: _, [], h, _ => h.elim
theorem FsH.none {K : Fr} {B : Hp} {f : Str} : ∀ {as : List (Str × AV)} {vs : List (Str × V)}, FsH K B as vs → as.lookup f = Option.none → vs.lookup f = Option.none
  | [], [], _, _ => rfl
  | (g, a) :: as, (g', x) :: vs, h, e => by
    have eg : g = g' := h.1
    subst eg
    by_cases q : (f == g) = true
    · simp only [List.lookup, q] at e
      cases e
    · have q' : (f == g) = false := by simpa using q
      simp only [List.lookup, q'] at e ⊢
      exact FsH.none h.2.2 e
  | [], _ :: _, h, _ => h.elim
  | _ :: _, [], h, _ => h.elim
inductive AO where
  | lst (xs : List AV)
  | ins (C dx : Addr) (fs : List (Str × AV))
  | o (u : HO)
  | dF (f : List Key → Option PyData) (n : Nat)
  | dG (f : Key → Option PyData) (n : Nat)
/-- a dict (of tuples, or of ints and texts), its values data -/
def DfH {κ : Type} [DecidableEq κ] (K : Fr) (B : Hp) (f : κ → Option PyData) (n : Nat) (ws : List (κ × V)) : Prop :=
  ws.length ≤ n ∧ (∀ k d, f k = some d → ∃ v, valV ws k = some v ∧ Dt K B v d) ∧ (∀ k, f k = none → valV ws k = none) ∧ ∀ kv ∈ ws, valV ws kv.1 = some kv.2
theorem DfH.mono {κ : Type} [DecidableEq κ] {K : Fr} {B B' : Hp} {f : κ → Option PyData} {n : Nat} {ws : List (κ × V)} (e : Same B B') (h : DfH K B f n ws) : DfH K B' f n ws :=
  ⟨h.1, fun k d q => let ⟨v, h1, h2⟩ := h.2.1 k d q; ⟨v, h1, dp_mono e h2⟩, h.2.2⟩
/-- no tuple -/
def NoTup : HO → Prop
  | .tup _ => False
  | _ => True
def AO.h (K : Fr) : AO → HO → Hp → Prop
  | .lst xs, u, B => ∃ vs, u = .lst vs ∧ AllH K B xs vs
  | .ins C dx fs, u, B => ∃ ws : List (Str × V), u = .ins C dx ws ∧ FsH K B fs ws
  | .o w, u, _ => u = w ∧ NoTup w
  | .dF f n, u, B => ∃ ws, u = .dT ws ∧ DfH K B f n ws
  | .dG f n, u, B => ∃ ws, u = .dK ws ∧ DfH K B f n ws
theorem AO.mono {K : Fr} {B B' : Hp} (e : Same B B') : ∀ {o : AO} {u : HO}, o.h K u B → o.h K u B'
  | .lst _, _, ⟨vs, h1, h2⟩ => ⟨vs, h1, h2.mono e⟩
  | .ins _ _ _, _, ⟨vs, h1, h2⟩ => ⟨vs, h1, h2.mono e⟩
  | .o _, _, h => h
  | .dF _ _, _, ⟨ws, h1, h2⟩ => ⟨ws, h1, h2.mono e⟩
  | .dG _ _, _, ⟨ws, h1, h2⟩ => ⟨ws, h1, h2.mono e⟩
theorem AO.noTup {K : Fr} {B : Hp} : ∀ {o : AO} {u : HO}, o.h K u B → NoTup u
  | .lst _, _, ⟨_, h, _⟩ => by subst h; trivial
  | .ins _ _ _, _, ⟨_, h, _⟩ => by subst h; trivial
  | .o _, _, ⟨h, h2⟩ => by subst h; exact h2
  | .dF _ _, _, ⟨_, h, _⟩ => by subst h; trivial
  | .dG _ _, _, ⟨_, h, _⟩ => by subst h; trivial
abbrev AM := Addr → Option AO
def updM (μ : AM) (a : Addr) (o : AO) : AM := fun b => if b = a then some o else μ b
def delM (μ : AM) (a : Addr) : AM := fun b => if b = a then none else μ b
theorem updM_same {μ : AM} {a : Addr} {o : AO} : updM μ a o a = some o := by unfold updM; rw [if_pos rfl]
theorem updM_ne {μ : AM} {a b : Addr} {o : AO} (h : b ≠ a) : updM μ a o b = μ b := by unfold updM; rw [if_neg h]
theorem updM_updM {μ : AM} {a : Addr} {o u : AO} : updM (updM μ a o) a u = updM μ a u := by
  funext b
  unfold updM
  by_cases h : b = a
  · rw [if_pos h, if_pos h]
  · rw [if_neg h, if_neg h, if_neg h]
abbrev M0 : AM := fun _ => none

/-- the world: what stands as it is (F: others' owned objects), what only grows (B), what is owned (μ), the heap -/
def Wd (K : Fr) (F B : Hp) (μ : AM) (H : Hp) : Prop := Same B H ∧ (∀ a o, μ a = some o → B a = none ∧ F a = none ∧ ∃ u, H a = some u ∧ o.h K u B) ∧ ∀ a u, F a = some u → B a = none ∧ H a = some u ∧ NoTup u
section
variable {K : Fr} {F B H : Hp} {μ : AM} {p l : Addr} {o u : HO} {ao ao0 : AO}
theorem Wd.freeB (w : Wd K F B μ H) (hp : H p = none) : B p = none := w.1.free hp
theorem Wd.new (w : Wd K F B μ H) (hp : H p = none) : Wd K F (upd B p o) μ (upd H p o) ∧ Same B (upd B p o) ∧ upd B p o p = some o := by
  have hb : B p = none := w.1.free hp
  refine ⟨⟨fun b u e => ?_, fun a ao e => ?_, fun a u e => ?_⟩, same_new hb, upd_same⟩
  · by_cases h : b = p
    · subst h
      rw [upd_same] at e ⊢
      exact e
    · rw [upd_ne h] at e ⊢
      exact w.1 _ _ e
  · obtain ⟨e1, e0, u, e2, e3⟩ := w.2.1 a ao e
    have hne : a ≠ p := ne_of_none e2 hp
    exact ⟨by rw [upd_ne hne]; exact e1, e0, u, by rw [upd_ne hne]; exact e2, AO.mono (same_new hb) e3⟩
  · obtain ⟨e1, e2, e9⟩ := w.2.2 a u e
    have hne : a ≠ p := ne_of_none e2 hp
    exact ⟨by rw [upd_ne hne]; exact e1, by rw [upd_ne hne]; exact e2, e9⟩
theorem Wd.newM (w : Wd K F B μ H) (hp : H p = none) (ho : ao.h K o B) : Wd K F B (updM μ p ao) (upd H p o) := by
  have hb : B p = none := w.1.free hp
  refine ⟨w.1.trans (same_new hp), fun a ao' e => ?_, fun a u e => ?_⟩
  · by_cases h : a = p
    · subst h
      rw [updM_same] at e
      cases e
      refine ⟨hb, ?_, o, upd_same, ho⟩
      cases hF : F a with
      | none => rfl
      | some u => rw [(w.2.2 a u hF).2.1] at hp; cases hp
    · rw [updM_ne h] at e
      obtain ⟨e1, e0, u, e2, e3⟩ := w.2.1 a ao' e
      exact ⟨e1, e0, u, by rw [upd_ne h]; exact e2, e3⟩
  · obtain ⟨e1, e2, e9⟩ := w.2.2 a u e
    exact ⟨e1, by rw [upd_ne (ne_of_none e2 hp)]; exact e2, e9⟩
theorem Wd.newF (w : Wd K F B μ H) (hp : H p = none) (ho : NoTup o := by trivial) : Wd K (upd F p o) B μ (upd H p o) := by
  have hb : B p = none := w.1.free hp
  refine ⟨w.1.trans (same_new hp), fun a ao' e => ?_, fun a u e => ?_⟩
  · obtain ⟨e1, e0, u, e2, e3⟩ := w.2.1 a ao' e
    have h : a ≠ p := ne_of_none e2 hp
    exact ⟨e1, by rw [upd_ne h]; exact e0, u, by rw [upd_ne h]; exact e2, e3⟩
  · by_cases h : a = p
    · subst h
      rw [upd_same] at e ⊢
      cases e
      exact ⟨hb, rfl, ho⟩
    · rw [upd_ne h] at e ⊢
      exact w.2.2 a u e
theorem Wd.set (w : Wd K F B μ H) (hl : μ l = some ao0) (ho : ao.h K o B) : Wd K F B (updM μ l ao) (upd H l o) := by
  obtain ⟨hb, hf, _⟩ := w.2.1 l ao0 hl
  refine ⟨fun b u e => ?_, fun a ao' e => ?_, fun a u e => ?_⟩
  · have : b ≠ l := fun q => by rw [q, hb] at e; cases e
    rw [upd_ne this]
    exact w.1 _ _ e
  · by_cases h : a = l
    · subst h
      rw [updM_same] at e
      cases e
      exact ⟨hb, hf, o, upd_same, ho⟩
    · rw [updM_ne h] at e
      obtain ⟨e1, e0, u, e2, e3⟩ := w.2.1 a ao' e
      exact ⟨e1, e0, u, by rw [upd_ne h]; exact e2, e3⟩
  · obtain ⟨e1, e2, e9⟩ := w.2.2 a u e
    have : a ≠ l := fun q => by rw [q, hf] at e; cases e
    exact ⟨e1, by rw [upd_ne this]; exact e2, e9⟩
theorem Wd.setF (w : Wd K F B μ H) (hl : F l = some u) (ho : NoTup o := by trivial) : Wd K (upd F l o) B μ (upd H l o) := by
  obtain ⟨hb, hh, _⟩ := w.2.2 l u hl
  refine ⟨fun b u e => ?_, fun a ao' e => ?_, fun a u e => ?_⟩
  · have : b ≠ l := fun q => by rw [q, hb] at e; cases e
    rw [upd_ne this]
    exact w.1 _ _ e
  · obtain ⟨e1, e0, u', e2, e3⟩ := w.2.1 a ao' e
    have h : a ≠ l := fun q => by rw [q, hl] at e0; cases e0
    exact ⟨e1, by rw [upd_ne h]; exact e0, u', by rw [upd_ne h]; exact e2, e3⟩
  · by_cases h : a = l
    · subst h
      rw [upd_same] at e ⊢
      cases e
      exact ⟨hb, rfl, ho⟩
    · rw [upd_ne h] at e ⊢
      exact w.2.2 a u e
theorem Wd.drop {μ' : AM} (w : Wd K F B μ H) (h : ∀ a o, μ' a = some o → μ a = some o) : Wd K F B μ' H := ⟨w.1, fun a o e => w.2.1 a o (h a o e), w.2.2⟩
/-- an object of the frame that is not changed any more: the frame is F0 again -/
theorem Wd.freezeF {F0 : Hp} (w : Wd K (upd F0 l u) B μ H) (h0 : F0 l = none) : Wd K F0 (upd B l u) μ H ∧ Same B (upd B l u) ∧ upd B l u l = some u := by
  obtain ⟨hb, hh, _⟩ := w.2.2 l u upd_same
  refine ⟨⟨fun b x e => ?_, fun a ao' e => ?_, fun a x e => ?_⟩, same_new hb, upd_same⟩
  · by_cases h : b = l
    · subst h
      rw [upd_same] at e
      rw [← e]
      exact hh
    · rw [upd_ne h] at e
      exact w.1 _ _ e
  · obtain ⟨q1, q0, u', q2, q3⟩ := w.2.1 a ao' e
    have h : a ≠ l := fun q => by rw [q, upd_same] at q0; cases q0
    rw [upd_ne h] at q0
    exact ⟨by rw [upd_ne h]; exact q1, q0, u', q2, AO.mono (same_new hb) q3⟩
  · have h : a ≠ l := fun q => by rw [q, h0] at e; cases e
    obtain ⟨e1, e2, e9⟩ := w.2.2 a x (by rw [upd_ne h]; exact e)
    exact ⟨by rw [upd_ne h]; exact e1, e2, e9⟩
/-- an owned object that is not changed any more -/
theorem Wd.freeze (w : Wd K F B μ H) (hl : μ l = some ao) : ∃ u, Wd K F (upd B l u) (delM μ l) H ∧ Same B (upd B l u) ∧ upd B l u l = some u ∧ ao.h K u B := by
  obtain ⟨hb, hf, u, e2, e3⟩ := w.2.1 l ao hl
  refine ⟨u, ⟨fun b x e => ?_, fun a ao' e => ?_, fun a x e => ?_⟩, same_new hb, upd_same, e3⟩
  · by_cases h : b = l
    · subst h
      rw [upd_same] at e
      rw [← e]
      exact e2
    · rw [upd_ne h] at e
      exact w.1 _ _ e
  · unfold delM at e
    by_cases h : a = l
    · rw [if_pos h] at e
      cases e
    · rw [if_neg h] at e
      obtain ⟨q1, q0, u', q2, q3⟩ := w.2.1 a ao' e
      exact ⟨by rw [upd_ne h]; exact q1, q0, u', q2, AO.mono (same_new hb) q3⟩
  · have h : a ≠ l := fun q => by rw [q, hf] at e; cases e
    obtain ⟨e1, e2, e9⟩ := w.2.2 a x e
    exact ⟨by rw [upd_ne h]; exact e1, e2, e9⟩
/-- a tuple that stands there is told of from now on -/
theorem Wd.learn {q : Addr} {ys : List V} (w : Wd K F B μ H) (h : H q = some (.tup ys)) : Wd K F (upd B q (.tup ys)) μ H ∧ Same B (upd B q (.tup ys)) ∧ upd B q (.tup ys) q = some (.tup ys) := by
  have hB : ∀ u, B q = some u → u = .tup ys := fun u e => by
    have := w.1 _ _ e
    rw [h] at this
    exact (Option.some.inj this).symm
  have sb : Same B (upd B q (.tup ys)) := fun b u e => by
    by_cases hb : b = q
    · subst hb
      rw [upd_same, hB u e]
    · rw [upd_ne hb]
      exact e
  refine ⟨⟨fun b u e => ?_, fun a ao e => ?_, fun a u e => ?_⟩, sb, upd_same⟩
  · by_cases hb : b = q
    · subst hb
      rw [upd_same] at e
      cases e
      exact h
    · rw [upd_ne hb] at e
      exact w.1 _ _ e
  · obtain ⟨e1, e0, u, e2, e3⟩ := w.2.1 a ao e
    have hne : a ≠ q := fun z => by
      have t := AO.noTup e3
      rw [z, h] at e2
      cases e2
      exact t
    exact ⟨by rw [upd_ne hne]; exact e1, e0, u, e2, AO.mono sb e3⟩
  · obtain ⟨e1, e2, e9⟩ := w.2.2 a u e
    have hne : a ≠ q := fun z => by
      rw [z, h] at e2
      cases e2
      exact e9
    exact ⟨by rw [upd_ne hne]; exact e1, e2, e9⟩
end

/-! ### abstract slots -/
abbrev AS := List (Option AV)
def Sl (K : Fr) (B : Hp) : L2.St → AS → Prop
  | [], [] => True
  | s :: σ, r :: ρ => (∀ R, r = some R → ∃ v, s = some v ∧ R.h K v B) ∧ Sl K B σ ρ
  | _, _ => False
theorem Sl.mono {K : Fr} {B B' : Hp} (e : Same B B') : ∀ {σ : L2.St} {ρ : AS}, Sl K B σ ρ → Sl K B' σ ρ
  | [], [], h => h
  | _ :: _, _ :: _, h => ⟨fun R hr => let ⟨v, h1, h2⟩ := h.1 R hr; ⟨v, h1, AV.mono e h2⟩, Sl.mono e h.2⟩
  | [], _ :: _, h => h.elim
  | _ :: _, [], h => h.elim
theorem Sl.get {K : Fr} {B : Hp} : ∀ {σ : L2.St} {ρ : AS} {i : Nat} {R : AV}, Sl K B σ ρ → ρ[i]? = some (some R) → ∃ v, σ[i]? = some (some v) ∧ R.h K v B
  | s :: σ, r :: ρ, 0, R, h, e => by
    have e' : r = some R := Option.some.inj e
    obtain ⟨v, h1, h2⟩ := h.1 R e'
    exact ⟨v, by rw [h1]; rfl, h2⟩
  | s :: σ, r :: ρ, i + 1, R, h, e => Sl.get (σ := σ) (ρ := ρ) (i := i) h.2 e
  | [], [], i, _, _, e => by simp at e
  | _ :: _, [], _, _, h, _ => h.elim
  | [], _ :: _, _, _, h, _ => h.elim
theorem Sl.set {K : Fr} {B : Hp} {R : AV} {v : V} (hv : R.h K v B) : ∀ {σ : L2.St} {ρ : AS} (i : Nat), Sl K B σ ρ → Sl K B (σ.set i (some v)) (ρ.set i (some R))
  | [], [], _, h => h
  | _ :: _, _ :: _, 0, h => ⟨fun R' e => ⟨v, rfl, by cases e; exact hv⟩, h.2⟩
  | _ :: _, _ :: _, i + 1, h => ⟨h.1, Sl.set hv i h.2⟩
  | _ :: _, [], _, h => h.elim
  | [], _ :: _, _, h => h.elim
/-- ρ' tells no more than ρ -/
def Le : AS → AS → Prop
  | [], [] => True
  | r :: ρ, r' :: ρ' => (r' = none ∨ r' = r) ∧ Le ρ ρ'
  | _, _ => False
theorem Le.refl : ∀ {ρ : AS}, Le ρ ρ
  | [] => trivial
  | _ :: _ => ⟨.inr rfl, Le.refl⟩
theorem Sl.le {K : Fr} {B : Hp} : ∀ {σ : L2.St} {ρ ρ' : AS}, Le ρ ρ' → Sl K B σ ρ → Sl K B σ ρ'
  | [], [], [], _, h => h
  | s :: σ, r :: ρ, r' :: ρ', l, h => ⟨fun R e => by
      rcases l.1 with q | q
      · rw [q] at e; cases e
      · exact h.1 R (by rw [← q]; exact e), Sl.le l.2 h.2⟩
  | _, [], _ :: _, l, _ => l.elim
  | _, _ :: _, [], l, _ => l.elim
  | _ :: _, [], [], _, h => h.elim
  | [], _ :: _, _ :: _, _, h => h.elim
def wipeA (ρ : AS) : List Nat → AS
  | [] => ρ
  | v :: vs => (wipeA ρ vs).set v none
theorem Sl.setNone {K : Fr} {B : Hp} {s : Option V} : ∀ {σ : L2.St} {ρ : AS} (i : Nat), Sl K B σ ρ → Sl K B (σ.set i s) (ρ.set i none)
  | [], [], _, h => h
  | _ :: _, _ :: _, 0, h => ⟨fun R' e => (nomatch e), h.2⟩
  | _ :: _, _ :: _, i + 1, h => ⟨h.1, Sl.setNone i h.2⟩
  | _ :: _, [], _, h => h.elim
  | [], _ :: _, _, h => h.elim
theorem Sl.wipe {K : Fr} {B : Hp} {σ : L2.St} {ρ : AS} (h : Sl K B σ ρ) : ∀ vs, Sl K B (L2.wipe σ vs) (wipeA ρ vs)
  | [] => h
  | v :: vs => Sl.setNone v (Sl.wipe h vs)
theorem Sl.length {K : Fr} {B : Hp} : ∀ {σ : L2.St} {ρ : AS}, Sl K B σ ρ → σ.length = ρ.length
  | [], [], _ => rfl
  | _ :: _, _ :: _, h => congrArg (· + 1) (Sl.length h.2)
  | _ :: _, [], h => h.elim
  | [], _ :: _, h => h.elim

/-! ### judgements -/
def EvW (K : Fr) (te : TE) (ρ : AS) (μ : AM) (R : AV) (μ' : AM) : Prop := ∀ F B H σ, Wd K F B μ H → Sl K B σ ρ → ∀ Q : VK, (∀ v B2 H2, Same B B2 → Wd K F B2 μ' H2 → R.h K v B2 → Q v H2) → te σ H Q
def EvT (K : Fr) (tt : TT) (ρ : AS) (μ : AM) (b : Bool) (μ' : AM) : Prop := ∀ F B H σ, Wd K F B μ H → Sl K B σ ρ → ∀ Q : Bool → Hp → Prop, (∀ B2 H2, Same B B2 → Wd K F B2 μ' H2 → Q b H2) → tt σ H Q
def EvA (K : Fr) (ta : TA) (ρ : AS) (μ : AM) (Rs : List AV) (μ' : AM) : Prop := ∀ F B H σ, Wd K F B μ H → Sl K B σ ρ → ∀ Q : List V → Hp → Prop, (∀ vs B2 H2, Same B B2 → Wd K F B2 μ' H2 → AllH K B2 Rs vs → Q vs H2) → ta σ H Q
/-- an operation on two values, on one, on a list of values -/
def Op2 (K : Fr) (r : V → V → Hp → VK → Prop) (R1 R2 : AV) (μ : AM) (R : AV) (μ' : AM) : Prop := ∀ F B H x y, Wd K F B μ H → R1.h K x B → R2.h K y B → ∀ Q : VK, (∀ v B2 H2, Same B B2 → Wd K F B2 μ' H2 → R.h K v B2 → Q v H2) → r x y H Q
def Op1 (K : Fr) (r : V → Hp → VK → Prop) (R1 : AV) (μ : AM) (R : AV) (μ' : AM) : Prop := ∀ F B H x, Wd K F B μ H → R1.h K x B → ∀ Q : VK, (∀ v B2 H2, Same B B2 → Wd K F B2 μ' H2 → R.h K v B2 → Q v H2) → r x H Q
def OpN (K : Fr) (r : List V → Hp → VK → Prop) (Rs : List AV) (μ : AM) (R : AV) (μ' : AM) : Prop := ∀ F B H xs, Wd K F B μ H → AllH K B Rs xs → ∀ Q : VK, (∀ v B2 H2, Same B B2 → Wd K F B2 μ' H2 → R.h K v B2 → Q v H2) → r xs H Q

section
variable {K : Fr} {ρ : AS} {μ μ1 μ2 μ3 : AM} {ta tb tc te : TE} {t u : TT} {R R1 R2 R3 : AV}
theorem ew_var {i : Nat} (h : ρ[i]? = some (some R)) : EvW K (tVar i) ρ μ R μ := fun F B H σ w s Q q => by
  obtain ⟨v, h1, h2⟩ := s.get h
  exact ⟨v, h1, q v B H (Same.refl _) w h2⟩
theorem ew_int {i : Int} : EvW K (tC (.int i)) ρ μ (.i i) μ := fun F B H σ w s Q q => q _ B H (Same.refl _) w (.int i)
theorem ew_bl {i : Bool} : EvW K (tC (.bl i)) ρ μ (.b i) μ := fun F B H σ w s Q q => q _ B H (Same.refl _) w (.bl i)
theorem ew_str {i : Str} : EvW K (tC (.str i)) ρ μ (.s i) μ := fun F B H σ w s Q q => q _ B H (Same.refl _) w (.str i)
theorem ew_non : EvW K (tC .non) ρ μ (.d .none) μ := fun F B H σ w s Q q => q _ B H (Same.refl _) w .non
theorem ew_op {r : V → V → Hp → VK → Prop} (ha : EvW K ta ρ μ R1 μ1) (hb : EvW K tb ρ μ1 R2 μ2) (hr : Op2 K r R1 R2 μ2 R μ3) : EvW K (tOp r ta tb) ρ μ R μ3 := fun F B H σ w s Q q =>
  ha F B H σ w s _ fun x B1 H1 e1 w1 h1 => hb F B1 H1 σ w1 (s.mono e1) _ fun y B2 H2 e2 w2 h2 => hr F B2 H2 x y w2 (AV.mono e2 h1) h2 Q fun v B3 H3 e3 w3 h3 => q v B3 H3 ((e1.trans e2).trans e3) w3 h3
theorem ew_un {r : V → Hp → VK → Prop} (ha : EvW K ta ρ μ R1 μ1) (hr : Op1 K r R1 μ1 R μ2) : EvW K (tUn r ta) ρ μ R μ2 := fun F B H σ w s Q q =>
  ha F B H σ w s _ fun x B1 H1 e1 w1 h1 => hr F B1 H1 x w1 h1 Q fun v B3 H3 e3 w3 h3 => q v B3 H3 (e1.trans e3) w3 h3
theorem ew_is (h : EvW K te ρ μ R μ1) (e : R = R2) : EvW K te ρ μ R2 μ1 := e ▸ h
theorem ew_isI {i j : Int} (h : EvW K te ρ μ (.i i) μ1) (e : i = j) : EvW K te ρ μ (.i j) μ1 := e ▸ h
theorem ew_isD {i j : PyData} (h : EvW K te ρ μ (.d i) μ1) (e : i = j) : EvW K te ρ μ (.d j) μ1 := e ▸ h
theorem ea_nil : EvA K tNil ρ μ [] μ := fun F B H σ w s Q q => q [] B H (Same.refl _) w trivial
theorem ea_cons {tr : TA} {Rs : List AV} (h : EvW K te ρ μ R μ1) (hr : EvA K tr ρ μ1 Rs μ2) : EvA K (tCons te tr) ρ μ (R :: Rs) μ2 := fun F B H σ w s Q q =>
  h F B H σ w s _ fun x B1 H1 e1 w1 h1 => hr F B1 H1 σ w1 (s.mono e1) _ fun ys B2 H2 e2 w2 h2 => q _ B2 H2 (e1.trans e2) w2 ⟨AV.mono e2 h1, h2⟩
theorem ew_cb {r : List V → Hp → VK → Prop} {ta : TA} {Rs : List AV} (h : EvA K ta ρ μ Rs μ1) (hr : OpN K r Rs μ1 R μ2) : EvW K (tCB r ta) ρ μ R μ2 := fun F B H σ w s Q q =>
  h F B H σ w s _ fun xs B1 H1 e1 w1 h1 => hr F B1 H1 xs w1 h1 Q fun v B3 H3 e3 w3 h3 => q v B3 H3 (e1.trans e3) w3 h3
theorem ew_call {sp : Sp} {E : XK} {ta : TA} {Rs : List AV} (h : EvA K ta ρ μ Rs μ1) (hr : OpN K (fun xs H Q => sp (xs ++ []) H Q E) Rs μ1 R μ2) : EvW K (tCall sp [] E ta) ρ μ R μ2 := fun F B H σ w s Q q =>
  h F B H σ w s _ fun xs B1 H1 e1 w1 h1 => hr F B1 H1 xs w1 h1 Q fun v B3 H3 e3 w3 h3 => q v B3 H3 (e1.trans e3) w3 h3

/-! ### tests -/
theorem et_test {b : Bool} (h : EvW K te ρ μ (.b b) μ1) : EvT K (tTest te) ρ μ b μ1 := fun F B H σ w s Q q => h F B H σ w s _ fun v B2 H2 e2 w2 h2 => ⟨b, h_b h2, q B2 H2 e2 w2⟩
theorem et_B {b : Bool} (h : EvW K te ρ μ (.b b) μ1) : EvT K (tB te) ρ μ b μ1 := fun F B H σ w s Q q => h F B H σ w s _ fun v B2 H2 e2 w2 h2 => ⟨b, h_b h2, q B2 H2 e2 w2⟩
theorem et_not {b : Bool} (h : EvT K t ρ μ b μ1) : EvT K (tNot t) ρ μ (!b) μ1 := fun F B H σ w s Q q => h F B H σ w s _ fun B2 H2 e2 w2 => q B2 H2 e2 w2
theorem et_is {a b : Bool} (h : EvT K t ρ μ a μ1) (e : a = b) : EvT K t ρ μ b μ1 := e ▸ h
theorem et_and {a b : Bool} (h1 : EvT K t ρ μ a μ1) (h2 : a = true → EvT K u ρ μ1 b μ1) : EvT K (tAnd t u) ρ μ (a && b) μ1 := fun F B H σ w s Q q => h1 F B H σ w s _ fun B1 H1 e1 w1 => by
  cases a with
  | true =>
    show u σ H1 Q
    exact h2 rfl F B1 H1 σ w1 (s.mono e1) Q fun B2 H2 e2 w2 => q B2 H2 (e1.trans e2) w2
  | false =>
    show Q false H1
    exact q B1 H1 e1 w1
theorem et_or {a b : Bool} (h1 : EvT K t ρ μ a μ1) (h2 : a = false → EvT K u ρ μ1 b μ1) : EvT K (tOr t u) ρ μ (a || b) μ1 := fun F B H σ w s Q q => h1 F B H σ w s _ fun B1 H1 e1 w1 => by
  cases a with
  | true =>
    show Q true H1
    exact q B1 H1 e1 w1
  | false =>
    show u σ H1 Q
    exact h2 rfl F B1 H1 σ w1 (s.mono e1) Q fun B2 H2 e2 w2 => q B2 H2 (e1.trans e2) w2
theorem ew_and {a b : Bool} (h1 : EvW K ta ρ μ (.b a) μ1) (h2 : a = true → EvW K tb ρ μ1 (.b b) μ1) : EvW K (tAndV ta tb) ρ μ (.b (a && b)) μ1 := fun F B H σ w s Q q => h1 F B H σ w s _ fun v B1 H1 e1 w1 hv => ⟨a, h_b hv, by
  cases a with
  | true =>
    show tb σ H1 Q
    exact h2 rfl F B1 H1 σ w1 (s.mono e1) Q fun v B2 H2 e2 w2 h2 => q v B2 H2 (e1.trans e2) w2 h2
  | false =>
    show Q (.bl false) H1
    exact q _ B1 H1 e1 w1 (.bl _)⟩
theorem ew_or {a b : Bool} (h1 : EvW K ta ρ μ (.b a) μ1) (h2 : a = false → EvW K tb ρ μ1 (.b b) μ1) : EvW K (tOrV ta tb) ρ μ (.b (a || b)) μ1 := fun F B H σ w s Q q => h1 F B H σ w s _ fun v B1 H1 e1 w1 hv => ⟨a, h_b hv, by
  cases a with
  | true =>
    show Q (.bl true) H1
    exact q _ B1 H1 e1 w1 (.bl _)
  | false =>
    show tb σ H1 Q
    exact h2 rfl F B1 H1 σ w1 (s.mono e1) Q fun v B2 H2 e2 w2 h2 => q v B2 H2 (e1.trans e2) w2 h2⟩
theorem ew_not {a : Bool} (h1 : EvW K ta ρ μ (.b a) μ1) : EvW K (tNotV ta) ρ μ (.b (!a)) μ1 := fun F B H σ w s Q q => h1 F B H σ w s _ fun v B1 H1 e1 w1 hv => ⟨a, h_b hv, q _ B1 H1 e1 w1 (.bl _)⟩
theorem ew_if {b : Bool} (h : EvT K t ρ μ b μ1) (h1 : b = true → EvW K ta ρ μ1 R μ2) (h2 : b = false → EvW K tb ρ μ1 R μ2) : EvW K (tIf t ta tb) ρ μ R μ2 := fun F B H σ w s Q q => h F B H σ w s _ fun B1 H1 e1 w1 => by
  cases b with
  | true =>
    show ta σ H1 Q
    exact h1 rfl F B1 H1 σ w1 (s.mono e1) Q fun v B2 H2 e2 w2 h2 => q v B2 H2 (e1.trans e2) w2 h2
  | false =>
    show tb σ H1 Q
    exact h2 rfl F B1 H1 σ w1 (s.mono e1) Q fun v B2 H2 e2 w2 h2 => q v B2 H2 (e1.trans e2) w2 h2

/-! ### operators -/
theorem o_I0 {g : Int → Int → Int} {i j : Int} : Op2 K (rI0 fun i j => .int (g i j)) (.i i) (.i j) μ (.i (g i j)) μ := fun F B H x y w h1 h2 Q q => ⟨i, j, h_i h1, h_i h2, q _ B H (Same.refl _) w (.int _)⟩
theorem o_I {C : Int → Int → Prop} {g : Int → Int → Int} {i j : Int} (hc : C i j) : Op2 K (rI C fun i j => .int (g i j)) (.i i) (.i j) μ (.i (g i j)) μ := fun F B H x y w h1 h2 Q q => ⟨i, j, h_i h1, h_i h2, hc, q _ B H (Same.refl _) w (.int _)⟩
theorem o_B0 {g : Int → Int → Bool} {i j : Int} : Op2 K (rI0 fun i j => .bl (g i j)) (.i i) (.i j) μ (.b (g i j)) μ := fun F B H x y w h1 h2 Q q => ⟨i, j, h_i h1, h_i h2, q _ B H (Same.refl _) w (.bl _)⟩
theorem o_eqI {i j : Int} : Op2 K rEq (.i i) (.i j) μ (.b (decide (i = j))) μ := fun F B H x y w h1 h2 Q q => by
  have e1 := h_i h1
  have e2 := h_i h2
  subst e1 e2
  refine ⟨rfl, ?_⟩
  have : decide (V.int i = V.int j) = decide (i = j) := decide_eq_decide.mpr ⟨fun h => by cases h; rfl, fun h => by rw [h]⟩
  rw [this]
  exact q _ B H (Same.refl _) w (.bl _)
theorem o_neI {i j : Int} : Op2 K rNe (.i i) (.i j) μ (.b (!decide (i = j))) μ := fun F B H x y w h1 h2 Q q => by
  have e1 := h_i h1
  have e2 := h_i h2
  subst e1 e2
  refine ⟨rfl, ?_⟩
  have : decide (V.int i = V.int j) = decide (i = j) := decide_eq_decide.mpr ⟨fun h => by cases h; rfl, fun h => by rw [h]⟩
  rw [this]
  exact q _ B H (Same.refl _) w (.bl _)
theorem o_eqS {i j : Str} : Op2 K rEq (.s i) (.s j) μ (.b (decide (i = j))) μ := fun F B H x y w h1 h2 Q q => by
  have e1 := h_s h1
  have e2 := h_s h2
  subst e1 e2
  refine ⟨rfl, ?_⟩
  have : decide (V.str i = V.str j) = decide (i = j) := decide_eq_decide.mpr ⟨fun h => by cases h; rfl, fun h => by rw [h]⟩
  rw [this]
  exact q _ B H (Same.refl _) w (.bl _)
theorem o_eqD {d e : PyData} (h1 : SeqAt.shaped d = true) (h2 : SeqAt.shaped e = true) : Op2 K (rEqD K) (.d d) (.d e) μ (.b (PyData.eqv d e)) μ := fun F B H x y w r1 r2 Q q => ⟨d, e, (dp_mono w.1 r1).dp, (dp_mono w.1 r2).dp, h1, h2, q _ B H (Same.refl _) w (.bl _)⟩
theorem o_neD {d e : PyData} (h1 : SeqAt.shaped d = true) (h2 : SeqAt.shaped e = true) : Op2 K (rNeD K) (.d d) (.d e) μ (.b (!PyData.eqv d e)) μ := fun F B H x y w r1 r2 Q q => ⟨d, e, (dp_mono w.1 r1).dp, (dp_mono w.1 r2).dp, h1, h2, q _ B H (Same.refl _) w (.bl _)⟩
theorem o_neg {i : Int} : Op1 K (rU fun i => .int (-i)) (.i i) μ (.i (-i)) μ := fun F B H x w h1 Q q => ⟨i, h_i h1, q _ B H (Same.refl _) w (.int _)⟩
end
end Lw

set_option Elab.async false
set_option linter.all false
set_option maxRecDepth 100000
set_option maxHeartbeats 2000000
namespace Lw
open PySem PySem.Spec PyProof.Rows L2

/-! ### statements: what is wanted behind them, of abstract slots and owned objects -/
structure Po where
  nx : AS → AM → Prop
  rt : AV → AM → Prop
  bk : AS → AM → Prop := fun _ _ => False
  ct : AS → AM → Prop := fun _ _ => False
structure Rea (K : Fr) (F B : Hp) (D : Ends) (P : Po) : Prop where
  nx : ∀ ρ μ B2 H2 σ2, P.nx ρ μ → Same B B2 → Wd K F B2 μ H2 → Sl K B2 σ2 ρ → D.nx σ2 H2
  rt : ∀ R μ v B2 H2, P.rt R μ → Same B B2 → Wd K F B2 μ H2 → R.h K v B2 → D.rt v H2
  bk : ∀ ρ μ B2 H2 σ2, P.bk ρ μ → Same B B2 → Wd K F B2 μ H2 → Sl K B2 σ2 ρ → D.bk σ2 H2
  ct : ∀ ρ μ B2 H2 σ2, P.ct ρ μ → Same B B2 → Wd K F B2 μ H2 → Sl K B2 σ2 ρ → D.ct σ2 H2
theorem Rea.mono {K : Fr} {F B B' : Hp} {D : Ends} {P : Po} (r : Rea K F B D P) (e : Same B B') : Rea K F B' D P :=
  ⟨fun ρ μ B2 H2 σ2 p e2 => r.nx ρ μ B2 H2 σ2 p (e.trans e2), fun R μ v B2 H2 p e2 => r.rt R μ v B2 H2 p (e.trans e2), fun ρ μ B2 H2 σ2 p e2 => r.bk ρ μ B2 H2 σ2 p (e.trans e2), fun ρ μ B2 H2 σ2 p e2 => r.ct ρ μ B2 H2 σ2 p (e.trans e2)⟩
def StW (K : Fr) (t : TS) (ρ : AS) (μ : AM) (P : Po) : Prop := ∀ F D B H σ, Wd K F B μ H → Sl K B σ ρ → Rea K F B D P → t D σ H

section
variable {K : Fr} {ρ : AS} {μ μ1 μ2 μ3 : AM} {ta tb te tl : TE} {t u : TT} {s s1 s2 : TS} {R R1 R2 : AV} {P : Po} {g : TG}
theorem s_next (p : P.nx ρ μ) : StW K tNext ρ μ P := fun F D B H σ w sl r => r.nx ρ μ B H σ p (Same.refl _) w sl
theorem s_brk (p : P.bk ρ μ) : StW K tBreak ρ μ P := fun F D B H σ w sl r => r.bk ρ μ B H σ p (Same.refl _) w sl
theorem s_cont (p : P.ct ρ μ) : StW K tCont ρ μ P := fun F D B H σ w sl r => r.ct ρ μ B H σ p (Same.refl _) w sl
theorem s_seq (h : StW K s1 ρ μ { P with nx := fun ρ' μ' => StW K s2 ρ' μ' P }) : StW K (tSeq s1 s2) ρ μ P := fun F D B H σ w sl r =>
  h F { D with nx := s2 D } B H σ w sl ⟨fun ρ' μ' B2 H2 σ2 p e w2 sl2 => p F D B2 H2 σ2 w2 sl2 (r.mono e), r.rt, r.bk, r.ct⟩
theorem s_asg {i : Nat} (h : EvW K te ρ μ R μ1) (p : P.nx (ρ.set i (some R)) μ1) : StW K (tAsg te (gName i)) ρ μ P := fun F D B H σ w sl r =>
  h F B H σ w sl _ fun v B2 H2 e w2 hv => r.nx _ _ B2 H2 _ p e w2 (Sl.set hv i (sl.mono e))
theorem s_ret (h : EvW K te ρ μ R μ1) (p : P.rt R μ1) : StW K (tRet te) ρ μ P := fun F D B H σ w sl r =>
  h F B H σ w sl _ fun v B2 H2 e w2 hv => r.rt R μ1 v B2 H2 p e w2 hv
theorem s_retN (p : P.rt (.d .none) μ) : StW K tRetN ρ μ P := fun F D B H σ w sl r => r.rt (.d .none) μ .non B H p (Same.refl _) w .non
theorem s_drop (h : EvW K te ρ μ R μ1) (p : P.nx ρ μ1) : StW K (tDrop te) ρ μ P := fun F D B H σ w sl r =>
  h F B H σ w sl _ fun v B2 H2 e w2 hv => r.nx _ _ B2 H2 _ p e w2 (sl.mono e)
theorem s_if {b : Bool} (h : EvT K t ρ μ b μ1) (h1 : b = true → StW K s1 ρ μ1 P) (h2 : b = false → StW K s2 ρ μ1 P) : StW K (tIfS t s1 s2) ρ μ P := fun F D B H σ w sl r =>
  h F B H σ w sl _ fun B2 H2 e w2 => by
    cases b with
    | true =>
      show s1 D σ H2
      exact h1 rfl F D B2 H2 σ w2 (sl.mono e) (r.mono e)
    | false =>
      show s2 D σ H2
      exact h2 rfl F D B2 H2 σ w2 (sl.mono e) (r.mono e)
theorem s_le {ρ' : AS} (l : Le ρ ρ') (h : StW K s ρ' μ P) : StW K s ρ μ P := fun F D B H σ w sl r => h F D B H σ w (sl.le l) r
theorem s_imp {P' : Po} (h : StW K s ρ μ P') (h1 : ∀ ρ μ, P'.nx ρ μ → P.nx ρ μ) (h2 : ∀ R μ, P'.rt R μ → P.rt R μ) (h3 : ∀ ρ μ, P'.bk ρ μ → P.bk ρ μ) (h4 : ∀ ρ μ, P'.ct ρ μ → P.ct ρ μ) : StW K s ρ μ P := fun F D B H σ w sl r =>
  h F D B H σ w sl ⟨fun ρ μ B2 H2 σ2 p => r.nx ρ μ B2 H2 σ2 (h1 _ _ p), fun R μ v B2 H2 p => r.rt R μ v B2 H2 (h2 _ _ p), fun ρ μ B2 H2 σ2 p => r.bk ρ μ B2 H2 σ2 (h3 _ _ p), fun ρ μ B2 H2 σ2 p => r.ct ρ μ B2 H2 σ2 (h4 _ _ p)⟩

/-! ### targets -/
def GtW (K : Fr) (g : TG) (a : AV) (ρ ρ2 : AS) : Prop := ∀ B H σ v, Same B H → a.h K v B → Sl K B σ ρ → ∀ Q : L2.St → Hp → Prop, (∀ σ2, Sl K B σ2 ρ2 → Q σ2 H) → g v σ H Q
theorem gw_name {i : Nat} : GtW K (gName i) R ρ (ρ.set i (some R)) := fun B H σ v e h sl Q q => q _ (Sl.set h i sl)
def GsW (K : Fr) (g : TGs) (ds : List PyData) (ρ ρ2 : AS) : Prop := ∀ B H σ vs, Same B H → DtAll K B vs ds → Sl K B σ ρ → ∀ Q : L2.St → Hp → Prop, (∀ σ2, Sl K B σ2 ρ2 → Q σ2 H) → g vs σ H Q
theorem gs_nil : GsW K gNil [] ρ ρ := fun B H σ vs e h sl Q q => by
  cases h
  exact ⟨rfl, q _ sl⟩
theorem gs_cons {gs : TGs} {d : PyData} {ds : List PyData} {ρ1 ρ2 : AS} (h1 : GtW K g (.d d) ρ ρ1) (h2 : GsW K gs ds ρ1 ρ2) : GsW K (gCons g gs) (d :: ds) ρ ρ2 := fun B H σ vs e h sl Q q => by
  cases h with
  | cons a b => exact ⟨_, _, rfl, h1 B H σ _ e a sl _ fun σ1 sl1 => h2 B H σ1 _ e b sl1 Q q⟩
theorem gw_tup {gs : TGs} {ds : List PyData} {n : Nat} {ρ2 : AS} (hn : ds.length = n) (h : GsW K gs ds ρ ρ2) : GtW K (gTup K n gs) (.d (.tuple ds)) ρ ρ2 := fun B H σ v e hv sl Q q => by
  cases (show Dt K B v (.tuple ds) from hv) with
  | tup h1 h0 h2 =>
    have hl : ∀ {vs : List V} {ds : List PyData}, DtAll K B vs ds → vs.length = ds.length := by
      intro vs ds h
      exact (AllH.of h).length.symm.trans (by simp)
    refine ⟨_, _, rfl, ?_, (hl h2).trans hn, h B H σ _ e h2 sl Q q⟩
    rcases h1 with (h | ⟨o, h⟩) | h
    · exact .inl (.inl (e _ _ h))
    · exact .inl (.inr ⟨o, e _ _ h⟩)
    · exact .inr h
theorem s_asgG {ρ2 : AS} (h : EvW K te ρ μ R μ1) (hg : GtW K g R ρ ρ2) (p : P.nx ρ2 μ1) : StW K (tAsg te g) ρ μ P := fun F D B H σ w sl r =>
  h F B H σ w sl _ fun v B2 H2 e w2 hv => hg B2 H2 σ v w2.1 hv (sl.mono e) _ fun σ2 sl2 => r.nx _ _ B2 H2 _ p e w2 sl2
/-- x, y = a, b -/
theorem s_par {i j : Nat} {ta : TA} (h : EvA K ta ρ μ [R1, R2] μ1) (p : P.nx ((ρ.set i (some R1)).set j (some R2)) μ1) : StW K (tPar i j ta) ρ μ P := fun F D B H σ w sl r =>
  h F B H σ w sl _ fun vs B2 H2 e w2 hv => by
    match vs, hv with
    | [v, x], hv => exact ⟨v, x, rfl, r.nx _ _ B2 H2 _ p e w2 (Sl.set hv.2.1 j (Sl.set hv.1 i (sl.mono e)))⟩
/-- an owned list's item is stored -/
theorem s_setL {l : Addr} {xs : List AV} {j : Nat} (h : EvW K te ρ μ R μ1) (ho : EvW K ta ρ μ1 (.r l) μ2) (hi : EvW K tb ρ μ2 (.i (j : Int)) μ3) (hl : μ3 l = some (.lst xs)) (hj : j < xs.length) (p : P.nx ρ (updM μ3 l (.lst (xs.set j R)))) :
    StW K (tAsg te (gSub ta tb rSetL)) ρ μ P := fun F D B H σ w sl r => h F B H σ w sl _ fun v B1 H1 e1 w1 h1 => ho F B1 H1 σ w1 (sl.mono e1) _ fun a B2 H2 e2 w2 h2 => hi F B2 H2 σ w2 (sl.mono (e1.trans e2)) _ fun iv B3 H3 e3 w3 h3 => by
  have ea : a = .ref l := h2
  have ei := h_i h3
  subst ea ei
  obtain ⟨_, _, u, hu, hx⟩ := w3.2.1 l _ hl
  obtain ⟨vs, rfl, hA⟩ := hx
  have hn : ixN vs.length (j : Int) = some j := by
    unfold ixN
    rw [if_pos (by omega), if_pos (by rw [← hA.length]; omega)]
    simp
  refine ⟨l, vs, (j : Int), j, rfl, rfl, hu, hn, ?_⟩
  have w4 : Wd K F B3 (updM μ3 l (.lst (xs.set j R))) (upd H3 l (.lst (vs.set j v))) := w3.set hl ⟨_, rfl, AllH.set (AV.mono (e2.trans e3) h1) j hA⟩
  exact r.nx _ _ B3 _ _ p ((e1.trans e2).trans e3) w4 (sl.mono ((e1.trans e2).trans e3))
/-- l.append(e), l owned -/
theorem s_app {l : Addr} {xs : List AV} (ha : EvW K ta ρ μ (.r l) μ1) (h : EvW K te ρ μ1 R μ2) (hl1 : ∃ xs1, μ1 l = some (.lst xs1)) (hl : μ2 l = some (.lst xs)) (hz : xs.length < 100000) (p : P.nx ρ (updM μ2 l (.lst (xs ++ [R])))) :
    StW K (tDrop (tBM K "list" rAppend ta (tCons te tNil))) ρ μ P := fun F D B H σ w sl r => ha F B H σ w sl _ fun a B1 H1 e1 w1 h1 => by
  have ea : a = .ref l := h1
  subst ea
  obtain ⟨xs1, q1⟩ := hl1
  obtain ⟨_, _, u1, hu1, vs1, rfl, hA1⟩ := w1.2.1 l _ q1
  refine ⟨.inl ⟨rfl, vs1, SqL.of hu1⟩, h F B1 H1 σ w1 (sl.mono e1) _ fun v B2 H2 e2 w2 h2 => ?_⟩
  obtain ⟨_, _, u, hu, vs, rfl, hA⟩ := w2.2.1 l _ hl
  refine ⟨l, vs, v, rfl, rfl, hu, Nat.lt_of_lt_of_le (by rw [← hA.length]; exact hz) (by decide : 100000 ≤ sizeLine), ?_⟩
  have w4 : Wd K F B2 (updM μ2 l (.lst (xs ++ [R]))) (upd H2 l (.lst (vs ++ [v]))) := w2.set hl ⟨_, rfl, AllH.app hA ⟨h2, trivial⟩⟩
  exact r.nx _ _ B2 _ _ p (e1.trans e2) w4 (sl.mono (e1.trans e2))

/-! ### displays -/
theorem ew_tup {ta : TA} {ds : List PyData} (h : EvA K ta ρ μ (ds.map .d) μ1) (hz : ds.length ≤ 100000) : EvW K (tTup ta) ρ μ (.d (.tuple ds)) μ1 := fun F B H σ w sl Q q =>
  h F B H σ w sl _ fun vs B2 H2 e w2 hv => ⟨by rw [← hv.length, List.length_map]; exact Nat.le_trans hz (by decide), fun p hp => by
    obtain ⟨w3, e3, e4⟩ := w2.new (o := .tup vs) hp
    exact q _ _ _ (e.trans e3) w3 (.tup (SqT.of e4) (fun _ => e4) (dpa_mono e3 (AllH.data hv)))⟩
theorem ew_lst {ta : TA} {ds : List PyData} (h : EvA K ta ρ μ (ds.map .d) μ1) (hz : ds.length ≤ 100000) : EvW K (tLst ta) ρ μ (.d (.list ds)) μ1 := fun F B H σ w sl Q q =>
  h F B H σ w sl _ fun vs B2 H2 e w2 hv => ⟨by rw [← hv.length, List.length_map]; exact Nat.le_trans hz (by decide), fun p hp => by
    obtain ⟨w3, e3, e4⟩ := w2.new (o := .lst vs) hp
    exact q _ _ _ (e.trans e3) w3 (.lst (SqL.of e4) (dpa_mono e3 (AllH.data hv)))⟩
/-- a new list that is owned -/
theorem s_own {i : Nat} {ta : TA} {Rs : List AV} (h : EvA K ta ρ μ Rs μ1) (hz : Rs.length ≤ 100000) (p : ∀ l, μ1 l = none → P.nx (ρ.set i (some (.r l))) (updM μ1 l (.lst Rs))) : StW K (tAsg (tLst ta) (gName i)) ρ μ P := fun F D B H σ w sl r =>
  h F B H σ w sl _ fun vs B2 H2 e w2 hv => ⟨by rw [← hv.length]; exact Nat.le_trans hz (by decide), fun l hp => by
    have hm : μ1 l = none := by
      cases q : μ1 l with
      | none => rfl
      | some o => obtain ⟨_, _, u, hu, _⟩ := w2.2.1 l o q; rw [hu] at hp; cases hp
    exact r.nx _ _ B2 _ _ (p l hm) e (w2.newM hp ⟨_, rfl, hv⟩) (Sl.set (R := .r l) (v := .ref l) (show V.ref l = V.ref l from rfl) i (sl.mono e))⟩
/-- a list handed back, owned from then on -/
theorem ew_lstR {ta : TA} {Rs : List AV} (h : EvA K ta ρ μ Rs μ1) (hz : Rs.length ≤ 100000) : ∀ F B H σ, Wd K F B μ H → Sl K B σ ρ → ∀ Q : VK, (∀ l B2 H2, Same B B2 → μ1 l = none → Wd K F B2 (updM μ1 l (.lst Rs)) H2 → Q (.ref l) H2) → tLst ta σ H Q := fun F B H σ w sl Q q =>
  h F B H σ w sl _ fun vs B2 H2 e w2 hv => ⟨by rw [← hv.length]; exact Nat.le_trans hz (by decide), fun l hp => by
    have hm : μ1 l = none := by
      cases q : μ1 l with
      | none => rfl
      | some o => obtain ⟨_, _, u, hu, _⟩ := w2.2.1 l o q; rw [hu] at hp; cases hp
    exact q l B2 _ e hm (w2.newM hp ⟨_, rfl, hv⟩)⟩

/-! ### loops -/
theorem s_while (Iv : Nat → AS → AM → Prop) (m : Nat) (h0 : Iv m ρ μ)
    (hs : ∀ m ρ' μ', Iv m ρ' μ' → ∃ b μ1, EvT K t ρ' μ' b μ1 ∧ (b = true → StW K s ρ' μ1 { P with nx := fun ρ2 μ2 => ∃ m', m' < m ∧ Iv m' ρ2 μ2, ct := fun ρ2 μ2 => ∃ m', m' < m ∧ Iv m' ρ2 μ2, bk := P.nx }) ∧ (b = false → P.nx ρ' μ1)) : StW K (tWhile t s) ρ μ P := fun F D B H σ w sl r => by
  refine ⟨fun m σ H => ∃ ρ' μ' B', Iv m ρ' μ' ∧ Same B B' ∧ Wd K F B' μ' H ∧ Sl K B' σ ρ', ⟨m, ρ, μ, B, h0, Same.refl _, w, sl⟩, ?_⟩
  rintro m σ H ⟨ρ', μ', B', iv, e, w, sl⟩
  obtain ⟨b, μ1, ht, h1, h2⟩ := hs m ρ' μ' iv
  refine ht F B' H σ w sl _ fun B2 H2 e2 w2 => ?_
  cases b with
  | true =>
    show ∃ N : L2.St → Hp → Prop, _
    refine ⟨fun σ' H' => ∃ m', m' < m ∧ ∃ ρ' μ' B', Iv m' ρ' μ' ∧ Same B B' ∧ Wd K F B' μ' H' ∧ Sl K B' σ' ρ', fun σ' H' q => q, ?_⟩
    refine h1 rfl F _ B2 H2 σ w2 (sl.mono e2) ⟨fun ρ3 μ3 B3 H3 σ3 ⟨m', l, iv'⟩ e3 w3 sl3 => ⟨m', l, ρ3, μ3, B3, iv', (e.trans e2).trans e3, w3, sl3⟩, fun R μ v B3 H3 p e3 => r.rt R μ v B3 H3 p ((e.trans e2).trans e3), fun ρ3 μ3 B3 H3 σ3 p e3 => r.nx ρ3 μ3 B3 H3 σ3 p ((e.trans e2).trans e3), fun ρ3 μ3 B3 H3 σ3 ⟨m', l, iv'⟩ e3 w3 sl3 => ⟨m', l, ρ3, μ3, B3, iv', (e.trans e2).trans e3, w3, sl3⟩⟩
  | false =>
    show D.nx σ H2
    exact r.nx ρ' μ1 B2 H2 σ (h2 rfl) (e.trans e2) w2 (sl.mono e2)
/-- what a for walks: xs, one after the other; each may come as a new object -/
structure JOk (K : Fr) (J : It) (xs : List AV) (B : Hp) : Prop where
  go : ∀ B2 H i, Same B B2 → Same B2 H → i < xs.length → J.go i H
  stop : ∀ B2 H, Same B B2 → Same B2 H → J.stop xs.length H
  yld : ∀ F B2 H μ i a x H', Same B B2 → Wd K F B2 μ H → xs[i]? = some a → J.yld i H x H' → ∃ B3, Same B2 B3 ∧ Wd K F B3 μ H' ∧ a.h K x B3
def ItW (K : Fr) (wi : TI) (ρ : AS) (μ : AM) (xs : List AV) (μ1 : AM) : Prop := ∀ F B H σ, Wd K F B μ H → Sl K B σ ρ → ∀ Rk : It → Hp → Prop, (∀ J B2 H2, Same B B2 → Wd K F B2 μ1 H2 → JOk K J xs B2 → Rk J H2) → wi σ H Rk
theorem s_for {wi : TI} {xs : List AV} (hi : ItW K wi ρ μ xs μ1) (Iv : Nat → AS → AM → Prop) (h0 : Iv 0 ρ μ1)
    (hs : ∀ i a ρ' μ', xs[i]? = some a → Iv i ρ' μ' → ∃ ρ2, GtW K g a ρ' ρ2 ∧ StW K s ρ2 μ' { P with nx := Iv (i + 1), ct := Iv (i + 1), bk := P.nx }) (hd : ∀ ρ' μ', Iv xs.length ρ' μ' → P.nx ρ' μ') : StW K (tFor wi g s) ρ μ P := fun F D B H σ w sl r =>
  hi F B H σ w sl _ fun J B1 H1 e1 w1 j => by
    refine ⟨fun i m σ H => m = xs.length - i ∧ i ≤ xs.length ∧ ∃ ρ' μ' B', Iv i ρ' μ' ∧ Same B1 B' ∧ Wd K F B' μ' H ∧ Sl K B' σ ρ', ⟨xs.length, by simp, Nat.zero_le _, ρ, μ1, B1, h0, Same.refl _, w1, sl.mono e1⟩, ?_⟩
    rintro i m σ H ⟨rfl, hil, ρ', μ', B', iv, e, w, sl'⟩
    by_cases hlt : i < xs.length
    · refine .inr ⟨j.go B' H i e w.1 hlt, fun σ' H' => ∃ ρ' μ' B', Iv (i + 1) ρ' μ' ∧ Same B1 B' ∧ Wd K F B' μ' H' ∧ Sl K B' σ' ρ', fun σ' H' q => ⟨xs.length - (i + 1), by omega, rfl, hlt, q⟩, fun x H' y => ?_⟩
      obtain ⟨B3, e3, w3, hx⟩ := j.yld F B' H μ' i xs[i] x H' e w (by simp [hlt]) y
      obtain ⟨ρ2, hg, hst⟩ := hs i xs[i] ρ' μ' (by simp [hlt]) iv
      refine hg B3 H' σ x w3.1 hx (sl'.mono e3) _ fun σ2 sl2 => ?_
      refine hst F _ B3 H' σ2 w3 sl2 ⟨fun ρ3 μ3 B4 H4 σ4 p e4 w4 sl4 => ⟨ρ3, μ3, B4, p, (e.trans e3).trans e4, w4, sl4⟩, fun R μ v B4 H4 p e4 => r.rt R μ v B4 H4 p (((e1.trans e).trans e3).trans e4), fun ρ3 μ3 B4 H4 σ4 p e4 => r.nx ρ3 μ3 B4 H4 σ4 p (((e1.trans e).trans e3).trans e4), fun ρ3 μ3 B4 H4 σ4 p e4 w4 sl4 => ⟨ρ3, μ3, B4, p, (e.trans e3).trans e4, w4, sl4⟩⟩
    · have ei : i = xs.length := by omega
      subst ei
      exact .inl ⟨j.stop B' H e w.1, r.nx ρ' μ' B' H σ (hd ρ' μ' iv) (e1.trans e) w sl'⟩
theorem jo_rng {lo : Int} {n : Nat} {B : Hp} : JOk K (Itr lo n) ((List.range n).map fun i => .i (lo + (i : Nat))) B where
  go _ _ i _ _ h := by
    show i < n
    simpa using h
  stop _ _ _ _ := by show n ≤ _; simp
  yld F B2 H μ i a x H' e w ha y := by
    obtain ⟨e1, e2⟩ := y
    subst e1 e2
    have hlt : i < n := by
      have := (List.getElem?_eq_some_iff.mp ha).1
      simpa using this
    rw [List.getElem?_map, List.getElem?_range hlt] at ha
    have ea : a = .i (lo + (i : Nat)) := (Option.some.inj ha).symm
    subst ea
    exact ⟨B2, Same.refl _, w, .int _⟩
theorem it_r1 {ta : TA} {n : Int} (h : EvA K ta ρ μ [.i n] μ1) (h1 : -(2 ^ 62) ≤ n) (h2 : n < 2 ^ 62) : ItW K (iRng1 ta) ρ μ ((List.range n.toNat).map fun (i : Nat) => .i (0 + (i : Int))) μ1 := fun F B H σ w sl Rk q =>
  h F B H σ w sl _ fun vs B2 H2 e w2 hv => by
    match vs, hv with
    | [v], hv =>
      have := h_i hv.1
      subst this
      exact ⟨n, rfl, h1, h2, q _ B2 H2 e w2 jo_rng⟩
theorem it_r2 {ta : TA} {m n : Int} (h : EvA K ta ρ μ [.i m, .i n] μ1) (h1 : -(2 ^ 62) ≤ m ∧ m < 2 ^ 62 ∧ -(2 ^ 62) ≤ n ∧ n < 2 ^ 62) : ItW K (iRng2 ta) ρ μ ((List.range (n - m).toNat).map fun (i : Nat) => .i (m + (i : Int))) μ1 := fun F B H σ w sl Rk q =>
  h F B H σ w sl _ fun vs B2 H2 e w2 hv => by
    match vs, hv with
    | [v, x], hv =>
      have := h_i hv.1
      have := h_i hv.2.1
      subst_vars
      exact ⟨m, n, rfl, h1, q _ B2 H2 e w2 jo_rng⟩
theorem it_l {ds : List PyData} (h : EvW K tl ρ μ (.d (.list ds)) μ1) : ItW K (iList K tl) ρ μ (ds.map .d) μ1 := fun F B H σ w sl Rk q =>
  h F B H σ w sl _ fun v B2 H2 e w2 hv => by
    cases (show Dt K B2 v (.list ds) from hv) with
    | @lst a vs _ h1 h2 =>
      refine ⟨a, rfl, ⟨vs, w2.1.seq h1⟩, q _ B2 H2 e w2 ⟨fun B3 H3 i e3 e4 hi => ?_, fun B3 H3 e3 e4 => ⟨vs, (e3.trans e4).seq h1, ?_⟩, fun F B3 H3 μ i b x H' e3 w3 hb y => ?_⟩⟩
      · rw [(AllH.of h2).length] at hi
        exact ⟨vs, vs[i], (e3.trans e4).seq h1, by simp [hi]⟩
      · rw [(AllH.of h2).length]
        exact Nat.le_refl _
      · obtain ⟨e5, y⟩ := y
        subst e5
        obtain ⟨v, hv1, hv2⟩ := (AllH.of h2).get hb
        have := y vs ((e3.trans w3.1).seq h1)
        rw [hv1] at this
        cases this
        exact ⟨B3, Same.refl _, w3, AV.mono e3 hv2⟩
theorem it_t {ds : List PyData} (h : EvW K tl ρ μ (.d (.tuple ds)) μ1) : ItW K (iTup K tl) ρ μ (ds.map .d) μ1 := fun F B H σ w sl Rk q =>
  h F B H σ w sl _ fun v B2 H2 e w2 hv => by
    cases (show Dt K B2 v (.tuple ds) from hv) with
    | @tup a vs _ h1 h0a h2 =>
      refine ⟨a, rfl, ⟨vs, seq_l w2.1 h1⟩, q _ B2 H2 e w2 ⟨fun B3 H3 i e3 e4 hi => ?_, fun B3 H3 e3 e4 => ⟨vs, seq_l (e3.trans e4) h1, ?_⟩, fun F B3 H3 μ i b x H' e3 w3 hb y => ?_⟩⟩
      · rw [(AllH.of h2).length] at hi
        exact ⟨vs, vs[i], seq_l (e3.trans e4) h1, by simp [hi]⟩
      · rw [(AllH.of h2).length]
        exact Nat.le_refl _
      · obtain ⟨e5, y⟩ := y
        subst e5
        obtain ⟨v, hv1, hv2⟩ := (AllH.of h2).get hb
        have := y vs (seq_l (e3.trans w3.1) h1)
        rw [hv1] at this
        cases this
        exact ⟨B3, Same.refl _, w3, AV.mono e3 hv2⟩

/-! ### comprehensions -/
theorem wipe_get {σ : L2.St} : ∀ (vs : List Nat) (i : Nat), (L2.wipe σ vs)[i]? = if i ∈ vs then (σ[i]?).map (fun _ => none) else σ[i]?
  | [], i => by simp [L2.wipe]
  | v :: vs, i => by
    unfold L2.wipe
    by_cases h : v = i
    · subst h
      rw [if_pos List.mem_cons_self]
      by_cases hl : v < (L2.wipe σ vs).length
      · rw [List.getElem?_set_self hl]
        rw [L2.wipe_length] at hl
        simp [hl]
      · rw [List.getElem?_eq_none (by simpa using hl)]
        rw [L2.wipe_length] at hl
        rw [List.getElem?_eq_none (by omega)]
        rfl
    · rw [List.getElem?_set_ne h, wipe_get vs i]
      by_cases hm : i ∈ vs
      · rw [if_pos hm, if_pos (List.mem_cons_of_mem _ hm)]
      · rw [if_neg hm, if_neg (by simp only [List.mem_cons, not_or]; exact ⟨fun e => h e.symm, hm⟩)]
theorem wipe_set {σ : L2.St} {vs : List Nat} {j : Nat} {s : Option V} (hj : j ∈ vs) : L2.wipe ((L2.wipe σ vs).set j s) vs = L2.wipe σ vs := by
  apply List.ext_getElem?
  intro i
  rw [wipe_get, wipe_get]
  by_cases hi : i ∈ vs
  · rw [if_pos hi, if_pos hi]
    by_cases e : j = i
    · subst e
      by_cases hl : j < (L2.wipe σ vs).length
      · rw [List.getElem?_set_self hl]
        rw [L2.wipe_length] at hl
        simp [hl]
      · rw [List.getElem?_eq_none (by simpa using hl)]
        rw [L2.wipe_length] at hl
        rw [List.getElem?_eq_none (by omega)]
    · rw [List.getElem?_set_ne e, wipe_get, if_pos hi, Option.map_map]
      rfl
  · rw [if_neg hi, if_neg hi, List.getElem?_set_ne (fun e : j = i => hi (by rw [← e]; exact hj)), wipe_get, if_neg hi]
/-- a target within a comprehension: names of vs alone are stored -/
def GcW (K : Fr) (g : TG) (vs : List Nat) (a : AV) (ρ ρ2 : AS) : Prop := ∀ B H σ v, Same B H → a.h K v B → Sl K B (L2.wipe σ vs) ρ → ∀ Q : L2.St → Hp → Prop, (∀ σ2, L2.wipe σ2 vs = L2.wipe σ vs → Sl K B σ2 ρ2 → Q σ2 H) → g v (L2.wipe σ vs) H Q
theorem gc_name {i : Nat} {vs : List Nat} (hi : i ∈ vs) : GcW K (gName i) vs R ρ (ρ.set i (some R)) := fun B H σ v e h sl Q q => q _ (wipe_set hi) (Sl.set h i sl)
theorem lc_run {wi : TI} {tt : TT} {vs : List Nat} {xs : List AV} (Mu : Nat → AM) (Ac : Nat → List PyData) (hi : ItW K wi ρ μ xs (Mu 0)) (hA : Ac 0 = [])
    (hs : ∀ i a, xs[i]? = some a → ∃ ρ2 b μ', GcW K g vs a (wipeA ρ vs) ρ2 ∧ EvT K tt ρ2 (Mu i) b μ' ∧ (b = true → ∃ d, EvW K te ρ2 μ' (.d d) (Mu (i + 1)) ∧ Ac (i + 1) = Ac i ++ [d]) ∧ (b = false → μ' = Mu (i + 1) ∧ Ac (i + 1) = Ac i)) (hz : xs.length ≤ 90000) :
    ∀ F B H σ, Wd K F B μ H → Sl K B σ ρ → ∀ Q : VK, (∀ Dl B2 H2 ys, Same B B2 → F Dl = none → Wd K (upd F Dl (.lst ys)) B2 (Mu xs.length) H2 → DtAll K B2 ys (Ac xs.length) → Q (.ref Dl) H2) → tLc wi g tt te vs σ H Q := fun F B H σ w sl Q q =>
  hi F B H σ w sl _ fun J B1 H1 e1 w1 j => fun Dl hD => by
    have hF0 : F Dl = none := by
      cases hF : F Dl with
      | none => rfl
      | some u => rw [(w1.2.2 Dl u hF).2.1] at hD; cases hD
    have hlen : ∀ i, i ≤ xs.length → (Ac i).length ≤ i := by
      intro i
      induction i with
      | zero => intro _; rw [hA]; exact Nat.le_refl _
      | succ i ih =>
        intro h
        obtain ⟨ρ2, b, μ', _, _, h1, h2⟩ := hs i xs[i] (by simp)
        cases b with
        | true =>
          obtain ⟨d, _, e⟩ := h1 rfl
          rw [e, List.length_append]
          have := ih (by omega)
          simp
          omega
        | false =>
          rw [(h2 rfl).2]
          have := ih (by omega)
          omega
    refine ⟨fun i m H => m = xs.length - i ∧ i ≤ xs.length ∧ ∃ B' ys, Same B1 B' ∧ Wd K (upd F Dl (.lst ys)) B' (Mu i) H ∧ DtAll K B' ys (Ac i), ⟨xs.length, by simp, Nat.zero_le _, B1, [], Same.refl _, w1.newF hD, by rw [hA]; exact .nil⟩, ?_⟩
    rintro i m H ⟨rfl, hil, B', ys, e, w, hys⟩
    by_cases hlt : i < xs.length
    · refine .inr ⟨j.go B' H i e w.1 hlt, fun H' => ∃ B' ys, Same B1 B' ∧ Wd K (upd F Dl (.lst ys)) B' (Mu (i + 1)) H' ∧ DtAll K B' ys (Ac (i + 1)), fun H' q => ⟨xs.length - (i + 1), by omega, rfl, hlt, q⟩, fun x H' y => ?_⟩
      obtain ⟨B3, e3, w3, hx⟩ := j.yld _ B' H (Mu i) i xs[i] x H' e w (by simp [hlt]) y
      obtain ⟨ρ2, b, μ', hg, ht, h1, h2⟩ := hs i xs[i] (by simp [hlt])
      refine hg B3 H' σ x w3.1 hx ((sl.wipe vs).mono ((e1.trans e).trans e3)) _ fun σ2 hw sl2 => ⟨hw, ?_⟩
      refine ht _ B3 H' σ2 w3 sl2 _ fun B4 H4 e4 w4 => ?_
      cases b with
      | true =>
        show te σ2 H4 _
        obtain ⟨d, hd, hac⟩ := h1 rfl
        refine hd _ B4 H4 σ2 w4 (sl2.mono e4) _ fun v B5 H5 e5 w5 h5 => ⟨ys, (w5.2.2 Dl _ upd_same).2.1, ?_, B5, ys ++ [v], ((((e.trans e3).trans e4).trans e5)), ?_, ?_⟩
        · have l1 := (AllH.of hys).length
          rw [List.length_map] at l1
          have l2 := hlen i (by omega)
          exact Nat.lt_of_lt_of_le (by omega : ys.length < 100000) (by decide : 100000 ≤ sizeLine)
        · have := w5.setF (o := .lst (ys ++ [v])) upd_same
          rw [upd_upd] at this
          exact this
        · rw [hac]
          have a1 : AllH K B5 ((Ac i).map .d) ys := AllH.of (dpa_mono ((e3.trans e4).trans e5) hys)
          have a2 : AllH K B5 ([d].map .d) [v] := ⟨h5, trivial⟩
          have := a1.app a2
          rw [← List.map_append] at this
          exact AllH.data this
      | false =>
        obtain ⟨hm', hac⟩ := h2 rfl
        show ∃ B' ys, _
        rw [← hm', hac]
        exact ⟨B4, ys, (e.trans e3).trans e4, w4, dpa_mono (e3.trans e4) hys⟩
    · have ei : i = xs.length := by omega
      subst ei
      exact .inl ⟨j.stop B' H e w.1, q _ _ H ys (e1.trans e) hF0 w hys⟩
theorem ew_lc {wi : TI} {tt : TT} {vs : List Nat} {xs : List AV} (Mu : Nat → AM) (Ac : Nat → List PyData) (hi : ItW K wi ρ μ xs (Mu 0)) (hA : Ac 0 = [])
    (hs : ∀ i a, xs[i]? = some a → ∃ ρ2 b μ', GcW K g vs a (wipeA ρ vs) ρ2 ∧ EvT K tt ρ2 (Mu i) b μ' ∧ (b = true → ∃ d, EvW K te ρ2 μ' (.d d) (Mu (i + 1)) ∧ Ac (i + 1) = Ac i ++ [d]) ∧ (b = false → μ' = Mu (i + 1) ∧ Ac (i + 1) = Ac i)) (hz : xs.length ≤ 90000) (hm : Mu xs.length = μ1) :
    EvW K (tLc wi g tt te vs) ρ μ (.d (.list (Ac xs.length))) μ1 := fun F B H σ w sl Q q => lc_run Mu Ac hi hA hs hz F B H σ w sl Q fun Dl B2 H2 ys e hF w2 hys => by
  obtain ⟨w5, e5, e6⟩ := w2.freezeF hF
  rw [hm] at w5
  exact q _ _ H2 (e.trans e5) w5 (.lst (SqL.of e6) (dpa_mono e5 hys))
theorem Wd.unF {F0 F B H : Hp} {l : Addr} {u : HO} {ao : AO} (w : Wd K (upd F l u) B μ H) (h0 : F l = none) (ho : ao.h K u B) : μ l = none ∧ Wd K F B (updM μ l ao) H := by
  have hm : μ l = none := by
    cases q : μ l with
    | none => rfl
    | some o =>
      have := (w.2.1 l o q).2.1
      rw [upd_same] at this
      cases this
  obtain ⟨hb, hh, _⟩ := w.2.2 l u upd_same
  refine ⟨hm, w.1, fun a o e => ?_, fun a x e => ?_⟩
  · by_cases h : a = l
    · subst h
      rw [updM_same] at e
      cases e
      exact ⟨hb, h0, u, hh, ho⟩
    · rw [updM_ne h] at e
      obtain ⟨q1, q0, u', q2, q3⟩ := w.2.1 a o e
      rw [upd_ne h] at q0
      exact ⟨q1, q0, u', q2, q3⟩
  · have h : a ≠ l := fun q => by rw [q, h0] at e; cases e
    exact w.2.2 a x (by rw [upd_ne h]; exact e)
/-- x = [..], the new list owned -/
theorem s_lcOwn {P : Po} {j : Nat} {wi : TI} {tt : TT} {vs : List Nat} {xs : List AV} (Mu : Nat → AM) (Ac : Nat → List PyData) (hi : ItW K wi ρ μ xs (Mu 0)) (hA : Ac 0 = [])
    (hs : ∀ i a, xs[i]? = some a → ∃ ρ2 b μ', GcW K g vs a (wipeA ρ vs) ρ2 ∧ EvT K tt ρ2 (Mu i) b μ' ∧ (b = true → ∃ d, EvW K te ρ2 μ' (.d d) (Mu (i + 1)) ∧ Ac (i + 1) = Ac i ++ [d]) ∧ (b = false → μ' = Mu (i + 1) ∧ Ac (i + 1) = Ac i)) (hz : xs.length ≤ 90000)
    (p : ∀ l, Mu xs.length l = none → P.nx (ρ.set j (some (.r l))) (updM (Mu xs.length) l (.lst ((Ac xs.length).map .d)))) : StW K (tAsg (tLc wi g tt te vs) (gName j)) ρ μ P := fun F D B H σ w sl r =>
  lc_run Mu Ac hi hA hs hz F B H σ w sl _ fun Dl B2 H2 ys e hF w2 hys => by
    obtain ⟨hm, w5⟩ := Wd.unF (F0 := F) (ao := .lst ((Ac xs.length).map .d)) w2 hF ⟨ys, rfl, AllH.of hys⟩
    exact r.nx _ _ B2 H2 _ (p Dl hm) e w5 (Sl.set (R := .r Dl) (v := .ref Dl) (show V.ref Dl = V.ref Dl from rfl) j (sl.mono e))
end
end Lw

set_option Elab.async false
set_option linter.all false
set_option maxRecDepth 100000
set_option maxHeartbeats 2000000
namespace Lw
open PySem PySem.Spec PyProof.Rows L2

/-! ### more operators of the layer -/
section
variable {X : Cx}
def CPowX (i j : Int) : Prop := 0 ≤ j ∧ (Builtin.Int.intBits i : Int) * j ≤ 2 ^ 27
theorem op_powX : OpR X (binaryOp .Pow) (rI CPowX fun i j => .int (i ^ j.toNat)) := opI fun _ _ _ _ _ _ _ hc q => pow_int hc.1 hc.2 q
def rInU (K : Fr) : R2 := fun x y H Q => ∃ d ds, Dp K H x d ∧ Dp K H y (.tuple ds) ∧ SeqAt.shaped d = true ∧ SeqAt.shaped (.tuple ds) = true ∧ Q (.bl (ds.any fun z => PyData.eqv z d)) H
def rNotInU (K : Fr) : R2 := fun x y H Q => ∃ d ds, Dp K H x d ∧ Dp K H y (.tuple ds) ∧ SeqAt.shaped d = true ∧ SeqAt.shaped (.tuple ds) = true ∧ Q (.bl (!ds.any fun z => PyData.eqv z d)) H
theorem lay_tup {ds : List PyData} (h : SeqAt.shaped (.tuple ds) = true) : PyData.canLayAll0 ds = true := by
  have := SeqAt.canLay_of_shaped h
  simpa [PyData.canLay0] using this
theorem op_inU (hu : X.A.units + 65 < cLine) : OpR X (compareOp .In) (rInU X.K) := fun pins s σ H x y v u Q I rx ry h => by
  obtain ⟨d, ds, hd, he, sd, se, q⟩ := h
  obtain ⟨as, r1⟩ := Dp.reads I d x v hd rx
  obtain ⟨bs, r2⟩ := Dp.reads I (.tuple ds) y u he ry
  exact SeqAt.in_tuple_reads r2 r1 (lay_tup se) (SeqAt.canLay_of_shaped sd) (room_in_shaped sd hu) ⟨.bl _, H, I, rfl, q⟩
theorem op_notInU (hu : X.A.units + 65 < cLine) : OpR X (compareOp .NotIn) (rNotInU X.K) := fun pins s σ H x y v u Q I rx ry h => by
  obtain ⟨d, ds, hd, he, sd, se, q⟩ := h
  obtain ⟨as, r1⟩ := Dp.reads I d x v hd rx
  obtain ⟨bs, r2⟩ := Dp.reads I (.tuple ds) y u he ry
  exact SeqAt.notIn_tuple_reads r2 r1 (lay_tup se) (SeqAt.canLay_of_shaped sd) (room_in_shaped sd hu) ⟨.bl _, H, I, rfl, q⟩
/-- repr of data -/
def rRepr (K : Fr) : List V → Hp → VK → Prop := fun xs H Q => ∃ a d, xs = [.ref a] ∧ Dp K H (.ref a) d ∧ SeqAt.shaped d = true ∧ d.showable = true ∧ d.shown.length ≤ sizeLine ∧ Q (.str d.shown) H
theorem call_reprD (hu : X.A.units + 66 < cLine) (hg : X.A.guards = some []) : CallR X (.builtin "repr") (rRepr X.K) := fun pins s σ H xs us Q I r h => by
  obtain ⟨a, d, rfl, hd, sd, sh, hz, q⟩ := h
  obtain ⟨u, rfl, ru⟩ := vals1 r
  obtain ⟨as, r1⟩ := Dp.reads I d (.ref a) u hd ru
  have eu : u = .ref a := ru
  subst eu
  have nd : d.hasDict = false := PyData.hasDict_of_canLay d (SeqAt.canLay_of_shaped sd)
  have dd := SeqAt.depth_of_shaped sd
  exact repr_of_reads' r1 sh (PyData.noDict_hsm nd) hg (by omega) (fun _ _ e => e) (fun h' u tk k => ⟨.str _, H, I.kept k, ⟨_, rfl⟩, q⟩) hz
end

/-! ### the same, over data -/
section
variable {K : Fr} {ρ : AS} {μ μ1 μ2 μ3 : AM} {ta tb te tl : TE} {t u : TT} {R R1 R2 : AV} {d e : PyData} {ds es : List PyData} {i j : Int}
theorem dpa_length {B : Hp} {vs : List V} {ds : List PyData} (h : DtAll K B vs ds) : vs.length = ds.length := (AllH.of h).length.symm.trans (by simp)
theorem dpa_get {B : Hp} : ∀ {vs : List V} {ds : List PyData} {i : Nat} {d : PyData}, DtAll K B vs ds → ds[i]? = some d → ∃ v, vs[i]? = some v ∧ Dt K B v d
  | _, _, 0, _, .cons h _, e => ⟨_, rfl, by cases e; exact h⟩
  | _, _, i + 1, _, .cons _ h, e => dpa_get (i := i) h e
  | _, _, _, _, .nil, e => by simp at e
theorem dpa_take {B : Hp} : ∀ {vs : List V} {ds : List PyData} (n : Nat), DtAll K B vs ds → DtAll K B (vs.take n) (ds.take n)
  | _, _, 0, _ => .nil
  | _, _, _ + 1, .nil => .nil
  | _, _, n + 1, .cons h h2 => .cons h (dpa_take n h2)
theorem dpa_drop {B : Hp} : ∀ {vs : List V} {ds : List PyData} (n : Nat), DtAll K B vs ds → DtAll K B (vs.drop n) (ds.drop n)
  | _, _, 0, h => h
  | _, _, _ + 1, .nil => .nil
  | _, _, n + 1, .cons _ h2 => dpa_drop n h2
theorem dpa_app {B : Hp} : ∀ {vs ws : List V} {ds es : List PyData}, DtAll K B vs ds → DtAll K B ws es → DtAll K B (vs ++ ws) (ds ++ es)
  | _, _, _, _, .nil, k => k
  | _, _, _, _, .cons h h2, k => .cons h (dpa_app h2 k)
theorem dpa_rev {B : Hp} : ∀ {vs : List V} {ds : List PyData}, DtAll K B vs ds → DtAll K B vs.reverse ds.reverse
  | _, _, .nil => .nil
  | _, _, .cons h h2 => by
    rw [List.reverse_cons, List.reverse_cons]
    exact dpa_app (dpa_rev h2) (.cons h .nil)
theorem o_mod (h : 0 < j) : Op2 K (rI (fun _ j => 0 < j) fun i j => .int (i % j)) (.i i) (.i j) μ (.i (i % j)) μ := o_I h
theorem o_div (h : CDivW i j) : Op2 K (rI CDivW fun i j => .int (i / j)) (.i i) (.i j) μ (.i (i / j)) μ := o_I h
theorem o_mul (h : CMulW i j) : Op2 K (rI CMulW fun i j => .int (i * j)) (.i i) (.i j) μ (.i (i * j)) μ := o_I h
theorem o_pow {n : Nat} (h : CPowX i (n : Int)) : Op2 K (rI CPowX fun i j => .int (i ^ j.toNat)) (.i i) (.i (n : Int)) μ (.i (i ^ n)) μ := o_I (g := fun i j => i ^ j.toNat) h
theorem o_inU (h1 : SeqAt.shaped d = true) (h2 : SeqAt.shaped (.tuple ds) = true) : Op2 K (rInU K) (.d d) (.d (.tuple ds)) μ (.b (ds.any fun z => PyData.eqv z d)) μ := fun F B H x y w r1 r2 Q q =>
  ⟨d, ds, (dp_mono w.1 r1).dp, (dp_mono w.1 r2).dp, h1, h2, q _ B H (Same.refl _) w (.bl _)⟩
theorem o_notInU (h1 : SeqAt.shaped d = true) (h2 : SeqAt.shaped (.tuple ds) = true) : Op2 K (rNotInU K) (.d d) (.d (.tuple ds)) μ (.b (!ds.any fun z => PyData.eqv z d)) μ := fun F B H x y w r1 r2 Q q =>
  ⟨d, ds, (dp_mono w.1 r1).dp, (dp_mono w.1 r2).dp, h1, h2, q _ B H (Same.refl _) w (.bl _)⟩
theorem n_repr (hd : d = .list ds ∨ d = .tuple ds) (h1 : SeqAt.shaped d = true) (h2 : d.showable = true) (h3 : d.shown.length ≤ sizeLine) : OpN K (rRepr K) [.d d] μ (.s d.shown) μ := fun F B H xs w hx Q q => by
  match xs, hx with
  | [v], hx =>
    have hv : Dt K B v d := hx.1
    have : ∃ a, v = .ref a := by
      rcases hd with rfl | rfl <;> cases hv <;> exact ⟨_, rfl⟩
    obtain ⟨a, rfl⟩ := this
    exact ⟨a, d, rfl, (dp_mono w.1 hv).dp, h1, h2, h3, q _ B H (Same.refl _) w (.str _)⟩
theorem ixN_at {n k : Nat} (hk : k < n) : ixN n (k : Int) = some k := by
  unfold ixN
  rw [if_pos (by omega), if_pos (by omega)]
  simp
/-- an item of a tuple, of a list: data -/
theorem o_ixT {k : Nat} (h : ds[k]? = some d) : Op2 K (rIxT K) (.d (.tuple ds)) (.i (k : Int)) μ (.d d) μ := fun F B H x y w r1 r2 Q q => by
  have := h_i r2
  subst this
  cases (show Dt K B x (.tuple ds) from r1) with
  | @tup a vs _ h1 h0a h2 =>
    obtain ⟨v, hv, hd⟩ := dpa_get h2 h
    refine ⟨a, vs, (k : Int), v, rfl, rfl, seq_l w.1 h1, ?_, q _ B H (Same.refl _) w hd⟩
    unfold atI
    rw [ixN_at (List.getElem?_eq_some_iff.mp hv).1]
    exact hv
theorem o_ixL {k : Nat} (h : ds[k]? = some d) : Op2 K (rIxL K) (.d (.list ds)) (.i (k : Int)) μ (.d d) μ := fun F B H x y w r1 r2 Q q => by
  have := h_i r2
  subst this
  cases (show Dt K B x (.list ds) from r1) with
  | @lst a vs _ h1 h2 =>
    obtain ⟨v, hv, hd⟩ := dpa_get h2 h
    refine ⟨a, vs, (k : Int), v, rfl, rfl, w.1.seq h1, ?_, q _ B H (Same.refl _) w hd⟩
    unfold atI
    rw [ixN_at (List.getElem?_eq_some_iff.mp hv).1]
    exact hv
/-- an item of an owned list -/
theorem o_ixO {k : Nat} {l : Addr} {xs : List AV} (hl : μ l = some (.lst xs)) (h : xs[k]? = some R) : Op2 K (rIxL K) (.r l) (.i (k : Int)) μ R μ := fun F B H x y w r1 r2 Q q => by
  have := h_i r2
  have e1 : x = .ref l := r1
  subst this e1
  obtain ⟨_, _, u, hu, vs, rfl, hA⟩ := w.2.1 l _ hl
  obtain ⟨v, hv, hd⟩ := hA.get h
  refine ⟨l, vs, (k : Int), v, rfl, rfl, SqL.of hu, ?_, q _ B H (Same.refl _) w hd⟩
  unfold atI
  rw [ixN_at (List.getElem?_eq_some_iff.mp hv).1]
  exact hv
/-- tuple + tuple -/
theorem o_catU (hz : ds.length + es.length ≤ 100000) : Op2 K (rCatA K) (.d (.tuple ds)) (.d (.tuple es)) μ (.d (.tuple (ds ++ es))) μ := fun F B H x y w r1 r2 Q q => by
  cases (show Dt K B x (.tuple ds) from r1) with
  | @tup a vs _ h1 h0a h2 =>
    cases (show Dt K B y (.tuple es) from r2) with
    | @tup b ws _ k1 h0b k2 =>
      refine ⟨a, b, vs, ws, rfl, rfl, seq_l w.1 h1, seq_l w.1 k1, ?_, fun e => ?_, fun _ e => ?_, fun _ _ p hp => ?_⟩
      · rw [dpa_length h2, dpa_length k2]
        exact Nat.le_trans hz (by decide)
      · subst e
        cases h2
        exact q _ B H (Same.refl _) w (.tup k1 h0b k2)
      · subst e
        cases k2
        refine q _ B H (Same.refl _) w ?_
        rw [List.append_nil]
        exact .tup h1 h0a h2
      · obtain ⟨w3, e3, e4⟩ := w.new (o := .tup (vs ++ ws)) hp
        exact q _ _ _ e3 w3 (.tup (SqT.of e4) (fun _ => e4) (dpa_mono e3 (dpa_app h2 k2)))
end
/-- a list of one's own: tracked, so that + of lists takes it -/
def trkP (ds : List PyData) : Pr := ⟨fun K v B => ∃ a vs, v = .ref a ∧ B a = some (.lst vs) ∧ DtAll K B vs ds, fun e ⟨a, vs, h1, h2, h3⟩ => ⟨a, vs, h1, e _ _ h2, dpa_mono e h3⟩⟩
abbrev AV.t (ds : List PyData) : AV := .x (trkP ds)
section
variable {K : Fr} {ρ : AS} {μ μ1 μ2 μ3 : AM} {ta tb te tl : TE} {t u : TT} {R R1 R2 : AV} {d e : PyData} {ds es : List PyData} {i j : Int}
theorem ew_trk (h : EvW K te ρ μ (.t ds) μ1) : EvW K te ρ μ (.d (.list ds)) μ1 := fun F B H σ w sl Q q => h F B H σ w sl Q fun v B2 H2 e w2 hv => by
  obtain ⟨a, vs, rfl, h2, h3⟩ := hv
  exact q _ B2 H2 e w2 (.lst (SqL.of h2) h3)
theorem ew_lstT {ta : TA} (h : EvA K ta ρ μ (ds.map .d) μ1) (hz : ds.length ≤ 100000) : EvW K (tLst ta) ρ μ (.t ds) μ1 := fun F B H σ w sl Q q =>
  h F B H σ w sl _ fun vs B2 H2 e w2 hv => ⟨by rw [← hv.length, List.length_map]; exact Nat.le_trans hz (by decide), fun p hp => by
    obtain ⟨w3, e3, e4⟩ := w2.new (o := .lst vs) hp
    exact q _ _ _ (e.trans e3) w3 ⟨p, vs, rfl, e4, dpa_mono e3 (AllH.data hv)⟩⟩
theorem o_cat (hz : ds.length + es.length ≤ 100000) : Op2 K rCat (.t ds) (.t es) μ (.t (ds ++ es)) μ := fun F B H x y w r1 r2 Q q => by
  obtain ⟨a, vs, rfl, h2, h3⟩ := r1
  obtain ⟨b, ws, rfl, k2, k3⟩ := r2
  refine ⟨a, b, vs, ws, rfl, rfl, w.1 _ _ h2, w.1 _ _ k2, ?_, fun p hp => ?_⟩
  · rw [dpa_length h3, dpa_length k3]
    exact Nat.le_trans hz (by decide)
  · obtain ⟨w3, e3, e4⟩ := w.new (o := .lst (vs ++ ws)) hp
    exact q _ _ _ e3 w3 ⟨p, _, rfl, e4, dpa_mono e3 (dpa_app h3 k3)⟩

/-! ### built-in functions -/
theorem n_len : OpN K (fun xs H Q => ∃ p ys, xs = [.ref p] ∧ (SqL K H p ys ∨ SqT K H p ys) ∧ Q (.int ys.length) H) [.d (.tuple ds)] μ (.i ds.length) μ := fun F B H xs w hx Q q => by
  match xs, hx with
  | [v], hx =>
    cases (show Dt K B v (.tuple ds) from hx.1) with
    | @tup a vs _ h1 h0a h2 => exact ⟨a, vs, rfl, .inr (seq_l w.1 h1), q _ B H (Same.refl _) w (by rw [dpa_length h2]; exact .int _)⟩
theorem n_lenL : OpN K (fun xs H Q => ∃ p ys, xs = [.ref p] ∧ (SqL K H p ys ∨ SqT K H p ys) ∧ Q (.int ys.length) H) [.d (.list ds)] μ (.i ds.length) μ := fun F B H xs w hx Q q => by
  match xs, hx with
  | [v], hx =>
    cases (show Dt K B v (.list ds) from hx.1) with
    | @lst a vs _ h1 h2 => exact ⟨a, vs, rfl, .inl (w.1.seq h1), q _ B H (Same.refl _) w (by rw [dpa_length h2]; exact .int _)⟩
theorem n_lenO {l : Addr} {ys : List AV} (hl : μ l = some (.lst ys)) : OpN K (fun xs H Q => ∃ p ys, xs = [.ref p] ∧ (SqL K H p ys ∨ SqT K H p ys) ∧ Q (.int ys.length) H) [.r l] μ (.i ys.length) μ := fun F B H xs w hx Q q => by
  match xs, hx with
  | [v], hx =>
    have e1 : v = .ref l := hx.1
    subst e1
    obtain ⟨_, _, u, hu, vs, rfl, hA⟩ := w.2.1 l _ hl
    exact ⟨l, vs, rfl, .inl (SqL.of hu), q _ B H (Same.refl _) w (by rw [hA.length]; exact .int _)⟩
theorem n_max2 : OpN K (fun xs H Q => ∃ i j, xs = [.int i, .int j] ∧ Q (.int (if j > i then j else i)) H) [.i i, .i j] μ (.i (max i j)) μ := fun F B H xs w hx Q q => by
  match xs, hx with
  | [v, x], hx =>
    have e1 := h_i hx.1
    have e2 := h_i hx.2.1
    subst e1 e2
    refine ⟨i, j, rfl, ?_⟩
    have : (if j > i then j else i) = max i j := by split <;> omega
    rw [this]
    exact q _ B H (Same.refl _) w (.int _)
theorem n_min2 : OpN K (fun xs H Q => ∃ i j, xs = [.int i, .int j] ∧ Q (.int (if j < i then j else i)) H) [.i i, .i j] μ (.i (min i j)) μ := fun F B H xs w hx Q q => by
  match xs, hx with
  | [v, x], hx =>
    have e1 := h_i hx.1
    have e2 := h_i hx.2.1
    subst e1 e2
    refine ⟨i, j, rfl, ?_⟩
    have : (if j < i then j else i) = min i j := by split <;> omega
    rw [this]
    exact q _ B H (Same.refl _) w (.int _)
theorem n_intB {b : Bool} : OpN K (fun xs H Q => (∃ i, xs = [.int i] ∧ Q (.int i) H) ∨ ∃ k, xs = [.bl k] ∧ Q (.int (if k then 1 else 0)) H) [.b b] μ (.i (if b then 1 else 0)) μ := fun F B H xs w hx Q q => by
  match xs, hx with
  | [v], hx =>
    have e1 := h_b hx.1
    subst e1
    exact .inr ⟨b, rfl, q _ B H (Same.refl _) w (.int _)⟩
theorem n_tupL : OpN K (fun xs H Q => ∃ p ys, xs = [.ref p] ∧ ((SqL K H p ys ∧ ∀ l, H l = none → Q (.ref l) (upd H l (.tup ys))) ∨ (SqT K H p ys ∧ Q (.ref p) H))) [.d (.list ds)] μ (.d (.tuple ds)) μ := fun F B H xs w hx Q q => by
  match xs, hx with
  | [v], hx =>
    cases (show Dt K B v (.list ds) from hx.1) with
    | @lst a vs _ h1 h2 =>
      refine ⟨a, vs, rfl, .inl ⟨w.1.seq h1, fun p hp => ?_⟩⟩
      obtain ⟨w3, e3, e4⟩ := w.new (o := .tup vs) hp
      exact q _ _ _ e3 w3 (.tup (SqT.of e4) (fun _ => e4) (dpa_mono e3 h2))
/-- tuple(l), l owned -/
theorem n_tupO {l : Addr} (hl : μ l = some (.lst (ds.map .d))) : OpN K (fun xs H Q => ∃ p ys, xs = [.ref p] ∧ ((SqL K H p ys ∧ ∀ l, H l = none → Q (.ref l) (upd H l (.tup ys))) ∨ (SqT K H p ys ∧ Q (.ref p) H))) [.r l] μ (.d (.tuple ds)) μ := fun F B H xs w hx Q q => by
  match xs, hx with
  | [v], hx =>
    have e1 : v = .ref l := hx.1
    subst e1
    obtain ⟨_, _, u, hu, vs, rfl, hA⟩ := w.2.1 l _ hl
    refine ⟨l, vs, rfl, .inl ⟨SqL.of hu, fun p hp => ?_⟩⟩
    obtain ⟨w3, e3, e4⟩ := w.new (o := .tup vs) hp
    exact q _ _ _ e3 w3 (.tup (SqT.of e4) (fun _ => e4) (dpa_mono e3 (AllH.data hA)))
theorem n_all {bs : List Bool} : OpN K (rAll K) [.d (.list (bs.map .bool))] μ (.b (bs.all id)) μ := fun F B H xs w hx Q q => by
  match xs, hx with
  | [v], hx =>
    cases (show Dt K B v (.list (bs.map .bool)) from hx.1) with
    | @lst a vs _ h1 h2 =>
      have : ∀ (bs : List Bool) (vs : List V), DtAll K B vs (bs.map .bool) → vs = bs.map V.bl := by
        intro bs
        induction bs with
        | nil => intro vs h; cases h; rfl
        | cons b bs ih =>
          intro vs h
          cases h with
          | cons h1 h2 =>
            cases h1
            rw [ih _ h2]
            rfl
      have e := this bs vs h2
      subst e
      exact ⟨a, bs, rfl, w.1.seq h1, q _ B H (Same.refl _) w (.bl _)⟩

/-! ### slices -/
def EvO (K : Fr) (to : TO) (ρ : AS) (μ : AM) (o : Option Int) (μ' : AM) : Prop := ∀ F B H σ, Wd K F B μ H → Sl K B σ ρ → ∀ Q : Option Int → Hp → Prop, (∀ B2 H2, Same B B2 → Wd K F B2 μ' H2 → Q o H2) → to σ H Q
theorem eo_none : EvO K tNoPart ρ μ none μ := fun F B H σ w s Q q => q B H (Same.refl _) w
theorem eo_some (h : EvW K te ρ μ (.i i) μ1) : EvO K (tPart te) ρ μ (some i) μ1 := fun F B H σ w s Q q => h F B H σ w s _ fun v B2 H2 e w2 hv => ⟨i, h_i hv, q B2 H2 e w2⟩
theorem dpa_cut {B : Hp} {vs : List V} {ds : List PyData} {lo hi : Option Int} (h : DtAll K B vs ds) : DtAll K B (cutV vs lo hi) ((ds.drop (HT.sIx ds.length 0 lo)).take (HT.sIx ds.length ds.length hi - HT.sIx ds.length 0 lo)) := by
  unfold cutV
  rw [dpa_length h]
  exact dpa_take _ (dpa_drop _ h)
abbrev cutD (ds : List PyData) (lo hi : Option Int) : List PyData := (ds.drop (HT.sIx ds.length 0 lo)).take (HT.sIx ds.length ds.length hi - HT.sIx ds.length 0 lo)
theorem ew_slT {tlo thi : TO} {lo hi : Option Int} (h : EvW K te ρ μ (.d (.tuple ds)) μ1) (h1 : EvO K tlo ρ μ1 lo μ2) (h2 : EvO K thi ρ μ2 hi μ3) : EvW K (tSl (rSlA K) te tlo thi) ρ μ (.d (.tuple (cutD ds lo hi))) μ3 := fun F B H σ w s Q q =>
  h F B H σ w s _ fun v B1 H1 e1 w1 hv => h1 F B1 H1 σ w1 (s.mono e1) _ fun B2 H2 e2 w2 => h2 F B2 H2 σ w2 (s.mono (e1.trans e2)) _ fun B3 H3 e3 w3 => by
    cases (show Dt K B1 v (.tuple ds) from hv) with
    | @tup a vs _ k1 h0a k2 =>
      have k2' := dpa_mono (e2.trans e3) k2
      refine ⟨a, vs, rfl, seq_l w3.1 (seq_l (e2.trans e3) k1), fun hc => ?_, fun _ p hp => ?_⟩
      · have hcut : cutD ds lo hi = ds := by
          have el := dpa_length k2
          rw [el] at hc
          unfold cutD
          rw [hc.1, hc.2]
          simp
        rw [hcut] at q
        exact q _ B3 H3 ((e1.trans e2).trans e3) w3 (.tup (seq_l (e2.trans e3) k1) (fun q => (e2.trans e3) _ _ (h0a q)) k2')
      · obtain ⟨w4, e4, e5⟩ := w3.new (o := .tup (cutV vs lo hi)) hp
        exact q _ _ _ (((e1.trans e2).trans e3).trans e4) w4 (.tup (SqT.of e5) (fun _ => e5) (dpa_mono e4 (dpa_cut k2')))
end
end Lw

set_option Elab.async false
set_option linter.all false
set_option maxRecDepth 100000
set_option maxHeartbeats 2000000
namespace Lw
open PySem PySem.Spec PyProof.Rows L2

/-! ### a def's promise: from abstract arguments and owned objects, to whatever Post says -/
abbrev Spc := List AV → AM → (AV → AM → Prop) → Prop
def spP (K : Fr) (S : Spc) : Sp := fun vs H Q _ => ∃ F B μ As Post, Wd K F B μ H ∧ AllH K B As vs ∧ S As μ Post ∧ ∀ R μ' v B2 H2, Post R μ' → Same B B2 → Wd K F B2 μ' H2 → R.h K v B2 → Q v H2
def Sub (μ μ' : AM) : Prop := ∀ a o, μ a = some o → μ' a = some o
theorem Sub.refl (μ : AM) : Sub μ μ := fun _ _ e => e
theorem Sub.upd {μ : AM} {l : Addr} {o : AO} (h : μ l = none) : Sub μ (updM μ l o) := fun a u e => by
  have : a ≠ l := fun q => by rw [q, h] at e; cases e
  rw [updM_ne this]
  exact e
theorem Sub.trans {a b c : AM} (h : Sub a b) (k : Sub b c) : Sub a c := fun x o e => k x o (h x o e)
/-- what a body has to reach -/
def goal (Post : AV → AM → Prop) : Po := ⟨fun _ μ' => ∃ μ2, Post (.d .none) μ2 ∧ Sub μ2 μ', fun R μ' => ∃ μ2, Post R μ2 ∧ Sub μ2 μ', fun _ _ => False, fun _ _ => False⟩
abbrev begin0 (N : List Str) (As : List AV) : AS := As.map some ++ List.replicate (N.length - As.length) none
theorem sl_begin {K : Fr} {B : Hp} {N : List Str} {As : List AV} {vs : List V} (h : AllH K B As vs) : Sl K B (L2.start N vs) (begin0 N As) := by
  unfold L2.start begin0
  rw [← h.length]
  generalize N.length - As.length = n
  induction As generalizing vs with
  | nil =>
    cases vs with
    | nil =>
      induction n with
      | zero => trivial
      | succ n ih => exact ⟨fun R e => (nomatch e), ih⟩
    | cons v vs => exact h.elim
  | cons a as ih =>
    cases vs with
    | nil => exact h.elim
    | cons v vs => exact ⟨fun R e => ⟨v, rfl, by cases e; exact h.1⟩, ih h.2⟩
section
variable {P : Program} {w : World} {K : Fr} {mg : Str → Option Value} {base : Heap}
theorem fn_ok {x qual : Str} {st : Stmt} {f : Addr} {fd : FuncData} {N ps : List Str} {k : Nat} {S : Spc} (Fn : Fun K x qual st f fd) (Sc : FnScope N ps (defScope st)) (len : ∀ As μ Post, S As μ Post → As.length = ps.length)
    (body : ∀ (cdv : Value) (A : Around) (outer : List Env) (s : Shared) (H : Hp) (E : XK), Room k (A.deeper (envOfC qual (defScope st) s.heap.objs.size f cdv)) →
      ∃ t, PSs (cxOf CX0 P w K mg base N qual (defScope st) f cdv A outer s H E).nox (defBody st) t ∧ ∀ As μ Post, S As μ Post → StW K t (begin0 N As) μ (goal Post)) : FnOk P w K mg base CX0 (k + 1) f fd ps (spP K S) := by
  refine Fn.ok Sc (fun vs H Q E h => ?_) (fun cdv A outer s H vs Q E hr h => ?_)
  · obtain ⟨F, B, μ, As, Post, _, hA, hS, _⟩ := h
    exact hA.length.symm.trans (len _ _ _ hS)
  · obtain ⟨t, ht, hb⟩ := body cdv A outer s H E hr
    obtain ⟨F, B, μ, As, Post, w, hA, hS, q⟩ := h
    refine ⟨t, ht, hb As μ Post hS F _ B H _ w (sl_begin hA) ⟨?_, ?_, ?_, ?_⟩⟩
    · rintro ρ μ1 B2 H2 σ2 ⟨μ2, p, sb⟩ e w2 _
      exact q _ μ2 _ B2 H2 p e (w2.drop sb) .non
    · rintro R μ1 v B2 H2 ⟨μ2, p, sb⟩ e w2 hv
      exact q _ μ2 _ B2 H2 p e (w2.drop sb) hv
    · rintro _ _ _ _ _ ⟨⟩
    · rintro _ _ _ _ _ ⟨⟩
theorem FnOk.lift {k j : Nat} {f : Addr} {fd : FuncData} {ps : List Str} {sp : Sp} (F : FnOk P w K mg base CX0 k f fd ps sp) (h : k ≤ j) : FnOk P w K mg base CX0 j f fd ps sp := F.mono h
end
section
variable {K : Fr} {ρ : AS} {μ μ1 μ2 : AM} {R : AV} {S : Spc} {Rs : List AV} {E : XK} {ta : TA}
theorem n_call (h : S Rs μ (fun R' μ' => R' = R ∧ μ' = μ1)) : OpN K (fun xs H Q => spP K S (xs ++ []) H Q E) Rs μ R μ1 := fun F B H xs w hx Q q => by
  show spP K S (xs ++ []) H Q E
  rw [List.append_nil]
  refine ⟨F, B, μ, Rs, _, w, hx, h, ?_⟩
  rintro R' μ' v B2 H2 ⟨rfl, rfl⟩ e w2 hv
  exact q v B2 H2 e w2 hv
theorem ew_fn (h : EvA K ta ρ μ Rs μ1) (hS : S Rs μ1 (fun R' μ' => R' = R ∧ μ' = μ2)) : EvW K (tCall (spP K S) [] E ta) ρ μ R μ2 := ew_call h (n_call hS)
/-- x = f(..), whatever Post says of it -/
theorem s_asgC {i : Nat} {P : Po} {Post : AV → AM → Prop} (h : EvA K ta ρ μ Rs μ1) (hS : S Rs μ1 Post) (p : ∀ R μ', Post R μ' → P.nx (ρ.set i (some R)) μ') : StW K (tAsg (tCall (spP K S) [] E ta) (gName i)) ρ μ P := fun F D B H σ w sl r =>
  h F B H σ w sl _ fun vs B2 H2 e w2 hv => by
    rw [List.append_nil]
    refine ⟨F, B2, μ1, Rs, Post, w2, hv, hS, ?_⟩
    intro R μ' v B3 H3 hp e3 w3 h3
    exact r.nx _ _ B3 H3 _ (p R μ' hp) (e.trans e3) w3 (Sl.set h3 i (sl.mono (e.trans e3)))
theorem s_retC {P : Po} {Post : AV → AM → Prop} (h : EvA K ta ρ μ Rs μ1) (hS : S Rs μ1 Post) (p : ∀ R μ', Post R μ' → P.rt R μ') : StW K (tRet (tCall (spP K S) [] E ta)) ρ μ P := fun F D B H σ w sl r =>
  h F B H σ w sl _ fun vs B2 H2 e w2 hv => by
    rw [List.append_nil]
    refine ⟨F, B2, μ1, Rs, Post, w2, hv, hS, ?_⟩
    intro R μ' v B3 H3 hp e3 w3 h3
    exact r.rt _ _ _ B3 H3 (p R μ' hp) (e.trans e3) w3 h3
/-- return [..], the new list owned by the caller -/
theorem s_retOwn {P : Po} (h : EvA K ta ρ μ Rs μ1) (hz : Rs.length ≤ 100000) (p : ∀ l, μ1 l = none → P.rt (.r l) (updM μ1 l (.lst Rs))) : StW K (tRet (tLst ta)) ρ μ P := fun F D B H σ w sl r =>
  ew_lstR h hz F B H σ w sl _ fun l B2 H2 e hm w2 => r.rt _ _ _ B2 H2 (p l hm) e w2 rfl
/-- with a word between -/
theorem s_seqM {P : Po} {s1 s2 : TS} (M : AS → AM → Prop) (h : StW K s1 ρ μ { P with nx := M }) (k : ∀ ρ' μ', M ρ' μ' → StW K s2 ρ' μ' P) : StW K (tSeq s1 s2) ρ μ P :=
  s_seq (s_imp h (fun ρ μ m => k ρ μ m) (fun _ _ p => p) (fun _ _ p => p) (fun _ _ p => p))
theorem et_andF {t u : TT} (h1 : EvT K t ρ μ false μ1) : EvT K (tAnd t u) ρ μ false μ1 := et_is (et_and (b := false) h1 nofun) rfl
theorem et_andT {t u : TT} {b : Bool} (h1 : EvT K t ρ μ true μ1) (h2 : EvT K u ρ μ1 b μ1) : EvT K (tAnd t u) ρ μ b μ1 := et_is (et_and h1 fun _ => h2) (Bool.true_and b)
theorem et_orT {t u : TT} (h1 : EvT K t ρ μ true μ1) : EvT K (tOr t u) ρ μ true μ1 := et_is (et_or (b := false) h1 nofun) rfl
theorem et_orF {t u : TT} {b : Bool} {μ2 : AM} (h1 : EvT K t ρ μ false μ1) (h2 : EvT K u ρ μ1 b μ2) : EvT K (tOr t u) ρ μ b μ2 := fun F B H σ w s Q q => h1 F B H σ w s _ fun B1 H1 e1 w1 => h2 F B1 H1 σ w1 (s.mono e1) Q fun B2 H2 e2 w2 => q B2 H2 (e1.trans e2) w2
/-! ### by ints: written places -/
theorem o_ixOz {l : Addr} {xs : List AV} {j : Int} (hl : μ l = some (.lst xs)) (h : xs[j.toNat]? = some R) (hj : 0 ≤ j := by omega) : Op2 K (rIxL K) (.r l) (.i j) μ R μ := by
  obtain ⟨n, rfl⟩ := Int.eq_ofNat_of_zero_le hj
  exact o_ixO hl h
theorem o_ixTz {ds : List PyData} {d : PyData} {j : Int} (h : ds[j.toNat]? = some d) (hj : 0 ≤ j := by omega) : Op2 K (rIxT K) (.d (.tuple ds)) (.i j) μ (.d d) μ := by
  obtain ⟨n, rfl⟩ := Int.eq_ofNat_of_zero_le hj
  exact o_ixT h
theorem o_ixLz {ds : List PyData} {d : PyData} {j : Int} (h : ds[j.toNat]? = some d) (hj : 0 ≤ j := by omega) : Op2 K (rIxL K) (.d (.list ds)) (.i j) μ (.d d) μ := by
  obtain ⟨n, rfl⟩ := Int.eq_ofNat_of_zero_le hj
  exact o_ixL h
theorem o_powz {i j : Int} (h : CPowX i j) : Op2 K (rI CPowX fun i j => .int (i ^ j.toNat)) (.i i) (.i j) μ (.i (i ^ j.toNat)) μ := o_I (g := fun i j => i ^ j.toNat) h
theorem s_setLz {P : Po} {te to ti : TE} {l : Addr} {xs : List AV} {j : Int} {μ3 : AM} (h : EvW K te ρ μ R μ1) (ho : EvW K to ρ μ1 (.r l) μ2) (hi : EvW K ti ρ μ2 (.i j) μ3) (hl : μ3 l = some (.lst xs)) (hj : 0 ≤ j ∧ j.toNat < xs.length) (p : P.nx ρ (updM μ3 l (.lst (xs.set j.toNat R)))) :
    StW K (tAsg te (gSub to ti rSetL)) ρ μ P := by
  obtain ⟨n, rfl⟩ := Int.eq_ofNat_of_zero_le hj.1
  exact s_setL h ho hi hl hj.2 p
end
end Lw

set_option Elab.async false
set_option linter.all false
set_option maxRecDepth 100000
set_option maxHeartbeats 2000000
/-! sources as data -/
namespace Lw
open PySem PySem.Spec PyProof.Rows L2

inductive Src where
  | inp (k : Int)
  | lit (c : Int)
deriving DecidableEq
abbrev sIn : Str := "in"
abbrev sLit : Str := "lit"
def Src.d : Src → PyData
  | .inp k => .tuple [.str sIn, .int k]
  | .lit c => .tuple [.str sLit, .int c]
def srcsD (l : List Src) : List PyData := l.map Src.d
theorem srcsD_len (l : List Src) : (srcsD l).length = l.length := by unfold srcsD; simp
theorem srcsD_get {l : List Src} {i : Nat} {s : Src} (h : l[i]? = some s) : (srcsD l)[i]? = some s.d := by
  unfold srcsD
  rw [List.getElem?_map, h]
  rfl
theorem strOk_in : PyData.strOk sIn = true := by decide +kernel
theorem strOk_lit : PyData.strOk sLit = true := by decide +kernel
theorem in_ne_lit : (sIn == sLit) = false := by decide +kernel
theorem lit_ne_in : (sLit == sIn) = false := by decide +kernel
theorem lay_src : ∀ s : Src, s.d.canLay0 = true
  | .inp k => by simp [Src.d, PyData.canLay0, PyData.canLayAll0, strOk_in]
  | .lit k => by simp [Src.d, PyData.canLay0, PyData.canLayAll0, strOk_lit]
theorem depth_src : ∀ s : Src, s.d.depth = 1
  | .inp k => by simp [Src.d, PyData.depth, PyData.depthAll]
  | .lit k => by simp [Src.d, PyData.depth, PyData.depthAll]
theorem layAll_srcs : ∀ l : List Src, PyData.canLayAll0 (srcsD l) = true
  | [] => by simp [srcsD, PyData.canLayAll0]
  | s :: l => by
    have ih := layAll_srcs l
    unfold srcsD at ih ⊢
    simp only [List.map_cons, PyData.canLayAll0, lay_src, ih, Bool.and_self]
theorem depthAll_srcs : ∀ l : List Src, PyData.depthAll (srcsD l) ≤ 1
  | [] => by simp [srcsD, PyData.depthAll]
  | s :: l => by
    have ih := depthAll_srcs l
    unfold srcsD at ih ⊢
    simp only [List.map_cons, PyData.depthAll, depth_src]
    omega
theorem shaped_src (s : Src) : SeqAt.shaped s.d = true := by
  unfold SeqAt.shaped
  rw [lay_src, depth_src]
  rfl
theorem shaped_srcs (l : List Src) : SeqAt.shaped (.tuple (srcsD l)) = true := by
  unfold SeqAt.shaped
  have h := depthAll_srcs l
  simp only [PyData.canLay0, PyData.depth, layAll_srcs, Bool.true_and]
  exact decide_eq_true (show PyData.depthAll (srcsD l) + 1 ≤ 64 by omega)
theorem shaped_srcsL (l : List Src) : SeqAt.shaped (.list (srcsD l)) = true := by
  unfold SeqAt.shaped
  have h := depthAll_srcs l
  simp only [PyData.canLay0, PyData.depth, layAll_srcs, Bool.true_and]
  exact decide_eq_true (show PyData.depthAll (srcsD l) + 1 ≤ 64 by omega)
theorem str_beq (a : Str) : (a == a) = true := by simp
theorem eqv_src : ∀ a b : Src, PyData.eqv a.d b.d = decide (a = b)
  | .inp i, .inp j => by
    simp only [Src.d, PyData.eqv, PyData.eqvAll, str_beq, Bool.true_and, Bool.and_true, Src.inp.injEq]
    by_cases h : i = j <;> simp [h]
  | .lit i, .lit j => by
    simp only [Src.d, PyData.eqv, PyData.eqvAll, str_beq, Bool.true_and, Bool.and_true, Src.lit.injEq]
    by_cases h : i = j <;> simp [h]
  | .inp i, .lit j => by
    simp only [Src.d, PyData.eqv, PyData.eqvAll, in_ne_lit, Bool.false_and]
    rfl
  | .lit i, .inp j => by
    simp only [Src.d, PyData.eqv, PyData.eqvAll, lit_ne_in, Bool.false_and]
    rfl
theorem eqv_srcsAll : ∀ a b : List Src, PyData.eqvAll (srcsD a) (srcsD b) = decide (a = b)
  | [], [] => by simp [srcsD, PyData.eqvAll]
  | [], _ :: _ => by simp [srcsD, PyData.eqvAll]
  | _ :: _, [] => by simp [srcsD, PyData.eqvAll]
  | x :: a, y :: b => by
    have ih := eqv_srcsAll a b
    unfold srcsD at ih ⊢
    simp only [List.map_cons, PyData.eqvAll, eqv_src, ih, List.cons.injEq]
    by_cases h1 : x = y <;> by_cases h2 : a = b <;> simp [h1, h2]
theorem eqv_srcs (a b : List Src) : PyData.eqv (.tuple (srcsD a)) (.tuple (srcsD b)) = decide (a = b) := by
  simp only [PyData.eqv]
  exact eqv_srcsAll a b
theorem any_src (l : List Src) (s : Src) : ((srcsD l).any fun z => PyData.eqv z s.d) = decide (s ∈ l) := by
  induction l with
  | nil => simp [srcsD]
  | cons x l ih =>
    unfold srcsD at ih ⊢
    rw [List.map_cons, List.any_cons, ih, eqv_src]
    by_cases h1 : x = s <;> by_cases h2 : s ∈ l <;> simp [h1, h2, eq_comm]
    · exact fun h => h1 h.symm
theorem cut_from (ds : List PyData) {n : Nat} (h : n ≤ ds.length) : cutD ds (some (n : Int)) none = ds.drop n := by
  unfold cutD
  rw [HT.sIx_nat, HT.sIx_none, Nat.min_eq_left h]
  exact List.take_of_length_le (by simp)
theorem cut_to (ds : List PyData) {n : Nat} (h : n ≤ ds.length) : cutD ds none (some (n : Int)) = ds.take n := by
  unfold cutD
  rw [HT.sIx_nat, HT.sIx_none, Nat.min_eq_left h]
  simp
/-- the cut of taken and left -/
def cut : Int → List Src → Int × List Src
  | t, [] => (t, [])
  | t, s :: r => if s = .inp (t - 1) ∧ s ∉ r then cut (t - 1) r else (t, s :: r)
theorem cut_len : ∀ (t : Int) (l : List Src), (cut t l).2.length ≤ l.length
  | t, [] => Nat.le_refl _
  | t, s :: r => by
    unfold cut
    split
    · exact Nat.le_succ_of_le (cut_len (t - 1) r)
    · exact Nat.le_refl _
end Lw

set_option Elab.async false
set_option linter.all false
set_option maxRecDepth 100000
set_option maxHeartbeats 2000000
namespace Lw
open PySem PySem.Spec PyProof.Rows L2
section
variable {K : Fr} {ρ : AS} {μ μ1 μ2 μ3 : AM} {ta tb te tl : TE} {t u : TT} {R R1 R2 : AV} {d e : PyData} {ds es : List PyData} {i j : Int} {P : Po}
theorem jo_rngC {lo c : Int} {n : Nat} {B : Hp} : JOk K (Itc lo c n) ((List.range n).map fun (i : Nat) => .i (lo + (i : Int) * c)) B where
  go _ _ i _ _ h := by
    show i < n
    simpa using h
  stop _ _ _ _ := by show n ≤ _; simp
  yld F B2 H μ i a x H' e w ha y := by
    obtain ⟨e1, e2⟩ := y
    subst e1 e2
    have hlt : i < n := by
      have := (List.getElem?_eq_some_iff.mp ha).1
      simpa using this
    rw [List.getElem?_map, List.getElem?_range hlt] at ha
    have ea : a = .i (lo + (i : Nat) * c) := (Option.some.inj ha).symm
    subst ea
    exact ⟨B2, Same.refl _, w, .int _⟩
/-- range(a, b, -1) -/
theorem it_down {ta : TA} {m n : Int} (h : EvA K ta ρ μ [.i m, .i n, .i (-1)] μ1) (h1 : -(2 ^ 62) ≤ m ∧ m < 2 ^ 62 ∧ -(2 ^ 62) ≤ n ∧ n < 2 ^ 62) : ItW K (iRng3 ta) ρ μ ((List.range (m - n).toNat).map fun (i : Nat) => .i (m + (i : Int) * (-1))) μ1 := fun F B H σ w sl Rk q =>
  h F B H σ w sl _ fun vs B2 H2 e w2 hv => by
    match vs, hv with
    | [v, x, y], hv =>
      have := h_i hv.1
      have := h_i hv.2.1
      have := h_i hv.2.2.1
      subst_vars
      exact ⟨m, n, -1, (m - n).toNat, rfl, RgC.neg h1.1 h1.2.1 h1.2.2.1 h1.2.2.2, q _ B2 H2 e w2 jo_rngC⟩
/-- x, y = [], e : the new list owned -/
theorem s_parOwn {i j : Nat} {tr : TE} (h : ∀ l, μ l = none → EvW K tr ρ (updM μ l (.lst [])) R (updM μ1 l (.lst []))) (p : ∀ l, μ l = none → P.nx ((ρ.set i (some (.r l))).set j (some R)) (updM μ1 l (.lst []))) :
    StW K (tPar i j (tCons (tLst tNil) (tCons tr tNil))) ρ μ P := fun F D B H σ w sl r => by
  refine ⟨Nat.zero_le _, fun l hp => ?_⟩
  have hm : μ l = none := by
    cases q : μ l with
    | none => rfl
    | some o => obtain ⟨_, _, u, hu, _⟩ := w.2.1 l o q; rw [hu] at hp; cases hp
  have w2 : Wd K F B (updM μ l (.lst [])) (upd H l (.lst [])) := w.newM hp ⟨[], rfl, trivial⟩
  refine h l hm F B _ σ w2 sl _ fun v B3 H3 e3 w3 hv => ⟨_, _, rfl, ?_⟩
  exact r.nx _ _ B3 _ _ (p l hm) e3 w3 (Sl.set hv j (Sl.set (R := .r l) (v := .ref l) (show V.ref l = V.ref l from rfl) i (sl.mono e3)))
/-- x = y[::-1], both owned -/
theorem s_revOwn {i : Nat} {l : Addr} {xs : List AV} (h : EvW K te ρ μ (.r l) μ1) (hl : μ1 l = some (.lst xs)) (p : ∀ l2, μ1 l2 = none → P.nx (ρ.set i (some (.r l2))) (updM μ1 l2 (.lst xs.reverse))) : StW K (tAsg (tRevL K te) (gName i)) ρ μ P := fun F D B H σ w sl r =>
  h F B H σ w sl _ fun v B2 H2 e w2 hv => by
    have ev : v = .ref l := hv
    subst ev
    obtain ⟨_, _, u, hu, vs, rfl, hA⟩ := w2.2.1 l _ hl
    refine ⟨l, vs, rfl, SqL.of hu, fun p2 hp => ?_⟩
    have hm : μ1 p2 = none := by
      cases q : μ1 p2 with
      | none => rfl
      | some o => obtain ⟨_, _, u, hu, _⟩ := w2.2.1 p2 o q; rw [hu] at hp; cases hp
    have hr : ∀ {as : List AV} {vs : List V}, AllH K B2 as vs → AllH K B2 as.reverse vs.reverse := by
      intro as
      induction as with
      | nil => intro vs h; cases vs with
        | nil => trivial
        | cons _ _ => exact h.elim
      | cons a as ih => intro vs h; cases vs with
        | nil => exact h.elim
        | cons v vs =>
          rw [List.reverse_cons, List.reverse_cons]
          exact AllH.app (ih h.2) ⟨h.1, trivial⟩
    exact r.nx _ _ B2 _ _ (p p2 hm) e (w2.newM hp ⟨_, rfl, hr hA⟩) (Sl.set (R := .r p2) (v := .ref p2) (show V.ref p2 = V.ref p2 from rfl) i (sl.mono e))
theorem o_neg1 {i : Int} : Op1 K (rU fun i => .int (-i)) (.i i) μ (.i (-i)) μ := o_neg
theorem et_nil : EvT K (fun _ H Q => Q true H) ρ μ true μ := fun F B H σ w s Q q => q B H (Same.refl _) w
end
end Lw

set_option Elab.async false
set_option linter.all false
set_option maxRecDepth 100000
set_option maxHeartbeats 2000000
/-! the same promises where it is known that no repr is under way (A.guards = some []): what calls repr of lists wants it -/
namespace Lw
open PySem PySem.Spec PyProof.Rows L2
/-- a def's promise, called where no repr is under way -/
structure FnG (P : Program) (w : World) (K : Fr) (mg : Str → Option Value) (base : Heap) (k : Nat) (f : Addr) (fd : FuncData) (ps : List Str) (sp : Sp) : Prop where
  len : ∀ vs H Q E, sp vs H Q E → vs.length = ps.length
  run : ∀ (A : Around) (around : List Env) (st : Shared) (H : Hp) (args : Args) (us : List Value) (vs : List V) (Q : VK) (E : XK), A.guards = some [] → Room k A → Env0 P w K mg base A around st H → BindsTo st fd args (ps.zip us) → Vals vs us → sp vs H Q E →
    codeAny (model P w) A (.call (.ref f) args) (CR CX0 around P w H st Q E) st
section
variable {P : Program} {w : World} {K : Fr} {mg : Str → Option Value} {base : Heap}
theorem FnG.of {k : Nat} {f : Addr} {fd : FuncData} {ps : List Str} {sp : Sp} (F : FnOk P w K mg base CX0 k f fd ps sp) : FnG P w K mg base k f fd ps sp :=
  ⟨F.len, fun A around st H args us vs Q E _ hr e0 hb r h => F.run A around st H args us vs Q E hr e0 hb r h⟩
/-- a body that may use repr -/
theorem fnG_ok {x qual : Str} {stm : Stmt} {f : Addr} {fd : FuncData} {N ps : List Str} {k : Nat} {S : Spc} (Fn : Fun K x qual stm f fd) (Sc : FnScope N ps (defScope stm)) (len : ∀ As μ Post, S As μ Post → As.length = ps.length)
    (body : ∀ (cdv : Value) (A : Around) (outer : List Env) (s : Shared) (H : Hp) (E : XK), A.guards = some [] → Room k (A.deeper (envOfC qual (defScope stm) s.heap.objs.size f cdv)) →
      ∃ t, PSs (cxOf CX0 P w K mg base N qual (defScope stm) f cdv A outer s H E).nox (defBody stm) t ∧ ∀ As μ Post, S As μ Post → StW K t (begin0 N As) μ (goal Post)) : FnG P w K mg base (k + 1) f fd ps (spP K S) := by
  obtain ⟨oc, od, kV, doc, pm, an, cdv, ct, osl, rfl, lk, hcd⟩ := Fn.ex
  have L : ∀ vs H Q E, spP K S vs H Q E → vs.length = ps.length := by
    rintro vs H Q E ⟨F, B, μ, As, Post, _, hA, hS, _⟩
    exact hA.length.symm.trans (len _ _ _ hS)
  refine ⟨L, fun A around st H args us vs Q E hg room e0 bnd rv want => ?_⟩
  have inK : K.In st.heap := e0.mod.kin.keeps (fun b o e => (e0.bs b o e).1)
  have free : st.heap.NoLimit := e0.mod.nolimit.keeps (fun b o e => (e0.bs b o e).1)
  have kinds : ∀ y ∈ ps.zip us, (defScope stm).names.lookup y.1 = some .local ∨ ((defScope stm).names.lookup y.1 = some .cell ∧ ((cellsFrom (st.heap.objs.size + 1) (defScope stm).names []).lookup y.1).isSome = true) := by
    rintro ⟨n, v⟩ hy
    cases Sc.par n (List.of_mem_zip hy).1 with
    | inl q => exact .inl q
    | inr q => exact .inr ⟨q, PySem.W.cellsFrom_some _ _ _ (.inl q)⟩
  obtain ⟨t, ht, hb⟩ := body cdv A around st H E hg (room.deeper _)
  obtain ⟨F, B, μ, As, Post, wd, hA, hS, q⟩ := want
  have want' : t { nx := fun _ H' => Q .non H', rt := Q } (L2.start N vs) H := by
    refine hb As μ Post hS F _ B H _ wd (sl_begin hA) ⟨?_, ?_, ?_, ?_⟩
    · rintro ρ μ1 B2 H2 σ2 ⟨μ2, p, sb⟩ e w2 _
      exact q _ μ2 _ B2 H2 p e (w2.drop sb) .non
    · rintro R μ1 v B2 H2 ⟨μ2, p, sb⟩ e w2 hv
      exact q _ μ2 _ B2 H2 p e (w2.drop sb) hv
    · rintro _ _ _ _ _ ⟨⟩
    · rintro _ _ _ _ _ ⟨⟩
  have hl : vs.length = ps.length := hA.length.symm.trans (len _ _ _ hS)
  refine codeAny_call_function room.depth (inK _ _ lk) rfl Sc.co Sc.gen rfl (PySem.W.codeRec_of inK hcd) (bnd _ _ _ _ (wpAny_newFunctionEnv_cells Sc.kind kinds ?_))
  intro env he s1 entry
  subst he
  refine ⟨free.keeps entry.toInCall.keep, codeAny_func ?_⟩
  have I := inv_start (CX := CX0) (P := P) (w := w) (E := E) (N := N) Sc room.hd e0 hl rv entry
  refine wpAny_mono (ht.nox.run [] s1 (L2.start N vs) H _ I want') ?_ (fun e s' hs => hs)
  rintro fl s' hs
  cases fl with
  | ret u => exact let ⟨v, σ', H', J, rv', q'⟩ := hs; ⟨v, H', J.os, J.bare, J.base, J.hok, rv', q'⟩
  | next => exact let ⟨σ', H', J, q'⟩ := hs; ⟨.non, H', J.os, J.bare, J.base, J.hok, rfl, q'⟩
  | brk => exact (let ⟨_, _, _, q'⟩ := hs; q' : False).elim
  | cont => exact (let ⟨_, _, _, q'⟩ := hs; q' : False).elim
end
section
variable {X : Cx} {k : Nat} {f : Addr} {fd : FuncData} {ps : List Str} {sp : Sp} {E : XK} {x : Str} {p pos : Pos} {e : Expr} {es : List Expr} {t : TA}
/-- f(e, ..) of such a def -/
theorem pe_callG (F : FnG X.prog X.w X.K X.mg X.base k f fd ps sp) (hg : X.A.guards = some []) (hr : Room k X.A) (gl : Gl X x) (hm : X.mg x = some (.ref f)) (hk : PySem.W.keepIn X.K (.ref f) = true) (hb : L2.Binds X.K fd ps []) (hx : Passes CX0 X E)
    (ha : PA X (e :: es) t) (hdb : (x == ("__debug__" : Str)) = false := by decide) (he : starEach (e :: es) X.env = (false, eval e X.env) :: starEach es X.env := by rfl) (hpl : (backTo pos (starEach es X.env)).any (·.1) = false := by rfl) :
    PE X (.Call (.Name x p) (e :: es) [] pos) (tCall sp [] E t) := by
  constructor
  intro pins s σ H Q I want
  refine wpAny_Call_Name_kw (ld_glob I gl hm ?_ hdb)
  refine PySem.W.callWith_K (h₀ := X.base) I.ok.mod.kin hk (thn (ha.run pos pins s σ H _ I want) ?_) he hpl
  rintro us s1 ⟨vs, H1, I1, r, q⟩
  refine ⟨I1.kIn, ?_⟩
  rw [List.append_nil] at q
  have hl : (us ++ []).length = ps.length := by
    rw [List.append_nil, ← r.length]
    exact F.len _ _ _ _ q
  have bnd := hb s1 us I1.kIn hl
  rw [List.append_nil] at bnd
  refine wpAny_call (codeAny_mono (F.run X.A X.stack s1 H1 ⟨us, []⟩ us vs Q E hg hr I1.env0 bnd r q) ?_)
  rintro res s' hq
  cases res with
  | error e => exact hx pins σ H1 s1 e s' I1 hq
  | ok fl =>
    cases fl with
    | ret u => exact I1.after hq
    | next => exact hq.elim
    | brk => exact hq.elim
    | cont => exact hq.elim
end
end Lw

set_option Elab.async false
set_option linter.all false
set_option maxRecDepth 100000
set_option maxHeartbeats 2000000
/-! the end: the law's own promise, at the heap behind the top -/
namespace Lw
open PySem PySem.Spec PyProof.Rows L2
/-- law(script) gives True -/
def SLaw (n : Nat) : Spc := fun As μ Post => ∃ ns : List Int, As = [.d (.list (ns.map .int))] ∧ ns.length ≤ n ∧ Post (.b true) μ
theorem dta_ints {K : Fr} {H : Hp} : ∀ ns : List Int, DtAll K H (ns.map V.int) (ns.map PyData.int)
  | [] => .nil
  | n :: ns => .cons (.int n) (dta_ints ns)
theorem sp_law {K : Fr} {H : Hp} {a : Addr} {ns : List Int} {n : Nat} (hs : SqL K H a (ns.map V.int)) (hn : ns.length ≤ n) : spP K (SLaw n) [.ref a] H (fun v _ => v = .bl true) E0 := by
  refine ⟨fun _ => none, H, M0, [.d (.list (ns.map .int))], fun R _ => R = .b true, ⟨Same.refl _, fun _ _ e => (nomatch e), fun _ _ e => (nomatch e)⟩, ⟨.lst hs (dta_ints ns), trivial⟩, ⟨ns, rfl, hn, rfl⟩, ?_⟩
  rintro R μ' v B2 H2 rfl _ _ hv
  exact h_b hv
theorem top_call {P : Program} {w : World} {K : Fr} {mg mb : Str → Option Value} {k n : Nat} {fa a : Addr} {fd : FuncData} {x : Str} {st : Shared} {items : List Value} {ns : List Int}
    (inK : K.In st.heap) (glob : st.heap.Ns mainGlobals mg) (blt : st.heap.Ns builtinsNs mb) (blt2 : ∀ y : Str, y ≠ "__name__" → mb y = bootBuiltins y) (lim : st.heap.NoLimit) (gens : st.gens = #[])
    (script : st.heap.get? a = some { cls := .type "list", data := .seq items.toArray }) (allInt : IntsAre items ns) (short : ns.length ≤ n) (small : n ≤ sizeLine) (room : Room k callerA)
    (F : ∀ base : Heap, K.In base → base.Ns mainGlobals mg → FnG P w K mg base k fa fd [x] (spP K (SLaw n))) (bnd : ∀ (s : Shared) (u : Value), BindsTo s fd ⟨[u], []⟩ [(x, u)]) :
    codeAny (model P w) callerA (.call (.ref fa) ⟨[.ref a], []⟩) (fun r s' => r = .ok (.ret (.bool true)) ∧ OldK st.heap s'.heap ∧ s'.os = st.os ∧ AllBare s'.gens) st := by
  have vals := vals_ints allInt
  have size := allInt.length
  have nil : ∀ (b : Addr), ¬ b ∈ ([] : List Addr) := fun b h => nomatch h
  -- H: what is tracked, at most the script; it is locked
  have main : ∀ H : Hp, (∀ b u, H b = some u → b = a ∧ ∃ o ys, u = .frz o (.lst ys)) → SqL K H a (ns.map V.int) → HOk P w H st.heap → (∀ o, K.lookup a = some o → H a = none) →
      codeAny (model P w) callerA (.call (.ref fa) ⟨[.ref a], []⟩) (fun r s' => r = .ok (.ret (.bool true)) ∧ OldK st.heap s'.heap ∧ s'.os = st.os ∧ AllBare s'.gens) st := by
    intro H only hS ok off
    have offK : ∀ b o, K.lookup b = some o → H b = none := fun b o e => by
      cases q : H b with
      | none => rfl
      | some u =>
        obtain ⟨rfl, _⟩ := only b u q
        rw [off o e] at q
        cases q
    have offD : ∀ b (o : Obj) es ep, st.heap.get? b = some o → o.data = .dict es ep → H b = none := fun b o es ep e d => by
      cases q : H b with
      | none => rfl
      | some u =>
        obtain ⟨rfl, _⟩ := only b u q
        rw [script] at e
        cases e
        cases (show Data.seq items.toArray _ = Data.dict es ep from d)
    have ns_of : ∀ {b : Addr} {m : Str → Option Value}, st.heap.Ns b m → (hidT st.heap H).Ns b m := by
      rintro b m ⟨o, es, ep, e, d, r⟩
      exact ⟨o, es, ep, hidT_get e (offD b o es ep e d), d, r⟩
    have inB : K.In (hidT st.heap H) := fun b o e => hidT_get (inK b o e) (offK b o e)
    obtain ⟨mc, l1, l2⟩ := lim
    have e0 : Env0 P w K mg (hidT st.heap H) callerA [] st H :=
      { frames := rfl, mod := ⟨inB, ns_of glob, ⟨mb, ns_of blt, blt2⟩, ⟨mc, ns_of l1, l2⟩⟩, bs := fun b o e => of_hidT e, bsz := Nat.le_of_eq (hidT_size _ _), funs := trivial, frf := fun b h => (nil b h).elim, hok := ok, bare := .of_eq gens }
    refine codeAny_mono ((F _ inB (ns_of glob)).run callerA [] st H ⟨[.ref a], []⟩ [.ref a] [.ref a] (fun v _ => v = .bl true) E0 rfl room e0 (bnd st (.ref a)) (.cons rfl .nil) (sp_law hS short)) ?_
    rintro r s' out
    cases r with
    | error e => exact (out : False).elim
    | ok fl =>
      cases fl with
      | next => exact (out : False).elim
      | brk => exact (out : False).elim
      | cont => exact (out : False).elim
      | ret u =>
        obtain ⟨v, H', os, bare, un, ok', rv, ev⟩ := out
        have ev' : v = .bl true := ev
        subst ev'
        have eu : u = .bool true := rv
        subst eu
        refine ⟨rfl, OldK.of_keep ?_, os, bare⟩
        intro b o e
        cases q : H b with
        | none => exact un.keep b o e q (fun z => (nil b z).elim) (fun z => (nil b z).elim)
        | some u =>
          obtain ⟨rfl, ob, ys, rfl⟩ := only b u q
          have o1 := (ok b _ q).1
          have o2 := (ok' b _ (un.frzs b ob _ q)).1
          rw [e] at o1
          cases o1
          exact o2
  cases hk : K.lookup a with
  | some o =>
    have e := inK a o hk
    rw [script] at e
    cases e
    exact main (fun _ => none) (fun b u e => (nomatch e)) (.inr ⟨_, items.toArray, _, hk, rfl, rfl, rfl, by rw [List.size_toArray, size]; exact Nat.le_trans short small, by simpa using vals⟩) (fun b u e => (nomatch e)) (fun _ _ => rfl)
  | none =>
    have at_a : ∀ b (u : HO), (fun b => if b = a then some (HO.frz { cls := .type "list", data := .seq items.toArray } (.lst (ns.map V.int))) else none) b = some u → b = a ∧ u = .frz { cls := .type "list", data := .seq items.toArray } (.lst (ns.map V.int)) := fun b u e => by
      by_cases h : b = a
      · have e' := (if_pos h).symm.trans e
        exact ⟨h, (Option.some.inj e').symm⟩
      · cases (if_neg h).symm.trans e
    refine main _ (fun b u e => ⟨(at_a b u e).1, _, _, (at_a b u e).2⟩) (.inl (.inr ⟨{ cls := .type "list", data := .seq items.toArray }, if_pos rfl⟩)) (fun b u e => ?_) (fun o e => by rw [hk] at e; cases e)
    obtain ⟨rfl, rfl⟩ := at_a b u e
    exact ⟨script, by rw [List.length_map]; exact Nat.le_trans short small, items, _, vals, script⟩
/-- the goal that the head leaves -/
theorem walkG {l : PySem.W.OpenLaw} {n k : Nat} {q : Program} {loose : List Str} {XP : (Str → Option Value) → Heap → Prop} {YP : World → Heap → Prop} {d : DefRec} {K : Params → Fr} {x : Str}
    (most : l.most = some n) (small : n ≤ sizeLine) (dflt : d.params.defaults = []) (room : Room k callerA) (inK : ∀ (w : World) (h : Heap), YP w h → (K w.params).In h)
    (F : ∀ (w : World) (mg : Str → Option Value) (fa : Addr) (h : Heap), (K w.params).In h → h.Ns mainGlobals mg → mg d.name = some (.ref fa) →
      ∃ fd : FuncData, (∀ (s : Shared) (u : Value), BindsTo s fd ⟨[u], []⟩ [(x, u)]) ∧ ∀ base : Heap, (K w.params).In base → base.Ns mainGlobals mg → FnG l.prog w (K w.params) mg base k fa fd [x] (spP (K w.params) (SLaw n))) :
    PySem.W.WalkO q loose XP YP l.row.toRowW d [] (fun f vs => PySem.call f vs) := by
  refine Att.attach_call most dflt ?_
  intro w s0 s1 mg mb fa o pm cd doc a vs ns G Y _ _ _ hmg obj allInt short gens
  obtain ⟨fd, bnd, hF⟩ := F w mg fa _ (inK w _ Y) G.T.g hmg
  exact top_call (inK w _ Y) G.T.g G.T.b G.T.builtins G.T.nolimit gens obj allInt short small room hF bnd
end Lw

set_option Elab.async false
set_option linter.all false
set_option maxRecDepth 100000
set_option maxHeartbeats 2000000
/-! own classes: ==, != and len of their instances, their attributes as targets -/
namespace Lw
open PySem PySem.Spec PyProof.Rows L2
section
variable {X : Cx} {C g : Addr} {n : Nat} {fd : FuncData} {ps : List Str} {sp : Sp}
theorem cmp_back {P : Value → Shared → Prop} {z : V} {v : Value} {s' : Shared} (r : RelV z v) (h : P v s') : PySem.W.CmpBack P v s' := by
  cases v <;> first | exact h | skip
  cases z with
  | bl b => cases (show Value.notImplemented = Value.bool b from r)
  | non => cases (show Value.notImplemented = Value.none from r)
  | int i => obtain ⟨t, q⟩ := (show ∃ t, Value.notImplemented = Value.int i t from r); cases q
  | str y => obtain ⟨t, q⟩ := (show ∃ t, Value.notImplemented = Value.str y t from r); cases q
  | byt y => obtain ⟨t, q⟩ := (show ∃ t, Value.notImplemented = Value.bytes y t from r); cases q
  | flt y => obtain ⟨t, q⟩ := (show ∃ t, Value.notImplemented = Value.float y t from r); cases q
  | ref a => cases (show Value.notImplemented = Value.ref a from r)
  | ty T => cases (show Value.notImplemented = Value.type T from r)
/-- x op y, x an instance of the class at C, whose def for op is at g; y of the kind tb, no class below C -/
def rOwnA (K : Fr) (C : Addr) (sp : Sp) : R2 := fun x y H Q => ∃ a dx fs tb, x = .ref a ∧ H a = some (.ins C dx fs) ∧ TyX K H y tb ∧ PySem.W.notFirst K C tb = true ∧ sp [x, y] H Q E0
theorem run_own {us : List Value} {vs : List V} {pins : List (Addr × Obj)} {σ : L2.St} {H : Hp} {s : Shared} {Q : VK} {A : Around} (F : FnOk X.prog X.w X.K X.mg X.base CX0 n g fd ps sp) (hb : L2.Binds X.K fd ps []) (hr : Room n A) (e0 : Env0 X.prog X.w X.K X.mg X.base A X.stack s H)
    (I : Inv X pins σ H s) (r : Vals vs us) (h : sp vs H Q E0) : codeAny (model X.prog X.w) A (.call (.ref g) ⟨us, []⟩) (fun r s' => match r with | .ok (.ret v) => EP X pins σ Q v s' | .ok _ => False | .error e => False) s := by
  have hl : (us ++ []).length = ps.length := by
    rw [List.append_nil, ← r.length]
    exact F.len _ _ _ _ h
  have bnd := hb s us I.kIn hl
  rw [List.append_nil] at bnd
  refine codeAny_mono (F.run A X.stack s H ⟨us, []⟩ us vs Q E0 hr e0 bnd r h) ?_
  rintro res s' hq
  cases res with
  | error e => exact hq
  | ok fl =>
    cases fl with
    | ret u => exact I.after hq
    | next => exact hq
    | brk => exact hq
    | cont => exact hq
theorem op_ownA {op : CmpOp} (hop : ∀ a b, compareOp op a b = richCompare op a b) (hs : PySem.W.findIn X.K (.ref C) (cmpInfo op).2.1 = some (some (.ref g))) (hf : PySem.W.isFn X.K (.ref g) = true)
    (F : FnOk X.prog X.w X.K X.mg X.base CX0 n g fd ps sp) (hb : L2.Binds X.K fd ps []) (hr : Room n X.A) : OpR X (compareOp op) (rOwnA X.K C sp) := fun pins s σ H x y v u Q I rx ry h => by
  obtain ⟨a, dx, fs, tb, rfl, ha, ty, hn, q⟩ := h
  cases (show v = Value.ref a from rx)
  obtain ⟨mA, O, _⟩ := ins_get I.hok ha
  obtain ⟨od, J, _⟩ := O.look
  obtain ⟨P, Z, p, _⟩ := kit_of I ry ty
  obtain ⟨m, hF⟩ := I.fr
  rw [hop]
  refine PySem.W.cmp_K (op := op) (tb := tb) hr.units0 hF I.ok.mod.kin J (Z.ty _ _ I.kIn p) hn hs hf ?_
  refine wpAny_call (codeAny_mono (run_own (vs := [.ref a, y]) F hb hr I.env0 I (.cons rfl (.cons ry .nil)) q) ?_)
  rintro res s' hq
  cases res with
  | error e => exact hq.elim
  | ok fl =>
    cases fl with
    | ret w =>
      obtain ⟨z', H', I', rz, qz⟩ := hq
      exact cmp_back rz ⟨z', H', I', rz, qz⟩
    | next => exact hq.elim
    | brk => exact hq.elim
    | cont => exact hq.elim
/-- len(x) of such an instance -/
theorem call_lenOwn (hs : PySem.W.findIn X.K (.ref C) "__len__" = some (some (.ref g))) (hf : PySem.W.isFn X.K (.ref g) = true) (F : FnOk X.prog X.w X.K X.mg X.base CX0 n g fd ps sp) (hb : L2.Binds X.K fd ps []) (hr : Room (n + 1) X.A) :
    CallR X (.builtin "len") (fun xs H Q => ∃ a dx fs, xs = [.ref a] ∧ H a = some (.ins C dx fs) ∧ sp [.ref a] H (fun v H' => ∃ i, v = .int i ∧ 0 ≤ i ∧ i < 2 ^ 63 ∧ Q v H') E0) := fun pins s σ H xs us Q I r h => by
  obtain ⟨a, dx, fs, rfl, ha, q⟩ := h
  obtain ⟨u, rfl, ru⟩ := vals1 r
  cases (show u = Value.ref a from ru)
  obtain ⟨mA, O, _⟩ := ins_get I.hok ha
  obtain ⟨od, J, _⟩ := O.look
  obtain ⟨m, hF⟩ := I.fr
  refine PySem.W.len_K hF I.ok.mod.kin J hs hf ?_
  refine wpAny_call (codeAny_mono (run_own (vs := [.ref a]) (A := X.A.in1) F hb hr.in1 I.env0.in1 I (.cons rfl .nil) q) ?_)
  rintro res s' hq
  cases res with
  | error e => exact hq.elim
  | ok fl =>
    cases fl with
    | ret w =>
      obtain ⟨z', H', I', rz, i, rfl, h0, h1, qz⟩ := hq
      obtain ⟨t, rfl⟩ := rz
      exact ⟨⟨h0, h1⟩, .int i, H', I'.tok _, ⟨_, rfl⟩, qz⟩
    | next => exact hq.elim
    | brk => exact hq.elim
    | cont => exact hq.elim
/-! x != y by __eq__: object.__ne__ -/
theorem if_bound {K : Fr} {M : Model} {A : Around} {E : Value → Shared → Prop} {s : Shared} {a D : Addr} {ox : Obj} {od : Option Obj} {name : Str} {id : String} {args : List Value} {Q : Option Value → Shared → Prop} (S : PySem.Slot "object" name id) (inK : K.In s.heap) (J : PySem.W.InstAt s.heap a ox D od)
    (hs : PySem.W.findIn K (.ref D) name = some (some (.builtin id))) (h : wpAny M A (call (.builtin id) (.ref a :: args)) (fun v => Q (some v)) E s) : wpAny M A (callSpecialIfBound? (.ref a) name args) Q E s := by
  simp only [callSpecialIfBound?, bindSpecialIfBound?]
  refine wpAny_holding (wpAny_bind (wpAny_bind (wpAny_bind (J.type.here ((PySem.W.looks_findIn inK hs).here ?_)))))
  simp only [S.bind]
  refine wpAny_bind (wpAny_askSetting (wpAny_ite ?_))
  have last : wpAny M A (call (.builtin id) ([.ref a] ++ args) >>= fun v => pure (some v)) Q E s := wpAny_bind (wpAny_mono h (fun v s' h' => wpAny_pure h') (fun _ _ h' => h'))
  split
  · exact wpAny_bind (wpAny_pure (wpAny_pure last))
  · exact wpAny_tryCatch (wpAny_bind (wpAny_pure (wpAny_pure last)))
/-- x != y, x an instance of the class at C with __eq__ at g and without __ne__; sp's answer is a truth -/
def rNeA (K : Fr) (C : Addr) (sp : Sp) : R2 := fun x y H Q => ∃ a dx fs tb, x = .ref a ∧ H a = some (.ins C dx fs) ∧ TyX K H y tb ∧ PySem.W.notFirst K C tb = true ∧ sp [x, y] H (fun v H' => ∃ b, v = .bl b ∧ Q (.bl (!b)) H') E0
theorem op_neOwn (hs : PySem.W.findIn X.K (.ref C) "__ne__" = some (some (.builtin "object.__ne__"))) (hobj : PySem.W.subIn X.K (.ref C) (.type "object") = some true) (he : PySem.W.findIn X.K (.ref C) "__eq__" = some (some (.ref g))) (hf : PySem.W.isFn X.K (.ref g) = true)
    (F : FnOk X.prog X.w X.K X.mg X.base CX0 n g fd ps sp) (hb : L2.Binds X.K fd ps []) (hr : Room (n + 1) X.A) : OpR X (compareOp .NotEq) (rNeA X.K C sp) := fun pins s σ H x y v u Q I rx ry h => by
  obtain ⟨a, dx, fs, tb, rfl, ha, ty, hn, q⟩ := h
  cases (show v = Value.ref a from rx)
  obtain ⟨mA, O, _⟩ := ins_get I.hok ha
  obtain ⟨od, J, _⟩ := O.look
  obtain ⟨P, Z, p, _⟩ := kit_of I ry ty
  have hu : X.A.units < cLine := hr.units0
  have one : wpAny (model X.prog X.w) X.A (tryCompare (.ref a) "__ne__" u) (fun r s' => ∃ v, r = some v ∧ EP X pins σ Q v s') X.xe s := by
    unfold tryCompare
    refine wpAny_bind (if_bound PySem.F.cmp_object.ne I.kIn J hs ?_)
    refine wpAny_call (codeAny_call_builtin PySem.F.cmp_object.ne.plain PySem.F.cmpEntry_ne (PySem.W.check_slot PySem.F.cmpKind_ne PySem.F.cmpSplit_ne (J.type.andThen (PySem.W.looks_subIn I.kIn hobj)) (PySem.F.cmpArgs_ne _ _) ?_))
    have asked : wpAny (model X.prog X.w) X.A.in1 (call (.ref g) [.ref a, u]) (fun r s' => ∃ b, r = .bool b ∧ EP X pins σ Q (.bool (!b)) s') X.xe s := by
      refine wpAny_call (codeAny_mono (run_own (vs := [.ref a, y]) (A := X.A.in1) F hb hr.in1 I.env0.in1 I (.cons rfl (.cons ry .nil)) q) ?_)
      rintro res s' hq
      cases res with
      | error e => exact hq.elim
      | ok fl =>
        cases fl with
        | ret w =>
          obtain ⟨z', H', I', rz, b, rfl, qz⟩ := hq
          cases (show w = Value.bool b from rz)
          exact ⟨b, rfl, .bl (!b), H', I', rfl, qz⟩
        | next => exact hq.elim
        | brk => exact hq.elim
        | cont => exact hq.elim
    have hu1 : X.A.in1.units < cLine := hr.in1.units0
    unfold Builtin.«object.__ne__»
    repeat (first
      | with_reducible refine wpAny_cRoomFor hu1 ?_
      | (refine wpAny_bind (m := callSpecialIfBound? (.ref a) (Str.ofString "__eq__") [u]) (PySem.W.ifBound_K I.kIn J he hf (wpAny_mono asked (fun r s' hr => by
          obtain ⟨b, rfl, hq⟩ := hr
          repeat (first | exact ⟨_, rfl, hq⟩ | exact wpAny_pure hq | exact wpAny_truthy_bool hq | (refine wpAny_bind (m := truthy (.bool _)) (wpAny_truthy_bool ?_)) | wp_step)) fun _ _ e => e)))
      | wp_step)
  show wpAny _ _ (richCompare .NotEq (.ref a) u) _ _ s
  unfold richCompare
  simp only [oneThing_ref]
  refine wpAny_holding (wpAny_bind (wpAny_cRoomFor hu ?_))
  rw [cmpInfo_NotEq]
  dsimp only
  refine wpAny_bind (J.type.here (wpAny_bind ((Z.ty _ _ I.kIn p).here ?_)))
  split
  · rename_i other
    have below : PySem.W.subIn X.K tb (.ref C) = some false := by
      cases Bool.or_eq_true_iff.mp hn with
      | inl e => rw [beq_iff_eq.mp e] at other; simp at other
      | inr e => exact beq_iff_eq.mp e
    refine wpAny_bind ((PySem.W.looks_subIn I.kIn below).here ?_)
    simp only [Bool.false_eq_true, if_false]
    refine wpAny_bind (wpAny_mono one ?_ (fun _ _ e => e))
    rintro r s' ⟨v, rfl, hq⟩
    exact wpAny_pure hq
  · refine wpAny_bind (wpAny_pure ?_)
    simp only [Bool.false_eq_true, if_false]
    refine wpAny_bind (wpAny_mono one ?_ (fun _ _ e => e))
    rintro r s' ⟨v, rfl, hq⟩
    exact wpAny_pure hq
/-- o.f = v, as a target -/
def gAttr (K : Fr) (to : TE) (f : Str) : TG := fun v σ H Q => to σ H fun x H1 => ∃ a C dx fs, x = .ref a ∧ H1 a = some (.ins C dx fs) ∧ Cls K C ∧ NoAttr K C f ∧ fs.length < 1000 ∧ Q σ (upd H1 a (.ins C dx (putF f v fs)))
theorem pg_attr {o : Expr} {to : TE} {f : Str} {pos : Pos} (ho : PE X o to) : PG X (.Attribute o f pos) (gAttr X.K to f) := by
  constructor
  intro pins s σ H v u Q I r h
  rw [assign_Attribute]
  refine wpAny_bind (wpAny_holding (thn (ho.run pins s σ H _ I h) ?_))
  rintro ov s1 ⟨x, H1, I1, rx, a, D, dx, fs, rfl, ha, c, nf, hl, q⟩
  cases (show ov = Value.ref a from rx)
  refine wpAny_bind (wpAny_standAt (wpAny_bind (wpAny_holding (setattr_ok I1 ha c nf hl r ?_))))
  intro s2 I2
  exact wpAny_release ⟨σ, _, I2, q⟩
end

/-! ### instances, over abstract values -/
def insP (C : Addr) (fs : List (Str × AV)) : Pr := ⟨fun K v B => ∃ p dx ws, v = .ref p ∧ B p = some (.ins C dx ws) ∧ FsH K B fs ws, fun e ⟨p, dx, ws, h1, h2, h3⟩ => ⟨p, dx, ws, h1, e _ _ h2, h3.mono e⟩⟩
/-- an instance that is not changed any more -/
abbrev AV.ob (C : Addr) (fs : List (Str × AV)) : AV := .x (insP C fs)
section
variable {K : Fr} {ρ : AS} {μ μ1 μ2 μ3 : AM} {ta te tv : TE} {R R1 : AV} {C : Addr} {fs : List (Str × AV)} {f : Str} {P : Po}
theorem ew_fld (h : EvW K ta ρ μ (.ob C fs) μ1) (hc : Cls K C) (hn : NoAttr K C f) (hl : fs.lookup f = some R) : EvW K (tFld K ta f) ρ μ R μ1 := fun F B H σ w sl Q q => h F B H σ w sl _ fun v B2 H2 e w2 hv => by
  obtain ⟨p, dx, ws, rfl, h2, h3⟩ := hv
  obtain ⟨v, g1, g2⟩ := h3.get hl
  exact ⟨p, C, dx, ws, v, rfl, w2.1 _ _ h2, hc, hn, g1, q v B2 H2 e w2 g2⟩
/-- of an instance that is still owned -/
theorem ew_fldO {p dx : Addr} (h : EvW K ta ρ μ (.r p) μ1) (ho : μ1 p = some (.ins C dx fs)) (hc : Cls K C) (hn : NoAttr K C f) (hl : fs.lookup f = some R) : EvW K (tFld K ta f) ρ μ R μ1 := fun F B H σ w sl Q q => h F B H σ w sl _ fun v B2 H2 e w2 hv => by
  have ev : v = .ref p := hv
  subst ev
  obtain ⟨_, _, u, hu, ws, rfl, hA⟩ := w2.2.1 p _ ho
  obtain ⟨v, g1, g2⟩ := hA.get hl
  exact ⟨p, C, dx, ws, v, rfl, hu, hc, hn, g1, q v B2 H2 e w2 g2⟩
theorem s_fld {p dx : Addr} (h : EvW K tv ρ μ R μ1) (ho : EvW K ta ρ μ1 (.r p) μ2) (hp : μ2 p = some (.ins C dx fs)) (hc : Cls K C) (hn : NoAttr K C f) (hl : fs.length < 1000) (k : P.nx ρ (updM μ2 p (.ins C dx (putA f R fs)))) : StW K (sFld K ta tv f) ρ μ P := fun F D B H σ w sl r =>
  h F B H σ w sl _ fun y B1 H1 e1 w1 hy => ho F B1 H1 σ w1 (sl.mono e1) _ fun v B2 H2 e2 w2 hv => by
    have ev : v = .ref p := hv
    subst ev
    obtain ⟨_, _, u, hu, ws, rfl, hA⟩ := w2.2.1 p _ hp
    refine ⟨p, C, dx, ws, rfl, hu, hc, hn, by rw [← hA.length]; exact hl, ?_⟩
    exact r.nx _ _ B2 _ σ k (e1.trans e2) (w2.set hp ⟨_, rfl, hA.put (AV.mono e2 hy)⟩) (sl.mono (e1.trans e2))
/-- self.f, self.g = a pair; self owned -/
theorem s_fld2 {p dx : Addr} {i : Nat} {f g : Str} {d e : PyData} (h : EvW K tv ρ μ (.d (.tuple [d, e])) μ1) (hi : ρ[i]? = some (some (.r p))) (hp : μ1 p = some (.ins C dx fs)) (hc : Cls K C) (hf : NoAttr K C f) (hg : NoAttr K C g) (hl : fs.length < 900) (hl2 : (putA f (.d d) fs).length < 950)
    (k : P.nx ρ (updM μ1 p (.ins C dx (putA g (.d e) (putA f (.d d) fs))))) : StW K (tAsg tv (gTup K 2 (gCons (gAttr K (tVar i) f) (gCons (gAttr K (tVar i) g) gNil)))) ρ μ P := fun F D B H σ w sl r =>
  h F B H σ w sl _ fun y B1 H1 e1 w1 hy => by
    cases (show Dt K B1 y (.tuple [d, e]) from hy) with
    | @tup a vs _ h1 h0 h2 =>
      cases h2 with
      | @cons v1 _ _ _ g1 h2 =>
        cases h2 with
        | @cons v2 _ _ _ g2 h2 =>
          cases h2
          obtain ⟨vp, s1, s2⟩ := (sl.mono e1).get hi
          have ev : vp = .ref p := s2
          subst ev
          obtain ⟨_, _, u, hu, ws, rfl, hA⟩ := w1.2.1 p _ hp
          have w2 := w1.set (ao := .ins C dx (putA f (.d d) fs)) hp ⟨_, rfl, hA.put (R := .d d) g1⟩
          refine ⟨a, [v1, v2], rfl, seq_l w1.1 h1, rfl, v1, [v2], rfl, .ref p, s1, p, C, dx, ws, rfl, hu, hc, hf, by rw [← hA.length]; omega, ?_⟩
          have hA2 : FsH K B1 (putA f (.d d) fs) (putF f v1 ws) := hA.put (R := .d d) g1
          refine ⟨v2, [], rfl, .ref p, s1, p, C, dx, putF f v1 ws, rfl, upd_same, hc, hg, by rw [← hA2.length]; omega, rfl, ?_⟩
          have w3 := w2.set (ao := .ins C dx (putA g (.d e) (putA f (.d d) fs))) updM_same ⟨_, rfl, hA2.put (R := .d e) g2⟩
          rw [updM_updM] at w3
          exact r.nx _ _ B1 _ σ k e1 w3 (sl.mono e1)
/-- C(..): the new instance is not changed behind __init__ -/
theorem ew_make {S : Spc} {E : XK} {t : TA} {Rs : List AV} (h : EvA K t ρ μ Rs μ1) (hS : ∀ p dx, μ1 p = none → S (.r p :: Rs) (updM μ1 p (.ins C dx [])) (fun R μ' => R = .d .none ∧ μ' = updM μ1 p (.ins C dx fs))) : EvW K (tMake C (spP K S) [] E t) ρ μ (.ob C fs) μ1 := fun F B H σ w sl Q q =>
  h F B H σ w sl _ fun vs B1 H1 e1 w1 hv => fun p dx hp hdx hne => by
    have hm : μ1 p = none := by
      cases q : μ1 p with
      | none => rfl
      | some o => obtain ⟨_, _, u, hu, _⟩ := w1.2.1 p o q; rw [hu] at hp; cases hp
    obtain ⟨w2, e2, _⟩ := w1.new (o := .own p) hdx
    have hp2 : upd H1 dx (.own p) p = none := by rw [upd_ne hne.symm]; exact hp
    have w3 : Wd K F (upd B1 dx (.own p)) (updM μ1 p (.ins C dx [])) (upd (upd H1 dx (.own p)) p (.ins C dx [])) := w2.newM hp2 ⟨[], rfl, trivial⟩
    rw [List.append_nil]
    refine ⟨F, _, _, .r p :: Rs, _, w3, ⟨rfl, hv.mono e2⟩, hS p dx hm, ?_⟩
    rintro R μ' v B4 H4 ⟨rfl, rfl⟩ e4 w4 hv4
    refine ⟨h_n hv4, ?_⟩
    obtain ⟨u, w5, e5, e6, ws, rfl, hF⟩ := w4.freeze updM_same
    have w6 : Wd K F (upd B4 p (.ins C dx ws)) μ1 H4 := w5.drop (fun a o q => by
      have hne : a ≠ p := fun z => by rw [z, hm] at q; cases q
      unfold delM
      rw [if_neg hne, updM_ne hne]
      exact q)
    exact q _ _ H4 (((e1.trans e2).trans e4).trans e5) w6 ⟨p, dx, ws, rfl, e6, hF.mono e5⟩
/-- o.m(..) of such an instance -/
theorem ew_meth {m : Str} {S : Spc} {E : XK} {t : TA} {Rs : List AV} (ha : EvW K ta ρ μ (.ob C fs) μ1) (hm : fs.lookup m = none) (h : EvA K t ρ μ1 Rs μ2) (hS : S (.ob C fs :: Rs) μ2 (fun R' μ' => R' = R ∧ μ' = μ3)) : EvW K (tMeth C m (spP K S) [] E ta t) ρ μ R μ3 := fun F B H σ w sl Q q =>
  ha F B H σ w sl _ fun v B1 H1 e1 w1 hv => by
    obtain ⟨p, dx, ws, rfl, h2, h3⟩ := hv
    refine ⟨p, dx, ws, rfl, w1.1 _ _ h2, h3.none hm, h F B1 H1 σ w1 (sl.mono e1) _ fun vs B2 H2 e2 w2 hvs => ?_⟩
    rw [List.append_nil]
    refine ⟨F, B2, μ2, .ob C fs :: Rs, _, w2, ⟨AV.mono (R := .ob C fs) e2 ⟨p, dx, ws, rfl, h2, h3⟩, hvs⟩, hS, ?_⟩
    rintro R' μ' v B3 H3 ⟨rfl, rfl⟩ e3 w3 hv3
    exact q v B3 H3 ((e1.trans e2).trans e3) w3 hv3
end
end Lw

set_option Elab.async false
set_option linter.all false
set_option maxRecDepth 100000
set_option maxHeartbeats 2000000
/-! isinstance; own operators and properties over abstract values; dicts whose keys are sources -/
namespace Lw
open PySem PySem.Spec PyProof.Rows L2
/-- what an abstract value's type is -/
def TyA (K : Fr) (R : AV) (t : Value) : Prop := ∀ B H v, Same B H → R.h K v B → TyX K H v t
section
variable {K : Fr} {ρ : AS} {μ μ1 μ2 μ3 : AM} {ta te tv : TE} {R R1 : AV} {C : Addr} {fs : List (Str × AV)} {f : Str} {P : Po} {ds : List PyData}
theorem ty_int {i : Int} : TyA K (.i i) (.type "int") := fun B H v e h => by
  rw [h_i h]
  exact .base (.int i)
theorem ty_bool {i : Bool} : TyA K (.b i) (.type "bool") := fun B H v e h => by
  rw [h_b h]
  exact .base (.bl i)
theorem ty_str {i : Str} : TyA K (.s i) (.type "str") := fun B H v e h => by
  rw [h_s h]
  exact .base (.str i)
theorem ty_none : TyA K (.d .none) (.type "NoneType") := fun B H v e h => by
  rw [h_n h]
  exact .base .non
theorem ty_tup : TyA K (.d (.tuple ds)) (.type "tuple") := fun B H v e h => by
  cases (show Dt K B v (.tuple ds) from h) with
  | @tup a vs _ h1 _ _ =>
    rcases h1 with (h | ⟨o, h⟩) | ⟨o, its, n, hk, hc, hd, _⟩
    · exact .base (.tup (e _ _ h))
    · exact .fTuple (e _ _ h)
    · exact .kTuple hk hc
theorem ty_lst : TyA K (.d (.list ds)) (.type "list") := fun B H v e h => by
  cases (show Dt K B v (.list ds) from h) with
  | @lst a vs _ h1 _ =>
    rcases h1 with (h | ⟨o, h⟩) | ⟨o, its, n, hk, hc, _⟩
    · exact .base (.lst (e _ _ h))
    · exact .base (.frz (e _ _ h))
    · exact .kList hk hc
/-- a class as a value -/
def tyP (T : String) : Pr := ⟨fun _ v _ => v = .ty T, fun _ h => h⟩
theorem ew_ty {T : String} : EvW K (tC (.ty T)) ρ μ (.x (tyP T)) μ := fun F B H σ w sl Q q => q _ B H (Same.refl _) w rfl
theorem ew_cls {D : Addr} : EvW K (tC (.ref D)) ρ μ (.r D) μ := fun F B H σ w sl Q q => q _ B H (Same.refl _) w rfl
theorem n_isi {T : String} {t : Value} {b : Bool} (ht : TyA K R t) (hk : PySem.W.kitOne K t (.type T) = some b) : OpN K (rIsi K) [R, .x (tyP T)] μ (.b b) μ := fun F B H xs w hx Q q => by
  match xs, hx with
  | [v, c], hx =>
    have ec : c = .ty T := hx.2.1
    subst ec
    exact ⟨v, .ty T, t, .type T, b, rfl, .ty T, ht B H v w.1 hx.1, hk, q _ B H (Same.refl _) w (.bl b)⟩
theorem n_isiC {D : Addr} {t : Value} {b : Bool} (ht : TyA K R t) (hk : PySem.W.kitOne K t (.ref D) = some b) : OpN K (rIsi K) [R, .r D] μ (.b b) μ := fun F B H xs w hx Q q => by
  match xs, hx with
  | [v, c], hx =>
    have ec : c = .ref D := hx.2.1
    subst ec
    exact ⟨v, .ref D, t, .ref D, b, rfl, .own D, ht B H v w.1 hx.1, hk, q _ B H (Same.refl _) w (.bl b)⟩
theorem ew_prop {S : Spc} {E : XK} (h : EvW K ta ρ μ (.ob C fs) μ1) (hS : S [.ob C fs] μ1 (fun R' μ' => R' = R ∧ μ' = μ2)) : EvW K (tProp C (spP K S) [] E ta) ρ μ R μ2 := fun F B H σ w sl Q q => h F B H σ w sl _ fun v B1 H1 e1 w1 hv => by
  obtain ⟨p, dx, ws, rfl, h2, h3⟩ := hv
  refine ⟨p, dx, ws, rfl, w1.1 _ _ h2, F, B1, μ1, [.ob C fs], _, w1, ⟨⟨p, dx, ws, rfl, h2, h3⟩, trivial⟩, hS, ?_⟩
  rintro R' μ' v B3 H3 ⟨rfl, rfl⟩ e3 w3 hv3
  exact q v B3 H3 (e1.trans e3) w3 hv3
theorem o_ownEq {S : Spc} {t : Value} {b : Bool} (ht : TyA K R t) (hn : PySem.W.notFirst K C t = true) (hS : S [.ob C fs, R] μ (fun R' μ' => R' = .b b ∧ μ' = μ)) : Op2 K (rOwnA K C (spP K S)) (.ob C fs) R μ (.b b) μ := fun F B H x y w h1 h2 Q q => by
  obtain ⟨p, dx, ws, rfl, g2, g3⟩ := h1
  refine ⟨p, dx, ws, t, rfl, w.1 _ _ g2, ht B H y w.1 h2, hn, F, B, μ, [.ob C fs, R], _, w, ⟨⟨p, dx, ws, rfl, g2, g3⟩, h2, trivial⟩, hS, ?_⟩
  rintro R' μ' v B3 H3 ⟨rfl, rfl⟩ e3 w3 hv3
  exact q v B3 H3 e3 w3 hv3
theorem o_ownNe {S : Spc} {t : Value} {b : Bool} (ht : TyA K R t) (hn : PySem.W.notFirst K C t = true) (hS : S [.ob C fs, R] μ (fun R' μ' => R' = .b b ∧ μ' = μ)) : Op2 K (rNeA K C (spP K S)) (.ob C fs) R μ (.b (!b)) μ := fun F B H x y w h1 h2 Q q => by
  obtain ⟨p, dx, ws, rfl, g2, g3⟩ := h1
  refine ⟨p, dx, ws, t, rfl, w.1 _ _ g2, ht B H y w.1 h2, hn, F, B, μ, [.ob C fs, R], _, w, ⟨⟨p, dx, ws, rfl, g2, g3⟩, h2, trivial⟩, hS, ?_⟩
  rintro R' μ' v B3 H3 ⟨rfl, rfl⟩ e3 w3 hv3
  exact ⟨b, h_b hv3, q _ B3 H3 e3 w3 (.bl _)⟩
theorem n_lenOwn {S : Spc} {i : Int} (hi : 0 ≤ i ∧ i < 2 ^ 63) (hS : S [.ob C fs] μ (fun R' μ' => R' = .i i ∧ μ' = μ)) :
    OpN K (fun xs H Q => ∃ a dx fs, xs = [.ref a] ∧ H a = some (.ins C dx fs) ∧ spP K S [.ref a] H (fun v H' => ∃ i, v = .int i ∧ 0 ≤ i ∧ i < 2 ^ 63 ∧ Q v H') E0) [.ob C fs] μ (.i i) μ := fun F B H xs w hx Q q => by
  match xs, hx with
  | [v], hx =>
    obtain ⟨p, dx, ws, rfl, g2, g3⟩ := hx.1
    refine ⟨p, dx, ws, rfl, w.1 _ _ g2, F, B, μ, [.ob C fs], _, w, ⟨⟨p, dx, ws, rfl, g2, g3⟩, trivial⟩, hS, ?_⟩
    rintro R' μ' v B3 H3 ⟨rfl, rfl⟩ e3 w3 hv3
    exact ⟨i, h_i hv3, hi.1, hi.2, q _ B3 H3 e3 w3 hv3⟩

theorem ew_chain {r r' : V → V → Hp → VK → Prop} {tb tc : TE} {R2 R3 : AV} {a b : Bool} (ha : EvW K ta ρ μ R1 μ1) (hb : EvW K tb ρ μ1 R2 μ2) (hr : Op2 K r R1 R2 μ2 (.b a) μ2) (hc : a = true → EvW K tc ρ μ2 R3 μ3) (hr2 : Op2 K r' R2 R3 μ3 (.b b) μ3) (hm : μ2 = μ3) : EvW K (tChain r r' ta tb tc) ρ μ (.b (a && b)) μ3 := fun F B H σ w s Q q =>
  ha F B H σ w s _ fun x B1 H1 e1 w1 h1 => hb F B1 H1 σ w1 (s.mono e1) _ fun y B2 H2 e2 w2 h2 => hr F B2 H2 x y w2 (AV.mono e2 h1) h2 _ fun v B3 H3 e3 w3 h3 => ⟨a, h_b h3, by
    cases a with
    | true =>
      show tc σ H3 _
      exact hc rfl F B3 H3 σ w3 (s.mono ((e1.trans e2).trans e3)) _ fun z B4 H4 e4 w4 h4 => hr2 F B4 H4 y z w4 (AV.mono (e3.trans e4) h2) h4 Q fun v B5 H5 e5 w5 h5 => q v B5 H5 ((((e1.trans e2).trans e3).trans e4).trans e5) w5 h5
    | false =>
      show Q (.bl false) H3
      subst hm
      exact q _ B3 H3 ((e1.trans e2).trans e3) w3 (.bl _)⟩

theorem s_augI {i : Nat} {g : Int → Int → Int} {a b : Int} (hx : ρ[i]? = some (some (.i a))) (h : EvW K te ρ μ (.i b) μ1) (p : P.nx (ρ.set i (some (.i (g a b)))) μ1) : StW K (tAug i te (ipI g)) ρ μ P := fun F D B H σ w sl r => by
  obtain ⟨v, h1, h2⟩ := sl.get hx
  refine ⟨v, h1, h F B H σ w sl _ fun y B2 H2 e w2 hy => ?_⟩
  exact ⟨a, b, h_i h2, h_i hy, r.nx _ _ B2 H2 _ p e w2 (Sl.set (R := .i (g a b)) (v := .int (g a b)) (.int _) i (sl.mono e))⟩

/-! ### dicts whose keys are sources -/
def Src.key : Src → List Key
  | .inp k => [.inr sIn, .inl k]
  | .lit c => [.inr sLit, .inl c]
theorem src_at {B : Hp} {v : V} {s : Src} (h : Dt K B v s.d) : ∃ a, v = .ref a ∧ B a = some (.tup (s.key.map kV)) := by
  cases s with
  | inp k =>
    cases (show Dt K B v (.tuple [.str sIn, .int k]) from h) with
    | @tup a vs _ _ h0 h2 =>
      cases h2 with
      | cons g1 h2 =>
        cases h2 with
        | cons g2 h2 =>
          cases h2
          cases g1
          cases g2
          exact ⟨a, rfl, h0 (Trk.str _ _)⟩
  | lit k =>
    cases (show Dt K B v (.tuple [.str sLit, .int k]) from h) with
    | @tup a vs _ _ h0 h2 =>
      cases h2 with
      | cons g1 h2 =>
        cases h2 with
        | cons g2 h2 =>
          cases h2
          cases g1
          cases g2
          exact ⟨a, rfl, h0 (Trk.str _ _)⟩
theorem s_dnew {i : Nat} (p : ∀ l, μ l = none → P.nx (ρ.set i (some (.r l))) (updM μ l (.o (.dT [])))) : StW K (tAsg tDNewT (gName i)) ρ μ P := fun F D B H σ w sl r => fun l hp => by
  have hm : μ l = none := by
    cases q : μ l with
    | none => rfl
    | some o => obtain ⟨_, _, u, hu, _⟩ := w.2.1 l o q; rw [hu] at hp; cases hp
  exact r.nx _ _ B _ _ (p l hm) (Same.refl _) (w.newM (ao := .o (.dT [])) hp ⟨rfl, trivial⟩) (Sl.set (R := .r l) (v := .ref l) (show V.ref l = V.ref l from rfl) i sl)
/-- d.get(s, 0) -/
theorem ew_dget2 {td ty tx : TE} {l : Addr} {kvs : List (List Key × V)} {s : Src} {i : Int} (hd : EvW K td ρ μ (.r l) μ) (hl : μ l = some (.o (.dT kvs))) (hy : EvW K ty ρ μ (.d s.d) μ) (hx : EvW K tx ρ μ (.i i) μ) {r : Int} (hr : (valV kvs s.key).getD (.int i) = .int r) : EvW K (tDGet2 td ty tx) ρ μ (.i r) μ := fun F B H σ w sl Q q =>
  hd F B H σ w sl _ fun v B1 H1 e1 w1 hv => by
    have ev : v = .ref l := hv
    subst ev
    obtain ⟨_, _, u, hu, eu⟩ := w1.2.1 l _ hl
    have eu' : u = .dT kvs := eu.1
    subst eu'
    refine ⟨l, rfl, .inr ⟨kvs, .inl hu⟩, hy F B1 H1 σ w1 (sl.mono e1) _ fun y B2 H2 e2 w2 hy2 => hx F B2 H2 σ w2 (sl.mono (e1.trans e2)) _ fun z B3 H3 e3 w3 hz => ?_⟩
    obtain ⟨a, rfl, ha⟩ := src_at hy2
    obtain ⟨_, _, u, hu, eu⟩ := w3.2.1 l _ hl
    have eu' : u = .dT kvs := eu.1
    subst eu'
    refine ⟨valV kvs s.key, .t hu (w3.1 _ _ (e3 _ _ ha)), ?_⟩
    have ez := h_i hz
    subst ez
    rw [hr]
    exact q _ B3 H3 ((e1.trans e2).trans e3) w3 (.int r)
theorem ew_dget {td ty : TE} {l : Addr} {kvs : List (List Key × V)} {s : Src} {r : Int} (hd : EvW K td ρ μ (.r l) μ) (hl : μ l = some (.o (.dT kvs))) (hy : EvW K ty ρ μ (.d s.d) μ) (hr : valV kvs s.key = some (.int r)) : EvW K (tDGet td ty) ρ μ (.i r) μ := fun F B H σ w sl Q q =>
  hd F B H σ w sl _ fun v B1 H1 e1 w1 hv => hy F B1 H1 σ w1 (sl.mono e1) _ fun y B2 H2 e2 w2 hy2 => by
    have ev : v = .ref l := hv
    subst ev
    obtain ⟨a, rfl, ha⟩ := src_at hy2
    obtain ⟨_, _, u, hu, eu⟩ := w2.2.1 l _ hl
    have eu' : u = .dT kvs := eu.1
    subst eu'
    have g : DGet H2 l (.ref a) (valV kvs s.key) := .t hu (w2.1 _ _ ha)
    rw [hr] at g
    exact ⟨l, .int r, rfl, g, q _ B2 H2 (e1.trans e2) w2 (.int r)⟩
/-- d[s] = e -/
theorem s_dput {td ty tv : TE} {l : Addr} {kvs : List (List Key × V)} {s : Src} {r : Int} (hv : EvW K tv ρ μ (.i r) μ) (hd : EvW K td ρ μ (.r l) μ) (hl : μ l = some (.o (.dT kvs))) (hy : EvW K ty ρ μ (.d s.d) μ) (hz : kvs.length < 100000) (p : P.nx ρ (updM μ l (.o (.dT (putK kvs s.key (.int r)))))) : StW K (sDPut td ty tv) ρ μ P := fun F D B H σ w sl re =>
  hv F B H σ w sl _ fun v B1 H1 e1 w1 h1 => hd F B1 H1 σ w1 (sl.mono e1) _ fun x B2 H2 e2 w2 h2 => hy F B2 H2 σ w2 (sl.mono (e1.trans e2)) _ fun y B3 H3 e3 w3 h3 => by
    have ex : x = .ref l := h2
    have ev := h_i h1
    subst ex ev
    obtain ⟨a, rfl, ha⟩ := src_at h3
    obtain ⟨_, _, u, hu, eu⟩ := w3.2.1 l _ hl
    have eu' : u = .dT kvs := eu.1
    subst eu'
    exact ⟨l, _, rfl, .t hu (w3.1 _ _ ha) (Nat.lt_of_lt_of_le hz (by decide : 100000 ≤ sizeLine)), re.nx _ _ B3 _ σ p ((e1.trans e2).trans e3) (w3.set (ao := .o (.dT (putK kvs s.key (.int r)))) hl ⟨rfl, trivial⟩) (sl.mono ((e1.trans e2).trans e3))⟩
end
end Lw

set_option Elab.async false
set_option linter.all false
set_option maxRecDepth 100000
set_option maxHeartbeats 2000000
/-! lists and tuples of abstract values; list(range(..)); more scalars -/
namespace Lw
open PySem PySem.Spec PyProof.Rows L2
/-- own == within a comprehension: the fragment told -/
theorem op_ownB {X : Cx} {C g : Addr} {n : Nat} {fd : FuncData} {ps : List Str} {sp : Sp} {K : Fr} {op : CmpOp} (hK : X.K = K) (hop : ∀ a b, compareOp op a b = richCompare op a b) (hs : PySem.W.findIn K (.ref C) (cmpInfo op).2.1 = some (some (.ref g))) (hf : PySem.W.isFn K (.ref g) = true)
    (F : FnOk X.prog X.w K X.mg X.base CX0 n g fd ps sp) (hb : L2.Binds K fd ps []) (hr : Room n X.A) : OpR X (compareOp op) (rOwnA K C sp) := by
  subst hK
  exact op_ownA hop hs hf F hb hr
def lsP (xs : List AV) : Pr := ⟨fun K v B => ∃ a vs, v = .ref a ∧ B a = some (.lst vs) ∧ AllH K B xs vs, fun e ⟨a, vs, h1, h2, h3⟩ => ⟨a, vs, h1, e _ _ h2, h3.mono e⟩⟩
/-- a list of abstract values that is not changed any more -/
abbrev AV.ls (xs : List AV) : AV := .x (lsP xs)
def tlP (xs : List AV) : Pr := ⟨fun K v B => ∃ a vs, v = .ref a ∧ B a = some (.tup vs) ∧ AllH K B xs vs, fun e ⟨a, vs, h1, h2, h3⟩ => ⟨a, vs, h1, e _ _ h2, h3.mono e⟩⟩
/-- a tuple of abstract values -/
abbrev AV.tl (xs : List AV) : AV := .x (tlP xs)
section
variable {K : Fr} {ρ : AS} {μ μ1 μ2 μ3 : AM} {ta tb te tl : TE} {t u : TT} {R R1 R2 : AV} {d e : PyData} {ds es : List PyData} {i j : Int} {Rs : List AV} {P : Po}
theorem ew_lstA {ta : TA} (h : EvA K ta ρ μ Rs μ1) (hz : Rs.length ≤ 100000) : EvW K (tLst ta) ρ μ (.ls Rs) μ1 := fun F B H σ w sl Q q =>
  h F B H σ w sl _ fun vs B2 H2 e w2 hv => ⟨by rw [← hv.length]; exact Nat.le_trans hz (by decide), fun p hp => by
    obtain ⟨w3, e3, e4⟩ := w2.new (o := .lst vs) hp
    exact q _ _ _ (e.trans e3) w3 ⟨p, vs, rfl, e4, hv.mono e3⟩⟩
theorem ew_tupA {ta : TA} (h : EvA K ta ρ μ Rs μ1) (hz : Rs.length ≤ 100000) : EvW K (tTup ta) ρ μ (.tl Rs) μ1 := fun F B H σ w sl Q q =>
  h F B H σ w sl _ fun vs B2 H2 e w2 hv => ⟨by rw [← hv.length]; exact Nat.le_trans hz (by decide), fun p hp => by
    obtain ⟨w3, e3, e4⟩ := w2.new (o := .tup vs) hp
    exact q _ _ _ (e.trans e3) w3 ⟨p, vs, rfl, e4, hv.mono e3⟩⟩
theorem it_ls {xs : List AV} (h : EvW K tl ρ μ (.ls xs) μ1) : ItW K (iList K tl) ρ μ xs μ1 := fun F B H σ w sl Rk q =>
  h F B H σ w sl _ fun v B2 H2 e w2 hv => by
    obtain ⟨a, vs, rfl, h1, h2⟩ := hv
    have sq : ∀ {H3 : Hp}, Same B2 H3 → SqL K H3 a vs := fun e => SqL.of (e _ _ h1)
    refine ⟨a, rfl, ⟨vs, sq w2.1⟩, q _ B2 H2 e w2 ⟨fun B3 H3 i e3 e4 hi => ?_, fun B3 H3 e3 e4 => ⟨vs, sq (e3.trans e4), ?_⟩, fun F B3 H3 μ i b x H' e3 w3 hb y => ?_⟩⟩
    · rw [h2.length] at hi
      exact ⟨vs, vs[i], sq (e3.trans e4), by simp [hi]⟩
    · rw [h2.length]
      exact Nat.le_refl _
    · obtain ⟨e5, y⟩ := y
      subst e5
      obtain ⟨v, hv1, hv2⟩ := h2.get hb
      have := y vs (sq (e3.trans w3.1))
      rw [hv1] at this
      cases this
      exact ⟨B3, Same.refl _, w3, AV.mono e3 hv2⟩
theorem ty_ls {xs : List AV} : TyA K (.ls xs) (.type "list") := fun B H v e h => by
  obtain ⟨a, vs, rfl, h1, _⟩ := h
  exact .base (.lst (e _ _ h1))
/-- a target of abstract values -/
def GaW (K : Fr) (g : TGs) (as : List AV) (ρ ρ2 : AS) : Prop := ∀ B H σ vs, Same B H → AllH K B as vs → Sl K B σ ρ → ∀ Q : L2.St → Hp → Prop, (∀ σ2, Sl K B σ2 ρ2 → Q σ2 H) → g vs σ H Q
theorem ga_nil : GaW K gNil [] ρ ρ := fun B H σ vs e h sl Q q => by
  cases vs with
  | nil => exact ⟨rfl, q _ sl⟩
  | cons _ _ => exact h.elim
theorem ga_cons {g : TG} {gs : TGs} {a : AV} {as : List AV} {ρ1 ρ2 : AS} (h1 : GtW K g a ρ ρ1) (h2 : GaW K gs as ρ1 ρ2) : GaW K (gCons g gs) (a :: as) ρ ρ2 := fun B H σ vs e h sl Q q => by
  cases vs with
  | nil => exact h.elim
  | cons v vs => exact ⟨_, _, rfl, h1 B H σ _ e h.1 sl _ fun σ1 sl1 => h2 B H σ1 _ e h.2 sl1 Q q⟩
theorem gw_tupA {gs : TGs} {as : List AV} {n : Nat} {ρ2 : AS} (hn : as.length = n) (h : GaW K gs as ρ ρ2) : GtW K (gTup K n gs) (.tl as) ρ ρ2 := fun B H σ v e hv sl Q q => by
  obtain ⟨a, vs, rfl, h1, h2⟩ := hv
  exact ⟨_, _, rfl, .inl (.inl (e _ _ h1)), h2.length.symm.trans hn, h B H σ _ e h2 sl Q q⟩
/-- list(range(n)) -/
theorem rg_dt {B : Hp} (f : Nat → Int) : ∀ l : List Nat, DtAll K B (l.map fun i => V.int (f i)) (l.map fun i => PyData.int (f i))
  | [] => .nil
  | _ :: l => .cons (.int _) (rg_dt f l)
def upto (n : Int) : List PyData := (List.range n.toNat).map fun (i : Nat) => PyData.int (i : Int)
theorem ew_listRg {n : Int} (h : EvW K te ρ μ (.i n) μ1) (h0 : 0 ≤ n ∧ n ≤ 10000) : EvW K (tLstRg (tRg1 te)) ρ μ (.t (upto n)) μ1 := fun F B H σ w sl Q q =>
  h F B H σ w sl _ fun v B2 H2 e w2 hv => by
    refine ⟨n, h_i hv, .of_le (by omega) (by omega) (by omega) (by omega), fun p hp => ?_⟩
    obtain ⟨w3, e3, e4⟩ := w2.new (o := .lst (rgV 0 n)) hp
    refine q _ _ _ (e.trans e3) w3 ⟨p, _, rfl, e4, ?_⟩
    unfold rgV upto
    have e1 : (n - 0).toNat = n.toNat := by simp
    rw [e1]
    have e2 : (List.range n.toNat).map (fun (i : Nat) => V.int (0 + (i : Int))) = (List.range n.toNat).map (fun (i : Nat) => V.int (i : Int)) := by
      apply List.map_congr_left
      intro i _
      rw [Int.zero_add]
    rw [e2]
    exact rg_dt (fun i => (i : Int)) _
theorem o_neS {i j : Str} : Op2 K rNe (.s i) (.s j) μ (.b (!decide (i = j))) μ := fun F B H x y w h1 h2 Q q => by
  have e1 := h_s h1
  have e2 := h_s h2
  subst e1 e2
  refine ⟨rfl, ?_⟩
  have : decide (V.str i = V.str j) = decide (i = j) := decide_eq_decide.mpr ⟨fun h => by cases h; rfl, fun h => by rw [h]⟩
  rw [this]
  exact q _ B H (Same.refl _) w (.bl _)
theorem o_neB {i j : Bool} : Op2 K rNe (.b i) (.b j) μ (.b (!decide (i = j))) μ := fun F B H x y w h1 h2 Q q => by
  have e1 := h_b h1
  have e2 := h_b h2
  subst e1 e2
  refine ⟨rfl, ?_⟩
  have : decide (V.bl i = V.bl j) = decide (i = j) := decide_eq_decide.mpr ⟨fun h => by cases h; rfl, fun h => by rw [h]⟩
  rw [this]
  exact q _ B H (Same.refl _) w (.bl _)
end
end Lw

set_option Elab.async false
set_option linter.all false
set_option maxRecDepth 100000
set_option maxHeartbeats 2000000
/-! own classes: the call of an instance, operators of two instances -/
namespace Lw
open PySem PySem.Spec PyProof.Rows L2
section
variable {X : Cx} {C g : Addr} {n : Nat} {fd : FuncData} {ps : List Str} {sp : Sp}
/-- x op y, both instances of the class at C, whose def for op is at g -/
def rBinA (C : Addr) (sp : Sp) : R2 := fun x y H Q => ∃ a dx fs b dy gs, x = .ref a ∧ y = .ref b ∧ H a = some (.ins C dx fs) ∧ H b = some (.ins C dy gs) ∧ sp [x, y] H Q E0
theorem op_binA {op : Operator} (hc : PySem.W.selfFirst X.K C = true) (hs : PySem.W.findIn X.K (.ref C) (PySem.dunder op.info.2) = some (some (.ref g))) (hf : PySem.W.isFn X.K (.ref g) = true)
    (F : FnOk X.prog X.w X.K X.mg X.base CX0 n g fd ps sp) (hb : L2.Binds X.K fd ps []) (hr : Room n X.A) : OpR X (binaryOp op) (rBinA C sp) := fun pins s σ H x y v u Q I rx ry h => by
  obtain ⟨a, dx, fs, b, dy, gs, rfl, rfl, ha, hb2, q⟩ := h
  cases (show v = Value.ref a from rx)
  cases (show u = Value.ref b from ry)
  obtain ⟨mA, O, _⟩ := ins_get I.hok ha
  obtain ⟨od, J, _⟩ := O.look
  obtain ⟨mB, O2, _⟩ := ins_get I.hok hb2
  obtain ⟨od2, J2, _⟩ := O2.look
  obtain ⟨m, hF⟩ := I.fr
  refine PySem.W.binop_K hF I.ok.mod.kin J J2.type hc hs hf ?_
  refine wpAny_call (codeAny_mono (run_own (vs := [.ref a, .ref b]) F hb hr I.env0 I (.cons rfl (.cons rfl .nil)) q) ?_)
  rintro res s' hq
  cases res with
  | error e => exact hq.elim
  | ok fl =>
    cases fl with
    | ret w =>
      obtain ⟨z', H', I', rz, qz⟩ := hq
      exact cmp_back rz ⟨z', H', I', rz, qz⟩
    | next => exact hq.elim
    | brk => exact hq.elim
    | cont => exact hq.elim
theorem inst_with {M : Model} {A : Around} {EE : Value → Shared → Prop} {s : Shared} {env : Env} {pos : Pos} {a : Addr} {Q : Value → Shared → Prop} {e : Expr} {es : List Expr} (hst : starEach (e :: es) env = (false, eval e env) :: starEach es env) (hpl : (backTo pos (starEach es env)).any (·.1) = false)
    (h : wpAny M A (spliced (backTo pos (starEach (e :: es) env))) (fun vs s1 => (∃ ox od, ox.data = .plain ∧ PySem.W.InstAt s1.heap a ox C od) ∧ wpAny M A (call (.ref a) vs) Q EE s1) EE s) : wpAny M A (callWith pos (.ref a) [] (backTo pos (starEach (e :: es) env)) []) Q EE s := by
  rw [hst] at h ⊢
  have np : (((backTo pos ((false, eval e env) :: starEach es env)).any (·.1)) || (([] : List (Option Str × Sem Value)).any (·.1.isNone))) = false := by
    show ((false || (backTo pos (starEach es env)).any (·.1)) || false) = false
    rw [hpl]
    rfl
  have h2 : wpAny M A (evalArgs (.ref a) true (backTo pos ((false, eval e env) :: starEach es env)) []) (fun v s1 => (∃ ox od, ox.data = .plain ∧ PySem.W.InstAt s1.heap a ox C od) ∧ wpAny M A (call (.ref a) v.pos v.kw) Q EE s1) EE s := PySem.Calls.evalArgs_plain h
  unfold callWith
  refine wpAny_bind (wpAny_holding (wpAny_mono h2 ?_ (fun _ _ y => y)))
  rintro v s1 ⟨⟨ox, od, hd, J⟩, hq⟩
  refine wpAny_bind (wpAny_standAt ?_)
  simp only [np]
  refine wpAny_bind ((PySem.W.kco_keeper J hd).here ?_)
  exact wpAny_bind (wpAny_mono (wpAny_operateT hq) (fun r s2 hr => wpAny_bind (wpAny_holding (wpAny_point (wpAny_pure hr)))) fun _ _ y => y)
/-- x(e, ..), x an instance of the class at C -/
def tInst (C : Addr) (sp : Sp) (te : TE) (t : TA) : TE := fun σ H Q => te σ H fun x H1 => ∃ a dx fs, x = .ref a ∧ H1 a = some (.ins C dx fs) ∧ t σ H1 fun vs H2 => (∃ dy gs, H2 a = some (.ins C dy gs)) ∧ sp (x :: vs) H2 Q E0
theorem pe_inst {x : Str} {p pos : Pos} {e : Expr} {es : List Expr} {te : TE} {t : TA} (hs : PySem.W.findIn X.K (.ref C) "__call__" = some (some (.ref g))) (hf : PySem.W.isFn X.K (.ref g) = true) (hfn : PySem.W.fnIn X.K g = true)
    (F : FnOk X.prog X.w X.K X.mg X.base CX0 n g fd ps sp) (hb : L2.Binds X.K fd ps []) (hr : Room n X.A) (he : PE X (.Name x p) te) (ha : PA X (e :: es) t)
    (hst : starEach (e :: es) X.env = (false, eval e X.env) :: starEach es X.env := by rfl) (hpl : (backTo pos (starEach es X.env)).any (·.1) = false := by rfl) :
    PE X (.Call (.Name x p) (e :: es) [] pos) (tInst C sp te t) := by
  refine ⟨fun pins s σ H Q I h => ?_⟩
  refine wpAny_Call_Name_kw (thn (he.run pins s σ H _ I h) ?_)
  rintro v s1 ⟨y, H1, I1, ry, a, dx, fs, rfl, h1, q⟩
  cases (show v = Value.ref a from ry)
  obtain ⟨mA, O, _⟩ := ins_get I1.hok h1
  obtain ⟨od, J, hd⟩ := O.look
  refine inst_with (C := C) hst hpl (thn (ha.run pos pins s1 σ H1 _ I1 q) ?_)
  rintro us s2 ⟨vs, H2, I2, r, ⟨dy, gs, h2⟩, q2⟩
  obtain ⟨mB, O2, _⟩ := ins_get I2.hok h2
  obtain ⟨od2, J2, _⟩ := O2.look
  refine ⟨⟨_, _, rfl, J2⟩, wpAny_call (PySem.W.kco_code I2.kIn J2 rfl hs hf hfn (codeAny_mono (run_own (vs := .ref a :: vs) F hb hr I2.env0 I2 (.cons rfl r) q2) ?_))⟩
  rintro res s' hq
  cases res with
  | error e => exact hq.elim
  | ok fl =>
    cases fl with
    | ret w => exact hq
    | next => exact hq.elim
    | brk => exact hq.elim
    | cont => exact hq.elim
end
end Lw

set_option Elab.async false
set_option linter.all false
set_option maxRecDepth 100000
set_option maxHeartbeats 2000000
/-! comprehensions that map; their targets that are pairs -/
namespace Lw
open PySem PySem.Spec PyProof.Rows L2
/-! within a comprehension: the fragment told -/
theorem pg_tupK {X : Cx} {K : Fr} {es : List Expr} {k : Nat} {t : TGs} {n : Nat} {pos : Pos} (hK : X.K = K) (hc : X.calm = true) (h : PGs X es t) (hn : (assignEach es X.env).length = n := by rfl) (hst : (assignEach es X.env).findIdx? (·.1) = none := by rfl) : PG X (.Tuple es k pos) (gTup K n t) := by
  subst hK
  exact pg_tup hc h hn hst
theorem ix_tupK {X : Cx} {K : Fr} (hK : X.K = K) : IxR X (rIxT K) := by
  subst hK
  exact ix_tup
theorem wipe_setAny {τ : L2.St} {vs : List Nat} {j : Nat} {s : Option V} (hj : j ∈ vs) : L2.wipe (τ.set j s) vs = L2.wipe τ vs := by
  apply List.ext_getElem?
  intro i
  rw [wipe_get, wipe_get]
  by_cases hi : i ∈ vs
  · rw [if_pos hi, if_pos hi]
    by_cases e : j = i
    · subst e
      by_cases hl : j < τ.length
      · rw [List.getElem?_set_self hl]
        simp [hl]
      · rw [List.getElem?_eq_none (by simpa using hl), List.getElem?_eq_none (by omega)]
    · rw [List.getElem?_set_ne e]
  · rw [if_neg hi, if_neg hi, List.getElem?_set_ne (fun e : j = i => hi (by rw [← e]; exact hj))]
theorem wipe_wipe {σ : L2.St} {vs : List Nat} : L2.wipe (L2.wipe σ vs) vs = L2.wipe σ vs := by
  apply List.ext_getElem?
  intro i
  rw [wipe_get, wipe_get]
  by_cases hi : i ∈ vs
  · rw [if_pos hi, if_pos hi, Option.map_map]
    rfl
  · rw [if_neg hi, if_neg hi]
section
variable {K : Fr} {ρ : AS} {μ μ1 μ2 μ3 : AM} {ta tb te tl : TE} {g : TG} {R R1 R2 : AV} {d e : PyData} {ds es : List PyData} {P : Po}
theorem gc_pair {i j : Nat} {vs : List Nat} (hi : i ∈ vs) (hj : j ∈ vs) : GcW K (gTup K 2 (gCons (gName i) (gCons (gName j) gNil))) vs (.d (.tuple [d, e])) ρ ((ρ.set i (some (.d d))).set j (some (.d e))) := fun B H σ v eB hv sl Q q => by
  cases (show Dt K B v (.tuple [d, e]) from hv) with
  | @tup a ws _ h1 h0 h2 =>
    cases h2 with
    | @cons x _ _ _ g1 h2 =>
      cases h2 with
      | @cons y _ _ _ g2 h2 =>
        cases h2
        refine ⟨a, [x, y], rfl, seq_l eB h1, rfl, x, [y], rfl, y, [], rfl, rfl, q _ ?_ (Sl.set (R := .d e) g2 j (Sl.set (R := .d d) g1 i sl))⟩
        rw [wipe_setAny hj, wipe_setAny hi, wipe_wipe]
/-- [te for g in ..] -/
theorem ew_lcM {α : Type} {wi : TI} {vs : List Nat} (l : List α) (f : α → AV) (h : α → PyData) (hi : ItW K wi ρ μ (l.map f) μ1)
    (hs : ∀ x ∈ l, ∃ ρ2, GcW K g vs (f x) (wipeA ρ vs) ρ2 ∧ EvW K te ρ2 μ1 (.d (h x)) μ1) (hz : l.length ≤ 90000) : EvW K (tLc wi g (fun _ H Q => Q true H) te vs) ρ μ (.d (.list (l.map h))) μ1 := by
  have := ew_lc (K := K) (ρ := ρ) (μ := μ) (g := g) (te := te) (tt := fun _ H Q => Q true H) (vs := vs) (μ1 := μ1) (xs := l.map f) (fun _ => μ1) (fun i => (l.take i).map h) hi rfl (fun i a ha => by
    rw [List.getElem?_map] at ha
    cases hx : l[i]? with
    | none => rw [hx] at ha; cases ha
    | some x =>
      rw [hx] at ha
      cases ha
      obtain ⟨ρ2, h1, h2⟩ := hs x (List.mem_of_getElem? hx)
      refine ⟨ρ2, true, μ1, h1, et_nil, fun _ => ⟨h x, h2, ?_⟩, nofun⟩
      rw [List.take_add_one, hx, List.map_append]
      rfl) (by rw [List.length_map]; exact hz) rfl
  rw [List.length_map, List.take_length] at this
  exact this
/-- x = [te for g in ..], owned -/
theorem s_lcM {α : Type} {wi : TI} {vs : List Nat} {j : Nat} (l : List α) (f : α → AV) (h : α → PyData) (hi : ItW K wi ρ μ (l.map f) μ1)
    (hs : ∀ x ∈ l, ∃ ρ2, GcW K g vs (f x) (wipeA ρ vs) ρ2 ∧ EvW K te ρ2 μ1 (.d (h x)) μ1) (hz : l.length ≤ 90000) (p : ∀ a, μ1 a = none → P.nx (ρ.set j (some (.r a))) (updM μ1 a (.lst ((l.map h).map .d)))) : StW K (tAsg (tLc wi g (fun _ H Q => Q true H) te vs) (gName j)) ρ μ P := by
  refine s_lcOwn (xs := l.map f) (fun _ => μ1) (fun i => (l.take i).map h) hi rfl (fun i a ha => ?_) (by rw [List.length_map]; exact hz) (fun a ha => ?_)
  · rw [List.getElem?_map] at ha
    cases hx : l[i]? with
    | none => rw [hx] at ha; cases ha
    | some x =>
      rw [hx] at ha
      cases ha
      obtain ⟨ρ2, h1, h2⟩ := hs x (List.mem_of_getElem? hx)
      refine ⟨ρ2, true, μ1, h1, et_nil, fun _ => ⟨h x, h2, ?_⟩, nofun⟩
      rw [List.take_add_one, hx, List.map_append]
      rfl
  · rw [List.length_map, List.take_length]
    exact p a ha
/-- range(b - 1, a - 1, -1), the same made of what is mapped -/
theorem it_map {α : Type} {wi : TI} {xs : List AV} {l : List α} {f : α → AV} (h : ItW K wi ρ μ xs μ1) (e : xs = l.map f) : ItW K wi ρ μ (l.map f) μ1 := e ▸ h
theorem ew_inst {te : TE} {t : TA} {C : Addr} {fs : List (Str × AV)} {S : Spc} {Rs : List AV} (he : EvW K te ρ μ (.ob C fs) μ1) (h : EvA K t ρ μ1 Rs μ2) (hS : S (.ob C fs :: Rs) μ2 (fun R' μ' => R' = R ∧ μ' = μ3)) : EvW K (tInst C (spP K S) te t) ρ μ R μ3 := fun F B H σ w sl Q q =>
  he F B H σ w sl _ fun v B1 H1 e1 w1 hv => by
    obtain ⟨p, dx, ws, rfl, h2, h3⟩ := hv
    refine ⟨p, dx, ws, rfl, w1.1 _ _ h2, h F B1 H1 σ w1 (sl.mono e1) _ fun vs B2 H2 e2 w2 hvs => ⟨⟨dx, ws, w2.1 _ _ (e2 _ _ h2)⟩, F, B2, μ2, .ob C fs :: Rs, _, w2, ⟨AV.mono (R := .ob C fs) e2 ⟨p, dx, ws, rfl, h2, h3⟩, hvs⟩, hS, ?_⟩⟩
    rintro R' μ' v B3 H3 ⟨rfl, rfl⟩ e3 w3 hv3
    exact q v B3 H3 ((e1.trans e2).trans e3) w3 hv3
theorem o_bin {C : Addr} {fs gs : List (Str × AV)} {S : Spc} (hS : S [.ob C fs, .ob C gs] μ (fun R' μ' => R' = R ∧ μ' = μ1)) : Op2 K (rBinA C (spP K S)) (.ob C fs) (.ob C gs) μ R μ1 := fun F B H x y w h1 h2 Q q => by
  obtain ⟨p, dx, ws, rfl, g2, g3⟩ := h1
  obtain ⟨p', dx', ws', rfl, k2, k3⟩ := h2
  refine ⟨p, dx, ws, p', dx', ws', rfl, rfl, w.1 _ _ g2, w.1 _ _ k2, F, B, μ, [.ob C fs, .ob C gs], _, w, ⟨⟨p, dx, ws, rfl, g2, g3⟩, ⟨p', dx', ws', rfl, k2, k3⟩, trivial⟩, hS, ?_⟩
  rintro R' μ' v B3 H3 ⟨rfl, rfl⟩ e3 w3 hv3
  exact q v B3 H3 e3 w3 hv3
end
end Lw

set_option Elab.async false
set_option linter.all false
set_option maxRecDepth 100000
set_option maxHeartbeats 2000000
/-! comprehensions that collect abstract values; lists as what is unpacked -/
namespace Lw
open PySem PySem.Spec PyProof.Rows L2
section
variable {K : Fr} {ρ : AS} {μ μ1 μ2 μ3 : AM} {ta tb te tl : TE} {g : TG} {R R1 R2 : AV} {P : Po}
theorem gw_lst {gs : TGs} {as : List AV} {n : Nat} {ρ2 : AS} (hn : as.length = n) (h : GaW K gs as ρ ρ2) : GtW K (gLst K n gs) (.ls as) ρ ρ2 := fun B H σ v e hv sl Q q => by
  obtain ⟨a, vs, rfl, h1, h2⟩ := hv
  exact ⟨_, _, rfl, SqL.of (e _ _ h1), h2.length.symm.trans hn, h B H σ _ e h2 sl Q q⟩
theorem ew_lcA {α : Type} {wi : TI} {vs : List Nat} (l : List α) (f h : α → AV) (hi : ItW K wi ρ μ (l.map f) μ1)
    (hs : ∀ x ∈ l, ∃ ρ2, GcW K g vs (f x) (wipeA ρ vs) ρ2 ∧ EvW K te ρ2 μ1 (h x) μ1) (hz : l.length ≤ 90000) : EvW K (tLc wi g (fun _ H Q => Q true H) te vs) ρ μ (.ls (l.map h)) μ1 := fun F B H σ w sl Q q =>
  hi F B H σ w sl _ fun J B1 H1 e1 w1 j => fun Dl hD => by
    have hF0 : F Dl = none := by
      cases hF : F Dl with
      | none => rfl
      | some u => rw [(w1.2.2 Dl u hF).2.1] at hD; cases hD
    refine ⟨fun i m H => m = l.length - i ∧ i ≤ l.length ∧ ∃ B' ys, Same B1 B' ∧ Wd K (upd F Dl (.lst ys)) B' μ1 H ∧ AllH K B' ((l.take i).map h) ys, ⟨l.length, by simp, Nat.zero_le _, B1, [], Same.refl _, w1.newF hD, trivial⟩, ?_⟩
    rintro i m H ⟨rfl, hil, B', ys, e, w, hys⟩
    have ln : (l.map f).length = l.length := by simp
    by_cases hlt : i < l.length
    · refine .inr ⟨j.go B' H i e w.1 (by rw [ln]; exact hlt), fun H' => ∃ B' ys, Same B1 B' ∧ Wd K (upd F Dl (.lst ys)) B' μ1 H' ∧ AllH K B' ((l.take (i + 1)).map h) ys, fun H' q => ⟨l.length - (i + 1), by omega, rfl, hlt, q⟩, fun x H' y => ?_⟩
      obtain ⟨B3, e3, w3, hx⟩ := j.yld _ B' H μ1 i (f l[i]) x H' e w (by simp [hlt]) y
      obtain ⟨ρ2, hg, hd⟩ := hs l[i] (List.getElem_mem hlt)
      refine hg B3 H' σ x w3.1 hx ((sl.wipe vs).mono ((e1.trans e).trans e3)) _ fun σ2 hw sl2 => ⟨hw, ?_⟩
      show te σ2 H' _
      refine hd _ B3 H' σ2 w3 sl2 _ fun v B5 H5 e5 w5 h5 => ⟨ys, (w5.2.2 Dl _ upd_same).2.1, ?_, B5, ys ++ [v], (e.trans e3).trans e5, ?_, ?_⟩
      · have l1 := hys.length
        rw [List.length_map, List.length_take] at l1
        exact Nat.lt_of_lt_of_le (by omega : ys.length < 100000) (by decide : 100000 ≤ sizeLine)
      · have := w5.setF (o := .lst (ys ++ [v])) upd_same
        rw [upd_upd] at this
        exact this
      · rw [List.take_add_one, List.getElem?_eq_getElem hlt, List.map_append]
        exact (hys.mono (e3.trans e5)).app ⟨h5, trivial⟩
    · have ei : i = l.length := by omega
      subst ei
      rw [List.take_length] at hys
      obtain ⟨w5, e5, e6⟩ := w.freezeF hF0
      have js := j.stop B' H e w.1
      rw [ln] at js
      exact .inl ⟨js, q _ _ H ((e1.trans e).trans e5) w5 ⟨_, _, rfl, e6, hys.mono e5⟩⟩
end
end Lw

set_option Elab.async false
set_option linter.all false
set_option maxRecDepth 100000
set_option maxHeartbeats 2000000
/-! dicts whose keys are ints, owned; owned lists of data: in, index, slices; is None -/
namespace Lw
open PySem PySem.Spec PyProof.Rows L2
section
variable {K : Fr} {ρ : AS} {μ μ1 μ2 μ3 : AM} {ta tb td te tl ty tv : TE} {R R1 R2 : AV} {P : Po} {d e : PyData} {ds es : List PyData} {kvs : List (Key × V)} {l : Addr}
theorem own_lst {F B H : Hp} {xs : List AV} (w : Wd K F B μ H) (hl : μ l = some (.lst xs)) : ∃ vs, H l = some (.lst vs) ∧ AllH K B xs vs := by
  obtain ⟨_, _, u, hu, vs, rfl, hA⟩ := w.2.1 l _ hl
  exact ⟨vs, hu, hA⟩
theorem own_o {F B H : Hp} {u : HO} (w : Wd K F B μ H) (hl : μ l = some (.o u)) : H l = some u := by
  obtain ⟨_, _, x, hx, ex⟩ := w.2.1 l _ hl
  have : x = u := ex.1
  rw [this] at hx
  exact hx
theorem own_free {F B H : Hp} {p : Addr} (w : Wd K F B μ H) (hp : H p = none) : μ p = none := by
  cases q : μ p with
  | none => rfl
  | some o => obtain ⟨_, _, u, hu, _⟩ := w.2.1 p o q; rw [hu] at hp; cases hp
theorem s_dnewK {i : Nat} (p : ∀ l, μ l = none → P.nx (ρ.set i (some (.r l))) (updM μ l (.o (.dK [])))) : StW K (tAsg tDNewK (gName i)) ρ μ P := fun F D B H σ w sl r => fun l hp =>
  r.nx _ _ B _ _ (p l (own_free w hp)) (Same.refl _) (w.newM (ao := .o (.dK [])) hp ⟨rfl, trivial⟩) (Sl.set (R := .r l) (v := .ref l) (show V.ref l = V.ref l from rfl) i sl)
/-- k in d, k not in d -/
theorem et_din {k : Int} (hy : EvW K ty ρ μ (.i k) μ1) (hd : EvW K td ρ μ1 (.r l) μ2) (hl : μ2 l = some (.o (.dK kvs))) : EvT K (tB (tDIn ty td)) ρ μ (valV kvs (.inl k)).isSome μ2 := fun F B H σ w sl Q q =>
  hy F B H σ w sl _ fun y B1 H1 e1 w1 h1 => hd F B1 H1 σ w1 (sl.mono e1) _ fun x B2 H2 e2 w2 h2 => by
    have ex : x = .ref l := h2
    have ey := h_i h1
    subst ex ey
    exact ⟨l, _, rfl, DGet.k (k := .inl k) (own_o w2 hl), _, rfl, q B2 H2 (e1.trans e2) w2⟩
theorem et_dnotin {k : Int} (hy : EvW K ty ρ μ (.i k) μ1) (hd : EvW K td ρ μ1 (.r l) μ2) (hl : μ2 l = some (.o (.dK kvs))) : EvT K (tB (tDNotIn ty td)) ρ μ (!(valV kvs (.inl k)).isSome) μ2 := fun F B H σ w sl Q q =>
  hy F B H σ w sl _ fun y B1 H1 e1 w1 h1 => hd F B1 H1 σ w1 (sl.mono e1) _ fun x B2 H2 e2 w2 h2 => by
    have ex : x = .ref l := h2
    have ey := h_i h1
    subst ex ey
    exact ⟨l, _, rfl, DGet.k (k := .inl k) (own_o w2 hl), _, rfl, q B2 H2 (e1.trans e2) w2⟩
/-- d[k] -/
theorem ew_dgetK {k r : Int} (hd : EvW K td ρ μ (.r l) μ1) (hy : EvW K ty ρ μ1 (.i k) μ2) (hl : μ2 l = some (.o (.dK kvs))) (hr : valV kvs (.inl k) = some (.int r)) : EvW K (tDGet td ty) ρ μ (.i r) μ2 := fun F B H σ w sl Q q =>
  hd F B H σ w sl _ fun x B1 H1 e1 w1 h1 => hy F B1 H1 σ w1 (sl.mono e1) _ fun y B2 H2 e2 w2 h2 => by
    have ex : x = .ref l := h1
    have ey := h_i h2
    subst ex ey
    have g := DGet.k (k := .inl k) (own_o w2 hl)
    rw [hr] at g
    exact ⟨l, .int r, rfl, g, q _ B2 H2 (e1.trans e2) w2 (.int r)⟩
/-- d[k] = v -/
theorem s_dputK {k r : Int} (hv : EvW K tv ρ μ (.i r) μ1) (hd : EvW K td ρ μ1 (.r l) μ2) (hy : EvW K ty ρ μ2 (.i k) μ3) (hl : μ3 l = some (.o (.dK kvs))) (hz : kvs.length < 100000) (p : P.nx ρ (updM μ3 l (.o (.dK (putK kvs (.inl k) (.int r)))))) : StW K (sDPut td ty tv) ρ μ P := fun F D B H σ w sl re =>
  hv F B H σ w sl _ fun v B1 H1 e1 w1 h1 => hd F B1 H1 σ w1 (sl.mono e1) _ fun x B2 H2 e2 w2 h2 => hy F B2 H2 σ w2 (sl.mono (e1.trans e2)) _ fun y B3 H3 e3 w3 h3 => by
    have ex : x = .ref l := h2
    have ev := h_i h1
    have ey := h_i h3
    subst ex ev ey
    exact ⟨l, _, rfl, DPut.k (k := .inl k) (own_o w3 hl) (Nat.lt_of_lt_of_le hz (by decide : 100000 ≤ sizeLine)), re.nx _ _ B3 _ σ p ((e1.trans e2).trans e3) (w3.set (ao := .o (.dK (putK kvs (.inl k) (.int r)))) hl ⟨rfl, trivial⟩) (sl.mono ((e1.trans e2).trans e3))⟩
/-- d[k] = True or False -/
theorem s_dputB {k : Int} {r : Bool} (hv : EvW K tv ρ μ (.b r) μ1) (hd : EvW K td ρ μ1 (.r l) μ2) (hy : EvW K ty ρ μ2 (.i k) μ3) (hl : μ3 l = some (.o (.dK kvs))) (hz : kvs.length < 100000) (p : P.nx ρ (updM μ3 l (.o (.dK (putK kvs (.inl k) (.bl r)))))) : StW K (sDPut td ty tv) ρ μ P := fun F D B H σ w sl re =>
  hv F B H σ w sl _ fun v B1 H1 e1 w1 h1 => hd F B1 H1 σ w1 (sl.mono e1) _ fun x B2 H2 e2 w2 h2 => hy F B2 H2 σ w2 (sl.mono (e1.trans e2)) _ fun y B3 H3 e3 w3 h3 => by
    have ex : x = .ref l := h2
    have ev := h_b h1
    have ey := h_i h3
    subst ex ev ey
    exact ⟨l, _, rfl, DPut.k (k := .inl k) (own_o w3 hl) (Nat.lt_of_lt_of_le hz (by decide : 100000 ≤ sizeLine)), re.nx _ _ B3 _ σ p ((e1.trans e2).trans e3) (w3.set (ao := .o (.dK (putK kvs (.inl k) (.bl r)))) hl ⟨rfl, trivial⟩) (sl.mono ((e1.trans e2).trans e3))⟩
/-! ### owned lists of data -/
theorem dp_own {F B H : Hp} (w : Wd K F B μ H) (hl : μ l = some (.lst (ds.map .d))) : Dp K H (.ref l) (.list ds) := by
  obtain ⟨vs, hu, hA⟩ := own_lst w hl
  exact .lst (SqL.of hu) (dpa_mono w.1 (AllH.data hA)).dp
/-- x in l -/
theorem o_inO (hl : μ l = some (.lst (ds.map .d))) (h1 : SeqAt.shaped d = true) (h2 : SeqAt.shaped (.list ds) = true) : Op2 K (rInD K) (.d d) (.r l) μ (.b (ds.any fun z => PyData.eqv z d)) μ := fun F B H x y w r1 r2 Q q => by
  have ey : y = .ref l := r2
  subst ey
  exact ⟨d, ds, (dp_mono w.1 r1).dp, dp_own w hl, h1, h2, q _ B H (Same.refl _) w (.bl _)⟩
theorem o_notInO (hl : μ l = some (.lst (ds.map .d))) (h1 : SeqAt.shaped d = true) (h2 : SeqAt.shaped (.list ds) = true) : Op2 K (rNotInD K) (.d d) (.r l) μ (.b (!ds.any fun z => PyData.eqv z d)) μ := fun F B H x y w r1 r2 Q q => by
  have ey : y = .ref l := r2
  subst ey
  exact ⟨d, ds, (dp_mono w.1 r1).dp, dp_own w hl, h1, h2, q _ B H (Same.refl _) w (.bl _)⟩
/-- l.index(x) -/
theorem ew_index {j : Nat} {z : PyData} (ho : EvW K te ρ μ (.r l) μ) (hx : EvW K ta ρ μ (.d d) μ) (hl : μ l = some (.lst (ds.map .d))) (h1 : SeqAt.shaped d = true) (h2 : SeqAt.shaped (.list ds) = true) (hz : ds[j]? = some z) (he : PyData.eqv z d = true) (hno : ∀ (m : Nat) (z' : PyData), m < j → ds[m]? = some z' → PyData.eqv z' d = false) :
    EvW K (tBM K "list" (rIndexD K) te (tCons ta tNil)) ρ μ (.i (j : Int)) μ := fun F B H σ w sl Q q => ho F B H σ w sl _ fun a B1 H1 e1 w1 ha => by
  have ea : a = .ref l := ha
  subst ea
  obtain ⟨vs1, hu1, _⟩ := own_lst w1 hl
  refine ⟨.inl ⟨rfl, vs1, SqL.of hu1⟩, hx F B1 H1 σ w1 (sl.mono e1) _ fun v B2 H2 e2 w2 hv => ?_⟩
  exact ⟨l, v, d, ds, j, z, rfl, rfl, dp_own w2 hl, (dp_mono w2.1 hv).dp, h2, h1, hz, he, hno, q _ B2 H2 (e1.trans e2) w2 (.int _)⟩
/-- l[i:j], l owned: a new list, data -/
theorem ew_slO {tlo thi : TO} {lo hi : Option Int} (h : EvW K te ρ μ (.r l) μ1) (h1 : EvO K tlo ρ μ1 lo μ2) (h2 : EvO K thi ρ μ2 hi μ3) (hl : μ3 l = some (.lst (ds.map .d))) : EvW K (tSl (rSlL K) te tlo thi) ρ μ (.d (.list (cutD ds lo hi))) μ3 := fun F B H σ w s Q q =>
  h F B H σ w s _ fun v B1 H1 e1 w1 hv => h1 F B1 H1 σ w1 (s.mono e1) _ fun B2 H2 e2 w2 => h2 F B2 H2 σ w2 (s.mono (e1.trans e2)) _ fun B3 H3 e3 w3 => by
    have ev : v = .ref l := hv
    subst ev
    obtain ⟨vs, hu, hA⟩ := own_lst w3 hl
    refine ⟨l, vs, rfl, SqL.of hu, fun p hp => ?_⟩
    obtain ⟨w4, e4, e5⟩ := w3.new (o := .lst (cutV vs lo hi)) hp
    exact q _ _ _ (((e1.trans e2).trans e3).trans e4) w4 (.lst (SqL.of e5) (dpa_mono e4 (dpa_cut (AllH.data hA))))
/-! ### is None -/
def noneD : PyData → Bool
  | .none => true
  | _ => false
theorem dt_non {B : Hp} {v : V} (h : Dt K B v d) : decide (v = .non) = noneD d := by
  cases h <;> first | rfl | exact decide_eq_false (by intro e; cases e)
theorem o_isN : Op2 K rIsN (.d d) (.d .none) μ (.b (noneD d)) μ := fun F B H x y w r1 r2 Q q => by
  have ey := h_n r2
  subst ey
  exact ⟨rfl, by rw [dt_non r1]; exact q _ B H (Same.refl _) w (.bl _)⟩
theorem o_notN : Op2 K rNotN (.d d) (.d .none) μ (.b (!noneD d)) μ := fun F B H x y w r1 r2 Q q => by
  have ey := h_n r2
  subst ey
  exact ⟨rfl, by rw [dt_non r1]; exact q _ B H (Same.refl _) w (.bl _)⟩
end
/-! ### a list that is changed no more -/
theorem set_self {σ : L2.St} {i : Nat} {v : Option V} (h : σ[i]? = some v) : σ.set i v = σ := by
  apply List.ext_getElem?
  intro j
  by_cases e : i = j
  · subst e
    rw [List.getElem?_set_self (List.getElem?_eq_some_iff.mp h).1, h]
  · rw [List.getElem?_set_ne e]
section
variable {K : Fr} {ρ : AS} {μ : AM} {s : TS} {P : Po} {ds : List PyData} {l : Addr} {i : Nat}
theorem s_freeze (hi : ρ[i]? = some (some (.r l))) (hl : μ l = some (.lst (ds.map .d))) (h : StW K s (ρ.set i (some (.d (.list ds)))) (delM μ l) P) : StW K s ρ μ P := fun F D B H σ w sl r => by
  obtain ⟨u, w5, e5, e6, vs, rfl, hA⟩ := w.freeze hl
  obtain ⟨v, h1, h2⟩ := sl.get hi
  have ev : v = .ref l := h2
  subst ev
  have sl2 : Sl K (upd B l (.lst vs)) (σ.set i (some (.ref l))) (ρ.set i (some (.d (.list ds)))) := Sl.set (R := .d (.list ds)) (v := .ref l) (.lst (SqL.of e6) (dpa_mono e5 (AllH.data hA))) i (sl.mono e5)
  rw [set_self h1] at sl2
  exact h F D _ H σ w5 sl2 (r.mono e5)
/-- tracked: + of lists takes it -/
theorem s_freezeT (hi : ρ[i]? = some (some (.r l))) (hl : μ l = some (.lst (ds.map .d))) (h : StW K s (ρ.set i (some (.t ds))) (delM μ l) P) : StW K s ρ μ P := fun F D B H σ w sl r => by
  obtain ⟨u, w5, e5, e6, vs, rfl, hA⟩ := w.freeze hl
  obtain ⟨v, h1, h2⟩ := sl.get hi
  have ev : v = .ref l := h2
  subst ev
  have sl2 : Sl K (upd B l (.lst vs)) (σ.set i (some (.ref l))) (ρ.set i (some (.t ds))) := Sl.set (R := .t ds) (v := .ref l) ⟨l, vs, rfl, e6, dpa_mono e5 (AllH.data hA)⟩ i (sl.mono e5)
  rw [set_self h1] at sl2
  exact h F D _ H σ w5 sl2 (r.mono e5)
theorem sub_del {μ' : AM} (h : Sub μ μ') (hl : μ l = none) : Sub μ (delM μ' l) := fun a o e => by
  unfold delM
  rw [if_neg (fun q : a = l => by rw [q, hl] at e; cases e)]
  exact h a o e
theorem delM_ne {a : Addr} (h : a ≠ l) : delM μ l a = μ a := by unfold delM; rw [if_neg h]
end
/-- if not f(..): .. , f(..) true whatever Post leaves open -/
theorem s_ifNotC {K : Fr} {ρ : AS} {μ μ1 : AM} {S : Spc} {Rs : List AV} {E : XK} {ta : TA} {s1 s2 : TS} {P : Po} {Post : AV → AM → Prop} (h : EvA K ta ρ μ Rs μ1) (hS : S Rs μ1 Post) (p : ∀ R μ', Post R μ' → R = .b true ∧ StW K s2 ρ μ' P) :
    StW K (tIfS (tNot (tB (tCall (spP K S) [] E ta))) s1 s2) ρ μ P := fun F D B H σ w sl r =>
  h F B H σ w sl _ fun vs B2 H2 e w2 hv => by
    rw [List.append_nil]
    refine ⟨F, B2, μ1, Rs, Post, w2, hv, hS, ?_⟩
    intro R μ' v B3 H3 hp e3 w3 h3
    obtain ⟨rfl, hk⟩ := p R μ' hp
    have ev := h_b h3
    subst ev
    exact ⟨true, rfl, hk F D B3 H3 σ w3 (sl.mono (e.trans e3)) (r.mono (e.trans e3))⟩
/-- x, y = e, [] : the new list owned -/
theorem s_par2 {K : Fr} {ρ : AS} {μ μ1 : AM} {P : Po} {R1 : AV} {i j : Nat} {tr : TE} (h : ∀ (ρ : AS) (μ : AM), EvW K tr ρ μ R1 μ) (p : ∀ l, μ l = none → P.nx ((ρ.set i (some R1)).set j (some (.r l))) (updM μ l (.lst []))) :
    StW K (tPar i j (tCons tr (tCons (tLst tNil) tNil))) ρ μ P := fun F D B H σ w sl r => by
  refine h ρ μ F B H σ w sl _ fun v B3 H3 e3 w3 hv => ⟨Nat.zero_le _, fun l hp => ⟨_, _, rfl, ?_⟩⟩
  exact r.nx _ _ B3 _ _ (p l (own_free w3 hp)) e3 (w3.newM hp ⟨[], rfl, trivial⟩) (Sl.set (R := .r l) (v := .ref l) (show V.ref l = V.ref l from rfl) j (Sl.set hv i (sl.mono e3)))
/-! ### within a comprehension: the fragment told -/
theorem op_eqDK {X : Cx} {K : Fr} (hK : X.K = K) (hu : X.A.units + 64 < cLine) : OpR X (compareOp .Eq) (rEqD K) := by
  subst hK
  exact op_eqD hu
theorem op_neDK {X : Cx} {K : Fr} (hK : X.K = K) (hu : X.A.units + 64 < cLine) : OpR X (compareOp .NotEq) (rNeD K) := by
  subst hK
  exact op_neD hu
section
variable {K : Fr} {ρ : AS} {μ μ1 μ2 μ3 : AM} {ta tb te tl : TE} {g : TG} {R R1 R2 : AV} {d e : PyData} {ds es : List PyData} {P : Po}
/-- [te for g in .. if tt] -/
theorem ew_lcF {α : Type} {wi : TI} {tt : TT} {vs : List Nat} (l : List α) (f : α → AV) (b : α → Bool) (h : α → PyData) (hi : ItW K wi ρ μ (l.map f) μ1)
    (hs : ∀ x ∈ l, ∃ ρ2, GcW K g vs (f x) (wipeA ρ vs) ρ2 ∧ EvT K tt ρ2 μ1 (b x) μ1 ∧ (b x = true → EvW K te ρ2 μ1 (.d (h x)) μ1)) (hz : l.length ≤ 90000) : EvW K (tLc wi g tt te vs) ρ μ (.d (.list ((l.filter b).map h))) μ1 := by
  have := ew_lc (K := K) (ρ := ρ) (μ := μ) (g := g) (te := te) (tt := tt) (vs := vs) (μ1 := μ1) (xs := l.map f) (fun _ => μ1) (fun i => ((l.take i).filter b).map h) hi rfl (fun i a ha => by
    rw [List.getElem?_map] at ha
    cases hx : l[i]? with
    | none => rw [hx] at ha; cases ha
    | some x =>
      rw [hx] at ha
      cases ha
      obtain ⟨ρ2, h1, h2, h3⟩ := hs x (List.mem_of_getElem? hx)
      refine ⟨ρ2, b x, μ1, h1, h2, fun hb => ⟨h x, h3 hb, ?_⟩, fun hb => ⟨rfl, ?_⟩⟩
      · rw [List.take_add_one, hx, List.filter_append, List.map_append]
        simp [hb]
      · rw [List.take_add_one, hx, List.filter_append, List.map_append]
        simp [hb]) (by rw [List.length_map]; exact hz) rfl
  rw [List.length_map, List.take_length] at this
  exact this
/-- l * n, l tracked -/
theorem o_rep {n : Int} (h0 : 0 ≤ n ∧ n ≤ 1000) (hz : ds.length ≤ 100) : Op2 K rRep (.t ds) (.i n) μ (.t (List.replicate n.toNat ds).flatten) μ := fun F B H x y w r1 r2 Q q => by
  obtain ⟨a, vs, rfl, h2, h3⟩ := r1
  have ey := h_i r2
  subst ey
  have hl := dpa_length h3
  refine ⟨a, n, vs, rfl, rfl, w.1 _ _ h2, by omega, by omega, ?_, fun p hp => ?_⟩
  · have : vs.length * n.toNat ≤ 100 * 1000 := Nat.mul_le_mul (by omega) (by omega)
    exact Nat.le_trans this (by decide)
  · obtain ⟨w3, e3, e4⟩ := w.new (o := .lst (List.replicate n.toNat vs).flatten) hp
    have hrep : ∀ k : Nat, DtAll K B (List.replicate k vs).flatten (List.replicate k ds).flatten := by
      intro k
      induction k with
      | zero => exact .nil
      | succ k ih =>
        rw [List.replicate_succ, List.flatten_cons, List.replicate_succ, List.flatten_cons]
        exact dpa_app h3 ih
    exact q _ _ _ e3 w3 ⟨p, _, rfl, e4, dpa_mono e3 (hrep n.toNat)⟩
/-- the last item -/
theorem o_ixLast (h : ds.getLast? = some d) : Op2 K (rIxL K) (.d (.list ds)) (.i (-1)) μ (.d d) μ := fun F B H x y w r1 r2 Q q => by
  have := h_i r2
  subst this
  cases (show Dt K B x (.list ds) from r1) with
  | @lst a vs _ h1 h2 =>
    rw [List.getLast?_eq_getElem?] at h
    have hl := dpa_length h2
    have hd := (List.getElem?_eq_some_iff.mp h).1
    obtain ⟨v, hv, hd2⟩ := dpa_get h2 h
    refine ⟨a, vs, -1, v, rfl, rfl, w.1.seq h1, ?_, q _ B H (Same.refl _) w hd2⟩
    unfold atI ixN
    rw [if_neg (by omega), if_pos (by omega)]
    have : ((-1 : Int) + (vs.length : Int)).toNat = ds.length - 1 := by omega
    show vs[((-1 : Int) + (vs.length : Int)).toNat]? = some v
    rw [this]
    exact hv
end
/-! ### ints as data -/
def intsD (xs : List Int) : List PyData := xs.map .int
theorem intsD_len (xs : List Int) : (intsD xs).length = xs.length := by unfold intsD; simp
theorem intsD_get {xs : List Int} {i : Nat} {x : Int} (h : xs[i]? = some x) : (intsD xs)[i]? = some (.int x) := by
  unfold intsD
  rw [List.getElem?_map, h]
  rfl
theorem shaped_int (i : Int) : SeqAt.shaped (.int i) = true := by
  unfold SeqAt.shaped
  simp [PyData.canLay0, PyData.depth]
theorem lay_ints : ∀ xs : List Int, PyData.canLayAll0 (intsD xs) = true
  | [] => by simp [intsD, PyData.canLayAll0]
  | x :: xs => by
    have ih := lay_ints xs
    unfold intsD at ih ⊢
    simp only [List.map_cons, PyData.canLayAll0, PyData.canLay0, ih, Bool.and_self]
theorem depth_ints : ∀ xs : List Int, PyData.depthAll (intsD xs) ≤ 1
  | [] => by simp [intsD, PyData.depthAll]
  | x :: xs => by
    have ih := depth_ints xs
    unfold intsD at ih ⊢
    simp only [List.map_cons, PyData.depthAll, PyData.depth]
    omega
theorem shaped_ints (xs : List Int) : SeqAt.shaped (.list (intsD xs)) = true := by
  unfold SeqAt.shaped
  have h := depth_ints xs
  simp only [PyData.canLay0, PyData.depth, lay_ints, Bool.true_and]
  exact decide_eq_true (show PyData.depthAll (intsD xs) + 1 ≤ 64 by omega)
theorem eqv_int (i j : Int) : PyData.eqv (.int i) (.int j) = decide (i = j) := by
  simp only [PyData.eqv]
  by_cases h : i = j <;> simp [h]
theorem any_int (xs : List Int) (i : Int) : ((intsD xs).any fun z => PyData.eqv z (.int i)) = decide (i ∈ xs) := by
  induction xs with
  | nil => simp [intsD]
  | cons x xs ih =>
    unfold intsD at ih ⊢
    rw [List.map_cons, List.any_cons, ih, eqv_int]
    by_cases h1 : x = i <;> by_cases h2 : i ∈ xs <;> simp [h1, h2, eq_comm]
    · exact fun h => h1 h.symm
/-- where the depths of a way stand, the way read from its end -/
def places : List Int → List (Key × V)
  | [] => []
  | x :: r => putK (places r) (.inl x) (.int (r.length : Int))
theorem putK_len {κ : Type} [DecidableEq κ] (kvs : List (κ × V)) (k : κ) (v : V) : (putK kvs k v).length ≤ kvs.length + 1 := by
  unfold putK
  split
  · rw [List.length_map]; omega
  · rw [List.length_append]; simp
theorem places_len : ∀ r : List Int, (places r).length ≤ r.length
  | [] => Nat.le_refl _
  | _ :: r => Nat.le_trans (putK_len _ _ _) (Nat.succ_le_succ (places_len r))
theorem places_no : ∀ {r : List Int} {x : Int}, x ∉ r → valV (places r) (.inl x) = none
  | [], x, _ => rfl
  | y :: r, x, h => by
    rw [List.mem_cons, not_or] at h
    show valV (putK (places r) (.inl y) _) (.inl x) = none
    rw [valV_put, if_neg (fun e => h.1 (Sum.inl.inj e))]
    exact places_no h.2
theorem places_at : ∀ {r : List Int} {x : Int}, r.Nodup → x ∈ r → ∃ i : Nat, valV (places r) (.inl x) = some (.int (i : Int)) ∧ r.reverse[i]? = some x
  | [], x, _, h => by simp at h
  | y :: r, x, hn, h => by
    show ∃ i : Nat, valV (putK (places r) (.inl y) _) (.inl x) = _ ∧ _
    rw [valV_put]
    by_cases e : x = y
    · subst e
      refine ⟨r.length, by rw [if_pos rfl], ?_⟩
      rw [List.reverse_cons, List.getElem?_append_right (by simp)]
      simp
    · rw [if_neg (fun q => e (Sum.inl.inj q))]
      have hm : x ∈ r := by
        rcases List.mem_cons.mp h with q | q
        · exact absurd q e
        · exact q
      obtain ⟨i, h1, h2⟩ := places_at (List.nodup_cons.mp hn).2 hm
      refine ⟨i, h1, ?_⟩
      have hl := (List.getElem?_eq_some_iff.mp h2).1
      rw [List.reverse_cons, List.getElem?_append_left hl]
      exact h2
end Lw

set_option Elab.async false
set_option linter.all false
set_option maxRecDepth 100000
set_option maxHeartbeats 2000000
/-! a new list of a tuple; extend; an instance that stays owned for a while -/
namespace Lw
open PySem PySem.Spec PyProof.Rows L2
theorem delM_upd {μ : AM} {l : Addr} {o : AO} (h : μ l = none) : delM (updM μ l o) l = μ := by
  funext b
  unfold delM updM
  by_cases e : b = l
  · subst e; rw [if_pos rfl, h]
  · rw [if_neg e, if_neg e]
section
variable {K : Fr} {ρ : AS} {μ μ1 μ2 μ3 : AM} {ta tb td te tl ty tv : TE} {R R1 R2 : AV} {P : Po} {d e : PyData} {ds es zs : List PyData} {l : Addr} {g : TG}
/-- x = list(t), t a tuple: owned -/
theorem s_listT {i : Nat} (h : EvW K te ρ μ (.d (.tuple ds)) μ1) (k : ∀ l, μ1 l = none → P.nx (ρ.set i (some (.r l))) (updM μ1 l (.lst (ds.map .d)))) :
    StW K (tAsg (tCB (fun xs H Q => ∃ p ys, xs = [.ref p] ∧ (SqL K H p ys ∨ SqT K H p ys) ∧ ∀ l, H l = none → Q (.ref l) (upd H l (.lst ys))) (tCons te tNil)) (gName i)) ρ μ P := fun F D B H σ w sl r =>
  h F B H σ w sl _ fun v B2 H2 e w2 hv => by
    cases (show Dt K B2 v (.tuple ds) from hv) with
    | @tup a vs _ h1 h0a h2 =>
      refine ⟨a, vs, rfl, .inr (seq_l w2.1 h1), fun l hp => ?_⟩
      have hm : μ1 l = none := own_free w2 hp
      exact r.nx _ _ B2 _ _ (k l hm) e (w2.newM hp ⟨_, rfl, AllH.of h2⟩) (Sl.set (R := .r l) (v := .ref l) (show V.ref l = V.ref l from rfl) i (sl.mono e))
/-- a comprehension, tracked -/
theorem ew_lcT {α : Type} {wi : TI} {vs : List Nat} (l : List α) (f : α → AV) (h : α → PyData) (hi : ItW K wi ρ μ (l.map f) μ1)
    (hs : ∀ x ∈ l, ∃ ρ2, GcW K g vs (f x) (wipeA ρ vs) ρ2 ∧ EvW K te ρ2 μ1 (.d (h x)) μ1) (hz : l.length ≤ 90000) : EvW K (tLc wi g (fun _ H Q => Q true H) te vs) ρ μ (.t (l.map h)) μ1 := fun F B H σ w sl Q q => by
  refine lc_run (K := K) (ρ := ρ) (μ := μ) (g := g) (te := te) (tt := fun _ H Q => Q true H) (vs := vs) (xs := l.map f) (fun _ => μ1) (fun i => (l.take i).map h) hi rfl (fun i a ha => ?_) (by rw [List.length_map]; exact hz) F B H σ w sl Q fun Dl B2 H2 ys e hF w2 hys => ?_
  · rw [List.getElem?_map] at ha
    cases hx : l[i]? with
    | none => rw [hx] at ha; cases ha
    | some x =>
      rw [hx] at ha
      cases ha
      obtain ⟨ρ2, h1, h2⟩ := hs x (List.mem_of_getElem? hx)
      refine ⟨ρ2, true, μ1, h1, et_nil, fun _ => ⟨h x, h2, ?_⟩, nofun⟩
      rw [List.take_add_one, hx, List.map_append]
      rfl
  · rw [List.length_map, List.take_length] at hys
    obtain ⟨w5, e5, e6⟩ := w2.freezeF hF
    exact q _ _ H2 (e.trans e5) w5 ⟨Dl, ys, rfl, e6, dpa_mono e5 hys⟩
/-- l.extend(t), l owned -/
theorem s_ext {xs : List AV} (ha : EvW K ta ρ μ (.r l) μ1) (h : EvW K te ρ μ1 (.t zs) μ2) (hl1 : ∃ xs1, μ1 l = some (.lst xs1)) (hl : μ2 l = some (.lst xs)) (hz : xs.length + zs.length ≤ 100000) (p : P.nx ρ (updM μ2 l (.lst (xs ++ zs.map .d)))) :
    StW K (tDrop (tBM K "list" rExtend ta (tCons te tNil))) ρ μ P := fun F D B H σ w sl r => ha F B H σ w sl _ fun a B1 H1 e1 w1 h1 => by
  have ea : a = .ref l := h1
  subst ea
  obtain ⟨xs1, q1⟩ := hl1
  obtain ⟨_, _, u1, hu1, vs1, rfl, hA1⟩ := w1.2.1 l _ q1
  refine ⟨.inl ⟨rfl, vs1, SqL.of hu1⟩, h F B1 H1 σ w1 (sl.mono e1) _ fun v B2 H2 e2 w2 h2 => ?_⟩
  obtain ⟨b, ws, rfl, hb, hws⟩ := h2
  obtain ⟨_, _, u, hu, vs, rfl, hA⟩ := w2.2.1 l _ hl
  have hl2 : ws.length = zs.length := by have := (AllH.of hws).length; rw [List.length_map] at this; omega
  refine ⟨l, b, vs, ws, rfl, rfl, hu, w2.1 _ _ hb, by rw [← hA.length, hl2]; exact Nat.le_trans hz (by decide), ?_⟩
  have w4 : Wd K F B2 (updM μ2 l (.lst (xs ++ zs.map .d))) (upd H2 l (.lst (vs ++ ws))) := w2.set hl ⟨_, rfl, AllH.app hA (AllH.of hws)⟩
  exact r.nx _ _ B2 _ _ p (e1.trans e2) w4 (sl.mono (e1.trans e2))
/-- x = C(..), the instance owned -/
theorem s_make {C : Addr} {i : Nat} {S : Spc} {E : XK} {t : TA} {Rs : List AV} {fs : List (Str × AV)} (h : EvA K t ρ μ Rs μ1) (hS : ∀ p dx, μ1 p = none → S (.r p :: Rs) (updM μ1 p (.ins C dx [])) (fun R μ' => R = .d .none ∧ μ' = updM μ1 p (.ins C dx fs)))
    (k : ∀ p dx, μ1 p = none → P.nx (ρ.set i (some (.r p))) (updM μ1 p (.ins C dx fs))) : StW K (tAsg (tMake C (spP K S) [] E t) (gName i)) ρ μ P := fun F D B H σ w sl r =>
  h F B H σ w sl _ fun vs B1 H1 e1 w1 hv => fun p dx hp hdx hne => by
    have hm : μ1 p = none := own_free w1 hp
    obtain ⟨w2, e2, _⟩ := w1.new (o := .own p) hdx
    have hp2 : upd H1 dx (.own p) p = none := by rw [upd_ne hne.symm]; exact hp
    have w3 : Wd K F (upd B1 dx (.own p)) (updM μ1 p (.ins C dx [])) (upd (upd H1 dx (.own p)) p (.ins C dx [])) := w2.newM hp2 ⟨[], rfl, trivial⟩
    rw [List.append_nil]
    refine ⟨F, _, _, .r p :: Rs, _, w3, ⟨rfl, hv.mono e2⟩, hS p dx hm, ?_⟩
    rintro R μ' v B4 H4 ⟨rfl, rfl⟩ e4 w4 hv4
    refine ⟨h_n hv4, ?_⟩
    exact r.nx _ _ B4 _ _ (k p dx hm) ((e1.trans e2).trans e4) w4 (Sl.set (R := .r p) (v := .ref p) (show V.ref p = V.ref p from rfl) i (sl.mono ((e1.trans e2).trans e4)))
/-- an instance that is changed no more -/
theorem s_freezeI {C dx : Addr} {i : Nat} {fs : List (Str × AV)} {s : TS} (hi : ρ[i]? = some (some (.r l))) (hl : μ l = some (.ins C dx fs)) (h : StW K s (ρ.set i (some (.ob C fs))) (delM μ l) P) : StW K s ρ μ P := fun F D B H σ w sl r => by
  obtain ⟨u, w5, e5, e6, ws, rfl, hF⟩ := w.freeze hl
  obtain ⟨v, h1, h2⟩ := sl.get hi
  have ev : v = .ref l := h2
  subst ev
  have sl2 : Sl K (upd B l (.ins C dx ws)) (σ.set i (some (.ref l))) (ρ.set i (some (.ob C fs))) := Sl.set (R := .ob C fs) (v := .ref l) ⟨l, dx, ws, rfl, e6, hF.mono e5⟩ i (sl.mono e5)
  rw [set_self h1] at sl2
  exact h F D _ H σ w5 sl2 (r.mono e5)
end
end Lw

set_option Elab.async false
set_option linter.all false
set_option maxRecDepth 100000
set_option maxHeartbeats 2000000
/-! the mathematics of draws, cut effects, effects put together, powers of effects; nothing of a row -/
namespace K15
open PySem PySem.Spec PyProof.Rows L2 Lw
/-! ### the mathematics of the draws -/
/-- the state of the draws -/
structure Kl where
  a : Int
  b : Int
  c : Int
def mix1 (s : Kl) : Int := (s.b + 67867967 * (s.c + 1)) ^ 3 % (10 ^ 43 + 57)
def mix2 (s : Kl) : Int := (mix1 s + 49979687 * (s.c + 1)) ^ 3 % (10 ^ 42 + 63)
def drawn (s : Kl) (n : Int) : Int := if 0 < s.a then s.a % n else mix2 s / 786433 % n
def after (s : Kl) (n : Int) : Kl := if 0 < s.a then ⟨s.a / n, s.b, s.c⟩ else ⟨s.a, s.b, s.c + 1⟩
theorem drawn_lo (s : Kl) {n : Int} (h : 0 < n) : 0 ≤ drawn s n ∧ drawn s n < n := by
  unfold drawn
  split
  · exact ⟨Int.emod_nonneg _ (by omega), Int.emod_lt_of_pos _ h⟩
  · exact ⟨Int.emod_nonneg _ (by omega), Int.emod_lt_of_pos _ h⟩
/-- the numbers that the draws reckon with are of no great size -/
def Kl.ok (s : Kl) : Prop := 0 ≤ s.b ∧ s.b ≤ 10 ^ 42 ∧ 0 ≤ s.c ∧ 0 ≤ s.a
theorem after_ok {s : Kl} {n : Int} (h : s.ok) (hn : 0 < n) : (after s n).ok := by
  obtain ⟨h1, h2, h3, h5⟩ := h
  unfold after
  split
  · exact ⟨h1, h2, h3, Int.ediv_nonneg h5 (by omega)⟩
  · refine ⟨h1, h2, ?_, h5⟩
    show 0 ≤ s.c + 1
    omega
theorem after_c (s : Kl) (n : Int) : (after s n).c ≤ s.c + 1 := by
  unfold after
  split
  · show s.c ≤ s.c + 1
    omega
  · exact Int.le_refl _
def kO (s : Kl) : AO := .lst [.i s.a, .i s.b, .i s.c]

theorem pow_ok {i : Int} {b n : Nat} (h : i.natAbs < 2 ^ b) (hb : 0 < b) (hn : b * n ≤ 2 ^ 27) : CPowX i (n : Int) := by
  refine ⟨Int.natCast_nonneg n, ?_⟩
  have h1 : Builtin.Int.intBits i ≤ b := by
    unfold Builtin.Int.intBits
    split
    · omega
    · have := PySem.Flt.log2_lt_of hb h
      omega
  have h2 : (Builtin.Int.intBits i : Int) * (n : Int) = ((Builtin.Int.intBits i * n : Nat) : Int) := by simp
  rw [h2]
  have h3 : Builtin.Int.intBits i * n ≤ b * n := Nat.mul_le_mul_right n h1
  exact_mod_cast Nat.le_trans h3 hn

def kil (ns : List Int) (k : Nat) : Kl := let cell := ns.getD k 0; ⟨max 0 (cell - 10 ^ 18), cell % (10 ^ 40 + 121) + 90001 * (k : Int) + 61, 0⟩
theorem kil_ok (ns : List Int) {k : Nat} (h : k ≤ 100) : (kil ns k).ok := by
  unfold kil Kl.ok
  have h0 := Int.emod_nonneg (ns.getD k 0) (show (10 ^ 40 + 121 : Int) ≠ 0 by decide)
  have h1 := Int.emod_lt_of_pos (ns.getD k 0) (show (0 : Int) < 10 ^ 40 + 121 by decide)
  refine ⟨?_, ?_, ?_, ?_⟩ <;> simp only <;> omega

/-- the source of a cell behind taken and left -/
def source (t : Int) (l : List Src) (k : Nat) : Src := if h : k < l.length then l[l.length - 1 - k] else .inp ((k : Int) + t - l.length)

theorem updM_self {μ : AM} {l : Addr} {o : AO} (h : μ l = some o) : updM μ l o = μ := by
  funext b
  unfold updM
  by_cases e : b = l
  · rw [if_pos e, e, h]
  · rw [if_neg e]
theorem updM_comm {μ : AM} {a b : Addr} {o u : AO} (h : a ≠ b) : updM (updM μ a o) b u = updM (updM μ b u) a o := by
  funext c
  unfold updM
  by_cases e1 : c = b
  · rw [if_pos e1, if_neg (fun e => h (e.symm.trans e1)), if_pos e1]
  · by_cases e2 : c = a
    · rw [if_neg e1, if_pos e2, if_pos e2]
    · rw [if_neg e1, if_neg e2, if_neg e2, if_neg e1]
/-- a draw, as a step of the state -/
def pick3 (x y z k : Int) : Int := if k = 0 then x else if k = 1 then y else z
theorem get3 {x y z k : Int} (h : 0 ≤ k ∧ k < 3) : ([PyData.int x, .int y, .int z] : List PyData)[k.toNat]? = some (.int (pick3 x y z k)) := by
  have : k = 0 ∨ k = 1 ∨ k = 2 := by omega
  rcases this with rfl | rfl | rfl <;> rfl
def pick2 (x y k : Int) : Int := if k = 0 then x else y
theorem get2 {x y k : Int} (h : 0 ≤ k ∧ k < 2) : ([PyData.int x, .int y] : List PyData)[k.toNat]? = some (.int (pick2 x y k)) := by
  have : k = 0 ∨ k = 1 := by omega
  rcases this with rfl | rfl <;> rfl
/-- one of three: a draw below 4, one below m + 1, z -/
def draw3 (s : Kl) (m z : Int) : Int × Kl :=
  let s1 := after s 4
  let s2 := after s1 (m + 1)
  (pick3 (drawn s 4) (drawn s1 (m + 1)) z (drawn s2 3), after s2 3)
def downs (t : Int) : List Src := (List.range t.toNat).map fun (i : Nat) => Src.inp (t - 1 - (i : Int))
def stepLit (way : Int) (f : List Src) (s : Kl) : List Src × Kl :=
  let s1 := after s 3
  (f ++ [.lit (pick2 (drawn s 3) (drawn s1 (2 * 10 ^ 30 + 1) - 10 ^ 30) (way % 2))], after s1 (2 * 10 ^ 30 + 1))
def stepIn (t way k : Int) (f : List Src) (s : Kl) : List Src × Kl :=
  (f ++ [.inp (pick2 (k % t) (drawn s t) (if 2 < way then 1 else 0))], after s t)
def step (t way k : Int) (p : List Src × Kl) : List Src × Kl :=
  if t = 0 then stepLit way p.1 p.2 else if drawn p.2 4 = 0 then stepLit way p.1 (after p.2 4) else stepIn t way k p.1 (after p.2 4)
def steps (t way : Int) : Nat → List Src × Kl → List Src × Kl
  | 0, p => p
  | n + 1, p => step t way (n : Int) (steps t way n p)
structure Mk where
  t : Int
  l : List Src
  s : Kl
def made (s : Kl) (m : Int) : Mk :=
  let a := draw3 s m m
  let way := drawn a.2 5
  let f0 := if way = 0 then downs a.1 else []
  let b := draw3 (after a.2 5) m a.1
  let p := steps a.1 way (min b.1 (m - (f0.length : Int))).toNat (f0, b.2)
  ⟨a.1, if way = 4 then p.1.reverse else p.1, p.2⟩

/-! facts of these -/
theorem pick3_in {x y z k lo hi : Int} (h1 : lo ≤ x ∧ x ≤ hi) (h2 : lo ≤ y ∧ y ≤ hi) (h3 : lo ≤ z ∧ z ≤ hi) : lo ≤ pick3 x y z k ∧ pick3 x y z k ≤ hi := by
  unfold pick3
  split
  · exact h1
  · split
    · exact h2
    · exact h3
structure Grows (s s' : Kl) (n : Int) : Prop where
  ok : s'.ok
  c : s'.c ≤ s.c + n
theorem grow1 {s : Kl} {n : Int} (h : s.ok) (hn : 0 < n) : Grows s (after s n) 1 := ⟨after_ok h hn, after_c s n⟩
theorem Grows.trans {a b c : Kl} {m n : Int} (h : Grows a b m) (k : Grows b c n) : Grows a c (m + n) := ⟨k.ok, by have := h.c; have := k.c; omega⟩
theorem Grows.le {a b : Kl} {m n : Int} (h : Grows a b m) (k : m ≤ n) : Grows a b n := ⟨h.ok, by have := h.c; omega⟩
theorem draw3_ok {s : Kl} {m z : Int} (h : s.ok) (hm : 3 ≤ m) (hz : 0 ≤ z ∧ z ≤ m) : (0 ≤ (draw3 s m z).1 ∧ (draw3 s m z).1 ≤ m) ∧ Grows s (draw3 s m z).2 3 := by
  have g1 := grow1 (n := 4) h (by omega)
  have g2 := grow1 (n := m + 1) g1.ok (by omega)
  have g3 := grow1 (n := 3) g2.ok (by omega)
  have d1 := drawn_lo s (n := 4) (by omega)
  have d2 := drawn_lo (after s 4) (n := m + 1) (by omega)
  exact ⟨pick3_in (by omega) (by omega) hz, (g1.trans g2).trans g3⟩
theorem stepLit_ok {way : Int} {f : List Src} {s : Kl} (h : s.ok) : (stepLit way f s).1.length = f.length + 1 ∧ Grows s (stepLit way f s).2 2 := by
  have g1 := grow1 (n := 3) h (by omega)
  have g2 := grow1 (n := 2 * 10 ^ 30 + 1) g1.ok (by decide)
  exact ⟨by simp [stepLit], g1.trans g2⟩
theorem stepIn_ok {t way k : Int} {f : List Src} {s : Kl} (h : s.ok) (ht : 0 < t) : (stepIn t way k f s).1.length = f.length + 1 ∧ Grows s (stepIn t way k f s).2 1 :=
  ⟨by simp [stepIn], grow1 h ht⟩
theorem step_ok {t way k : Int} {p : List Src × Kl} (h : p.2.ok) (ht : 0 ≤ t) : (step t way k p).1.length = p.1.length + 1 ∧ Grows p.2 (step t way k p).2 3 := by
  unfold step
  have g := grow1 (n := 4) h (by omega)
  split
  · have := stepLit_ok (way := way) (f := p.1) h
    exact ⟨this.1, this.2.le (by omega)⟩
  · split
    · have := stepLit_ok (way := way) (f := p.1) g.ok
      exact ⟨this.1, (g.trans this.2).le (by omega)⟩
    · have := stepIn_ok (way := way) (k := k) (f := p.1) g.ok (show 0 < t by omega)
      exact ⟨this.1, (g.trans this.2).le (by omega)⟩
theorem steps_ok {t way : Int} {p : List Src × Kl} (h : p.2.ok) (ht : 0 ≤ t) : ∀ n : Nat, (steps t way n p).1.length = p.1.length + n ∧ Grows p.2 (steps t way n p).2 (3 * n)
  | 0 => ⟨rfl, h, by show p.2.c ≤ p.2.c + 3 * ((0 : Nat) : Int); omega⟩
  | n + 1 => by
    have ih := steps_ok (way := way) h ht n
    have := step_ok (t := t) (way := way) (k := (n : Int)) (p := steps t way n p) ih.2.ok ht
    refine ⟨?_, (ih.2.trans this.2).le (by omega)⟩
    show (step t way (n : Int) (steps t way n p)).1.length = _
    rw [this.1, ih.1]
    omega

def srcOk (t : Int) : Src → Bool
  | .inp k => decide (0 ≤ k) && decide (k ≤ t - 1)
  | .lit c => decide (-(10 ^ 30) ≤ c) && decide (c ≤ 10 ^ 30)

/-- Effect(taken, left) that is none too great -/
def okE (t : Int) (l : List Src) : Prop := 0 ≤ t ∧ t ≤ 100 ∧ l.length ≤ 100 ∧ l.all (srcOk t) = true


/-! ### the mathematics of cut effects -/
theorem srcOk_inp {t k : Int} (h : srcOk t (.inp k) = true) : 0 ≤ k ∧ k < t := by
  have h' : (decide (0 ≤ k) && decide (k ≤ t - 1)) = true := h
  simp only [Bool.and_eq_true, decide_eq_true_eq] at h'
  omega
theorem srcOk_lit {t k : Int} (h : srcOk t (.lit k) = true) : -(10 ^ 30) ≤ k ∧ k ≤ 10 ^ 30 := by
  have h' : (decide (-(10 ^ 30) ≤ k) && decide (k ≤ 10 ^ 30)) = true := h
  simpa only [Bool.and_eq_true, decide_eq_true_eq] using h'
theorem inp_ok {t k : Int} (h : 0 ≤ k ∧ k < t) : srcOk t (.inp k) = true := by
  show (decide (0 ≤ k) && decide (k ≤ t - 1)) = true
  simp only [Bool.and_eq_true, decide_eq_true_eq]
  omega
theorem lit_ok {t k : Int} (h : -(10 ^ 30) ≤ k ∧ k ≤ 10 ^ 30) : srcOk t (.lit k) = true := by
  show (decide (-(10 ^ 30) ≤ k) && decide (k ≤ 10 ^ 30)) = true
  simpa only [Bool.and_eq_true, decide_eq_true_eq] using h
theorem ok_up {t u : Int} {s : Src} (h : srcOk t s = true) (hu : t ≤ u) : srcOk u s = true := by
  cases s with
  | inp k => have := srcOk_inp h; exact inp_ok (by omega)
  | lit k => exact lit_ok (srcOk_lit h)
theorem ok_down {t : Int} {s : Src} (h : srcOk t s = true) (hn : s ≠ .inp (t - 1)) : srcOk (t - 1) s = true := by
  cases s with
  | inp k =>
    have := srcOk_inp h
    have : k ≠ t - 1 := fun e => hn (by rw [e])
    exact inp_ok (by omega)
  | lit k => exact lit_ok (srcOk_lit h)
theorem cut_cons (t : Int) (s : Src) (r : List Src) : cut t (s :: r) = if s = .inp (t - 1) ∧ s ∉ r then cut (t - 1) r else (t, s :: r) := rfl
theorem cut_okE : ∀ {t : Int} {l : List Src}, okE t l → okE (cut t l).1 (cut t l).2
  | t, [], h => h
  | t, s :: r, ⟨h1, h2, h3, h4⟩ => by
    rw [cut_cons]
    split
    · next h =>
      have h4' : srcOk t s = true ∧ ∀ x ∈ r, srcOk t x = true := by simpa using h4
      have h5 := h4'.1
      rw [h.1] at h5
      have h6 := srcOk_inp h5
      refine cut_okE ⟨by omega, by omega, by simp at h3; omega, List.all_eq_true.mpr fun x hx => ok_down (h4'.2 x hx) (fun e => h.2 (by rw [h.1, ← e]; exact hx))⟩
    · exact ⟨h1, h2, h3, h4⟩
theorem cut_cut : ∀ (t : Int) (l : List Src), cut (cut t l).1 (cut t l).2 = cut t l
  | t, [] => rfl
  | t, s :: r => by
    rw [cut_cons]
    split
    · exact cut_cut (t - 1) r
    · next h =>
      rw [cut_cons, if_neg h]
theorem source_step {t : Int} {r : List Src} (k : Nat) : source (t - 1) r k = source t (.inp (t - 1) :: r) k := by
  unfold source
  by_cases h1 : k < r.length
  · rw [dif_pos h1, dif_pos (by simp; omega)]
    have : (Src.inp (t - 1) :: r).length - 1 - k = (r.length - 1 - k) + 1 := by simp; omega
    simp only [this, List.getElem_cons_succ]
  · rw [dif_neg h1]
    by_cases h2 : k = r.length
    · rw [dif_pos (by simp; omega)]
      have : (Src.inp (t - 1) :: r).length - 1 - k = 0 := by simp; omega
      simp only [this, List.getElem_cons_zero]
      congr 1
      omega
    · rw [dif_neg (by simp; omega)]
      congr 1
      simp
      omega
theorem source_cut (k : Nat) : ∀ (t : Int) (l : List Src), source (cut t l).1 (cut t l).2 k = source t l k
  | t, [] => rfl
  | t, s :: r => by
    rw [cut_cons]
    split
    · next h => rw [source_cut k (t - 1) r, source_step, h.1]
    · rfl
/-- more inputs that stay, below -/
def more (t : Int) (m : Nat) : List Src := (List.range m).map fun (i : Nat) => Src.inp (t + (m : Int) - 1 - (i : Int))
theorem more_succ (t : Int) (m : Nat) : more t (m + 1) = .inp (t + (m : Int)) :: more t m := by
  unfold more
  rw [List.range_succ_eq_map, List.map_cons, List.map_map]
  congr 1
  · congr 1
    push_cast
    omega
  · apply List.map_congr_left
    intro i _
    show Src.inp _ = Src.inp _
    congr 1
    push_cast
    omega
theorem more_lt {t : Int} {m : Nat} {k : Int} (h : Src.inp k ∈ more t m) : k < t + (m : Int) := by
  unfold more at h
  obtain ⟨i, _, e⟩ := List.mem_map.mp h
  have := Src.inp.inj e
  omega
theorem cut_more {t : Int} {l : List Src} (hl : l.all (srcOk t) = true) : ∀ m : Nat, cut (t + (m : Int)) (more t m ++ l) = cut t l
  | 0 => by
    show cut (t + ((0 : Nat) : Int)) l = _
    congr 1
    omega
  | m + 1 => by
    rw [more_succ, List.cons_append, cut_cons, if_pos ?_]
    · have := cut_more hl m
      rw [← this]
      congr 1
      push_cast
      omega
    · refine ⟨by congr 1; push_cast; omega, fun hm => ?_⟩
      rcases List.mem_append.mp hm with h | h
      · have := more_lt h
        omega
      · have := srcOk_inp (List.all_eq_true.mp hl _ h)
        omega
theorem more_okE {t : Int} {l : List Src} {m : Nat} (h : okE t l) (h1 : t + (m : Int) ≤ 100) (h2 : l.length + m ≤ 100) : okE (t + (m : Int)) (more t m ++ l) := by
  obtain ⟨q1, q2, q3, q4⟩ := h
  refine ⟨by omega, h1, by rw [List.length_append]; unfold more; simp; omega, ?_⟩
  rw [List.all_append, Bool.and_eq_true]
  refine ⟨List.all_eq_true.mpr fun x hx => ?_, List.all_eq_true.mpr fun x hx => ok_up (List.all_eq_true.mp q4 x hx) (by omega)⟩
  unfold more at hx
  obtain ⟨i, hi, rfl⟩ := List.mem_map.mp hx
  have := List.mem_range.mp hi
  exact inp_ok (by omega)
/-! ### what is shown is short -/
def isml (i : Int) : Prop := i.natAbs.log2 < 1920
theorem isml_of {i : Int} (h : -(10 ^ 100) ≤ i ∧ i ≤ 10 ^ 100) : isml i := by
  unfold isml
  have h1 : i.natAbs < 2 ^ 400 := by
    have : (10 ^ 100 : Int).natAbs < 2 ^ 400 := by decide +kernel
    omega
  have := PySem.Flt.log2_lt_of (by decide) h1
  omega
def Src.sml : Src → Prop
  | .inp k => isml k
  | .lit k => isml k
theorem sml_ok {t : Int} {s : Src} (h : srcOk t s = true) (ht : t ≤ 100) : Src.sml s := by
  cases s with
  | inp k => have := srcOk_inp h; exact isml_of (by omega)
  | lit k => have := srcOk_lit h; exact isml_of (by omega)
theorem int_short {i : Int} (h : isml i) : PyData.leavesShort 1921 (.int i) = true := by
  simp only [PyData.leavesShort, decide_eq_true_eq]
  exact int_text_len_1921 h
theorem int_show {i : Int} (h : isml i) : PyData.showable (.int i) = true := by
  simp only [PyData.showable, decide_eq_true_eq]
  exact h
theorem short_str (x : Str) (h : (x.cps.toList.all fun c => decide (c < 16 ^ 8)) = true) : PyData.leavesShort 1921 (.str x) = true := h
theorem src_short {s : Src} (h : Src.sml s) : PyData.leavesShort 1921 s.d = true := by
  have h1 : PyData.leavesShort 1921 (.str sIn) = true := short_str _ (by decide +kernel)
  have h2 : PyData.leavesShort 1921 (.str sLit) = true := short_str _ (by decide +kernel)
  cases s with
  | inp k => simp only [Src.d, PyData.leavesShort.eq_6, PyData.leavesShortAll, h1, int_short (show isml k from h), Bool.and_true, Bool.and_self]
  | lit k => simp only [Src.d, PyData.leavesShort.eq_6, PyData.leavesShortAll, h2, int_short (show isml k from h), Bool.and_true, Bool.and_self]
theorem src_show {s : Src} (h : Src.sml s) : PyData.showable s.d = true := by
  cases s with
  | inp k => 
    have := int_show (show isml k from h)
    simp only [Src.d, PyData.showable, PyData.showableAll, Bool.true_and, Bool.and_true] at this ⊢
    exact this
  | lit k => 
    have := int_show (show isml k from h)
    simp only [Src.d, PyData.showable, PyData.showableAll, Bool.true_and, Bool.and_true] at this ⊢
    exact this
theorem src_bulk (s : Src) : PyData.bulk s.d ≤ 5 := by
  have h1 : sIn.cps.size = 2 := by decide +kernel
  have h2 : sLit.cps.size = 3 := by decide +kernel
  cases s with
  | inp k => simp only [Src.d, PyData.bulk, PyData.bulkAll, h1]; omega
  | lit k => simp only [Src.d, PyData.bulk, PyData.bulkAll, h2]; omega
theorem srcs_bulk : ∀ l : List Src, PyData.bulkAll (srcsD l) ≤ 6 * l.length
  | [] => by simp [srcsD, PyData.bulkAll]
  | s :: l => by
    have ih := srcs_bulk l
    have := src_bulk s
    unfold srcsD at ih ⊢
    simp only [List.map_cons, PyData.bulkAll, List.length_cons]
    omega
theorem srcs_short : ∀ {l : List Src}, (∀ s ∈ l, Src.sml s) → PyData.leavesShortAll 1921 (srcsD l) = true
  | [], _ => by simp [srcsD, PyData.leavesShortAll]
  | s :: l, h => by
    have ih := srcs_short (l := l) (fun x hx => h x (List.mem_cons_of_mem _ hx))
    unfold srcsD at ih ⊢
    simp only [List.map_cons, PyData.leavesShortAll, ih, src_short (h s List.mem_cons_self), Bool.and_self]
theorem srcs_show : ∀ {l : List Src}, (∀ s ∈ l, Src.sml s) → PyData.showableAll (srcsD l) = true
  | [], _ => by simp [srcsD, PyData.showableAll]
  | s :: l, h => by
    have ih := srcs_show (l := l) (fun x hx => h x (List.mem_cons_of_mem _ hx))
    unfold srcsD at ih ⊢
    simp only [List.map_cons, PyData.showableAll, ih, src_show (h s List.mem_cons_self), Bool.and_self]
theorem fits {d : PyData} (h : PyData.leavesShort 1921 d = true) (hb : d.bulk ≤ 8000) : d.shown.length ≤ sizeLine := by
  have := PyData.shown_le_bulk 1921 (by decide) d h
  have e : sizeLine = 16777216 := by decide
  omega
/-- the row that is compared: taken, left, growth, len -/
def rowD (t : Int) (l : List Src) (a b : Int) : List PyData := [.int t, .tuple (srcsD l), .int a, .int b]
theorem row_shaped (t : Int) (l : List Src) (a b : Int) : SeqAt.shaped (.list (rowD t l a b)) = true := by
  unfold SeqAt.shaped rowD
  have h := depthAll_srcs l
  simp only [PyData.canLay0, PyData.canLayAll0, PyData.depth, PyData.depthAll, layAll_srcs, Bool.and_self, Bool.true_and]
  exact decide_eq_true (by omega)
theorem row_show {t : Int} {l : List Src} {a b : Int} (ht : isml t) (hl : ∀ s ∈ l, Src.sml s) (ha : isml a) (hb : isml b) : PyData.showable (.list (rowD t l a b)) = true := by
  have h1 := int_show ht
  have h2 := int_show ha
  have h3 := int_show hb
  have h4 := srcs_show hl
  unfold rowD
  simp only [PyData.showable, PyData.showableAll, Bool.and_true, Bool.and_eq_true] at h1 h2 h3 ⊢
  exact ⟨h1, h4, h2, h3⟩
theorem row_fits {t : Int} {l : List Src} {a b : Int} (ht : isml t) (hl : ∀ s ∈ l, Src.sml s) (ha : isml a) (hb : isml b) (hn : l.length ≤ 100) : (PyData.shown (.list (rowD t l a b))).length ≤ sizeLine := by
  refine fits ?_ ?_
  · have h1 := int_short ht
    have h2 := int_short ha
    have h3 := int_short hb
    have h4 := srcs_short hl
    unfold rowD
    simp only [PyData.leavesShort, PyData.leavesShortAll, Bool.and_true, Bool.and_eq_true] at h1 h2 h3 ⊢
    exact ⟨h1, h4, h2, h3⟩
  · have := srcs_bulk l
    unfold rowD
    simp only [PyData.bulk, PyData.bulkAll]
    omega

def dueD (c : Int × List Src) : PyData := .tuple [.int c.1, .tuple (srcsD c.2)]
theorem due_shaped (c : Int × List Src) : SeqAt.shaped (dueD c) = true := by
  unfold SeqAt.shaped dueD
  have h := depthAll_srcs c.2
  simp only [PyData.canLay0, PyData.canLayAll0, PyData.depth, PyData.depthAll, layAll_srcs, Bool.and_self, Bool.true_and]
  exact decide_eq_true (by omega)
theorem due_eqv (a c : Int × List Src) : PyData.eqv (dueD a) (dueD c) = (decide (a.1 = c.1) && decide (a.2 = c.2)) := by
  have h := eqv_srcs a.2 c.2
  simp only [PyData.eqv] at h
  unfold dueD
  simp only [PyData.eqv, PyData.eqvAll, h, Bool.and_true]
  by_cases h1 : a.1 = c.1 <;> simp [h1]


def Src.num : Src → Int
  | .inp k => k
  | .lit c => c
theorem more_len (t : Int) (m : Nat) : (more t m).length = m := by unfold more; simp
theorem more_get {t : Int} {m i : Nat} (h : i < m) : (more t m)[i]? = some (.inp (t + (m : Int) - 1 - (i : Int))) := by
  unfold more
  rw [List.getElem?_map, List.getElem?_range h]
  rfl
theorem source_some {t : Int} {l : List Src} {k : Nat} (h : k < l.length) : l[l.length - 1 - k]? = some (source t l k) := by
  unfold source
  rw [dif_pos h, List.getElem?_eq_getElem]
theorem source_far {t : Int} {l : List Src} {k : Nat} (h : l.length ≤ k) : source t l k = .inp ((k : Int) + t - l.length) := by
  unfold source
  rw [dif_neg (by omega)]
/-- more inputs that stay change nothing -/
theorem source_more {t : Int} {l : List Src} (k : Nat) : ∀ m : Nat, source (t + (m : Int)) (more t m ++ l) k = source t l k
  | 0 => by
    show source (t + ((0 : Nat) : Int)) l k = _
    congr 1
    omega
  | m + 1 => by
    rw [more_succ, List.cons_append]
    have := source_step (t := t + ((m + 1 : Nat) : Int)) (r := more t m ++ l) k
    have e1 : t + ((m + 1 : Nat) : Int) - 1 = t + (m : Int) := by push_cast; omega
    rw [e1] at this
    rw [← this]
    exact source_more k m
/-- the same sources and growth: more inputs that stay -/
theorem more_of_source {t t' : Int} {l l' : List Src} (hs : ∀ k, source t l k = source t' l' k) {m : Nat} (hm : l'.length = l.length + m) (hg : t' = t + (m : Int)) : l' = more t m ++ l := by
  refine List.ext_getElem? fun i => ?_
  by_cases hi : i < l'.length
  · have h1 := source_some (t := t') (l := l') (k := l'.length - 1 - i) (by omega)
    have e1 : l'.length - 1 - (l'.length - 1 - i) = i := by omega
    rw [e1, ← hs] at h1
    rw [h1]
    by_cases h2 : i < m
    · rw [List.getElem?_append_left (by rw [more_len]; exact h2), more_get h2, source_far (by omega)]
      congr 2
      omega
    · rw [List.getElem?_append_right (by rw [more_len]; omega), more_len]
      have h3 := source_some (t := t) (l := l) (k := l'.length - 1 - i) (by omega)
      have e2 : l.length - 1 - (l'.length - 1 - i) = i - m := by omega
      rw [e2] at h3
      exact h3.symm
  · rw [List.getElem?_eq_none (by omega), List.getElem?_eq_none (by rw [List.length_append, more_len]; omega)]
/-- effects with the same sources and growth are cut to the same -/
theorem cut_of_source {t t' : Int} {l l' : List Src} (h1 : l.all (srcOk t) = true) (h2 : l'.all (srcOk t') = true) (hs : ∀ k, source t l k = source t' l' k) (hg : (l.length : Int) - t = (l'.length : Int) - t') : cut t l = cut t' l' := by
  rcases Nat.le_total l.length l'.length with h | h
  · obtain ⟨m, hm⟩ := Nat.exists_eq_add_of_le h
    have e := more_of_source hs hm (by omega)
    rw [e, show t' = t + (m : Int) by omega]
    exact (cut_more h1 m).symm
  · obtain ⟨m, hm⟩ := Nat.exists_eq_add_of_le h
    have e := more_of_source (fun k => (hs k).symm) hm (by omega)
    rw [e, show t = t' + (m : Int) by omega]
    exact cut_more h2 m
theorem cut_growth : ∀ (t : Int) (l : List Src), ((cut t l).2.length : Int) - (cut t l).1 = (l.length : Int) - t
  | t, [] => rfl
  | t, s :: r => by
    rw [cut_cons]
    split
    · rw [cut_growth (t - 1) r]
      simp
      omega
    · rfl
/-- what a source is behind another effect -/
def seen (t : Int) (l : List Src) : Src → Src
  | .inp d => source t l d.toNat
  | .lit c => .lit c
/-- two effects, one behind the other, not cut -/
def joinD (t : Int) (l : List Src) (u : Int) : Int := t + max 0 (u - (l.length : Int))
def joinC (t : Int) (l : List Src) (u : Int) : List Src := more t (max 0 (u - (l.length : Int))).toNat ++ l
def join (t : Int) (l : List Src) (u : Int) (r : List Src) : List Src := (joinC t l u).take ((joinC t l u).length - u.toNat) ++ r.map (seen t l)
theorem joinC_len (t : Int) (l : List Src) (u : Int) : ((joinC t l u).length : Int) = max (l.length : Int) u := by
  unfold joinC
  rw [List.length_append, more_len]
  omega
theorem joinC_source (t : Int) (l : List Src) (u : Int) (k : Nat) : source (joinD t l u) (joinC t l u) k = source t l k := by
  have := source_more (t := t) (l := l) k (max 0 (u - (l.length : Int))).toNat
  unfold joinD joinC
  have e : (((max 0 (u - (l.length : Int))).toNat : Nat) : Int) = max 0 (u - (l.length : Int)) := by omega
  rw [e] at this
  exact this
theorem join_len {t : Int} {l : List Src} {u : Int} {r : List Src} (hu : 0 ≤ u) : ((join t l u r).length : Int) = max (l.length : Int) u - u + r.length := by
  have := joinC_len t l u
  unfold join
  rw [List.length_append, List.length_take, List.length_map]
  omega
theorem join_growth {t : Int} {l : List Src} {u : Int} {r : List Src} (hu : 0 ≤ u) : ((join t l u r).length : Int) - joinD t l u = ((l.length : Int) - t) + ((r.length : Int) - u) := by
  rw [join_len hu]
  unfold joinD
  omega
theorem join_source {t : Int} {l : List Src} {u : Int} {r : List Src} (hu : 0 ≤ u) (k : Nat) : source (joinD t l u) (join t l u r) k = seen t l (source u r k) := by
  have hc := joinC_len t l u
  have hj := join_len (t := t) (l := l) (r := r) hu
  by_cases h : k < r.length
  · have h1 := source_some (t := joinD t l u) (l := join t l u r) (k := k) (by omega)
    have h2 := source_some (t := u) (l := r) (k := k) h
    have e : (join t l u r)[(join t l u r).length - 1 - k]? = some (seen t l (source u r k)) := by
      have e0 : (join t l u r).length = ((joinC t l u).length - u.toNat) + r.length := by omega
      unfold join at e0 ⊢
      rw [List.getElem?_append_right (by rw [List.length_take, e0]; omega), List.getElem?_map, List.length_take, e0]
      have e1 : (joinC t l u).length - u.toNat + r.length - 1 - k - min ((joinC t l u).length - u.toNat) (joinC t l u).length = r.length - 1 - k := by omega
      rw [e1, h2]
      rfl
    rw [e] at h1
    exact (Option.some.inj h1).symm
  · rw [source_far (t := u) (l := r) (by omega)]
    show _ = source t l ((k : Int) + u - r.length).toNat
    generalize hd : ((k : Int) + u - r.length).toNat = d
    have hd' : (d : Int) = (k : Int) + u - r.length := by omega
    rw [← joinC_source t l u d]
    by_cases h3 : k < (join t l u r).length
    · have h1 := source_some (t := joinD t l u) (l := join t l u r) (k := k) h3
      have h2 := source_some (t := joinD t l u) (l := joinC t l u) (k := d) (by omega)
      have e : (join t l u r)[(join t l u r).length - 1 - k]? = some (source (joinD t l u) (joinC t l u) d) := by
        have e0 : (join t l u r).length = ((joinC t l u).length - u.toNat) + r.length := by omega
        unfold join at e0 ⊢
        rw [List.getElem?_append_left (by rw [List.length_take, e0]; omega), e0, List.getElem?_take, if_pos (by omega)]
        have e1 : (joinC t l u).length - u.toNat + r.length - 1 - k = (joinC t l u).length - 1 - d := by omega
        rw [e1, h2]
      rw [e] at h1
      exact (Option.some.inj h1).symm
    · rw [source_far (by omega), source_far (by omega)]
      congr 1
      omega
theorem source_ok {t : Int} {l : List Src} (h0 : 0 ≤ t) (hl : l.all (srcOk t) = true) {u : Int} (k : Nat) (hu : (k : Int) < u) : srcOk (joinD t l u) (source t l k) = true := by
  have hD : t ≤ joinD t l u := by unfold joinD; omega
  by_cases h : k < l.length
  · have h1 := source_some (t := t) (l := l) (k := k) h
    exact ok_up (List.all_eq_true.mp hl _ (List.mem_of_getElem? h1)) hD
  · rw [source_far (by omega)]
    exact inp_ok (by unfold joinD; omega)
theorem seen_ok {t : Int} {l : List Src} (h0 : 0 ≤ t) (hl : l.all (srcOk t) = true) {u : Int} {x : Src} (hx : srcOk u x = true) : srcOk (joinD t l u) (seen t l x) = true := by
  cases x with
  | inp d =>
    have := srcOk_inp hx
    exact source_ok h0 hl _ (by omega)
  | lit c => exact lit_ok (srcOk_lit hx)
theorem more_good {t : Int} (h0 : 0 ≤ t) (m : Nat) : (more t m).all (srcOk (t + (m : Int))) = true := List.all_eq_true.mpr fun x hx => by
  unfold more at hx
  obtain ⟨i, hi, rfl⟩ := List.mem_map.mp hx
  have := List.mem_range.mp hi
  exact inp_ok (by omega)
theorem joinC_good {t : Int} {l : List Src} (h0 : 0 ≤ t) (hl : l.all (srcOk t) = true) (u : Int) : (joinC t l u).all (srcOk (joinD t l u)) = true := by
  unfold joinC
  rw [List.all_append, Bool.and_eq_true]
  refine ⟨?_, List.all_eq_true.mpr fun x hx => ok_up (List.all_eq_true.mp hl x hx) (by unfold joinD; omega)⟩
  have := more_good h0 (max 0 (u - (l.length : Int))).toNat
  unfold joinD
  have e : (((max 0 (u - (l.length : Int))).toNat : Nat) : Int) = max 0 (u - (l.length : Int)) := by omega
  rw [e] at this
  exact this
theorem join_good {t : Int} {l : List Src} {u : Int} {r : List Src} (h0 : 0 ≤ t) (hl : l.all (srcOk t) = true) (hr : r.all (srcOk u) = true) : (join t l u r).all (srcOk (joinD t l u)) = true := by
  have h1 := joinC_good h0 hl u
  unfold join
  rw [List.all_append, Bool.and_eq_true]
  refine ⟨List.all_eq_true.mpr fun x hx => List.all_eq_true.mp h1 x (List.mem_of_mem_take hx), List.all_eq_true.mpr fun x hx => ?_⟩
  obtain ⟨y, hy, rfl⟩ := List.mem_map.mp hx
  exact seen_ok h0 hl (List.all_eq_true.mp hr y hy)
/-- cut effects, put together and cut -/
def plus (a b : Int × List Src) : Int × List Src := cut (joinD a.1 a.2 b.1) (join a.1 a.2 b.1 b.2)
structure Eff (a : Int × List Src) : Prop where
  t0 : 0 ≤ a.1
  good : a.2.all (srcOk a.1) = true
  cutd : cut a.1 a.2 = a
theorem cut_good : ∀ {t : Int} {l : List Src}, 0 ≤ t → l.all (srcOk t) = true → 0 ≤ (cut t l).1 ∧ (cut t l).2.all (srcOk (cut t l).1) = true
  | t, [], h0, h => ⟨h0, h⟩
  | t, s :: r, h0, h => by
    rw [cut_cons]
    split
    · next q =>
      have h4' : srcOk t s = true ∧ ∀ x ∈ r, srcOk t x = true := by simpa using h
      have h5 := h4'.1
      rw [q.1] at h5
      have h6 := srcOk_inp h5
      exact cut_good (by omega) (List.all_eq_true.mpr fun x hx => ok_down (h4'.2 x hx) (fun e => q.2 (by rw [q.1, ← e]; exact hx)))
    · exact ⟨h0, h⟩
theorem Eff.of {t : Int} {l : List Src} (h0 : 0 ≤ t) (h : l.all (srcOk t) = true) : Eff (cut t l) := ⟨(cut_good h0 h).1, (cut_good h0 h).2, cut_cut t l⟩
theorem joinD_0 {t u : Int} {l : List Src} (h : 0 ≤ t) : 0 ≤ joinD t l u := by unfold joinD; omega
theorem plus_eff {a b : Int × List Src} (ha : Eff a) (hb : Eff b) : Eff (plus a b) := Eff.of (joinD_0 ha.t0) (join_good ha.t0 ha.good hb.good)
theorem plus_source {a b : Int × List Src} (hb : Eff b) (k : Nat) : source (plus a b).1 (plus a b).2 k = seen a.1 a.2 (source b.1 b.2 k) := by
  unfold plus
  rw [source_cut, join_source hb.t0]
theorem plus_growth {a b : Int × List Src} (hb : Eff b) : ((plus a b).2.length : Int) - (plus a b).1 = ((a.2.length : Int) - a.1) + ((b.2.length : Int) - b.1) := by
  unfold plus
  rw [cut_growth, join_growth hb.t0]
theorem Eff.ext {a b : Int × List Src} (ha : Eff a) (hb : Eff b) (hs : ∀ k, source a.1 a.2 k = source b.1 b.2 k) (hg : (a.2.length : Int) - a.1 = (b.2.length : Int) - b.1) : a = b := by
  rw [← ha.cutd, ← hb.cutd]
  exact cut_of_source ha.good hb.good hs hg
theorem plus_assoc {a b c : Int × List Src} (ha : Eff a) (hb : Eff b) (hc : Eff c) : plus (plus a b) c = plus a (plus b c) := by
  refine Eff.ext (plus_eff (plus_eff ha hb) hc) (plus_eff ha (plus_eff hb hc)) (fun k => ?_) ?_
  · rw [plus_source hc, plus_source (plus_eff hb hc), plus_source hc]
    cases source c.1 c.2 k with
    | inp d => exact plus_source hb d.toNat
    | lit x => rfl
  · rw [plus_growth hc, plus_growth hb, plus_growth (plus_eff hb hc), plus_growth hc]
    omega
theorem still_eff : Eff (0, []) := ⟨by decide, rfl, rfl⟩
theorem source_still (k : Nat) : source 0 [] k = .inp k := by
  rw [source_far (by simp)]
  congr 1
theorem plus_still {a : Int × List Src} (ha : Eff a) : plus a (0, []) = a ∧ plus (0, []) a = a := by
  refine ⟨Eff.ext (plus_eff ha still_eff) ha (fun k => ?_) ?_, Eff.ext (plus_eff still_eff ha) ha (fun k => ?_) ?_⟩
  · rw [plus_source still_eff, source_still]
    rfl
  · rw [plus_growth still_eff]
    simp
  · rw [plus_source ha]
    cases h : source a.1 a.2 k with
    | inp d =>
      show source 0 [] d.toNat = _
      rw [source_still]
      have : 0 ≤ d := by
        have := source_ok ha.t0 ha.good (u := (k : Int) + 1) k (by omega)
        rw [h] at this
        exact (srcOk_inp this).1
      congr 1
      omega
    | lit x => rfl
  · rw [plus_growth ha]
    simp


abbrev still : Int × List Src := (0, [])
def pow (a : Int × List Src) : Nat → Int × List Src
  | 0 => still
  | n + 1 => plus (pow a n) a
theorem pow_eff {a : Int × List Src} (ha : Eff a) : ∀ n, Eff (pow a n)
  | 0 => still_eff
  | n + 1 => plus_eff (pow_eff ha n) ha
theorem pow_one {a : Int × List Src} (ha : Eff a) : pow a 1 = a := (plus_still ha).2
theorem pow_add {a : Int × List Src} (ha : Eff a) (m : Nat) : ∀ n, plus (pow a m) (pow a n) = pow a (m + n)
  | 0 => (plus_still (pow_eff ha m)).1
  | n + 1 => by
    show plus (pow a m) (plus (pow a n) a) = plus (pow a (m + n)) a
    rw [← plus_assoc (pow_eff ha m) (pow_eff ha n) ha, pow_add ha m n]
theorem pow_mul {a : Int × List Src} (ha : Eff a) (m : Nat) : ∀ n, pow (pow a m) n = pow a (m * n)
  | 0 => rfl
  | n + 1 => by
    show plus (pow (pow a m) n) (pow a m) = pow a (m * n + m)
    rw [pow_mul ha m n, pow_add ha]
theorem pow_succ' {a : Int × List Src} (ha : Eff a) (n : Nat) : pow a (n + 1) = plus a (pow a n) := by
  have := pow_add ha 1 n
  rw [pow_one ha] at this
  rw [this, Nat.add_comm]
/-- a loop of squares: total, square, rest -/
theorem pow_half {a : Int × List Src} (ha : Eff a) {s : Nat} (r : Nat) : plus (pow a (s * (r % 2))) (pow a (2 * s * (r / 2))) = pow a (s * r) := by
  rw [pow_add ha]
  congr 1
  have h := Nat.mod_add_div r 2
  calc s * (r % 2) + 2 * s * (r / 2) = s * (r % 2 + 2 * (r / 2)) := by rw [Nat.mul_add, Nat.mul_comm 2 s, Nat.mul_assoc]
    _ = s * r := by rw [h]
theorem pow_growth {a : Int × List Src} (ha : Eff a) : ∀ n : Nat, ((pow a n).2.length : Int) - (pow a n).1 = n * ((a.2.length : Int) - a.1)
  | 0 => by simp [pow]
  | n + 1 => by
    show ((plus (pow a n) a).2.length : Int) - (plus (pow a n) a).1 = _
    rw [plus_growth ha, pow_growth ha n]
    push_cast
    rw [Int.add_mul, Int.one_mul]
/-- a source, one time back: an input is followed, a constant stays -/
def back (a : Int × List Src) : Src → Src := seen a.1 a.2
def backs (a : Int × List Src) : Nat → Src → Src
  | 0, x => x
  | n + 1, x => backs a n (back a x)
/-- inputs from 0 on, or constants -/
def nat : Src → Prop
  | .inp d => 0 ≤ d
  | .lit _ => True
theorem source_nat {a : Int × List Src} (ha : Eff a) (k : Nat) : nat (source a.1 a.2 k) := by
  have := source_ok ha.t0 ha.good (u := (k : Int) + 1) k (by omega)
  cases h : source a.1 a.2 k with
  | inp d => rw [h] at this; exact (srcOk_inp this).1
  | lit c => trivial
theorem back_nat {a : Int × List Src} (ha : Eff a) {x : Src} (hx : nat x) : nat (back a x) := by
  cases x with
  | inp d => exact source_nat ha _
  | lit c => trivial
/-- the source of a cell behind so many times: it is followed back so many times -/
theorem pow_source {a : Int × List Src} (ha : Eff a) : ∀ (n k : Nat), source (pow a n).1 (pow a n).2 k = backs a n (.inp k)
  | 0, k => source_still k
  | n + 1, k => by
    show source (plus (pow a n) a).1 (plus (pow a n) a).2 k = backs a n (source a.1 a.2 (k : Int).toNat)
    rw [plus_source ha]
    have e : (k : Int).toNat = k := by omega
    rw [e]
    have hn := source_nat ha k
    cases h : source a.1 a.2 k with
    | inp d =>
      rw [h] at hn
      obtain ⟨j, rfl⟩ := Int.eq_ofNat_of_zero_le (show 0 ≤ d from hn)
      show source (pow a n).1 (pow a n).2 ((j : Nat) : Int).toNat = _
      have e2 : ((j : Nat) : Int).toNat = j := by omega
      rw [e2]
      exact pow_source ha n j
    | lit c =>
      have : ∀ m, backs a m (.lit c) = .lit c := by
        intro m
        induction m with
        | zero => rfl
        | succ m ih => exact ih
      exact (this n).symm
theorem backs_lit {a : Int × List Src} {c : Int} : ∀ n, backs a n (.lit c) = .lit c
  | 0 => rfl
  | n + 1 => backs_lit n
theorem backs_add {a : Int × List Src} : ∀ (m n : Nat) (x : Src), backs a (m + n) x = backs a n (backs a m x)
  | 0, n, x => by rw [Nat.zero_add]; rfl
  | m + 1, n, x => by
    rw [Nat.add_right_comm]
    exact backs_add m n (back a x)
/-- below what is left, an input moves by the shift -/
theorem back_far {a : Int × List Src} {k : Nat} (h : a.2.length ≤ k) : back a (.inp k) = .inp ((k : Int) + (a.1 - a.2.length)) := by
  show source a.1 a.2 (k : Int).toNat = _
  have e : (k : Int).toNat = k := by omega
  rw [e, source_far h]
  congr 1
  omega
/-- a ring: what comes back after p times comes back after all its multiples -/
theorem backs_ring {a : Int × List Src} {x : Src} {p : Nat} (h : backs a p x = x) : ∀ n, backs a (p * n) x = x
  | 0 => rfl
  | n + 1 => by
    show backs a (p * n + p) x = x
    rw [backs_add, backs_ring h n, h]
theorem backs_mod {a : Int × List Src} {x : Src} {p : Nat} (h : backs a p x = x) (n : Nat) : backs a n x = backs a (n % p) x := by
  have e := Nat.mod_add_div n p
  conv => lhs; rw [← e, Nat.add_comm, backs_add, backs_ring h]
theorem seen_cut {t : Int} {l : List Src} (x : Src) : seen (cut t l).1 (cut t l).2 x = seen t l x := by
  cases x with
  | inp d => exact source_cut d.toNat t l
  | lit c => rfl
/-- moves joined, then cut: the cut ones put together -/
theorem cut_join {t u : Int} {l r : List Src} (t0 : 0 ≤ t) (u0 : 0 ≤ u) (hl : l.all (srcOk t) = true) (hr : r.all (srcOk u) = true) : cut (joinD t l u) (join t l u r) = plus (cut t l) (cut u r) := by
  have hb := Eff.of u0 hr
  refine Eff.ext (Eff.of (joinD_0 t0) (join_good t0 hl hr)) (plus_eff (Eff.of t0 hl) hb) (fun k => ?_) ?_
  · rw [source_cut, join_source u0, plus_source hb, seen_cut, source_cut]
  · rw [cut_growth, join_growth u0, plus_growth hb, cut_growth, cut_growth]
/-- how many a move so many times takes and leaves, not cut: k + 1 times -/
def repT (t : Int) (l : List Src) (k : Nat) : Int := t + k * max 0 (t - (l.length : Int))
def repL (t : Int) (l : List Src) (k : Nat) : Int := (l.length : Int) + k * max 0 ((l.length : Int) - t)
theorem rep_size {t : Int} {l : List Src} {j k : Nat} {a b : Int × List Src} (t0 : 0 ≤ t) (ha : a.1 = repT t l j ∧ (a.2.length : Int) = repL t l j) (hb : b.1 = repT t l k ∧ (b.2.length : Int) = repL t l k) :
    joinD a.1 a.2 b.1 = repT t l (j + k + 1) ∧ ((join a.1 a.2 b.1 b.2).length : Int) = repL t l (j + k + 1) := by
  unfold repT repL at ha hb ⊢
  have hb0 : 0 ≤ b.1 := by
    rw [hb.1]
    have := Int.mul_nonneg (show 0 ≤ (k : Int) by omega) (show 0 ≤ max 0 (t - (l.length : Int)) by omega)
    omega
  rw [join_len hb0]
  unfold joinD
  have e : ((j + k + 1 : Nat) : Int) = (j : Int) + k + 1 := by push_cast; rfl
  rw [e]
  rcases Int.le_total (l.length : Int) t with h | h
  · have m1 : max 0 (t - (l.length : Int)) = t - l.length := by omega
    have m2 : max 0 ((l.length : Int) - t) = 0 := by omega
    rw [m1, m2] at ha hb ⊢
    rw [Int.mul_zero] at ha hb ⊢
    have p1 := Int.mul_nonneg (show 0 ≤ (k : Int) by omega) (show 0 ≤ t - (l.length : Int) by omega)
    rw [Int.add_mul, Int.add_mul, Int.one_mul]
    generalize (k : Int) * (t - (l.length : Int)) = x at *
    generalize (j : Int) * (t - (l.length : Int)) = y at *
    omega
  · have m1 : max 0 (t - (l.length : Int)) = 0 := by omega
    have m2 : max 0 ((l.length : Int) - t) = l.length - t := by omega
    rw [m1, m2] at ha hb ⊢
    rw [Int.mul_zero] at ha hb ⊢
    have p1 := Int.mul_nonneg (show 0 ≤ (k : Int) by omega) (show 0 ≤ (l.length : Int) - t by omega)
    have p2 := Int.mul_nonneg (show 0 ≤ (j : Int) by omega) (show 0 ≤ (l.length : Int) - t by omega)
    rw [Int.add_mul, Int.add_mul, Int.one_mul]
    generalize (k : Int) * ((l.length : Int) - t) = x at *
    generalize (j : Int) * ((l.length : Int) - t) = y at *
    omega


/-- a straight way: as long as the depth is behind what is left -/
theorem backs_straight {a : Int × List Src} {d : Int} : ∀ (n : Nat) (k : Int), (∀ i : Nat, i < n → (a.2.length : Int) ≤ k + i * (a.1 - a.2.length)) → backs a n (.inp k) = .inp (k + n * (a.1 - a.2.length))
  | 0, k, _ => by
    show Src.inp k = _
    congr 1
    simp
  | n + 1, k, h => by
    have h0 := h 0 (by omega)
    simp at h0
    obtain ⟨j, rfl⟩ := Int.eq_ofNat_of_zero_le (show 0 ≤ k by omega)
    show backs a n (back a (.inp (j : Int))) = _
    rw [back_far (by omega), backs_straight (d := d) n _ (fun i hi => ?_)]
    · congr 1
      push_cast
      rw [Int.add_mul, Int.one_mul]
      omega
    · have := h (i + 1) (by omega)
      push_cast at this
      rw [Int.add_mul, Int.one_mul] at this
      omega
/-- upwards without end -/
theorem backs_up {a : Int × List Src} {k : Int} (n : Nat) (hs : 0 ≤ a.1 - a.2.length) (hk : (a.2.length : Int) ≤ k) : backs a n (.inp k) = .inp (k + n * (a.1 - a.2.length)) :=
  backs_straight (d := 0) n k fun i _ => by
    have := Int.mul_nonneg (show 0 ≤ (i : Int) by omega) hs
    omega
/-- downwards until it is within what is left -/
theorem backs_down {a : Int × List Src} {k : Int} {n : Nat} (hs : a.1 - a.2.length < 0) (hk : (a.2.length : Int) ≤ k) (hn : (n : Int) ≤ (k - a.2.length) / (0 - (a.1 - a.2.length)) + 1) : backs a n (.inp k) = .inp (k + n * (a.1 - a.2.length)) :=
  backs_straight (d := 0) n k fun i hi => by
    have h1 : (i : Int) ≤ (k - a.2.length) / (0 - (a.1 - a.2.length)) := by omega
    have h2 := (Int.le_ediv_iff_mul_le (show 0 < 0 - (a.1 - a.2.length) by omega)).mp h1
    have h3 : (i : Int) * (0 - (a.1 - a.2.length)) = - ((i : Int) * (a.1 - a.2.length)) := by rw [Int.zero_sub, Int.mul_neg]
    omega
/-- a row of depths, each the source of the one before; the last one's is d -/
def Way (a : Int × List Src) : List Int → Int → Prop
  | [], _ => True
  | [x], d => back a (.inp x) = .inp d
  | x :: y :: r, d => back a (.inp x) = .inp y ∧ Way a (y :: r) d
theorem way_snoc {a : Int × List Src} {d e : Int} (h2 : back a (.inp d) = .inp e) : ∀ {r : List Int}, Way a r d → Way a (r ++ [d]) e
  | [], _ => h2
  | [x], h => ⟨h, h2⟩
  | x :: y :: r, h => ⟨h.1, way_snoc h2 (r := y :: r) h.2⟩
/-- after i times the way is at its i-th depth; after all of them at d -/
theorem way_at {a : Int × List Src} {d : Int} : ∀ {r : List Int} {x : Int}, Way a (x :: r) d → ∀ i : Nat, i ≤ r.length → backs a i (.inp x) = .inp ((x :: r).getD i d)
  | r, x, _, 0, _ => rfl
  | [], x, h, i + 1, hi => by simp at hi
  | y :: r, x, h, i + 1, hi => by
    show backs a i (back a (.inp x)) = _
    rw [h.1]
    exact way_at h.2 i (by simpa using hi)
theorem way_all {a : Int × List Src} {d : Int} : ∀ {r : List Int} {x : Int}, Way a (x :: r) d → backs a (r.length + 1) (.inp x) = .inp d
  | [], x, h => h
  | y :: r, x, h => by
    show backs a (r.length + 1) (back a (.inp x)) = _
    rw [h.1]
    exact way_all h.2
theorem way_drop {a : Int × List Src} {d : Int} : ∀ {r : List Int} (i : Nat), Way a r d → Way a (r.drop i) d
  | r, 0, h => h
  | [], i + 1, _ => trivial
  | [x], i + 1, _ => by simp [Way]
  | x :: y :: r, i + 1, h => way_drop (r := y :: r) i h.2
/-- a ring: the way comes back to a depth of its own -/
theorem way_ring {a : Int × List Src} {d : Int} {r : List Int} (h : Way a (d :: r) d) (n : Nat) : backs a n (.inp d) = .inp ((d :: r).getD (n % (r.length + 1)) d) := by
  rw [backs_mod (way_all h) n]
  exact way_at h _ (by have := Nat.mod_lt n (show 0 < r.length + 1 by omega); omega)
/-- what the rest of a way from a depth's first place is -/
theorem way_from {a : Int × List Src} {d : Int} {r : List Int} (h : Way a r d) {i : Nat} (hi : r[i]? = some d) (n : Nat) : backs a n (.inp d) = .inp ((r.drop i).getD (n % (r.length - i)) d) := by
  have hl := (List.getElem?_eq_some_iff.mp hi).1
  have e : r.drop i = d :: r.drop (i + 1) := by
    rw [List.drop_eq_getElem_cons hl]
    congr 1
    exact (List.getElem?_eq_some_iff.mp hi).2
  have hw := way_drop i h
  rw [e] at hw ⊢
  have := way_ring hw n
  rw [List.length_drop] at this
  have e2 : r.length - (i + 1) + 1 = r.length - i := by omega
  rw [e2] at this
  exact this

theorem pick2_in {x y k lo hi : Int} (h1 : lo ≤ x ∧ x ≤ hi) (h2 : lo ≤ y ∧ y ≤ hi) : lo ≤ pick2 x y k ∧ pick2 x y k ≤ hi := by
  unfold pick2
  split
  · exact h1
  · exact h2
def Good (t : Int) (l : List Src) : Prop := ∀ x ∈ l, srcOk t x = true
theorem good_snoc {t : Int} {l : List Src} {x : Src} (h : Good t l) (hx : srcOk t x = true) : Good t (l ++ [x]) := fun y hy => by
  rcases List.mem_append.mp hy with q | q
  · exact h y q
  · have : y = x := by simpa using q
    rw [this]
    exact hx
theorem stepLit_good {t way : Int} {f : List Src} {s : Kl} (h : Good t f) (hs : s.ok) : Good t (stepLit way f s).1 := by
  have d1 := drawn_lo s (n := 3) (by decide)
  have d2 := drawn_lo (after s 3) (n := 2 * 10 ^ 30 + 1) (by decide)
  exact good_snoc h (lit_ok (pick2_in (by omega) (by omega)))
theorem stepIn_good {t way k : Int} {f : List Src} {s : Kl} (h : Good t f) (ht : 0 < t) : Good t (stepIn t way k f s).1 := by
  have d1 := drawn_lo s (n := t) ht
  have e1 := Int.emod_nonneg k (show t ≠ 0 by omega)
  have e2 := Int.emod_lt_of_pos k ht
  have := pick2_in (x := k % t) (y := drawn s t) (k := if 2 < way then 1 else 0) (lo := 0) (hi := t - 1) (by omega) (by omega)
  exact good_snoc h (inp_ok (by omega))
theorem step_good {t way k : Int} {p : List Src × Kl} (h : Good t p.1) (hs : p.2.ok) (ht : 0 ≤ t) : Good t (step t way k p).1 := by
  unfold step
  have g := grow1 (n := 4) hs (by omega)
  split
  · exact stepLit_good h hs
  · split
    · exact stepLit_good h g.ok
    · exact stepIn_good h (by omega)
theorem steps_good {t way : Int} {p : List Src × Kl} (h : Good t p.1) (hs : p.2.ok) (ht : 0 ≤ t) : ∀ n : Nat, Good t (steps t way n p).1
  | 0 => h
  | n + 1 => step_good (steps_good h hs ht n) (steps_ok (way := way) hs ht n).2.ok ht
theorem made_ok {s : Kl} {m : Int} (hs : s.ok) (hm : 3 ≤ m ∧ m ≤ 100) : okE (made s m).t (made s m).l ∧ (made s m).s.ok ∧ (made s m).s.c ≤ s.c + 400 := by
  have a_ok := draw3_ok (s := s) (m := m) (z := m) hs hm.1 ⟨by omega, by omega⟩
  have w_ok := grow1 (n := 5) a_ok.2.ok (by omega)
  have b_ok := draw3_ok (s := after (draw3 s m m).2 5) (m := m) (z := (draw3 s m m).1) w_ok.ok hm.1 a_ok.1
  have ac := a_ok.2.c
  have wc := w_ok.c
  have bc := b_ok.2.c
  have f0 : ((if drawn (draw3 s m m).2 5 = 0 then downs (draw3 s m m).1 else []).length : Int) ≤ m ∧ Good (draw3 s m m).1 (if drawn (draw3 s m m).2 5 = 0 then downs (draw3 s m m).1 else []) := by
    split
    · refine ⟨?_, fun x hx => ?_⟩
      · unfold downs
        simp only [List.length_map, List.length_range]
        omega
      · unfold downs at hx
        obtain ⟨i, hi, rfl⟩ := List.mem_map.mp hx
        have := List.mem_range.mp hi
        exact inp_ok (by omega)
    · exact ⟨by simp; omega, fun x hx => by simp at hx⟩
  have st := steps_ok (t := (draw3 s m m).1) (way := drawn (draw3 s m m).2 5) (p := ((if drawn (draw3 s m m).2 5 = 0 then downs (draw3 s m m).1 else []), (draw3 (after (draw3 s m m).2 5) m (draw3 s m m).1).2)) b_ok.2.ok a_ok.1.1 (min (draw3 (after (draw3 s m m).2 5) m (draw3 s m m).1).1 (m - ((if drawn (draw3 s m m).2 5 = 0 then downs (draw3 s m m).1 else []).length : Int))).toNat
  have sg := steps_good (t := (draw3 s m m).1) (way := drawn (draw3 s m m).2 5) (p := ((if drawn (draw3 s m m).2 5 = 0 then downs (draw3 s m m).1 else []), (draw3 (after (draw3 s m m).2 5) m (draw3 s m m).1).2)) f0.2 b_ok.2.ok a_ok.1.1 (min (draw3 (after (draw3 s m m).2 5) m (draw3 s m m).1).1 (m - ((if drawn (draw3 s m m).2 5 = 0 then downs (draw3 s m m).1 else []).length : Int))).toNat
  obtain ⟨st1, st2⟩ := st
  have sc := st2.c
  simp only at st1 sc
  refine ⟨⟨a_ok.1.1, by have := a_ok.1.2; show (draw3 s m m).1 ≤ 100; omega, ?_, ?_⟩, st2.ok, ?_⟩
  · show (if _ then _ else _ : List Src).length ≤ 100
    have hl : ∀ (c : Prop) [Decidable c] (l : List Src), (if c then l.reverse else l).length = l.length := fun c _ l => by split <;> simp
    rw [hl, st1]
    omega
  · show (if _ then _ else _ : List Src).all _ = true
    refine List.all_eq_true.mpr fun x hx => sg x ?_
    split at hx
    · exact List.mem_reverse.mp hx
    · exact hx
  · show (steps _ _ _ _).2.c ≤ _
    omega
end K15

set_option Elab.async false
set_option linter.all false
set_option maxRecDepth 100000
set_option maxHeartbeats 2000000
/-! the first time of a source: the mathematics -/
namespace K15
open PySem PySem.Spec PyProof.Rows L2 Lw
def grow (c : Int × List Src) : Int := (c.2.length : Int) - c.1
/-- an effect as it is held: cut, of no great size -/
def Full (c : Int × List Src) : Prop := okE c.1 c.2 ∧ cut c.1 c.2 = c
theorem Full.eff {c : Int × List Src} (h : Full c) : Eff c := ⟨h.1.1, h.1.2.2.2, h.2⟩
theorem Full.of {t : Int} {l : List Src} (h : okE t l) : Full (cut t l) := ⟨cut_okE h, cut_cut t l⟩
theorem nodup_le : ∀ (n : Nat) (r : List Int), r.Nodup → (∀ x ∈ r, 0 ≤ x ∧ x < (n : Int)) → r.length ≤ n
  | 0, [], _, _ => Nat.le_refl _
  | 0, x :: r, _, h => by
    have := h x List.mem_cons_self
    omega
  | n + 1, r, hn, h => by
    by_cases hm : (n : Int) ∈ r
    · have e := List.length_erase_of_mem hm
      have ih := nodup_le n (r.erase (n : Int)) (hn.erase _) (fun x hx => by
        have h1 := (List.Nodup.mem_erase_iff hn).mp hx
        have h2 := h x h1.2
        have h3 : x ≠ (n : Int) := h1.1
        omega)
      have hl : 0 < r.length := List.length_pos_of_mem hm
      omega
    · have ih := nodup_le n r hn (fun x hx => by
        have h2 := h x hx
        have h3 : x ≠ (n : Int) := fun e => hm (e ▸ hx)
        omega)
      omega
/-- how many times the way from a depth stays below what is left -/
def reach (c : Int × List Src) (k : Nat) : PyData := if k < c.2.length then .int 0 else if 0 < grow c then .int (((k : Int) - c.2.length) / grow c + 1) else .none
theorem up_all {c : Int × List Src} {k : Nat} (hg : grow c ≤ 0) (hk : c.2.length ≤ k) (n : Nat) : backs c n (.inp k) = .inp ((k : Int) - grow c * n) := by
  rw [backs_up n (by unfold grow at *; omega) (by omega)]
  congr 1
  unfold grow
  rw [Int.mul_comm ((c.2.length : Int) - c.1), show c.1 - (c.2.length : Int) = -((c.2.length : Int) - c.1) by omega, Int.mul_neg]
  omega
theorem reach_none {c : Int × List Src} {k : Nat} (hf : reach c k = .none) : grow c ≤ 0 ∧ c.2.length ≤ k := by
  unfold reach at hf
  split at hf
  · cases hf
  · split at hf
    · cases hf
    · omega
theorem reach_some {c : Int × List Src} {k : Nat} (hc : okE c.1 c.2) (hf : reach c k ≠ .none) : ∃ f : Nat, reach c k = .int (f : Int) ∧ (∀ m : Nat, m ≤ f → backs c m (.inp k) = .inp ((k : Int) - grow c * m)) ∧ 0 ≤ (k : Int) - grow c * f ∧ (0 < grow c → (k : Int) - grow c * f < c.2.length) ∧ ((k < c.2.length ∧ f = 0) ∨ (c.2.length ≤ k ∧ (f : Int) ≤ (k : Int) - c.2.length + 1 ∧ 0 < grow c)) := by
  obtain ⟨o1, o2, o3, o4⟩ := hc
  obtain ⟨f, hfe, hf1⟩ : ∃ f : Nat, reach c k = .int (f : Int) ∧ ((f = 0 ∧ k < c.2.length) ∨ (0 < grow c ∧ (c.2.length : Int) ≤ k ∧ (f : Int) = ((k : Int) - c.2.length) / grow c + 1)) := by
    unfold reach at hf ⊢
    split
    · next h => exact ⟨0, rfl, .inl ⟨rfl, h⟩⟩
    · next h =>
      rw [if_neg h] at hf
      split
      · next h2 =>
        have q0 : 0 ≤ ((k : Int) - c.2.length) / grow c := Int.ediv_nonneg (by omega) (by omega)
        exact ⟨(((k : Int) - c.2.length) / grow c + 1).toNat, by congr 1; omega, .inr ⟨h2, by omega, by omega⟩⟩
      · next h2 => rw [if_neg h2] at hf; exact absurd rfl hf
  refine ⟨f, hfe, fun m hm => ?_, ?_⟩
  · rcases hf1 with ⟨h0, _⟩ | ⟨h1, h2, h3⟩
    · have : m = 0 := by omega
      subst this
      show Src.inp _ = _
      simp
    · rw [backs_down (by unfold grow at h1; omega) h2 (by unfold grow at h3; rw [show 0 - (c.1 - (c.2.length : Int)) = (c.2.length : Int) - c.1 by omega]; omega)]
      congr 1
      unfold grow
      rw [Int.mul_comm ((c.2.length : Int) - c.1), show c.1 - (c.2.length : Int) = -((c.2.length : Int) - c.1) by omega, Int.mul_neg]
      omega
  · rcases hf1 with ⟨h0, h1⟩ | ⟨h1, h2, h3⟩
    · subst h0
      refine ⟨by simp, by simp; omega, .inl ⟨h1, rfl⟩⟩
    · have e := Int.emod_add_mul_ediv ((k : Int) - c.2.length) (grow c)
      have m0 := Int.emod_nonneg ((k : Int) - c.2.length) (show grow c ≠ 0 by omega)
      have m1 := Int.emod_lt_of_pos ((k : Int) - c.2.length) h1
      have q1 : ((k : Int) - c.2.length) / grow c ≤ (k : Int) - c.2.length := Int.ediv_le_self _ (by omega)
      have e2 : grow c * (f : Int) = grow c * (((k : Int) - c.2.length) / grow c) + grow c := by rw [h3, Int.mul_add, Int.mul_one]
      rw [e2]
      generalize grow c * (((k : Int) - c.2.length) / grow c) = z at *
      unfold grow at *
      refine ⟨by omega, fun _ => by omega, .inr ⟨by omega, by omega, by omega⟩⟩
/-! ### the least number of times -/
def IsFirst (c : Int × List Src) (y x : Src) (d : PyData) : Prop := (∃ n : Nat, d = .int (n : Int) ∧ backs c n y = x ∧ ∀ m : Nat, m < n → backs c m y ≠ x) ∨ (d = .none ∧ ∀ m : Nat, backs c m y ≠ x)
theorem IsFirst.uniq {c : Int × List Src} {y x : Src} {d e : PyData} (h : IsFirst c y x d) (k : IsFirst c y x e) : d = e := by
  rcases h with ⟨n, rfl, h1, h2⟩ | ⟨rfl, h⟩ <;> rcases k with ⟨m, rfl, k1, k2⟩ | ⟨rfl, k⟩
  · rcases Nat.lt_trichotomy n m with q | q | q
    · exact absurd h1 (k2 n q)
    · rw [q]
    · exact absurd k1 (h2 m q)
  · exact absurd h1 (k n)
  · exact absurd k1 (h m)
  · rfl
def addD (T : Nat) : PyData → PyData
  | .int n => .int ((T : Int) + n)
  | d => d
theorem IsFirst.shift {c : Int × List Src} {y z x : Src} {T : Nat} {d : PyData} (hm : ∀ m : Nat, m < T → backs c m y ≠ x) (hT : backs c T y = z) (h : IsFirst c z x d) : IsFirst c y x (addD T d) := by
  have e : ∀ n : Nat, backs c (T + n) y = backs c n z := fun n => by rw [backs_add, hT]
  rcases h with ⟨n, rfl, h1, h2⟩ | ⟨rfl, h⟩
  · refine .inl ⟨T + n, by show PyData.int _ = _; congr 1, by rw [e]; exact h1, fun m hm2 => ?_⟩
    by_cases q : m < T
    · exact hm m q
    · have : m = T + (m - T) := by omega
      rw [this, e]
      exact h2 _ (by omega)
  · refine .inr ⟨rfl, fun m => ?_⟩
    by_cases q : m < T
    · exact hm m q
    · have : m = T + (m - T) := by omega
      rw [this, e]
      exact h _
/-- how many times lead straight from a depth to another -/
def tbD (d o g : Int) : PyData := if d = o then .int 0 else if g = 0 ∨ (d - o).fmod g ≠ 0 then .none else if 0 < (d - o).fdiv g then .int ((d - o).fdiv g) else .none
theorem tb_cases (d o g : Int) : (∃ n : Nat, tbD d o g = .int (n : Int) ∧ d - g * n = o ∧ ∀ m : Nat, m < n → d - g * m ≠ o) ∨ (tbD d o g = .none ∧ ∀ m : Nat, d - g * m ≠ o) := by
  unfold tbD
  by_cases h0 : d = o
  · rw [if_pos h0]
    exact .inl ⟨0, rfl, by simp [h0], fun m hm => absurd hm (Nat.not_lt_zero m)⟩
  · rw [if_neg h0]
    by_cases h1 : g = 0 ∨ (d - o).fmod g ≠ 0
    · rw [if_pos h1]
      refine .inr ⟨rfl, fun m e => ?_⟩
      rcases h1 with h | h
      · rw [h] at e
        simp at e
        exact h0 e
      · apply h
        have : d - o = g * m := by omega
        rw [this]
        exact Int.mul_fmod_right _ _
    · rw [if_neg h1]
      rw [not_or, Classical.not_not] at h1
      have e := Int.fmod_add_mul_fdiv (d - o) g
      rw [h1.2, Int.zero_add] at e
      have inj : ∀ m : Nat, d - g * m = o → (m : Int) = (d - o).fdiv g := fun m hm => by
        have : g * (m : Int) = g * (d - o).fdiv g := by omega
        exact Int.eq_of_mul_eq_mul_left h1.1 this
      by_cases h2 : 0 < (d - o).fdiv g
      · rw [if_pos h2]
        obtain ⟨n, hn⟩ := Int.eq_ofNat_of_zero_le (show 0 ≤ (d - o).fdiv g by omega)
        refine .inl ⟨n, by rw [hn], by rw [← hn]; omega, fun m hm hq => ?_⟩
        have := inj m hq
        omega
      · rw [if_neg h2]
        refine .inr ⟨rfl, fun m hq => ?_⟩
        have h3 := inj m hq
        have : m = 0 := by omega
        subst this
        simp at hq
        exact h0 hq
def straightD (c : Int × List Src) (k : Nat) : Src → PyData
  | .inp o => tbD (k : Int) o (grow c)
  | .lit _ => .none
theorem first_straight {c : Int × List Src} {k : Nat} (h : ∀ n : Nat, backs c n (.inp k) = .inp ((k : Int) - grow c * n)) (x : Src) : IsFirst c (.inp k) x (straightD c k x) := by
  cases x with
  | inp o =>
    show IsFirst c (.inp k) (.inp o) (tbD (k : Int) o (grow c))
    rcases tb_cases (k : Int) o (grow c) with ⟨n, e, h1, h2⟩ | ⟨e, h1⟩
    · exact .inl ⟨n, e, by rw [h, h1], fun m hm q => h2 m hm (by rw [h] at q; exact Src.inp.inj q)⟩
    · exact .inr ⟨e, fun m q => h1 m (by rw [h] at q; exact Src.inp.inj q)⟩
  | lit z => exact .inr ⟨rfl, fun m q => by rw [h] at q; cases q⟩
theorem first_ring {c : Int × List Src} {r : List Int} {a : Int} {x : Src} (hw : Way c r a) (ha : a ∈ r) (hx : ∀ y ∈ r, Src.inp y ≠ x) : IsFirst c (.inp a) x .none := by
  obtain ⟨i, hi⟩ := List.mem_iff_getElem?.mp ha
  refine .inr ⟨rfl, fun m q => ?_⟩
  rw [way_from hw hi m] at q
  refine hx _ ?_ q
  rw [List.getD_eq_getElem?_getD]
  cases e : (r.drop i)[m % (r.length - i)]? with
  | none => exact ha
  | some z => exact List.mem_of_mem_drop (List.mem_of_getElem? e)
theorem first_lit {c : Int × List Src} {y x : Src} {T : Nat} {z : Int} (hm : ∀ m : Nat, m < T → backs c m y ≠ x) (hT : backs c T y = .lit z) : IsFirst c y x (if x = .lit z then .int (T : Int) else .none) := by
  by_cases e : x = .lit z
  · rw [if_pos e]
    exact .inl ⟨T, rfl, by rw [hT, e], hm⟩
  · rw [if_neg e]
    refine .inr ⟨rfl, fun m q => ?_⟩
    by_cases h : m < T
    · exact hm m h q
    · have : m = T + (m - T) := by omega
      rw [this, backs_add, hT, backs_lit] at q
      exact e q.symm
/-! ### sources, by their kind and their number -/
def Src.tag : Src → Str
  | .inp _ => sIn
  | .lit _ => sLit
def Src.isIn : Src → Bool
  | .inp _ => true
  | .lit _ => false
theorem tag_in (x : Src) : decide (Src.tag x = sIn) = Src.isIn x := by
  cases x with
  | inp k => exact decide_eq_true rfl
  | lit k => exact decide_eq_false (by show ¬ sLit = sIn; decide +kernel)
theorem tag_lit (x : Src) : decide (Src.tag x = sLit) = !Src.isIn x := by
  cases x with
  | inp k => exact decide_eq_false (by show ¬ sIn = sLit; decide +kernel)
  | lit k => exact decide_eq_true rfl
theorem tagD (x : Src) : PyData.tuple [.str (Src.tag x), .int (Src.num x)] = x.d := by cases x <;> rfl
theorem gw_src {K : Fr} {i j : Nat} {x : Src} {ρ : AS} : GtW K (gTup K 2 (gCons (gName i) (gCons (gName j) gNil))) (.d x.d) ρ ((ρ.set i (some (.s (Src.tag x)))).set j (some (.i (Src.num x)))) := by
  rw [← tagD]
  exact gw_tup rfl (gs_cons gw_name (gs_cons gw_name gs_nil))
theorem ew_src {K : Fr} {ρ : AS} {μ : AM} {ta tb : TE} {x : Src} (h1 : EvW K ta ρ μ (.s (Src.tag x)) μ) (h2 : EvW K tb ρ μ (.i (Src.num x)) μ) : EvW K (tTup (tCons ta (tCons tb tNil))) ρ μ (.d x.d) μ := by
  rw [← tagD]
  exact ew_tup (ds := [.str (Src.tag x), .int (Src.num x)]) (ea_cons h1 (ea_cons h2 ea_nil)) (by simp)
theorem o_tag {K : Fr} {x : Src} {μ : AM} : Op2 K (rIxT K) (.d x.d) (.i 0) μ (.s (Src.tag x)) μ := by
  rw [← tagD]
  exact o_ixTz rfl
theorem o_num {K : Fr} {x : Src} {μ : AM} : Op2 K (rIxT K) (.d x.d) (.i 1) μ (.i (Src.num x)) μ := by
  rw [← tagD]
  exact o_ixTz rfl
/-- the depths that were seen -/
def seenD : List Int → List (Key × V)
  | [] => []
  | x :: r => putK (seenD r) (.inl x) (.bl true)
theorem seenD_len : ∀ r : List Int, (seenD r).length ≤ r.length
  | [] => Nat.le_refl _
  | _ :: r => Nat.le_trans (putK_len _ _ _) (Nat.succ_le_succ (seenD_len r))
theorem seenD_at : ∀ (r : List Int) (x : Int), (valV (seenD r) (.inl x)).isSome = decide (x ∈ r)
  | [], x => by simp; rfl
  | y :: r, x => by
    show (valV (putK (seenD r) (.inl y) _) (.inl x)).isSome = _
    rw [valV_put]
    by_cases e : x = y
    · rw [if_pos (by rw [e])]
      simp [e]
    · rw [if_neg (fun q => e (Sum.inl.inj q)), seenD_at r x]
      simp [e]
end K15

set_option Elab.async false
set_option linter.all false
set_option maxRecDepth 100000
set_option maxHeartbeats 2000000
/-! stacks behind effects, free of rows -/
namespace K15
open PySem PySem.Spec PyProof.Rows L2 Lw
def okS (cs : List Int) : Prop := cs.length ≤ 100 ∧ ∀ c ∈ cs, -(10 ^ 30) ≤ c ∧ c ≤ 10 ^ 30
def val (cs : List Int) : Src → Int
  | .inp k => cs.getD (cs.length - 1 - k.toNat) 0
  | .lit c => c
def put (t : Int) (l : List Src) (cs : List Int) : List Int := cs.take (cs.length - t.toNat) ++ l.map (val cs)
def tupI (cs : List Int) : PyData := .tuple (cs.map .int)
theorem tupI_get {cs : List Int} {k : Int} (h : 0 ≤ k ∧ k < cs.length) : (cs.map PyData.int)[((cs.length : Int) - 1 - k).toNat]? = some (.int (val cs (.inp k))) := by
  have e : ((cs.length : Int) - 1 - k).toNat = cs.length - 1 - k.toNat := by omega
  rw [e, List.getElem?_map]
  have h2 : cs.length - 1 - k.toNat < cs.length := by omega
  rw [List.getElem?_eq_getElem h2]
  show some (PyData.int _) = some (PyData.int _)
  congr 2
  show _ = cs.getD (cs.length - 1 - k.toNat) 0
  simp [h2]
theorem seen_get {t u : Int} {l : List Src} {k : Int} (hk : 0 ≤ k ∧ k < u) : (srcsD (joinC t l u))[(((joinC t l u).length : Int) - 1 - k).toNat]? = some (seen t l (.inp k)).d := by
  have hc := joinC_len t l u
  have h1 := source_some (t := joinD t l u) (l := joinC t l u) (k := k.toNat) (by omega)
  rw [joinC_source] at h1
  have e : (((joinC t l u).length : Int) - 1 - k).toNat = (joinC t l u).length - 1 - k.toNat := by omega
  rw [e]
  exact srcsD_get h1
theorem made_ok2 {s : Kl} {m : Int} (hs : s.ok) (hm : 3 ≤ m ∧ m ≤ 100) : (okE (made s m).t (made s m).l ∧ (made s m).t ≤ m ∧ ((made s m).l.length : Int) ≤ m) ∧ (made s m).s.ok ∧ (made s m).s.c ≤ s.c + 400 := by
  have a_ok := draw3_ok (s := s) (m := m) (z := m) hs hm.1 ⟨by omega, by omega⟩
  have w_ok := grow1 (n := 5) a_ok.2.ok (by omega)
  have b_ok := draw3_ok (s := after (draw3 s m m).2 5) (m := m) (z := (draw3 s m m).1) w_ok.ok hm.1 a_ok.1
  have ac := a_ok.2.c
  have wc := w_ok.c
  have bc := b_ok.2.c
  have f0 : ((if drawn (draw3 s m m).2 5 = 0 then downs (draw3 s m m).1 else []).length : Int) ≤ m ∧ Good (draw3 s m m).1 (if drawn (draw3 s m m).2 5 = 0 then downs (draw3 s m m).1 else []) := by
    split
    · refine ⟨?_, fun x hx => ?_⟩
      · unfold downs
        simp only [List.length_map, List.length_range]
        omega
      · unfold downs at hx
        obtain ⟨i, hi, rfl⟩ := List.mem_map.mp hx
        have := List.mem_range.mp hi
        exact inp_ok (by omega)
    · exact ⟨by simp; omega, fun x hx => by simp at hx⟩
  have st := steps_ok (t := (draw3 s m m).1) (way := drawn (draw3 s m m).2 5) (p := ((if drawn (draw3 s m m).2 5 = 0 then downs (draw3 s m m).1 else []), (draw3 (after (draw3 s m m).2 5) m (draw3 s m m).1).2)) b_ok.2.ok a_ok.1.1 (min (draw3 (after (draw3 s m m).2 5) m (draw3 s m m).1).1 (m - ((if drawn (draw3 s m m).2 5 = 0 then downs (draw3 s m m).1 else []).length : Int))).toNat
  have sg := steps_good (t := (draw3 s m m).1) (way := drawn (draw3 s m m).2 5) (p := ((if drawn (draw3 s m m).2 5 = 0 then downs (draw3 s m m).1 else []), (draw3 (after (draw3 s m m).2 5) m (draw3 s m m).1).2)) f0.2 b_ok.2.ok a_ok.1.1 (min (draw3 (after (draw3 s m m).2 5) m (draw3 s m m).1).1 (m - ((if drawn (draw3 s m m).2 5 = 0 then downs (draw3 s m m).1 else []).length : Int))).toNat
  obtain ⟨st1, st2⟩ := st
  have sc := st2.c
  simp only at st1 sc
  have len : ((made s m).l.length : Int) ≤ m := by
    show (((if _ then _ else _ : List Src).length : Nat) : Int) ≤ m
    have hl : ∀ (c : Prop) [Decidable c] (l : List Src), (if c then l.reverse else l).length = l.length := fun c _ l => by split <;> simp
    rw [hl, st1]
    omega
  refine ⟨⟨⟨a_ok.1.1, by have := a_ok.1.2; show (draw3 s m m).1 ≤ 100; omega, by omega, ?_⟩, a_ok.1.2, len⟩, st2.ok, ?_⟩
  · show (if _ then _ else _ : List Src).all _ = true
    refine List.all_eq_true.mpr fun x hx => sg x ?_
    split at hx
    · exact List.mem_reverse.mp hx
    · exact hx
  · show (steps _ _ _ _).2.c ≤ _
    omega

/-! ### stacks behind effects, by the cell at each depth -/
def cellAt (cs : List Int) (k : Nat) : Int := cs.getD (cs.length - 1 - k) 0
theorem val_inp (cs : List Int) (d : Int) : val cs (.inp d) = cellAt cs d.toNat := rfl
theorem ext_cells {a b : List Int} (hl : a.length = b.length) (h : ∀ k, k < a.length → cellAt a k = cellAt b k) : a = b := by
  refine List.ext_getElem hl fun i h1 h2 => ?_
  have := h (a.length - 1 - i) (by omega)
  unfold cellAt at this
  have e1 : a.length - 1 - (a.length - 1 - i) = i := by omega
  have e2 : b.length - 1 - (a.length - 1 - i) = i := by omega
  rw [e1, e2] at this
  simpa [h1, h2] using this
theorem put_len {t : Int} {l : List Src} {cs : List Int} (h0 : 0 ≤ t) (h : t ≤ cs.length) : ((put t l cs).length : Int) = cs.length - t + l.length := by
  unfold put
  rw [List.length_append, List.length_take, List.length_map]
  omega
theorem put_cell {t : Int} {l : List Src} {cs : List Int} (h0 : 0 ≤ t) (h : t ≤ cs.length) {k : Nat} (hk : k < (put t l cs).length) : cellAt (put t l cs) k = val cs (source t l k) := by
  have hl := put_len (l := l) h0 h
  have e0 : (put t l cs).length = (cs.length - t.toNat) + l.length := by omega
  unfold cellAt
  rw [e0] at hk ⊢
  unfold put
  by_cases h1 : k < l.length
  · have h2 := source_some (t := t) (l := l) h1
    rw [List.getD_eq_getElem?_getD, List.getElem?_append_right (by rw [List.length_take]; omega), List.length_take, List.getElem?_map]
    have e1 : cs.length - t.toNat + l.length - 1 - k - min (cs.length - t.toNat) cs.length = l.length - 1 - k := by omega
    rw [e1, h2]
    rfl
  · rw [source_far (by omega), val_inp]
    unfold cellAt
    rw [List.getD_eq_getElem?_getD, List.getElem?_append_left (by rw [List.length_take]; omega), List.getElem?_take, if_pos (by omega), List.getD_eq_getElem?_getD]
    congr 2
    omega
theorem cut_le : ∀ (t : Int) (l : List Src), (cut t l).1 ≤ t
  | t, [] => Int.le_refl _
  | t, s :: r => by
    rw [cut_cons]
    split
    · have := cut_le (t - 1) r
      omega
    · exact Int.le_refl _
theorem put_cut {t : Int} {l : List Src} {cs : List Int} (h0 : 0 ≤ t) (hl : l.all (srcOk t) = true) (h : t ≤ cs.length) : put (cut t l).1 (cut t l).2 cs = put t l cs := by
  have g := cut_good h0 hl
  have gr := cut_growth t l
  have le := cut_le t l
  have l1 := put_len (l := (cut t l).2) g.1 (show (cut t l).1 ≤ cs.length by omega)
  have l2 := put_len (l := l) h0 h
  refine ext_cells (by omega) fun k hk => ?_
  rw [put_cell g.1 (by omega) hk, put_cell h0 h (by omega), source_cut]
theorem put_join {t u : Int} {l r : List Src} {cs : List Int} (h0 : 0 ≤ t) (h1 : t ≤ cs.length) (u0 : 0 ≤ u) (u1 : u ≤ (put t l cs).length) (hl : l.all (srcOk t) = true) (hr : r.all (srcOk u) = true) : put (joinD t l u) (join t l u r) cs = put u r (put t l cs) := by
  have l1 := put_len (l := l) h0 h1
  have j0 : 0 ≤ joinD t l u := joinD_0 h0
  have j1 : joinD t l u ≤ cs.length := by unfold joinD; omega
  have jg := join_growth (t := t) (l := l) (r := r) u0
  have l2 := put_len (l := join t l u r) j0 j1
  have l3 := put_len (l := r) u0 u1
  refine ext_cells (by omega) fun k hk => ?_
  rw [put_cell j0 j1 hk, put_cell u0 u1 (by omega), join_source u0]
  have hb : ∀ d : Int, source u r k = .inp d → 0 ≤ d ∧ d < (put t l cs).length := by
    intro d hd
    by_cases h : k < r.length
    · have h2 := source_some (t := u) (l := r) h
      rw [hd] at h2
      have := srcOk_inp (List.all_eq_true.mp hr _ (List.mem_of_getElem? h2))
      omega
    · rw [source_far (by omega)] at hd
      have := Src.inp.inj hd
      omega
  cases hd : source u r k with
  | inp d =>
    have := hb d hd
    rw [val_inp, put_cell h0 h1 (by omega)]
    rfl
  | lit c => rfl
theorem put_plus {a b : Int × List Src} {cs : List Int} (ha : Eff a) (hb : Eff b) (h1 : a.1 ≤ cs.length) (u1 : b.1 ≤ (put a.1 a.2 cs).length) : put (plus a b).1 (plus a b).2 cs = put b.1 b.2 (put a.1 a.2 cs) := by
  have l1 := put_len (l := a.2) ha.t0 h1
  unfold plus
  rw [put_cut (joinD_0 ha.t0) (join_good ha.t0 ha.good hb.good) (by unfold joinD; omega), put_join ha.t0 h1 hb.t0 u1 ha.good hb.good]
theorem put_still {cs : List Int} : put 0 [] cs = cs := by
  unfold put
  simp
theorem plus_okE {a b : Int × List Src} (ha : Eff a) (hb : Eff b) (h1 : a.1 + max 0 (b.1 - (a.2.length : Int)) ≤ 100) (h2 : max (a.2.length : Int) b.1 - b.1 + b.2.length ≤ 100) : okE (plus a b).1 (plus a b).2 := by
  have e := plus_eff ha hb
  have jl := join_len (t := a.1) (l := a.2) (r := b.2) hb.t0
  have le := cut_le (joinD a.1 a.2 b.1) (join a.1 a.2 b.1 b.2)
  have ll := cut_len (joinD a.1 a.2 b.1) (join a.1 a.2 b.1 b.2)
  refine ⟨e.t0, ?_, ?_, e.good⟩
  · unfold plus
    unfold joinD at le ⊢
    omega
  · unfold plus
    omega
theorem plus_le {a b : Int × List Src} (hb : Eff b) : (plus a b).1 ≤ a.1 + max 0 (b.1 - (a.2.length : Int)) ∧ ((plus a b).2.length : Int) ≤ max (a.2.length : Int) b.1 - b.1 + b.2.length := by
  have jl := join_len (t := a.1) (l := a.2) (r := b.2) hb.t0
  have le := cut_le (joinD a.1 a.2 b.1) (join a.1 a.2 b.1 b.2)
  have ll := cut_len (joinD a.1 a.2 b.1) (join a.1 a.2 b.1 b.2)
  refine ⟨?_, ?_⟩
  · unfold plus
    unfold joinD at le ⊢
    omega
  · unfold plus
    omega
/-! ### shown stacks -/
theorem tupI_lay : ∀ cs : List Int, PyData.canLayAll0 (cs.map .int) = true ∧ PyData.depthAll (cs.map .int) = 0 ∧ PyData.bulkAll (cs.map .int) = cs.length
  | [] => by simp [PyData.canLayAll0, PyData.depthAll, PyData.bulkAll]
  | c :: cs => by
    have := tupI_lay cs
    simp only [List.map_cons, PyData.canLayAll0, PyData.canLay0, PyData.depthAll, PyData.depth, PyData.bulkAll, PyData.bulk, this.1, this.2.1, this.2.2, List.length_cons, Bool.and_self, true_and]
    omega
theorem tupI_shaped (cs : List Int) : SeqAt.shaped (tupI cs) = true := by
  unfold SeqAt.shaped tupI
  have := tupI_lay cs
  simp only [PyData.canLay0, PyData.depth, this.1, this.2.1, Bool.true_and]
  exact decide_eq_true (by omega)
theorem n_reprT {K : Fr} {μ : AM} {cs : List Int} (h : ∀ c ∈ cs, isml c) (hl : cs.length ≤ 2000) : OpN K (rRepr K) [.d (tupI cs)] μ (.s (tupI cs).shown) μ := by
  have h1 : PyData.showableAll (cs.map .int) = true ∧ PyData.leavesShortAll 1921 (cs.map .int) = true := by
    clear hl
    induction cs with
    | nil => simp [PyData.showableAll, PyData.leavesShortAll]
    | cons c cs ih =>
      have i1 := ih (fun x hx => h x (List.mem_cons_of_mem _ hx))
      have i2 := int_show (h c List.mem_cons_self)
      have i3 := int_short (h c List.mem_cons_self)
      simp only [List.map_cons, PyData.showableAll, PyData.leavesShortAll, i1.1, i1.2, i2, i3, Bool.and_self, and_self]
  refine n_repr (.inr rfl) (tupI_shaped cs) h1.1 (fits h1.2 ?_)
  show PyData.bulkAll (cs.map .int) ≤ 8000
  rw [(tupI_lay cs).2.2]
  omega
def mkS (s : Kl) (m : Int) : Nat → Kl
  | 0 => s
  | n + 1 => (made (mkS s m n) m).s
theorem mkS_ok {s : Kl} {m : Int} (hs : s.ok) (hm : 3 ≤ m ∧ m ≤ 100) : ∀ n : Nat, (mkS s m n).ok ∧ (mkS s m n).c ≤ s.c + 400 * n
  | 0 => ⟨hs, by show s.c ≤ _; simp⟩
  | n + 1 => by
    have ih := mkS_ok hs hm n
    have := made_ok2 ih.1 hm
    exact ⟨this.2.1, by have := this.2.2; show (made (mkS s m n) m).s.c ≤ _; push_cast; omega⟩
def stk (n : Nat) : List Int := (List.range n).map fun (i : Nat) => 1000 + (i : Int)
theorem stk_len (n : Nat) : (stk n).length = n := by unfold stk; simp
theorem stk_in {n : Nat} {c : Int} (h : c ∈ stk n) : 1000 ≤ c ∧ c < 1000 + n := by
  unfold stk at h
  obtain ⟨i, hi, rfl⟩ := List.mem_map.mp h
  have := List.mem_range.mp hi
  omega
theorem val_in {cs : List Int} {t : Int} (hc : ∀ c ∈ cs, -(10 ^ 30) ≤ c ∧ c ≤ 10 ^ 30) {x : Src} (hx : srcOk t x = true) : -(10 ^ 30) ≤ val cs x ∧ val cs x ≤ 10 ^ 30 := by
  cases x with
  | inp k =>
    show -(10 ^ 30) ≤ cs.getD _ 0 ∧ cs.getD _ 0 ≤ 10 ^ 30
    rw [List.getD_eq_getElem?_getD]
    cases h : cs[cs.length - 1 - k.toNat]? with
    | none => exact ⟨by decide, by decide⟩
    | some c => exact hc c (List.mem_of_getElem? h)
  | lit c => exact srcOk_lit hx
theorem put_in {cs : List Int} {t u : Int} {l : List Src} (hc : ∀ c ∈ cs, -(10 ^ 30) ≤ c ∧ c ≤ 10 ^ 30) (hl : l.all (srcOk u) = true) : ∀ c ∈ put t l cs, -(10 ^ 30) ≤ c ∧ c ≤ 10 ^ 30 := fun c h => by
  unfold put at h
  rcases List.mem_append.mp h with q | q
  · exact hc c (List.mem_of_mem_take q)
  · obtain ⟨x, hx, rfl⟩ := List.mem_map.mp q
    exact val_in hc (List.all_eq_true.mp hl x hx)
theorem sml_in {cs : List Int} (hc : ∀ c ∈ cs, -(10 ^ 30) ≤ c ∧ c ≤ 10 ^ 30) : ∀ c ∈ cs, isml c := fun c h => isml_of (by have := hc c h; omega)
theorem s_mu {K : Fr} {t : TS} {ρ : AS} {μ μ' : AM} {P : Po} (e : μ' = μ) (h : StW K t ρ μ' P) : StW K t ρ μ P := e ▸ h
theorem n_reprS {K : Fr} {μ : AM} {x : Src} (h : Src.sml x) : OpN K (rRepr K) [.d x.d] μ (.s x.d.shown) μ := by
  have hs := shaped_src x
  have hw := src_show h
  have hf : x.d.shown.length ≤ sizeLine := fits (src_short h) (by have := src_bulk x; omega)
  cases x with
  | inp k => exact n_repr (.inr rfl) hs hw hf
  | lit k => exact n_repr (.inr rfl) hs hw hf
end K15

set_option Elab.async false
set_option linter.all false
set_option maxRecDepth 100000
set_option maxHeartbeats 2000000
/-! for i, x in enumerate(reversed(l), k): one turn after the other -/
namespace PySem
open Sem (wp)
section
variable {prog : Program} {w : World} {A : Around} {E : Value → Shared → Prop} {s : Shared}
theorem nxr_item {it l : Addr} {i : Nat} {items : Array Value} {x : Value} {Q : Value → Shared → Prop} (ri : s.heap.IsRevIter it l (i : Int)) (li : s.heap.IsList l items) (gx : items[i]? = some x)
    (nx : ∀ h', h'.IsRevIter it l ((i : Int) - 1) → Heap.SameBut it s.heap h' → Q x { s with heap := h' }) : wpAny (model prog w) A (Builtin.SmallTypes.nextOf (.ref it)) Q E s := by
  obtain ⟨ob, gob, cob, dob⟩ := id ri
  obtain ⟨ol, gol, _, nl, dol⟩ := li
  unfold Builtin.SmallTypes.nextOf; refine wpAny_bind (wpAny_callSpecial?_slot (name := Str.ofString "__next__") ri.typeIs F.slot_lri_next (wpAny_call_entry F.slot_lri_next ri.typeIs F.entry_lri_next ?_ (F.args_lri_next_1 _)))
  unfold Builtin.«list_reverseiterator.__next__»; refine wpAny_bind (wpAny_of_eq (a := (Value.ref it, [])) rfl ?_)
  try dsimp only
  refine wpAny_bind (wpAny_field gob dob (x := rawInt (i : Int)) rfl ?_)
  show wpAny _ _ (if (i : Int) < 0 then _ else _) _ _ s; rw [if_neg (by omega)]
  show wpAny _ _ (field (.ref it) 0 >>= _) _ _ s; refine wpAny_bind (wpAny_field gob dob (x := .ref l) rfl ?_)
  show wpAny _ _ (seqItems? (.ref l) >>= _) _ _ s; refine wpAny_bind (wpAny_seqItems gol dol ?_)
  simp only [Int.toNat_natCast, gx]
  refine wpAny_bind (wpAny_setField gob dob (by simp) ?_)
  first
  | refine wpAny_pure ⟨x, rfl, wpAny_pure (nx _ ?_ (Heap.SameBut.update ..))⟩
  | refine wpAny_bind (wpAny_pure (wpAny_pure ⟨x, rfl, wpAny_pure (nx _ ?_ (Heap.SameBut.update ..))⟩))
  exact ⟨_, Heap.get?_update_self _ gob (Obj.isFreed_of_fields (Obj.data_mapFields dob _)), (Obj.cls_mapFields ..).trans cob, by rw [Obj.data_mapFields dob]; simp⟩
theorem nxr_end {it l : Addr} {Q : Value → Shared → Prop} (hnd : A.handled = none) (ri : s.heap.IsRevIter it l (-1))
    (nx : ∀ h' e, Heap.ExtBut it s.heap h' → (∃ o, h'.get? e = some o ∧ o.cls = .type "StopIteration") → E (.ref e) { s with heap := h' }) : wpAny (model prog w) A (Builtin.SmallTypes.nextOf (.ref it)) Q E s := by
  obtain ⟨ob, gob, cob, dob⟩ := id ri
  unfold Builtin.SmallTypes.nextOf; refine wpAny_bind (wpAny_callSpecial?_slot (name := Str.ofString "__next__") ri.typeIs F.slot_lri_next (wpAny_call_entry F.slot_lri_next ri.typeIs F.entry_lri_next ?_ (F.args_lri_next_1 _)))
  unfold Builtin.«list_reverseiterator.__next__»; refine wpAny_bind (wpAny_of_eq (a := (Value.ref it, [])) rfl ?_)
  try dsimp only
  refine wpAny_bind (wpAny_field gob dob (x := rawInt (-1)) rfl ?_)
  show wpAny _ _ (if (-1 : Int) < 0 then _ else _) _ _ s; rw [if_pos (by decide)]
  refine wpAny_bind (wpAny_rule ?_); (first | (show wpAny _ _ (newExc (.type "StopIteration") [] >>= _) _ _ _) | (refine wpAny_bind ?_; (show wpAny _ _ (newExc (.type "StopIteration") [] >>= _) _ _ _))); refine wpAny_bind ?_
  simp only [newExc, newTuple]
  refine wpAny_bind (wpAny_newObj_type ?_ (by size_fits)); refine wpAny_bind (m := firstArgMember _ _) (wpAny_of_eq (a := Value.none) (by first | rfl | (simp only [firstArgMember]; rfl)) ?_)
  refine wpAny_newObj_type ?_ (by size_fits); simp only [raiseNew]
  refine wpAny_bind (wpAny_handled ?_); first | rw [show A.in1.handled = none from hnd] | rw [hnd]
  refine wpAny_bind (wpAny_pure (wpAny_throw ?_)); exact nx _ _ (((Heap.ExtBut.refl _ _).push _).push _) ⟨_, Heap.get?_push_size _ rfl, rfl⟩
end
theorem Draws.rev {prog : Program} {w : World} {A : Around} (hnd : A.handled = none) (it l : Addr) (ne : l ≠ it) (items : Array Value) :
    Draws prog w A it [it, l] items.size (fun i v => items[items.size - 1 - i]? = some v) (fun i h => (i ≤ items.size ∧ h.IsRevIter it l ((items.size : Int) - 1 - (i : Int))) ∧ h.IsList l items) where
  live := fun _ _ stt => let ⟨o, g, _⟩ := stt.1.2; ⟨o, g⟩
  frame := fun _ _ _ stt kep => ⟨⟨stt.1.1, stt.1.2.at fun o e => kep it (by simp) o e⟩, stt.2.at fun o e => kep l (by simp) o e⟩
  item := fun i s Q E lti stt want => by
    have r := stt.1.2
    have e1 : (items.size : Int) - 1 - (i : Int) = ((items.size - 1 - i : Nat) : Int) := by omega
    rw [e1] at r
    refine nxr_item r stt.2 (x := items[items.size - 1 - i]) (by rw [Array.getElem?_eq_getElem (by omega)]) fun h' r' smb => ?_
    have e2 : ((items.size - 1 - i : Nat) : Int) - 1 = (items.size : Int) - 1 - ((i + 1 : Nat) : Int) := (by omega); rw [e2] at r'
    exact want _ h' s.toks (by rw [Array.getElem?_eq_getElem (by omega)]) ⟨⟨lti, r'⟩, stt.2.extBut smb.extBut ne⟩ smb
  done := fun s Q E stt wantE => by
    have r := stt.1.2
    have e1 : (items.size : Int) - 1 - (items.size : Int) = -1 := by omega
    rw [e1] at r
    exact nxr_end hnd r wantE
theorem meets_enr {it l : Addr} {i k : Int} {t : Tok} (fit : Builtin.SmallTypes.fitsIndex k = true) :
    Meets (Builtin.«enumerate.__new__» ⟨[.type "enumerate", .ref it, .int k t], []⟩) (fun _ R s => s.heap.IsRevIter it l i ∧
      R (.ok (.ret (.ref s.heap.objs.size))) { s with heap := s.heap.push { cls := .type "enumerate", data := .fields #[.none, .bool false, .ref it, rawInt k, .none, .none] } }) :=
  .of_wp fun prog w A R s h => by
    obtain ⟨hp, g, d, tkk, os⟩ := s; obtain ⟨ri, h⟩ := h
    have sbt := sub_enumerate
    have hnf : (!Builtin.SmallTypes.fitsIndex k) = false := by rw [fit]; rfl
    have qq1 : ∀ {A' : Around} {E : Value → Shared → Prop} {Q : Value → Shared → Prop}, Q (.ref it) ⟨hp, g, d, tkk, os⟩ → wpAny (model prog w) A' (pyIter (.ref it)) Q E ⟨hp, g, d, tkk, os⟩ := fun q => wpAny_pyIter_revIter (s := ⟨hp, g, d, tkk, os⟩) ri q
    wp_walk using qq1
    refine wpAny_stack_any fun stt => wpAny_pure ?_
    split
    · rename_i c _ _ _ _ _
      cases (c == Value.type "enumerate")
      · wp_walk using qq1
        exact ⟨_, rfl, h⟩
      · wp_walk using qq1
        exact ⟨_, rfl, h⟩
    · wp_walk using qq1
      exact ⟨_, rfl, h⟩
theorem call_enr {prog : Program} {w : World} {A : Around} {E : Value → Shared → Prop} {s : Shared} {it l : Addr} {i k : Int} {t : Tok} {Q : Value → Shared → Prop} (ri : s.heap.IsRevIter it l i) (k0 : -(2 ^ 63) ≤ k) (k1 : k < 2 ^ 63)
    (h : ∀ h', IsEnum h' s.heap.objs.size it k .none → h'.objs.size = s.heap.objs.size + 1 → (∀ b o, s.heap.get? b = some o → h'.get? b = some o) → Q (.ref s.heap.objs.size) { s with heap := h' }) :
    wpAny (model prog w) A (call (.type "enumerate") [.ref it, .int k t]) Q E s := by
  refine callType_new F.called_enumerate (by decide) (F.typeCall_enumerate_2 _ _) (F.newCall_enumerate_2 _ _) (fun obj => F.args_object_init_3 obj _ _) F.entry_enumerate_new (meets_enr (l := l) (i := i) (fits_start k0 k1)) ⟨ri, ?_⟩
  have qe : IsEnum (s.heap.push { cls := .type "enumerate", data := .fields #[.none, .bool false, .ref it, rawInt k, .none, .none] }) s.heap.objs.size it k .none := Heap.get?_push_size s.heap rfl
  exact ⟨⟨_, qe, rfl⟩, h _ qe (Heap.size_push ..) fun b o x => Heap.get?_push_of_some _ x⟩
end PySem
namespace Lw
open PySem PySem.Spec PyProof.Rows L2
/-- the list at a, of n items, from behind, each item in a new pair with a number from k on -/
def Ier (K : PySem.W.Frag) (a : Addr) (n : Nat) (k : Int) : It :=
  ⟨fun i H => i < n ∧ ∃ xs : List V, SqL K H a xs ∧ xs.length = n, fun i H v H' => ∃ T x, v = .ref T ∧ H T = none ∧ H' = upd H T (.tup [.int (k + (i : Int)), x]) ∧ ∀ xs, SqL K H a xs → xs[n - 1 - i]? = some x, fun i H => n ≤ i ∧ ∃ xs : List V, SqL K H a xs ∧ xs.length = n⟩
theorem turn_enr {P : Program} {w : World} {K : PySem.W.Frag} {elts : List Expr} {kk : Nat} {tpos : Pos} (a e it : Addr) (n : Nat) (k : Int) (hai : a ≠ it) (hea : e ≠ a) :
    Turn P w K (.Tuple elts kk tpos) (Ier K a n k) [e, it] e (fun i h => (∃ old, IsEnum h e it (k + (i : Int)) old) ∧ (i ≤ n ∧ h.IsRevIter it a ((n : Int) - 1 - (i : Int))) ∧ e ≠ it) where
  mem := by simp
  obj := fun i h stt b mb => by
    obtain ⟨⟨old, qe⟩, ⟨_, o, qo, hc, qd⟩, _⟩ := stt
    rcases (show b = e ∨ b = it by simpa using mb) with z | z
    · rw [z]; exact ⟨_, qe, fun v q => nomatch q⟩
    · rw [z]; exact ⟨o, qo, fun v q => by rw [qd] at q; cases q⟩
  keep := fun i h h' stt kp => let ⟨⟨old, qe⟩, lti, qne⟩ := stt; ⟨⟨old, kp e (by simp) _ qe⟩, ⟨lti.1, lti.2.at fun o q => kp it (by simp) o q⟩, qne⟩
  item := by
    intro X pP pW pK hc i pins s σ H E I fpo stt goes
    subst pP pW pK
    obtain ⟨⟨old, qe⟩, ⟨_, qit⟩, qne⟩ := stt
    obtain ⟨hin, xs, sq, lenq⟩ := goes
    obtain ⟨vals, rels, p, zle⟩ := I.list sq
    have hsz0 : vals.toArray.size = n := by rw [List.size_toArray, ← rels.length]; exact lenq
    have ltE : e < s.heap.objs.size := Heap.lt_size qe
    have ltI : it < s.heap.objs.size := by obtain ⟨_, q, _⟩ := qit; exact Heap.lt_size q
    have D := Draws.rev (prog := X.prog) (w := X.w) (A := X.A.in1) (I.ok.hd hc) it a hai vals.toArray
    rw [hsz0] at D
    refine wpAny_pyNext_enum_itemC (n := n) D qe ⟨⟨by omega, qit⟩, p.isList⟩ hin qne (by simp [qne, hea]) fun u h' tkk hu qo hs' hT hsz kep => ?_
    refine ⟨_, rfl, wpAny_letOwnedTupleGo_enum (s := { s with heap := h', toks := tkk + 1 }) qo fun h'' he' smb => ?_⟩
    have hx : xs[n - 1 - i]? = some xs[n - 1 - i] := List.getElem?_eq_getElem (by omega)
    obtain ⟨u2, hu2, ru⟩ := rels.get hx
    have hu3 : vals[n - 1 - i]? = some u := by simpa using hu
    rw [hu2] at hu3
    cases hu3
    have hT2 : h''.get? s.heap.objs.size = some { cls := .type "tuple", data := .seq #[.int (k + (i : Int)) tkk, u] } := (smb.2 _ (Nat.ne_of_gt ltE)).trans hT
    have new : ObjOk X.prog X.w (upd H s.heap.objs.size (.tup [.int (k + (i : Int)), xs[n - 1 - i]])) h'' s.heap.objs.size (.tup [.int (k + (i : Int)), xs[n - 1 - i]]) :=
      ⟨by show 2 ≤ sizeLine; decide, [.int (k + (i : Int)) tkk, u], .cons ⟨_, rfl⟩ (.cons ru .nil), ⟨_, hT2, rfl, _, rfl⟩⟩
    have I1 : Inv X pins σ (upd H s.heap.objs.size (.tup [.int (k + (i : Int)), xs[n - 1 - i]])) { s with heap := h'', toks := tkk + 1 } :=
      I.turnedNew (ch := [e, it]) (fun b ob mb q => (smb.2 b (fun z => mb (by simp [z]))).trans (kep b ob (fun z => mb (by simp [z])) (fun z => mb (by simp [z])) q)) fpo (Nat.le_refl _) new
    refine ⟨.ref s.heap.objs.size, _, I1, rfl, ⟨_, _, rfl, I.hok.fresh (Nat.le_refl _), rfl, fun ys hy => by rw [I.list_inj hy sq]; exact hx⟩, ⟨⟨u, ?_⟩, ⟨hs'.1.1, hs'.1.2.at fun o q => (smb.2 it (Ne.symm qne)).trans q⟩, qne⟩, fun b mb => ?_⟩
    · have e1 : k + ((i + 1 : Nat) : Int) = k + (i : Int) + 1 := by omega
      rw [e1]; exact he'
    · have mb' : b < s.heap.objs.size := by
        rcases (show b = e ∨ b = it by simpa using mb) with z | z
        · rw [z]; exact ltE
        · rw [z]; exact ltI
      rw [upd_ne (Nat.ne_of_lt mb')]
      exact (fpo b mb).1
  done := by
    intro X pP pW pK hc i pins s σ H E I fpo stt goes
    subst pP pW pK
    obtain ⟨⟨old, qe⟩, ⟨hin, qit⟩, qne⟩ := stt
    obtain ⟨hge, xs, sq, lenq⟩ := goes
    obtain ⟨vals, rels, p, zle⟩ := I.list sq
    have hsz0 : vals.toArray.size = n := by rw [List.size_toArray, ← rels.length]; exact lenq
    have ei : i = n := Nat.le_antisymm hin hge
    subst ei
    obtain ⟨g0, g1, g2, g3, g4, g5⟩ := fpo it (by simp)
    have D := Draws.rev (prog := X.prog) (w := X.w) (A := X.A.in1) (I.ok.hd hc) it a hai vals.toArray
    rw [hsz0] at D
    exact wpAny_pyNext_enum_endD D qe ⟨⟨hin, qit⟩, p.isList⟩ fun h' eb => ⟨rfl, I.turned (t' := s.toks) (fun b o mb q => eb b o mb q) g0 g1 g3 g4 g5⟩
  self := fun A i s Q E stt h => let ⟨⟨_, qe⟩, _⟩ := stt; wpAny_pyIter_enum qe h
/-- enumerate(reversed(l), k), k written there -/
def iEnr (K : PySem.W.Frag) (te : TE) (k : Int) : TI := fun σ H R => te σ H fun v H1 => ∃ (a : Addr) (xs : List V), v = .ref a ∧ SqL K H1 a xs ∧ R (Ier K a xs.length k) H1
theorem pi_enr {X : Cx} {elts : List Expr} {kk : Nat} {tpos : Pos} {e : Expr} {te : TE} {k : Int} {j : Nat} {p pos p2 pos2 cpos : Pos} (goes : Gl X "enumerate") (hm : X.mg "enumerate" = none) (hg2 : Gl X "reversed") (hm2 : X.mg "reversed" = none) (qe : PE X e te) (k0 : -(2 ^ 63) ≤ k := by decide) (k1 : k < 2 ^ 63 := by decide)
    (hs : starEach [.Call (.Name "reversed" p2) [e] [] pos2, .Constant (.int k) j cpos] X.env = (false, eval (.Call (.Name "reversed" p2) [e] [] pos2) X.env) :: starEach [.Constant (.int k) j cpos] X.env := by rfl)
    (hs2 : starEach [.Constant (.int k) j cpos] X.env = (false, eval (.Constant (.int k) j cpos) X.env) :: starEach [] X.env := by rfl)
    (hs3 : starEach [e] X.env = (false, eval e X.env) :: starEach [] X.env := by rfl) (hpl : (backTo pos (starEach [.Constant (.int k) j cpos] X.env)).any (·.1) = false := by rfl) :
    PI X (.Tuple elts kk tpos) (.Call (.Name "enumerate" p) [.Call (.Name "reversed" p2) [e] [] pos2, .Constant (.int k) j cpos] [] pos) (iEnr X.K te k) := by
  refine ⟨fun pins s σ H R I h => ?_⟩; refine Call_ (ld_blt I goes hm PyProof.Rows.boot_enumerate (PyProof.Rows.callWith_type1 (PyProof.Rows.args_cons ?_ hs) hs hpl))
  refine Call_ (ld_blt I hg2 hm2 PyProof.Rows.boot_reversed (PyProof.Rows.callWith_type1 (PyProof.Rows.args_cons (thn (qe.run pins s σ H _ I h) fun u s1 ⟨v, H1, I1, r1, qq1⟩ => PyProof.Rows.args_nil ?_) hs3) hs3 rfl))
  obtain ⟨a, xs, evv, sq, q⟩ := qq1
  subst evv
  obtain rfl : u = Value.ref a := r1; obtain ⟨vals, rels, p', zle⟩ := I1.list sq
  refine call_reversed_list p'.isList (PyProof.Rows.args_cons (wpAny_Constant_int (PyProof.Rows.args_nil ?_)) hs2)
  have lenq := rels.length
  have la : a < s1.heap.objs.size := p'.lt
  have I2 : Inv X pins σ H1 { s1 with heap := s1.heap.push (revObj a ((vals.toArray.size : Int) - 1)), toks := s1.toks + 1 } := I1.kept (t' := s1.toks + 1) fun b o e => Heap.get?_push_of_some _ e
  have r0 : (s1.heap.push (revObj a ((vals.toArray.size : Int) - 1))).IsRevIter s1.heap.objs.size a ((vals.toArray.size : Int) - 1) := ⟨_, Heap.get?_push_size _ rfl, rfl, rfl⟩
  have z0 : (s1.heap.push (revObj a ((vals.toArray.size : Int) - 1))).objs.size = s1.heap.objs.size + 1 := Heap.size_push ..
  generalize s1.heap.push (revObj a ((vals.toArray.size : Int) - 1)) = h1 at I2 r0 z0
  refine call_enr (l := a) (i := (vals.toArray.size : Int) - 1) r0 k0 k1 fun h' hen hsz kep => wpAny_pyIter_enum hen ?_
  have I3 : Inv X pins σ H1 { s1 with heap := h', toks := s1.toks + 1 } := I2.kept (t' := s1.toks + 1) kep
  have e1 : ((vals.toArray.size : Nat) : Int) - 1 = (xs.length : Int) - 1 - ((0 : Nat) : Int) := by simp only [List.size_toArray]; omega
  rw [e1] at r0
  have fr : ∀ b, s1.heap.objs.size ≤ b → FpOk X pins H1 b := fun b mb => I1.fpOk mb (I1.hok.fresh mb)
  have k00 : k + ((0 : Nat) : Int) = k := by omega
  refine ⟨h1.objs.size, [h1.objs.size, s1.heap.objs.size], _, _, H1, rfl, I3, turn_enr a h1.objs.size s1.heap.objs.size xs.length k (Nat.ne_of_lt la) (by rw [z0]; exact fun e : s1.heap.objs.size + 1 = a => Nat.lt_irrefl a (Nat.lt_trans la (Nat.lt_of_lt_of_eq (Nat.lt_succ_self _) e))), ⟨⟨_, by rw [k00]; exact hen⟩, ⟨Nat.zero_le _, r0.at fun o e => kep _ o e⟩, by rw [z0]; exact Nat.succ_ne_self _⟩, fun b mb => ?_, q⟩
  rcases (show b = h1.objs.size ∨ b = s1.heap.objs.size by simpa using mb) with z | z
  · rw [z, z0]; exact fr _ (Nat.le_succ _)
  · rw [z]; exact fr _ (Nat.le_refl _)
end Lw

set_option Elab.async false
set_option linter.all false
set_option maxRecDepth 100000
set_option maxHeartbeats 2000000
/-! dicts of sources, their values data; enumerate -/
namespace Lw
open PySem PySem.Spec PyProof.Rows L2
section
variable {K : Fr} {ρ : AS} {μ μ1 μ2 μ3 : AM} {ta tb td te tl ty tv : TE} {R R1 R2 : AV} {P : Po} {d e : PyData} {ds es zs : List PyData} {l : Addr} {g : TG} {f : List Key → Option PyData} {n : Nat}
def putD {κ : Type} [DecidableEq κ] (f : κ → Option PyData) (k : κ) (d : PyData) : κ → Option PyData := fun j => if j = k then some d else f j
theorem putK_of {κ : Type} [DecidableEq κ] {ws : List (κ × V)} {k : κ} {v : V} {kv : κ × V} (h : kv ∈ putK ws k v) : kv = (k, v) ∨ (kv ∈ ws ∧ kv.1 ≠ k) := by
  unfold putK at h
  split at h
  · obtain ⟨x, hx, e⟩ := List.mem_map.mp h
    by_cases q : x.1 = k
    · rw [if_pos q, q] at e
      exact .inl e.symm
    · rw [if_neg q] at e
      rw [← e]
      exact .inr ⟨hx, q⟩
  · rename_i c
    rcases List.mem_append.mp h with q | q
    · refine .inr ⟨q, fun e => c ?_⟩
      rw [List.any_eq_true]
      exact ⟨kv, q, decide_eq_true e⟩
    · exact .inl (by simpa using q)
theorem DfH.put {κ : Type} [DecidableEq κ] {f : κ → Option PyData} {B : Hp} {ws : List (κ × V)} {k : κ} {v : V} (h : DfH K B f n ws) (hv : Dt K B v d) : DfH K B (putD f k d) (n + 1) (putK ws k v) := by
  refine ⟨Nat.le_trans (putK_len _ _ _) (Nat.succ_le_succ h.1), fun j e q => ?_, fun j q => ?_, fun kv q => ?_⟩
  · unfold putD at q
    rw [valV_put]
    by_cases c : j = k
    · rw [if_pos c] at q ⊢
      cases q
      exact ⟨v, rfl, hv⟩
    · rw [if_neg c] at q ⊢
      exact h.2.1 j e q
  · unfold putD at q
    rw [valV_put]
    by_cases c : j = k
    · rw [if_pos c] at q; cases q
    · rw [if_neg c] at q ⊢
      exact h.2.2.1 j q
  · rw [valV_put]
    rcases putK_of q with rfl | ⟨q1, q2⟩
    · rw [if_pos rfl]
    · rw [if_neg q2]
      exact h.2.2.2 kv q1
theorem own_df {F B H : Hp} (w : Wd K F B μ H) (hl : μ l = some (.dF f n)) : ∃ ws, H l = some (.dT ws) ∧ DfH K B f n ws := by
  obtain ⟨_, _, u, hu, ws, rfl, h⟩ := w.2.1 l _ hl
  exact ⟨ws, hu, h⟩
theorem s_dnewF {i : Nat} (p : ∀ l, μ l = none → P.nx (ρ.set i (some (.r l))) (updM μ l (.dF (fun _ => none) 0))) : StW K (tAsg tDNewT (gName i)) ρ μ P := fun F D B H σ w sl r => fun l hp =>
  r.nx _ _ B _ _ (p l (own_free w hp)) (Same.refl _) (w.newM (ao := .dF (fun _ => none) 0) hp ⟨[], rfl, Nat.le_refl _, nofun, fun _ _ => rfl, nofun⟩) (Sl.set (R := .r l) (v := .ref l) (show V.ref l = V.ref l from rfl) i sl)
theorem df_some {κ : Type} [DecidableEq κ] {f : κ → Option PyData} {B : Hp} {ws : List (κ × V)} (h : DfH K B f n ws) (k : κ) : (valV ws k).isSome = (f k).isSome := by
  cases e : f k with
  | none => rw [h.2.2.1 k e]; rfl
  | some d => obtain ⟨v, h1, _⟩ := h.2.1 k d e; rw [h1]; rfl
theorem et_dinF {s : Src} (hy : EvW K ty ρ μ (.d s.d) μ1) (hd : EvW K td ρ μ1 (.r l) μ2) (hl : μ2 l = some (.dF f n)) : EvT K (tB (tDIn ty td)) ρ μ (f s.key).isSome μ2 := fun F B H σ w sl Q q =>
  hy F B H σ w sl _ fun y B1 H1 e1 w1 h1 => hd F B1 H1 σ w1 (sl.mono e1) _ fun x B2 H2 e2 w2 h2 => by
    have ex : x = .ref l := h2
    subst ex
    obtain ⟨a, rfl, ha⟩ := src_at h1
    obtain ⟨ws, hu, h⟩ := own_df w2 hl
    exact ⟨l, _, rfl, DGet.t hu (w2.1 _ _ (e2 _ _ ha)), _, rfl, by rw [df_some h]; exact q B2 H2 (e1.trans e2) w2⟩
theorem et_dnotinF {s : Src} (hy : EvW K ty ρ μ (.d s.d) μ1) (hd : EvW K td ρ μ1 (.r l) μ2) (hl : μ2 l = some (.dF f n)) : EvT K (tB (tDNotIn ty td)) ρ μ (!(f s.key).isSome) μ2 := fun F B H σ w sl Q q =>
  hy F B H σ w sl _ fun y B1 H1 e1 w1 h1 => hd F B1 H1 σ w1 (sl.mono e1) _ fun x B2 H2 e2 w2 h2 => by
    have ex : x = .ref l := h2
    subst ex
    obtain ⟨a, rfl, ha⟩ := src_at h1
    obtain ⟨ws, hu, h⟩ := own_df w2 hl
    exact ⟨l, _, rfl, DGet.t hu (w2.1 _ _ (e2 _ _ ha)), _, rfl, by rw [df_some h]; exact q B2 H2 (e1.trans e2) w2⟩
theorem ew_dgetF {s : Src} (hd : EvW K td ρ μ (.r l) μ1) (hy : EvW K ty ρ μ1 (.d s.d) μ2) (hl : μ2 l = some (.dF f n)) (hr : f s.key = some d) : EvW K (tDGet td ty) ρ μ (.d d) μ2 := fun F B H σ w sl Q q =>
  hd F B H σ w sl _ fun x B1 H1 e1 w1 h1 => hy F B1 H1 σ w1 (sl.mono e1) _ fun y B2 H2 e2 w2 h2 => by
    have ex : x = .ref l := h1
    subst ex
    obtain ⟨a, rfl, ha⟩ := src_at h2
    obtain ⟨ws, hu, h⟩ := own_df w2 hl
    obtain ⟨v, h3, h4⟩ := h.2.1 _ _ hr
    have gg := DGet.t (k := s.key) hu (w2.1 _ _ ha)
    rw [h3] at gg
    exact ⟨l, v, rfl, gg, q _ B2 H2 (e1.trans e2) w2 h4⟩
theorem s_dputF {s : Src} (hv : EvW K tv ρ μ (.d d) μ1) (hd : EvW K td ρ μ1 (.r l) μ2) (hy : EvW K ty ρ μ2 (.d s.d) μ3) (hl : μ3 l = some (.dF f n)) (hz : n < 100000) (p : P.nx ρ (updM μ3 l (.dF (putD f s.key d) (n + 1)))) : StW K (sDPut td ty tv) ρ μ P := fun F D B H σ w sl re =>
  hv F B H σ w sl _ fun v B1 H1 e1 w1 h1 => hd F B1 H1 σ w1 (sl.mono e1) _ fun x B2 H2 e2 w2 h2 => hy F B2 H2 σ w2 (sl.mono (e1.trans e2)) _ fun y B3 H3 e3 w3 h3 => by
    have ex : x = .ref l := h2
    subst ex
    obtain ⟨a, rfl, ha⟩ := src_at h3
    obtain ⟨ws, hu, h⟩ := own_df w3 hl
    exact ⟨l, _, rfl, DPut.t hu (w3.1 _ _ ha) (Nat.lt_of_le_of_lt h.1 (Nat.lt_of_lt_of_le hz (by decide : 100000 ≤ sizeLine))), re.nx _ _ B3 _ σ p ((e1.trans e2).trans e3) (w3.set (ao := .dF (putD f s.key d) (n + 1)) hl ⟨_, rfl, h.put (dp_mono (e2.trans e3) h1)⟩) (sl.mono ((e1.trans e2).trans e3))⟩
/-! dicts of texts -/
theorem own_dg {F B H : Hp} {f : Key → Option PyData} (w : Wd K F B μ H) (hl : μ l = some (.dG f n)) : ∃ ws, H l = some (.dK ws) ∧ DfH K B f n ws := by
  obtain ⟨_, _, u, hu, ws, rfl, h⟩ := w.2.1 l _ hl
  exact ⟨ws, hu, h⟩
theorem s_dnewG {i : Nat} (p : ∀ l, μ l = none → P.nx (ρ.set i (some (.r l))) (updM μ l (.dG (fun _ => none) 0))) : StW K (tAsg tDNewK (gName i)) ρ μ P := fun F D B H σ w sl r => fun l hp =>
  r.nx _ _ B _ _ (p l (own_free w hp)) (Same.refl _) (w.newM (ao := .dG (fun _ => none) 0) hp ⟨[], rfl, Nat.le_refl _, nofun, fun _ _ => rfl, nofun⟩) (Sl.set (R := .r l) (v := .ref l) (show V.ref l = V.ref l from rfl) i sl)
theorem et_dinG {z : Str} {f : Key → Option PyData} (hy : EvW K ty ρ μ (.s z) μ1) (hd : EvW K td ρ μ1 (.r l) μ2) (hl : μ2 l = some (.dG f n)) : EvT K (tB (tDIn ty td)) ρ μ (f (.inr z)).isSome μ2 := fun F B H σ w sl Q q =>
  hy F B H σ w sl _ fun y B1 H1 e1 w1 h1 => hd F B1 H1 σ w1 (sl.mono e1) _ fun x B2 H2 e2 w2 h2 => by
    have ex : x = .ref l := h2
    have ey := h_s h1
    subst ex ey
    obtain ⟨ws, hu, h⟩ := own_dg w2 hl
    exact ⟨l, _, rfl, DGet.k (k := .inr z) hu, _, rfl, by rw [df_some h]; exact q B2 H2 (e1.trans e2) w2⟩
theorem et_dnotinG {z : Str} {f : Key → Option PyData} (hy : EvW K ty ρ μ (.s z) μ1) (hd : EvW K td ρ μ1 (.r l) μ2) (hl : μ2 l = some (.dG f n)) : EvT K (tB (tDNotIn ty td)) ρ μ (!(f (.inr z)).isSome) μ2 := fun F B H σ w sl Q q =>
  hy F B H σ w sl _ fun y B1 H1 e1 w1 h1 => hd F B1 H1 σ w1 (sl.mono e1) _ fun x B2 H2 e2 w2 h2 => by
    have ex : x = .ref l := h2
    have ey := h_s h1
    subst ex ey
    obtain ⟨ws, hu, h⟩ := own_dg w2 hl
    exact ⟨l, _, rfl, DGet.k (k := .inr z) hu, _, rfl, by rw [df_some h]; exact q B2 H2 (e1.trans e2) w2⟩
theorem ew_dgetG {z : Str} {f : Key → Option PyData} (hd : EvW K td ρ μ (.r l) μ1) (hy : EvW K ty ρ μ1 (.s z) μ2) (hl : μ2 l = some (.dG f n)) (hr : f (.inr z) = some d) : EvW K (tDGet td ty) ρ μ (.d d) μ2 := fun F B H σ w sl Q q =>
  hd F B H σ w sl _ fun x B1 H1 e1 w1 h1 => hy F B1 H1 σ w1 (sl.mono e1) _ fun y B2 H2 e2 w2 h2 => by
    have ex : x = .ref l := h1
    have ey := h_s h2
    subst ex ey
    obtain ⟨ws, hu, h⟩ := own_dg w2 hl
    obtain ⟨v, h3, h4⟩ := h.2.1 _ _ hr
    have gg := DGet.k (k := .inr z) hu
    rw [h3] at gg
    exact ⟨l, v, rfl, gg, q _ B2 H2 (e1.trans e2) w2 h4⟩
theorem s_dputG {z : Str} {f : Key → Option PyData} (hv : EvW K tv ρ μ (.d d) μ1) (hd : EvW K td ρ μ1 (.r l) μ2) (hy : EvW K ty ρ μ2 (.s z) μ3) (hl : μ3 l = some (.dG f n)) (hz : n < 100000) (p : P.nx ρ (updM μ3 l (.dG (putD f (.inr z) d) (n + 1)))) : StW K (sDPut td ty tv) ρ μ P := fun F D B H σ w sl re =>
  hv F B H σ w sl _ fun v B1 H1 e1 w1 h1 => hd F B1 H1 σ w1 (sl.mono e1) _ fun x B2 H2 e2 w2 h2 => hy F B2 H2 σ w2 (sl.mono (e1.trans e2)) _ fun y B3 H3 e3 w3 h3 => by
    have ex : x = .ref l := h2
    have ey := h_s h3
    subst ex ey
    obtain ⟨ws, hu, h⟩ := own_dg w3 hl
    exact ⟨l, _, rfl, DPut.k (k := .inr z) hu (Nat.lt_of_le_of_lt h.1 (Nat.lt_of_lt_of_le hz (by decide : 100000 ≤ sizeLine))), re.nx _ _ B3 _ σ p ((e1.trans e2).trans e3) (w3.set (ao := .dG (putD f (.inr z) d) (n + 1)) hl ⟨_, rfl, h.put (dp_mono (e2.trans e3) h1)⟩) (sl.mono ((e1.trans e2).trans e3))⟩
/-- pairs of a number from k on and an item -/
def numbered (k : Int) (ds : List PyData) : List PyData := (List.range ds.length).map fun (i : Nat) => .tuple [.int (k + (i : Int)), ds.getD i .none]
theorem numbered_len (k : Int) (ds : List PyData) : (numbered k ds).length = ds.length := by unfold numbered; simp
theorem numbered_get {k : Int} {i : Nat} (h : i < ds.length) : (numbered k ds)[i]? = some (.tuple [.int (k + (i : Int)), ds[i]]) := by
  unfold numbered
  rw [List.getElem?_map, List.getElem?_range h]
  simp [h]
theorem numbered_of {k : Int} {i : Nat} {a : AV} (h : ((numbered k ds).map AV.d)[i]? = some a) : ∃ (hi : i < ds.length), a = .d (.tuple [.int (k + (i : Int)), ds[i]]) := by
  have hi : i < ds.length := by
    have := (List.getElem?_eq_some_iff.mp h).1
    rw [List.length_map, numbered_len] at this
    exact this
  rw [List.getElem?_map, numbered_get hi] at h
  exact ⟨hi, (Option.some.inj h).symm⟩
theorem pair_new {F B H : Hp} {T : Addr} {i : Int} {v : V} (w : Wd K F B μ H) (hT : H T = none) (hv : Dt K B v d) : Wd K F (upd B T (.tup [.int i, v])) μ (upd H T (.tup [.int i, v])) ∧ Same B (upd B T (.tup [.int i, v])) ∧ (AV.d (.tuple [.int i, d])).h K (.ref T) (upd B T (.tup [.int i, v])) := by
  obtain ⟨w3, e3, e4⟩ := w.new (o := .tup [.int i, v]) hT
  exact ⟨w3, e3, .tup (SqT.of e4) (fun _ => e4) (.cons (.int i) (.cons (dp_mono e3 hv) .nil))⟩
theorem dta_get {B : Hp} : ∀ {vs : List V} {ds : List PyData} {i : Nat} {d : PyData}, DtAll K B vs ds → ds[i]? = some d → ∃ v, vs[i]? = some v ∧ Dt K B v d
  | _, _, 0, _, .cons h _, e => ⟨_, rfl, by cases e; exact h⟩
  | _, _, i + 1, _, .cons _ h, e => dta_get (i := i) h e
  | _, _, i, _, .nil, e => by simp at e
theorem dta_len {B : Hp} {vs : List V} {ds : List PyData} (h : DtAll K B vs ds) : vs.length = ds.length := by
  have := (AllH.of h).length
  rw [List.length_map] at this
  exact this.symm
/-- enumerate(l), l data -/
theorem it_enum (h : EvW K tl ρ μ (.d (.list ds)) μ1) : ItW K (iEnum K (tCons tl tNil)) ρ μ ((numbered 0 ds).map .d) μ1 := fun F B H σ w sl Rk q =>
  h F B H σ w sl _ fun v B2 H2 e w2 hv => by
    cases (show Dt K B2 v (.list ds) from hv) with
    | @lst a vs _ h1 h2 =>
      have hl := dta_len h2
      refine ⟨a, vs, rfl, w2.1.seq h1, q _ B2 H2 e w2 ⟨fun B3 H3 i e3 e4 hi => ?_, fun B3 H3 e3 e4 => ⟨vs, (e3.trans e4).seq h1, ?_⟩, fun F B3 H3 μ i b x H' e3 w3 hb y => ?_⟩⟩
      · rw [List.length_map, numbered_len] at hi
        exact ⟨vs, vs[i], (e3.trans e4).seq h1, List.getElem?_eq_getElem (by omega)⟩
      · rw [List.length_map, numbered_len]; omega
      · obtain ⟨hi, rfl⟩ := numbered_of hb
        obtain ⟨T, u, rfl, hT, rfl, y⟩ := y
        obtain ⟨u2, g1, g2⟩ := dta_get h2 (List.getElem?_eq_getElem hi)
        have := y vs ((e3.trans w3.1).seq h1)
        rw [g1] at this
        cases this
        have e0 : (0 : Int) + (i : Int) = (i : Int) := Int.zero_add _
        rw [e0]
        obtain ⟨w4, e4, r4⟩ := pair_new (i := (i : Int)) w3 hT (dp_mono e3 g2)
        exact ⟨_, e4, w4, r4⟩
/-- enumerate(reversed(l), k), l data -/
theorem it_enr {k : Int} (h : EvW K tl ρ μ (.d (.list ds)) μ1) : ItW K (iEnr K tl k) ρ μ ((numbered k ds.reverse).map .d) μ1 := fun F B H σ w sl Rk q =>
  h F B H σ w sl _ fun v B2 H2 e w2 hv => by
    cases (show Dt K B2 v (.list ds) from hv) with
    | @lst a vs _ h1 h2 =>
      have hl := dta_len h2
      refine ⟨a, vs, rfl, w2.1.seq h1, q _ B2 H2 e w2 ⟨fun B3 H3 i e3 e4 hi => ?_, fun B3 H3 e3 e4 => ⟨?_, vs, (e3.trans e4).seq h1, rfl⟩, fun F B3 H3 μ i b x H' e3 w3 hb y => ?_⟩⟩
      · rw [List.length_map, numbered_len, List.length_reverse] at hi
        exact ⟨by omega, vs, (e3.trans e4).seq h1, rfl⟩
      · rw [List.length_map, numbered_len, List.length_reverse]; omega
      · obtain ⟨hi, rfl⟩ := numbered_of hb
        obtain ⟨T, u, rfl, hT, rfl, y⟩ := y
        have hi' : i < ds.length := by rw [List.length_reverse] at hi; exact hi
        obtain ⟨u2, g1, g2⟩ := dta_get (i := ds.length - 1 - i) h2 (List.getElem?_eq_getElem (by omega))
        have := y vs ((e3.trans w3.1).seq h1)
        rw [hl, g1] at this
        cases this
        rw [List.getElem_reverse]
        obtain ⟨w4, e4, r4⟩ := pair_new (i := k + (i : Int)) w3 hT (dp_mono e3 g2)
        exact ⟨_, e4, w4, r4⟩
end
end Lw

set_option Elab.async false
set_option linter.all false
set_option maxRecDepth 100000
set_option maxHeartbeats 2000000
/-! ways back, into rings -/
namespace K15
open PySem PySem.Spec PyProof.Rows L2 Lw
theorem key_inj {s u : Src} (h : s.key = u.key) : s = u := by
  have ne : ¬ (sIn = sLit) := by decide +kernel
  cases s with
  | inp k =>
    cases u with
    | inp j => injection h with _ h2; injection h2 with h3 _; injection h3 with h4; rw [h4]
    | lit j => injection h with h1 _; injection h1 with h2; exact absurd h2 ne
  | lit k =>
    cases u with
    | inp j => injection h with h1 _; injection h1 with h2; exact absurd h2.symm ne
    | lit j => injection h with _ h2; injection h2 with h3 _; injection h3 with h4; rw [h4]
theorem putD_same {f : List Key → Option PyData} {s : Src} {d : PyData} : putD f s.key d s.key = some d := if_pos rfl
theorem putD_ne {f : List Key → Option PyData} {s u : Src} {d : PyData} (h : u ≠ s) : putD f s.key d u.key = f u.key := if_neg fun e => h (key_inj e)
/-- the way back from a source: behind tl times or more, a source of the ring -/
def wayD (tl p : Int) (ring : List Src) : PyData := .tuple [.int tl, .list (srcsD ring), .int p]
def WayOk (c : Int × List Src) (s : Src) (tl p : Int) (ring : List Src) : Prop :=
  0 < ring.length ∧ ring.length ≤ 2000 ∧ 0 ≤ tl ∧ ∀ N : Nat, tl ≤ N → ring[((p + (N : Int)) % (ring.length : Int)).toNat]? = some (backs c N s)
theorem ring_back {c : Int × List Src} {r : List Src} (h : ∀ (i : Nat) (x : Src), r[i]? = some x → r[(i + 1) % r.length]? = some (back c x)) : ∀ (N p : Nat) (x : Src), r[p]? = some x → r[(p + N) % r.length]? = some (backs c N x)
  | 0, p, x, hp => by
    have : p < r.length := (List.getElem?_eq_some_iff.mp hp).1
    rw [Nat.add_zero, Nat.mod_eq_of_lt this]
    exact hp
  | N + 1, p, x, hp => by
    have := ring_back h N ((p + 1) % r.length) (back c x) (h p x hp)
    rw [Nat.mod_add_mod] at this
    have e : p + 1 + N = p + (N + 1) := by omega
    rw [e] at this
    exact this
theorem ring_way {c : Int × List Src} {r : List Src} (hz : r.length ≤ 2000) (h : ∀ (i : Nat) (x : Src), r[i]? = some x → r[(i + 1) % r.length]? = some (back c x)) {p : Nat} {x : Src} (hp : r[p]? = some x) : WayOk c x 0 p r := by
  have hlt : p < r.length := (List.getElem?_eq_some_iff.mp hp).1
  refine ⟨by omega, hz, Int.le_refl _, fun N _ => ?_⟩
  have e : (((p : Int) + (N : Int)) % (r.length : Int)).toNat = (p + N) % r.length := by
    have : ((p : Int) + (N : Int)) % (r.length : Int) = (((p + N) % r.length : Nat) : Int) := by push_cast; rfl
    rw [this]
    exact Int.toNat_natCast _
  rw [e]
  exact ring_back h N p x hp
/-- some steps ahead of it -/
theorem way_ahead {c : Int × List Src} {s u : Src} {tl p : Int} {ring : List Src} (h : WayOk c s tl p ring) {j : Nat} (hb : backs c j u = s) : WayOk c u (tl + j) (p - j) ring := by
  obtain ⟨h1, h2, h3, h4⟩ := h
  refine ⟨h1, h2, by omega, fun N hN => ?_⟩
  obtain ⟨M, hM⟩ : ∃ M : Nat, N = j + M := ⟨N - j, by omega⟩
  subst hM
  have := h4 M (by push_cast at hN; omega)
  have e : p - (j : Int) + ((j + M : Nat) : Int) = p + (M : Int) := by push_cast; omega
  rw [e, backs_add, hb]
  exact this
theorem nodup_map {α β : Type} {f : α → β} : ∀ {l : List α}, (∀ x ∈ l, ∀ y ∈ l, f x = f y → x = y) → l.Nodup → (l.map f).Nodup
  | [], _, _ => List.nodup_nil
  | x :: l, h, n => by
    rw [List.nodup_cons] at n
    rw [List.map_cons, List.nodup_cons]
    refine ⟨fun m => ?_, nodup_map (fun a ha b hb => h a (List.mem_cons_of_mem _ ha) b (List.mem_cons_of_mem _ hb)) n.2⟩
    obtain ⟨y, hy, e⟩ := List.mem_map.mp m
    have := h y (List.mem_cons_of_mem _ hy) x List.mem_cons_self e
    rw [this] at hy
    exact n.1 hy
theorem nodup_at {α : Type} : ∀ {l : List α} {a b : Nat} {x : α}, l.Nodup → l[a]? = some x → l[b]? = some x → a = b
  | [], a, _, x, _, h, _ => by simp at h
  | y :: l, 0, 0, _, _, _, _ => rfl
  | y :: l, 0, b + 1, x, n, h, k => by
    rw [List.nodup_cons] at n
    have e : y = x := Option.some.inj h
    have k' : l[b]? = some x := k
    exact absurd (List.mem_of_getElem? k') (e ▸ n.1)
  | y :: l, a + 1, 0, x, n, h, k => by
    rw [List.nodup_cons] at n
    have e : y = x := Option.some.inj k
    have h' : l[a]? = some x := h
    exact absurd (List.mem_of_getElem? h') (e ▸ n.1)
  | y :: l, a + 1, b + 1, x, n, h, k => congrArg (· + 1) (nodup_at (l := l) (List.nodup_cons.mp n).2 h k)
theorem nodup_rev {α : Type} : ∀ {l : List α}, l.Nodup → l.reverse.Nodup
  | [], _ => List.nodup_nil
  | x :: l, n => by
    rw [List.nodup_cons] at n
    rw [List.reverse_cons]
    refine List.nodup_append.mpr ⟨nodup_rev n.2, by simp, fun a ha b hb e => n.1 ?_⟩
    have : b = x := by simpa using hb
    rw [← this, ← e]
    exact List.mem_reverse.mp ha
/-- what the dict of ways holds: all its ways lead right, of m inputs -/
structure WInv (c : Int × List Src) (t : Int) (f : List Key → Option PyData) (ks : List Int) : Prop where
  nd : ks.Nodup
  rg : ∀ k ∈ ks, 0 ≤ k ∧ k < t
  dom : ∀ k : Int, (f (Src.inp k).key).isSome = true → k ∈ ks
  mem : ∀ k ∈ ks, (f (Src.inp k).key).isSome = true
  ok : ∀ (s : Src) (d : PyData), f s.key = some d → ∃ (tl p : Int) (ring : List Src), d = wayD tl p ring ∧ WayOk c s tl p ring ∧ tl ≤ ks.length
/-- a line of sources, back from x0, up to cur -/
structure LInv (c : Int × List Src) (t : Int) (f g : List Key → Option PyData) (x0 : Src) (ln : List Src) (cur : Src) : Prop where
  nd : ln.Nodup
  new : ∀ s ∈ ln, f s.key = none
  path : ∀ i : Nat, i ≤ ln.length → (ln ++ [cur])[i]? = some (backs c i x0)
  pl : ∀ (i : Nat) (s : Src), ln[i]? = some s → g s.key = some (.int (i : Int))
  no : ∀ s : Src, s ∉ ln → g s.key = none
  ins : ∀ s ∈ ln, (∃ k : Int, s = .inp k ∧ 0 ≤ k ∧ k < t) ∨ s = cur
  cu : ∀ k : Int, cur = .inp k → 0 ≤ k ∧ k < t
theorem LInv.nil {c : Int × List Src} {t : Int} {f : List Key → Option PyData} {x0 : Src} (h : ∀ k : Int, x0 = .inp k → 0 ≤ k ∧ k < t) : LInv c t f (fun _ => none) x0 [] x0 where
  nd := List.nodup_nil
  new := nofun
  path := fun i hi => by
    have : i = 0 := by simpa using hi
    subst this
    rfl
  pl := nofun
  no := fun _ _ => rfl
  ins := nofun
  cu := h
theorem LInv.cur_eq {c : Int × List Src} {t : Int} {f g : List Key → Option PyData} {x0 cur : Src} {ln : List Src} (h : LInv c t f g x0 ln cur) : cur = backs c ln.length x0 := by
  have := h.path ln.length (Nat.le_refl _)
  rw [List.getElem?_append_right (Nat.le_refl _), Nat.sub_self] at this
  exact Option.some.inj this
theorem LInv.at {c : Int × List Src} {t : Int} {f g : List Key → Option PyData} {x0 cur : Src} {ln : List Src} (h : LInv c t f g x0 ln cur) {i : Nat} {s : Src} (hi : ln[i]? = some s) : s = backs c i x0 := by
  have hlt := (List.getElem?_eq_some_iff.mp hi).1
  have := h.path i (Nat.le_of_lt hlt)
  rw [List.getElem?_append_left hlt, hi] at this
  exact Option.some.inj this
theorem LInv.len {c : Int × List Src} {t : Nat} {f g : List Key → Option PyData} {x0 cur : Src} {ln : List Src} (h : LInv c t f g x0 ln cur) (hc : cur ∉ ln) : ln.length ≤ t := by
  have hi : ∀ s ∈ ln, ∃ k : Int, s = .inp k ∧ 0 ≤ k ∧ k < (t : Int) := fun s hs => (h.ins s hs).resolve_right fun e => hc (e ▸ hs)
  have hn : (ln.map fun s => match s with | .inp k => k | .lit _ => (-1 : Int)).Nodup := by
    refine nodup_map (fun x hx y hy e => ?_) h.nd
    obtain ⟨k, rfl, _⟩ := hi x hx
    obtain ⟨j, rfl, _⟩ := hi y hy
    exact congrArg Src.inp e
  have := nodup_le t _ hn (fun x hx => by
    obtain ⟨s, hs, rfl⟩ := List.mem_map.mp hx
    obtain ⟨k, rfl, h1, h2⟩ := hi s hs
    exact ⟨h1, h2⟩)
  rw [List.length_map] at this
  exact this
theorem LInv.step {c : Int × List Src} {t : Int} {f g : List Key → Option PyData} {x0 cur : Src} {ln : List Src} (h : LInv c t f g x0 ln cur) (h1 : f cur.key = none) (h2 : cur ∉ ln) (hb : ∀ k : Int, back c cur = .inp k → 0 ≤ k ∧ k < t) (hl : ∀ k, cur = .lit k → back c cur = cur) :
    LInv c t f (putD g cur.key (.int (ln.length : Int))) x0 (ln ++ [cur]) (back c cur) where
  nd := by
    refine List.nodup_append.mpr ⟨h.nd, by simp, fun a ha b hb e => h2 ?_⟩
    have : b = cur := by simpa using hb
    rw [← this, ← e]
    exact ha
  new := fun s hs => by
    rcases List.mem_append.mp hs with q | q
    · exact h.new s q
    · have : s = cur := by simpa using q
      rw [this]; exact h1
  path := fun i hi => by
    rw [List.length_append] at hi
    by_cases q : i ≤ ln.length
    · have := h.path i q
      rw [List.getElem?_append_left (by rw [List.length_append]; simp; omega)]
      exact this
    · have e : i = ln.length + 1 := by simp at hi; omega
      subst e
      rw [List.getElem?_append_right (by rw [List.length_append]; simp)]
      have e2 : backs c (ln.length + 1) x0 = back c cur := by rw [backs_add, ← h.cur_eq]; rfl
      rw [e2, List.length_append]
      simp
  pl := fun i s hi => by
    by_cases q : i < ln.length
    · rw [List.getElem?_append_left q] at hi
      have hne : s ≠ cur := fun e => h2 (by rw [← e]; exact List.mem_of_getElem? hi)
      rw [putD_ne hne]
      exact h.pl i s hi
    · have hlt := (List.getElem?_eq_some_iff.mp hi).1
      rw [List.length_append] at hlt
      have e : i = ln.length := by simp at hlt; omega
      subst e
      rw [List.getElem?_append_right (Nat.le_refl _), Nat.sub_self] at hi
      have : s = cur := (Option.some.inj hi).symm
      subst this
      exact putD_same
  no := fun s hs => by
    rw [List.mem_append, not_or] at hs
    have hne : s ≠ cur := fun e => hs.2 (by simp [e])
    rw [putD_ne hne]
    exact h.no s hs.1
  ins := fun s hs => by
    rcases List.mem_append.mp hs with q | q
    · exact .inl ((h.ins s q).resolve_right fun e => h2 (e ▸ q))
    · have e : s = cur := by simpa using q
      subst e
      cases hc : s with
      | lit k => exact .inr (by rw [← hc, hl k hc])
      | inp k => exact .inl ⟨k, rfl, h.cu k hc⟩
  cu := hb
theorem WInv.nil {c : Int × List Src} {t : Int} : WInv c t (fun _ => none) [] where
  nd := List.nodup_nil
  rg := nofun
  dom := fun k h => nomatch h
  mem := nofun
  ok := nofun
/-- one way more -/
theorem WInv.add {c : Int × List Src} {t : Int} {f : List Key → Option PyData} {ks : List Int} (h : WInv c t f ks) {s : Src} {tl p : Int} {ring : List Src} (hn : f s.key = none) (hs : ∀ k, s = .inp k → 0 ≤ k ∧ k < t) (hw : WayOk c s tl p ring) (ht : tl ≤ 0 ∨ ∃ k, s = .inp k ∧ tl ≤ ks.length + 1) :
    ∃ ks', WInv c t (putD f s.key (wayD tl p ring)) ks' ∧ ks.length ≤ ks'.length ∧ (∀ k, s = .inp k → ks'.length = ks.length + 1) := by
  cases s with
  | lit k =>
    have hlt : tl ≤ ks.length := by
      rcases ht with q | ⟨k, e, _⟩
      · omega
      · cases e
    have hne : ∀ j : Int, Src.inp j ≠ Src.lit k := fun j => nofun
    refine ⟨ks, ⟨h.nd, h.rg, fun j q => ?_, fun j q => ?_, fun u d q => ?_⟩, Nat.le_refl _, nofun⟩
    · rw [putD_ne (hne j)] at q; exact h.dom j q
    · rw [putD_ne (hne j)]; exact h.mem j q
    · by_cases e : u = .lit k
      · subst e
        rw [putD_same] at q
        exact ⟨tl, p, ring, (Option.some.inj q).symm, hw, hlt⟩
      · rw [putD_ne e] at q; exact h.ok u d q
  | inp k =>
    have hk : k ∉ ks := fun m => by
      have := h.mem k m
      rw [hn] at this
      cases this
    have hlt : tl ≤ (k :: ks).length := by
      rcases ht with q | ⟨_, _, q⟩
      · rw [List.length_cons]; omega
      · rw [List.length_cons]; push_cast; omega
    refine ⟨k :: ks, ⟨List.nodup_cons.mpr ⟨hk, h.nd⟩, fun j q => ?_, fun j q => ?_, fun j q => ?_, fun u d q => ?_⟩, by simp, fun _ _ => rfl⟩
    · rcases List.mem_cons.mp q with e | q
      · rw [e]; exact hs k rfl
      · exact h.rg j q
    · by_cases e : j = k
      · rw [e]; exact List.mem_cons_self
      · rw [putD_ne (fun q => e (Src.inp.inj q))] at q
        exact List.mem_cons_of_mem _ (h.dom j q)
    · by_cases e : j = k
      · rw [e, putD_same]; rfl
      · rw [putD_ne (fun q => e (Src.inp.inj q))]
        rcases List.mem_cons.mp q with e2 | q
        · exact absurd e2 e
        · exact h.mem j q
    · by_cases e : u = .inp k
      · subst e
        rw [putD_same] at q
        exact ⟨tl, p, ring, (Option.some.inj q).symm, hw, hlt⟩
      · rw [putD_ne e] at q
        obtain ⟨a, b, r, e1, e2, e3⟩ := h.ok u d q
        exact ⟨a, b, r, e1, e2, by rw [List.length_cons]; push_cast; omega⟩
theorem WInv.len {c : Int × List Src} {t : Nat} {f : List Key → Option PyData} {ks : List Int} (h : WInv c t f ks) : ks.length ≤ t := nodup_le t ks h.nd h.rg
/-- the ring that a line has run into -/
theorem LInv.ring {c : Int × List Src} {t : Int} {f g : List Key → Option PyData} {x0 cur : Src} {ln : List Src} (h : LInv c t f g x0 ln cur) {st : Nat} (hst : ln[st]? = some cur) (i : Nat) (x : Src) (hi : (ln.drop st)[i]? = some x) : (ln.drop st)[(i + 1) % (ln.drop st).length]? = some (back c x) := by
  have hlt := (List.getElem?_eq_some_iff.mp hi).1
  have hst' := (List.getElem?_eq_some_iff.mp hst).1
  rw [List.length_drop] at hlt
  rw [List.getElem?_drop] at hi
  have e1 := h.at hi
  have e2 : back c x = backs c (st + i + 1) x0 := by rw [e1, backs_add (st + i) 1]; rfl
  rw [List.length_drop, e2]
  by_cases q : i + 1 < ln.length - st
  · rw [Nat.mod_eq_of_lt q, List.getElem?_drop]
    have := h.path (st + (i + 1)) (by omega)
    rw [List.getElem?_append_left (by omega)] at this
    exact this
  · have e3 : i + 1 = ln.length - st := by omega
    rw [e3, Nat.mod_self, List.getElem?_drop, Nat.add_zero, hst, h.cur_eq]
    congr 2
    omega
end K15

set_option Elab.async false
set_option linter.all false
set_option maxRecDepth 100000
set_option maxHeartbeats 2000000
/-! texts: their methods, slices, int of a text -/
namespace Lw
open PySem PySem.Spec PyProof.Rows L2
section
variable {K : Fr} {ρ : AS} {μ μ1 μ2 μ3 : AM} {ta tb td te tl to : TE} {R : AV} {a b z : Str}
theorem ew_sm0 {g : Str → Bool} (h : EvW K to ρ μ (.s a) μ1) : EvW K (tBM0 K "str" (fun x xs H Q => ∃ a, x = .str a ∧ xs = [] ∧ True ∧ Q (.bl (g a)) H) to) ρ μ (.b (g a)) μ1 := fun F B H σ w sl Q q =>
  h F B H σ w sl _ fun v B1 H1 e1 w1 h1 => by
    have ev := h_s h1
    subst ev
    exact ⟨rfl, a, rfl, rfl, trivial, q _ B1 H1 e1 w1 (.bl _)⟩
theorem ew_sm1 {g : Str → Str → Bool} (h : EvW K to ρ μ (.s a) μ1) (h2 : EvW K te ρ μ1 (.s b) μ2) : EvW K (tBM K "str" (fun x xs H Q => ∃ a b, x = .str a ∧ xs = [.str b] ∧ Q (.bl (g a b)) H) to (tCons te tNil)) ρ μ (.b (g a b)) μ2 := fun F B H σ w sl Q q =>
  h F B H σ w sl _ fun v B1 H1 e1 w1 h1 => by
    have ev := h_s h1
    subst ev
    refine ⟨rfl, h2 F B1 H1 σ w1 (sl.mono e1) _ fun v2 B2 H2 e2 w2 h3 => ?_⟩
    have ev := h_s h3
    subst ev
    exact ⟨a, b, rfl, rfl, q _ B2 H2 (e1.trans e2) w2 (.bl _)⟩
theorem ew_slS {tlo thi : TO} {lo hi : Option Int} (h : EvW K te ρ μ (.s z) μ1) (h1 : EvO K tlo ρ μ1 lo μ2) (h2 : EvO K thi ρ μ2 hi μ3) (hz : z.length ≤ 100000) : EvW K (tSl rSlS te tlo thi) ρ μ (.s (cutS z lo hi)) μ3 := fun F B H σ w s Q q =>
  h F B H σ w s _ fun v B1 H1 e1 w1 hv => h1 F B1 H1 σ w1 (s.mono e1) _ fun B2 H2 e2 w2 => h2 F B2 H2 σ w2 (s.mono (e1.trans e2)) _ fun B3 H3 e3 w3 => by
    have ev := h_s hv
    subst ev
    exact ⟨z, rfl, Nat.le_trans hz (by decide), q _ B3 H3 ((e1.trans e2).trans e3) w3 (.str _)⟩
theorem n_lenS (hz : a.length ≤ 100000) : OpN K (fun xs H Q => ∃ z, xs = [.str z] ∧ z.length ≤ sizeLine ∧ Q (.int z.length) H) [.s a] μ (.i (a.length : Int)) μ := fun F B H xs w hx Q q => by
  match xs, hx with
  | [v], hx =>
    have ev := h_s hx.1
    subst ev
    exact ⟨a, rfl, Nat.le_trans hz (by decide), q _ B H (Same.refl _) w (.int _)⟩
theorem n_intS {n : Int} (hn : intText? a = some n) (hl : a.length ≤ 640) : OpN K (fun xs H Q => ∃ a n, xs = [.str a] ∧ PySem.intText? a = some n ∧ a.length ≤ 640 ∧ Q (.int n) H) [.s a] μ (.i n) μ := fun F B H xs w hx Q q => by
  match xs, hx with
  | [v], hx =>
    have ev := h_s hx.1
    subst ev
    exact ⟨a, n, rfl, hn, hl, q _ B H (Same.refl _) w (.int _)⟩
end
end Lw
namespace K15
open PySem PySem.Spec PyProof.Rows L2 Lw
/-! ### numbers in words -/
def optD : Option Int → PyData
  | none => .none
  | some n => .int n
def numOk (z : Str) : Bool := Txt.isascii z && (Txt.isdigit z && (decide (z.length ≤ 31) && !(Txt.startswith z "0" && !decide (z = "0"))))
def rdNum (z : Str) : Option Int := if numOk z = true then (match intText? z with | some n => if n ≤ 10 ^ 30 then some n else none | none => none) else none
theorem digit_128 : ∀ c, c < 128 → Unicode.isDigit c = (decide (48 ≤ c) && decide (c ≤ 57)) := by decide +kernel
theorem digits_text {z : Str} (h1 : Txt.isascii z = true) (h2 : Txt.isdigit z = true) (h3 : z.length ≤ 31) : ∃ n : Nat, intText? z = some (n : Int) := by
  have e1 : ∀ c ∈ z.cps.toList, c < 128 := fun c hc => by
    unfold Txt.isascii at h1
    rw [Array.all_eq_true'] at h1
    exact of_decide_eq_true (h1 c (Array.mem_toList_iff.mp hc))
  unfold Txt.isdigit at h2
  rw [Bool.and_eq_true] at h2
  have hne : z.cps.toList ≠ [] := fun e => by
    have : z.length = 0 := by
      show z.cps.size = 0
      rw [← Array.length_toList, e]; rfl
    have := of_decide_eq_true h2.1
    omega
  refine ⟨_, intText_digits ?_ hne (by omega)⟩
  intro c hc
  have h3 := h2.2
  rw [← Array.all_toList, List.all_eq_true] at h3
  have h4 := h3 c hc
  rw [digit_128 c (e1 c hc), Bool.and_eq_true, decide_eq_true_eq, decide_eq_true_eq] at h4
  exact h4
def rdConst (z : Str) : Option Int := if Txt.startswith z "-" = true then (match rdNum (cutS z (some 1) none) with | none => none | some n => if n = 0 then none else some (-n)) else rdNum z
def tripD (r g : Int) (s : PyData) : PyData := .tuple [.int r, .int g, s]
def rdInstr (z : Str) : PyData :=
  if z = "d" then tripD 1 (-1) .none
  else if Txt.startswith z "p" = true then (match rdNum (cutS z (some 1) none) with | none => .none | some n => if 98 < n then .none else tripD (n + 1) 1 .none)
  else if Txt.startswith z "r" = true then (match rdNum (cutS z (some 1) none) with | none => .none | some n => if 1 ≤ n ∧ n ≤ 99 then tripD (n + 1) 0 .none else .none)
  else match rdConst z with | none => .none | some n => tripD 0 1 (Src.lit n).d
def rdTimes (z : Str) : Option Int := if Txt.startswith z ")" = true then (match rdNum (cutS z (some 1) none) with | none => none | some n => if n < 2 then none else some n) else none
theorem rdNum_range {z : Str} {n : Int} (h : rdNum z = some n) : 0 ≤ n ∧ n ≤ 10 ^ 30 := by
  unfold rdNum at h
  split at h
  · rename_i c
    unfold numOk at c
    rw [Bool.and_eq_true, Bool.and_eq_true, Bool.and_eq_true] at c
    obtain ⟨m, hm⟩ := digits_text c.1 c.2.1 (of_decide_eq_true c.2.2.1)
    rw [hm] at h
    simp only at h
    split at h
    · cases h; omega
    · cases h
  · cases h
end K15

set_option Elab.async false
set_option linter.all false
set_option maxRecDepth 100000
set_option maxHeartbeats 2000000
/-! for i, x in enumerate(t), t a tuple -/
namespace PySem
open Sem (wp)
theorem meets_ent {v : Value} {o : Obj} {H : Heap → Prop} (B : Begins v o H) :
    Meets (Builtin.«enumerate.__new__» ⟨[.type "enumerate", v], []⟩) (fun _ R s => H s.heap ∧
      R (.ok (.ret (.ref (s.heap.push o).objs.size))) { s with heap := (s.heap.push o).push { cls := .type "enumerate", data := .fields #[.none, .bool false, .ref s.heap.objs.size, rawInt 0, .none, .none] } }) :=
  .of_wp fun prog w A R s h => by
    obtain ⟨hp, g, d, tkk, os⟩ := s; obtain ⟨h1, h⟩ := h
    have sbt := sub_enumerate
    have qq1 : ∀ {A' : Around} {E : Value → Shared → Prop} {Q : Value → Shared → Prop}, Q (.ref hp.objs.size) ⟨hp.push o, g, d, tkk, os⟩ → wpAny (model prog w) A' (pyIter v) Q E ⟨hp, g, d, tkk, os⟩ := fun q => B.iter prog w _ _ ⟨hp, g, d, tkk, os⟩ _ h1 q
    wp_walk using qq1
    refine wpAny_stack_any fun stt => wpAny_pure ?_
    split
    · rename_i c _ _ _ _ _
      cases (c == Value.type "enumerate")
      · wp_walk using qq1
        exact ⟨_, rfl, h⟩
      · wp_walk using qq1
        exact ⟨_, rfl, h⟩
    · wp_walk using qq1
      exact ⟨_, rfl, h⟩
theorem call_ent {prog : Program} {w : World} {A : Around} {E : Value → Shared → Prop} {s : Shared} {a : Addr} {items : Array Value} {Q : Value → Shared → Prop} (ht : s.heap.IsTuple a items)
    (h : ∀ h', IsEnum h' (s.heap.objs.size + 1) s.heap.objs.size 0 .none → h'.IsTupleIter s.heap.objs.size a 0 → (∀ b o, s.heap.get? b = some o → h'.get? b = some o) → Q (.ref (s.heap.objs.size + 1)) { s with heap := h' }) :
    wpAny (model prog w) A (call (.type "enumerate") [.ref a]) Q E s := by
  refine callType_new F.called_enumerate (by decide) (F.typeCall_enumerate_1 _) (F.newCall_enumerate_1 _) (fun obj => F.args_object_init_2 obj _) F.entry_enumerate_new (meets_ent (begins_tuple a items)) ⟨ht, ?_⟩
  have zle : (s.heap.push { cls := .type "tuple_iterator", data := .fields #[.ref a, .int 0 0] }).objs.size = s.heap.objs.size + 1 := Heap.size_push ..
  rw [zle]
  have qe : IsEnum ((s.heap.push { cls := .type "tuple_iterator", data := .fields #[.ref a, .int 0 0] }).push { cls := .type "enumerate", data := .fields #[.none, .bool false, .ref s.heap.objs.size, rawInt 0, .none, .none] }) (s.heap.objs.size + 1) s.heap.objs.size 0 .none := by
    have := Heap.get?_push_size (s.heap.push { cls := .type "tuple_iterator", data := .fields #[.ref a, .int 0 0] }) (o := { cls := .type "enumerate", data := .fields #[.none, .bool false, .ref s.heap.objs.size, rawInt 0, .none, .none] }) rfl
    rw [zle] at this
    exact this
  exact ⟨⟨_, qe, rfl⟩, h _ qe ⟨_, Heap.get?_push_of_some _ (Heap.get?_push_size _ rfl), rfl, rfl⟩ fun b o x => Heap.get?_push_of_some _ (Heap.get?_push_of_some _ x)⟩
end PySem
namespace Lw
open PySem PySem.Spec PyProof.Rows L2
/-- the tuple at a, of n items, each in a new pair with vals number -/
def Ietu (K : PySem.W.Frag) (a : Addr) (n : Nat) : It :=
  ⟨fun i H => i < n ∧ ∃ xs : List V, SqT K H a xs ∧ xs.length = n, fun i H v H' => ∃ T x, v = .ref T ∧ H T = none ∧ H' = upd H T (.tup [.int (i : Int), x]) ∧ ∀ xs, SqT K H a xs → xs[i]? = some x, fun i H => n ≤ i ∧ ∃ xs : List V, SqT K H a xs ∧ xs.length = n⟩
theorem turn_ent {P : Program} {w : World} {K : PySem.W.Frag} {elts : List Expr} {kk : Nat} {tpos : Pos} (a e it : Addr) (n : Nat) (hai : a ≠ it) (hea : e ≠ a) :
    Turn P w K (.Tuple elts kk tpos) (Ietu K a n) [e, it] e (fun i h => (∃ old, IsEnum h e it (i : Int) old) ∧ (i ≤ n ∧ h.IsTupleIter it a i) ∧ e ≠ it) where
  mem := by simp
  obj := fun i h stt b mb => by
    obtain ⟨⟨old, qe⟩, ⟨_, o, qo, hc, qd⟩, _⟩ := stt
    rcases (show b = e ∨ b = it by simpa using mb) with z | z
    · rw [z]; exact ⟨_, qe, fun v q => nomatch q⟩
    · rw [z]; exact ⟨o, qo, fun v q => by rw [qd] at q; cases q⟩
  keep := fun i h h' stt kp => let ⟨⟨old, qe⟩, lti, qne⟩ := stt; ⟨⟨old, kp e (by simp) _ qe⟩, ⟨lti.1, lti.2.at fun o q => kp it (by simp) o q⟩, qne⟩
  item := by
    intro X pP pW pK hc i pins s σ H E I fpo stt goes
    subst pP pW pK
    obtain ⟨⟨old, qe⟩, ⟨_, qit⟩, qne⟩ := stt
    obtain ⟨hin, xs, sq, lenq⟩ := goes
    obtain ⟨vals, rels, p, zle⟩ := I.tuple sq
    have hsz0 : vals.toArray.size = n := by rw [List.size_toArray, ← rels.length]; exact lenq
    have ltE : e < s.heap.objs.size := Heap.lt_size qe
    have ltI : it < s.heap.objs.size := by obtain ⟨_, q, _⟩ := qit; exact Heap.lt_size q
    have D := Draws.tuple (prog := X.prog) (w := X.w) (A := X.A.in1) (I.ok.hd hc) it a hai vals.toArray
    rw [hsz0] at D
    refine wpAny_pyNext_enum_itemC (n := n) D qe ⟨qit, p⟩ hin qne (by simp [qne, hea]) fun u h' tkk hu qo hs' hT hsz kep => ?_
    refine ⟨_, rfl, wpAny_letOwnedTupleGo_enum (s := { s with heap := h', toks := tkk + 1 }) qo fun h'' he' smb => ?_⟩
    have hx : xs[i]? = some xs[i] := List.getElem?_eq_getElem (by omega)
    obtain ⟨u2, hu2, ru⟩ := rels.get hx
    have hu3 : vals[i]? = some u := by simpa using hu
    rw [hu2] at hu3
    cases hu3
    have hT2 : h''.get? s.heap.objs.size = some { cls := .type "tuple", data := .seq #[.int (i : Int) tkk, u] } := (smb.2 _ (Nat.ne_of_gt ltE)).trans hT
    have new : ObjOk X.prog X.w (upd H s.heap.objs.size (.tup [.int (i : Int), xs[i]])) h'' s.heap.objs.size (.tup [.int (i : Int), xs[i]]) :=
      ⟨by show 2 ≤ sizeLine; decide, [.int (i : Int) tkk, u], .cons ⟨_, rfl⟩ (.cons ru .nil), ⟨_, hT2, rfl, _, rfl⟩⟩
    have I1 : Inv X pins σ (upd H s.heap.objs.size (.tup [.int (i : Int), xs[i]])) { s with heap := h'', toks := tkk + 1 } :=
      I.turnedNew (ch := [e, it]) (fun b ob mb q => (smb.2 b (fun z => mb (by simp [z]))).trans (kep b ob (fun z => mb (by simp [z])) (fun z => mb (by simp [z])) q)) fpo (Nat.le_refl _) new
    refine ⟨.ref s.heap.objs.size, _, I1, rfl, ⟨_, _, rfl, I.hok.fresh (Nat.le_refl _), rfl, fun ys hy => by rw [I.tuple_inj hy sq]; exact hx⟩, ⟨⟨u, ?_⟩, ⟨hin, hs'.1.at fun o q => (smb.2 it (Ne.symm qne)).trans q⟩, qne⟩, fun b mb => ?_⟩
    · have e1 : ((i + 1 : Nat) : Int) = (i : Int) + 1 := by omega
      rw [e1]; exact he'
    · have mb' : b < s.heap.objs.size := by
        rcases (show b = e ∨ b = it by simpa using mb) with z | z
        · rw [z]; exact ltE
        · rw [z]; exact ltI
      rw [upd_ne (Nat.ne_of_lt mb')]
      exact (fpo b mb).1
  done := by
    intro X pP pW pK hc i pins s σ H E I fpo stt goes
    subst pP pW pK
    obtain ⟨⟨old, qe⟩, ⟨hin, qit⟩, qne⟩ := stt
    obtain ⟨hge, xs, sq, lenq⟩ := goes
    obtain ⟨vals, rels, p, zle⟩ := I.tuple sq
    have hsz0 : vals.toArray.size = n := by rw [List.size_toArray, ← rels.length]; exact lenq
    have ei : i = n := Nat.le_antisymm hin hge
    subst ei
    obtain ⟨g0, g1, g2, g3, g4, g5⟩ := fpo it (by simp)
    have D := Draws.tuple (prog := X.prog) (w := X.w) (A := X.A.in1) (I.ok.hd hc) it a hai vals.toArray
    rw [hsz0] at D
    exact wpAny_pyNext_enum_endD D qe ⟨qit, p⟩ fun h' eb => ⟨rfl, I.turned (t' := s.toks) (fun b o mb q => eb b o mb q) g0 g1 g3 g4 g5⟩
  self := fun A i s Q E stt h => let ⟨⟨_, qe⟩, _⟩ := stt; wpAny_pyIter_enum qe h
/-- enumerate(t) -/
def iEnt (K : PySem.W.Frag) (te : TE) : TI := fun σ H R => te σ H fun v H1 => ∃ (a : Addr) (xs : List V), v = .ref a ∧ SqT K H1 a xs ∧ R (Ietu K a xs.length) H1
theorem pi_ent {X : Cx} {elts : List Expr} {kk : Nat} {tpos : Pos} {e : Expr} {te : TE} {p pos : Pos} (goes : Gl X "enumerate") (hm : X.mg "enumerate" = none) (qe : PE X e te)
    (hs : starEach [e] X.env = (false, eval e X.env) :: starEach [] X.env := by rfl) : PI X (.Tuple elts kk tpos) (.Call (.Name "enumerate" p) [e] [] pos) (iEnt X.K te) := by
  refine ⟨fun pins s σ H R I h => ?_⟩; refine Call_ (ld_blt I goes hm PyProof.Rows.boot_enumerate (PyProof.Rows.callWith_type1 (PyProof.Rows.args_cons (thn (qe.run pins s σ H _ I h) fun u s1 ⟨v, H1, I1, r1, qq1⟩ => PyProof.Rows.args_nil ?_) hs) hs rfl))
  obtain ⟨a, xs, evv, sq, q⟩ := qq1
  subst evv
  obtain rfl : u = Value.ref a := r1; obtain ⟨vals, rels, p', zle⟩ := I1.tuple sq
  have lenq := rels.length
  have la : a < s1.heap.objs.size := by obtain ⟨_, y, _⟩ := p'; exact Heap.lt_size y
  refine call_ent p' fun h' hen qit kep => wpAny_pyIter_enum hen ?_
  have I3 : Inv X pins σ H1 { s1 with heap := h' } := I1.kept (t' := s1.toks) kep
  have fr : ∀ b, s1.heap.objs.size ≤ b → FpOk X pins H1 b := fun b mb => I1.fpOk mb (I1.hok.fresh mb)
  refine ⟨s1.heap.objs.size + 1, [s1.heap.objs.size + 1, s1.heap.objs.size], _, _, H1, rfl, I3, turn_ent a (s1.heap.objs.size + 1) s1.heap.objs.size xs.length (Nat.ne_of_lt la) (fun e => Nat.lt_irrefl a (Nat.lt_trans la (Nat.lt_of_lt_of_eq (Nat.lt_succ_self _) e))), ⟨⟨_, hen⟩, ⟨Nat.zero_le _, qit⟩, Nat.succ_ne_self _⟩, fun b mb => ?_, q⟩
  rcases (show b = s1.heap.objs.size + 1 ∨ b = s1.heap.objs.size by simpa using mb) with z | z
  · rw [z]; exact fr _ (Nat.le_succ _)
  · rw [z]; exact fr _ (Nat.le_refl _)
section
variable {K : Fr} {ρ : AS} {μ μ1 : AM} {tl : TE} {ds : List PyData}
theorem it_ent (h : EvW K tl ρ μ (.d (.tuple ds)) μ1) : ItW K (iEnt K tl) ρ μ ((numbered 0 ds).map .d) μ1 := fun F B H σ w sl Rk q =>
  h F B H σ w sl _ fun v B2 H2 e w2 hv => by
    cases (show Dt K B2 v (.tuple ds) from hv) with
    | @tup a vs _ h1 h0a h2 =>
      have lenq := dta_len h2
      refine ⟨a, vs, rfl, seq_l w2.1 h1, q _ B2 H2 e w2 ⟨fun B3 H3 i e3 e4 lti => ?_, fun B3 H3 e3 e4 => ⟨?_, vs, seq_l (e3.trans e4) h1, rfl⟩, fun F B3 H3 μ i b x H' e3 w3 mb y => ?_⟩⟩
      · rw [List.length_map, numbered_len] at lti
        exact ⟨by omega, vs, seq_l (e3.trans e4) h1, rfl⟩
      · rw [List.length_map, numbered_len]; omega
      · obtain ⟨lti, rfl⟩ := numbered_of mb
        obtain ⟨T, u, rfl, hT, rfl, y⟩ := y
        obtain ⟨u2, g1, g2⟩ := dta_get h2 (List.getElem?_eq_getElem lti)
        have := y vs (seq_l (e3.trans w3.1) h1)
        rw [g1] at this
        cases this
        have e0 : (0 : Int) + (i : Int) = (i : Int) := Int.zero_add _; rw [e0]
        obtain ⟨w4, e4, r4⟩ := pair_new (i := (i : Int)) w3 hT (dp_mono e3 g2)
        exact ⟨_, e4, w4, r4⟩
end
end Lw

set_option Elab.async false
set_option linter.all false
set_option maxRecDepth 100000
set_option maxHeartbeats 2000000
/-! a = b = c = d = e = x; pop; the last of an owned list -/
namespace Lw
open PySem PySem.Spec PyProof.Rows L2
theorem five {M : Model} {A : Around} {E : Value → Shared → Prop} {s : Shared} {env : Env} {t1 t2 t3 t4 t5 value : Expr} {pos : Pos} {Q : Flow → Shared → Prop}
    (h : wpAny M A (eval value env) (fun v s1 => wpAny M A (assign t1 env v) (fun _ s2 => wpAny M A (assign t2 env v) (fun _ s3 => wpAny M A (assign t3 env v) (fun _ s4 => wpAny M A (assign t4 env v) (fun _ s5 => wpAny M A (assign t5 env v) (fun _ => Q .next) E s5) E s4) E s3) E s2) E s1) E s)
    (he : (assignEach [t1, t2, t3, t4, t5] env).map (·.2) = [assign t1 env, assign t2 env, assign t3 env, assign t4 env, assign t5 env])
    (hw : swappedStores [t1, t2, t3, t4, t5] value env = pure none) : wpAny M A (exec (.Assign [t1, t2, t3, t4, t5] value pos) env) Q E s := by
  refine wpAny_Assign_stores (wpAny_mono h (fun v s1 h1 => ?_) fun _ _ x => x) rfl hw
  rw [he]
  exact wpAny_bind (wpAny_holding (wpAny_mono h1 (fun _ s2 h2 => wpAny_bind (wpAny_holding (wpAny_mono h2 (fun _ s3 h3 => wpAny_bind (wpAny_holding (wpAny_mono h3 (fun _ s4 h4 => wpAny_bind (wpAny_holding h4)) fun _ _ x => x))) fun _ _ x => x))) fun _ _ x => x))
def tAsg5 (te : TE) (a b c d e : Nat) : TS := fun D σ H => te σ H fun x H1 => D.nx (((((σ.set a (some x)).set b (some x)).set c (some x)).set d (some x)).set e (some x)) H1
theorem ps_asg5 {X : Cx} {e : Expr} {te : TE} {pos : Pos} {t1 t2 t3 t4 t5 : Expr} {a b c d f : Nat} (he : PE X e te) (h1 : PG X t1 (gName a)) (h2 : PG X t2 (gName b)) (h3 : PG X t3 (gName c)) (h4 : PG X t4 (gName d)) (h5 : PG X t5 (gName f))
    (ha : (assignEach [t1, t2, t3, t4, t5] X.env).map (·.2) = [assign t1 X.env, assign t2 X.env, assign t3 X.env, assign t4 X.env, assign t5 X.env] := by rfl) (hw : swappedStores [t1, t2, t3, t4, t5] e X.env = pure none := by rfl) :
    PS X (.Assign [t1, t2, t3, t4, t5] e pos) (tAsg5 te a b c d f) := by
  refine ⟨fun pins s σ H D I h => ?_⟩
  refine five (thn (he.run pins s σ H _ I h) fun v s1 ⟨x, H1, I1, r1, q1⟩ => ?_) ha hw
  refine thn (h1.run pins s1 σ H1 x v (fun σ2 H2 => σ2 = σ.set a (some x) ∧ H2 = H1) I1 r1 ⟨rfl, rfl⟩) fun _ s2 ⟨σ2, H2, I2, e1, e2⟩ => ?_
  subst e1 e2
  refine thn (h2.run pins s2 _ _ x v (fun σ3 H3 => σ3 = (σ.set a (some x)).set b (some x) ∧ H3 = _) I2 r1 ⟨rfl, rfl⟩) fun _ s3 ⟨σ3, H3, I3, e1, e2⟩ => ?_
  subst e1 e2
  refine thn (h3.run pins s3 _ _ x v (fun σ4 H4 => σ4 = ((σ.set a (some x)).set b (some x)).set c (some x) ∧ H4 = _) I3 r1 ⟨rfl, rfl⟩) fun _ s4 ⟨σ4, H4, I4, e1, e2⟩ => ?_
  subst e1 e2
  refine thn (h4.run pins s4 _ _ x v (fun σ5 H5 => σ5 = (((σ.set a (some x)).set b (some x)).set c (some x)).set d (some x) ∧ H5 = _) I4 r1 ⟨rfl, rfl⟩) fun _ s5 ⟨σ5, H5, I5, e1, e2⟩ => ?_
  subst e1 e2
  exact thn (h5.run pins s5 _ _ x v D.nx I5 r1 q1) fun _ s6 q => q
section
variable {K : Fr} {ρ : AS} {μ μ1 μ2 : AM} {te ta : TE} {R : AV} {P : Po} {l : Addr} {xs : List AV}
theorem s_asg5 {a b c d e : Nat} (h : EvW K te ρ μ R μ1) (p : P.nx (((((ρ.set a (some R)).set b (some R)).set c (some R)).set d (some R)).set e (some R)) μ1) : StW K (tAsg5 te a b c d e) ρ μ P := fun F D B H σ w sl r =>
  h F B H σ w sl _ fun v B2 H2 e2 w2 hv => r.nx _ _ B2 H2 _ p e2 w2 (Sl.set hv e (Sl.set hv d (Sl.set hv c (Sl.set hv b (Sl.set hv a (sl.mono e2))))))
/-- l.pop(), l owned -/
theorem ew_pop (h : EvW K te ρ μ (.r l) μ1) (hl : μ1 l = some (.lst (xs ++ [R]))) : EvW K (tBM0 K "list" rPop te) ρ μ R (updM μ1 l (.lst xs)) := fun F B H σ w sl Q q =>
  h F B H σ w sl _ fun v B1 H1 e1 w1 h1 => by
    have ev : v = .ref l := h1
    subst ev
    obtain ⟨vs, hu, hA⟩ := own_lst w1 hl
    have hlen := hA.length
    rw [List.length_append] at hlen
    simp only [List.length_cons, List.length_nil] at hlen
    obtain ⟨y, hy, hR⟩ := AllH.get (i := xs.length) (a := R) hA (by rw [List.getElem?_append_right (Nat.le_refl _), Nat.sub_self]; rfl)
    have e2 : vs.length - 1 = xs.length := by omega
    have hAd : ∀ {as : List AV} {ws : List V}, AllH K B1 (as ++ [R]) ws → AllH K B1 as ws.dropLast := by
      intro as
      induction as with
      | nil => intro ws g; match ws, g with
        | [w], _ => trivial
        | w :: w2 :: r, g => exact g.2.elim
      | cons x as ih => intro ws g; match ws, g with
        | [w], g => have := g.2.length; simp at this
        | w :: w2 :: r, g => exact ⟨g.1, ih g.2⟩
    refine ⟨.inl ⟨rfl, vs, SqL.of hu⟩, l, vs, y, rfl, rfl, hu, by rw [e2]; exact hy, ?_⟩
    exact q _ B1 _ e1 (w1.set hl ⟨_, rfl, hAd hA⟩) hR
/-- l[-1], l owned -/
theorem o_lastO (hl : μ l = some (.lst (xs ++ [R]))) : Op2 K (rIxL K) (.r l) (.i (-1)) μ R μ := fun F B H x y w r1 r2 Q q => by
  have ex : x = .ref l := r1
  have ey := h_i r2
  subst ex ey
  obtain ⟨vs, hu, hA⟩ := own_lst w hl
  have hlen := hA.length
  rw [List.length_append] at hlen
  simp only [List.length_cons, List.length_nil] at hlen
  obtain ⟨z, hz, hR⟩ := AllH.get (i := xs.length) (a := R) hA (by rw [List.getElem?_append_right (Nat.le_refl _), Nat.sub_self]; rfl)
  refine ⟨l, vs, -1, z, rfl, rfl, SqL.of hu, ?_, q _ B H (Same.refl _) w hR⟩
  unfold atI ixN
  rw [if_neg (by omega), if_pos (by omega)]
  have : ((-1 : Int) + (vs.length : Int)).toNat = xs.length := by omega
  show vs[((-1 : Int) + (vs.length : Int)).toNat]? = some z
  rw [this]
  exact hz
end
end Lw

set_option Elab.async false
set_option linter.all false
set_option maxRecDepth 100000
set_option maxHeartbeats 2000000
/-! values of which only something is told; owned instances -/
namespace Lw
open PySem PySem.Spec PyProof.Rows L2
def EvX (K : Fr) (te : TE) (ρ : AS) (μ : AM) (Rel : AV → AM → Prop) : Prop := ∀ F B H σ, Wd K F B μ H → Sl K B σ ρ → ∀ Q : VK, (∀ R μ1 v B2 H2, Rel R μ1 → Same B B2 → Wd K F B2 μ1 H2 → R.h K v B2 → Q v H2) → te σ H Q
def EvAX (K : Fr) (ta : TA) (ρ : AS) (μ : AM) (Rel : List AV → AM → Prop) : Prop := ∀ F B H σ, Wd K F B μ H → Sl K B σ ρ → ∀ Q : List V → Hp → Prop, (∀ Rs μ1 vs B2 H2, Rel Rs μ1 → Same B B2 → Wd K F B2 μ1 H2 → AllH K B2 Rs vs → Q vs H2) → ta σ H Q
section
variable {K : Fr} {ρ : AS} {μ μ1 μ2 : AM} {te ta tv : TE} {ts : TA} {R : AV} {P : Po} {l p dx C : Addr} {xs : List AV} {Rel : AV → AM → Prop} {RelA : List AV → AM → Prop} {fs : List (Str × AV)} {f : Str}
theorem ex_of (h : EvW K te ρ μ R μ1) : EvX K te ρ μ (fun R' μ' => R' = R ∧ μ' = μ1) := fun F B H σ w sl Q q => h F B H σ w sl Q fun v B2 H2 e2 w2 hv => q R μ1 v B2 H2 ⟨rfl, rfl⟩ e2 w2 hv
theorem ex_new : EvX K tDNewK ρ μ (fun R μ1 => ∃ l, μ l = none ∧ R = .r l ∧ μ1 = updM μ l (.dG (fun _ => none) 0)) := fun F B H σ w sl Q q => fun l hp =>
  q (.r l) _ (.ref l) B _ ⟨l, own_free w hp, rfl, rfl⟩ (Same.refl _) (w.newM (ao := .dG (fun _ => none) 0) hp ⟨[], rfl, Nat.le_refl _, nofun, fun _ _ => rfl, nofun⟩) rfl
theorem ax_nil : EvAX K tNil ρ μ (fun Rs μ1 => Rs = [] ∧ μ1 = μ) := fun F B H σ w sl Q q => q [] μ [] B H ⟨rfl, rfl⟩ (Same.refl _) w trivial
theorem ax_nilR (h : RelA [] μ) : EvAX K tNil ρ μ RelA := fun F B H σ w sl Q q => q [] μ [] B H h (Same.refl _) w trivial
theorem ax_cons {Rel1 : AV → AM → Prop} (h : EvX K te ρ μ Rel1) (h2 : ∀ R μ1, Rel1 R μ1 → EvAX K ts ρ μ1 (fun Rs μ2 => RelA (R :: Rs) μ2)) : EvAX K (tCons te ts) ρ μ RelA := fun F B H σ w sl Q q =>
  h F B H σ w sl _ fun R μ1 v B1 H1 r1 e1 w1 hv => h2 R μ1 r1 F B1 H1 σ w1 (sl.mono e1) _ fun Rs μ2 vs B2 H2 r2 e2 w2 hvs => q (R :: Rs) μ2 (v :: vs) B2 H2 r2 (e1.trans e2) w2 ⟨AV.mono e2 hv, hvs⟩
theorem ex_fn {S : Spc} {E : XK} (h : EvAX K ts ρ μ RelA) (hS : ∀ Rs μ1, RelA Rs μ1 → ∃ Post : AV → AM → Prop, S Rs μ1 Post ∧ ∀ R μ', Post R μ' → Rel R μ') : EvX K (tCall (spP K S) [] E ts) ρ μ Rel := fun F B H σ w sl Q q =>
  h F B H σ w sl _ fun Rs μ1 vs B2 H2 r2 e2 w2 hvs => by
    rw [List.append_nil]
    obtain ⟨Post, h1, h2⟩ := hS Rs μ1 r2
    exact ⟨F, B2, μ1, Rs, Post, w2, hvs, h1, fun R μ' v B3 H3 hp e3 w3 h3 => q R μ' v B3 H3 (h2 R μ' hp) (e2.trans e3) w3 h3⟩
/-- self.f = .., self owned, in a slot -/
theorem s_fldX {i : Nat} (h : EvX K tv ρ μ Rel) (hi : ρ[i]? = some (some (.r p))) (hc : Cls K C) (hn : NoAttr K C f) (k : ∀ R μ1, Rel R μ1 → ∃ dx fs, μ1 p = some (.ins C dx fs) ∧ fs.length < 1000 ∧ P.nx ρ (updM μ1 p (.ins C dx (putA f R fs)))) : StW K (sFld K (tVar i) tv f) ρ μ P := fun F D B H σ w sl r =>
  h F B H σ w sl _ fun R μ1 y B1 H1 r1 e1 w1 hy => by
    obtain ⟨dx, fs, hp, hl, hk⟩ := k R μ1 r1
    refine ew_var (K := K) (μ := μ1) hi F B1 H1 σ w1 (sl.mono e1) _ fun v B2 H2 e2 w2 hv => ?_
    have ev : v = .ref p := hv
    subst ev
    obtain ⟨_, _, u, hu, ws, rfl, hA⟩ := w2.2.1 p _ hp
    refine ⟨p, C, dx, ws, rfl, hu, hc, hn, by rw [← hA.length]; exact hl, ?_⟩
    exact r.nx _ _ B2 _ σ hk (e1.trans e2) (w2.set hp ⟨_, rfl, hA.put (AV.mono e2 hy)⟩) (sl.mono (e1.trans e2))
/-- a property of an owned instance -/
theorem ew_propO {S : Spc} {E : XK} (h : EvW K ta ρ μ (.r p) μ1) (hp : μ1 p = some (.ins C dx fs)) (hS : S [.r p] μ1 (fun R' μ' => R' = R ∧ μ' = μ2)) : EvW K (tProp C (spP K S) [] E ta) ρ μ R μ2 := fun F B H σ w sl Q q => h F B H σ w sl _ fun v B1 H1 e1 w1 hv => by
  have ev : v = .ref p := hv
  subst ev
  obtain ⟨_, _, u, hu, ws, rfl, hA⟩ := w1.2.1 p _ hp
  refine ⟨p, dx, ws, rfl, hu, F, B1, μ1, [.r p], _, w1, ⟨rfl, trivial⟩, hS, ?_⟩
  rintro R' μ' v B3 H3 ⟨rfl, rfl⟩ e3 w3 hv3
  exact q v B3 H3 (e1.trans e3) w3 hv3
end
end Lw

set_option Elab.async false
set_option linter.all false
set_option maxRecDepth 100000
set_option maxHeartbeats 2000000
/-! more: x, y = f(..) whatever f's promise leaves open; items from the end -/
namespace Lw
open PySem PySem.Spec PyProof.Rows L2
section
variable {K : Fr} {ρ : AS} {μ μ1 μ2 μ3 : AM} {ta : TA} {te tl : TE} {R R1 R2 : AV} {P : Po} {d e : PyData} {ds es : List PyData} {Rs : List AV} {E : XK} {S : Spc} {g : TG}
/-- g = f(..), whatever Post says of it -/
theorem s_asgGC {Post : AV → AM → Prop} (h : EvA K ta ρ μ Rs μ1) (hS : S Rs μ1 Post) (p : ∀ R μ', Post R μ' → ∃ ρ2, GtW K g R ρ ρ2 ∧ P.nx ρ2 μ') : StW K (tAsg (tCall (spP K S) [] E ta) g) ρ μ P := fun F D B H σ w sl r =>
  h F B H σ w sl _ fun vs B2 H2 e w2 hv => by
    rw [List.append_nil]
    refine ⟨F, B2, μ1, Rs, Post, w2, hv, hS, ?_⟩
    intro R μ' v B3 H3 hp e3 w3 h3
    obtain ⟨ρ2, hg, hn⟩ := p R μ' hp
    exact hg B3 H3 σ v w3.1 h3 (sl.mono (e.trans e3)) _ fun σ2 sl2 => r.nx _ _ B3 H3 _ hn (e.trans e3) w3 sl2
/-- an item of a tuple, counted from the end -/
theorem o_ixTn {j : Int} (h : ds[((ds.length : Int) + j).toNat]? = some d) (hj : -(ds.length : Int) ≤ j ∧ j < 0 := by omega) : Op2 K (rIxT K) (.d (.tuple ds)) (.i j) μ (.d d) μ := fun F B H x y w r1 r2 Q q => by
  have := h_i r2
  subst this
  cases (show Dt K B x (.tuple ds) from r1) with
  | @tup a vs _ h1 h0a h2 =>
    obtain ⟨v, hv, hd⟩ := dpa_get h2 h
    have hl := dpa_length h2
    refine ⟨a, vs, j, v, rfl, rfl, seq_l w.1 h1, ?_, q _ B H (Same.refl _) w hd⟩
    unfold atI ixN
    rw [if_neg (by omega), if_pos (by omega)]
    have e : (j + (vs.length : Int)).toNat = ((ds.length : Int) + j).toNat := by omega
    show vs[(j + (vs.length : Int)).toNat]? = some v
    rw [e]
    exact hv
end
end Lw

set_option Elab.async false
set_option linter.all false
set_option maxRecDepth 100000
set_option maxHeartbeats 2000000
/-! for k, x in d.items(), for x in d.values(), the keys tuples; owned dicts locked while they are walked -/
namespace Lw
open PySem PySem.Spec PyProof.Rows L2
/-- what is told of a locked dict of tuples: its entries -/
theorem frzE {X : Cx} {pn : List (Addr × Obj)} {τ : L2.St} {Hh : Hp} {sh : Shared} {dd : Addr} {ob : Obj} {prs : List (List Key × V)} (inv : Inv X pn τ Hh sh) (fz : Hh dd = some (.frz ob (.dT prs))) :
    (dd == sysModules) = false ∧ ∃ (ent : Array DictEntry) (epo : Nat), sh.heap.DictRaw dd ent epo ∧ ob.data = .dict ent epo ∧ ent.size = prs.length ∧
      ∀ (j : Nat) (ky : List Key) (z : V), prs[j]? = some (ky, z) → ∃ (hj : j < ent.size) (q : Addr), ent[j].key = .ref q ∧ Hh q = some (.tup (ky.map kV)) ∧ RelV z ent[j].val := by
  obtain ⟨gd, _, ns, xs, rel, o', ent, epo, go, exd, dat, hent, _⟩ := inv.hok dd _ fz
  rw [gd] at go
  cases go
  have lx : prs.length = xs.length := Paired.length rel
  have le : ent.size = xs.length := size_of_entries hent
  refine ⟨ns, ent, epo, ⟨ob, gd, exd, dat⟩, dat, by omega, fun j ky z ej => ?_⟩
  obtain ⟨b, hb, e1, e2, e3⟩ := paired_get rel ej
  have hj : j < ent.size := by
    have := (List.getElem?_eq_some_iff.mp ej).1
    omega
  have qj := entry_at hent j
  rw [hb, Array.getElem?_eq_getElem hj] at qj
  have qj' := Option.some.inj qj
  exact ⟨hj, b.2.1, by rw [qj']; rfl, e2, by rw [qj']; exact e3⟩
/-- the values, one after the other -/
def ItV (dd : Addr) (ob : Obj) (prs : List (List Key × V)) : It :=
  ⟨fun j Hh => Hh dd = some (.frz ob (.dT prs)) ∧ j < prs.length, fun j Hh x H2 => H2 = Hh ∧ ∃ ky, prs[j]? = some (ky, x), fun j Hh => Hh dd = some (.frz ob (.dT prs)) ∧ prs.length ≤ j⟩
/-- the pairs, each new, the keys their own tuples -/
def ItP (dd : Addr) (ob : Obj) (prs : List (List Key × V)) : It :=
  ⟨fun j Hh => Hh dd = some (.frz ob (.dT prs)) ∧ j < prs.length, fun j Hh x H2 => ∃ (T : Addr) (ky : List Key) (z : V) (q : Addr), prs[j]? = some (ky, z) ∧ x = .ref T ∧ Hh T = none ∧ Hh q = some (.tup (ky.map kV)) ∧ H2 = upd Hh T (.tup [.ref q, z]), fun j Hh => Hh dd = some (.frz ob (.dT prs)) ∧ prs.length ≤ j⟩
theorem same_data {ob : Obj} {ea eb : Array DictEntry} {pa pb : Nat} (g : ob.data = .dict ea pa) (g2 : ob.data = .dict eb pb) : eb = ea ∧ pb = pa := by
  rw [g] at g2
  cases g2
  exact ⟨rfl, rfl⟩
section
variable {P : Program} {w : World} {K : PySem.W.Frag} {tg : Expr} {dd : Addr} {ob : Obj} {ent : Array DictEntry} {epo : Nat}
theorem turn_vt {prs : List (List Key × V)} (it : Addr) (dat : ob.data = .dict ent epo) : Turn P w K tg (ItV dd ob prs) [it] it (fun j hp => hp.IsValIter it dd j ent.size epo) where
  mem := List.mem_singleton.mpr rfl
  obj := fun j hp stt b mb => by
    have eb : b = it := List.mem_singleton.mp mb
    subst eb
    obtain ⟨oi, goi, _, doi⟩ := stt
    exact ⟨oi, goi, fun v z => by rw [doi] at z; cases z⟩
  keep := fun j hp hp2 stt kp => let ⟨oi, goi, r⟩ := stt; ⟨oi, kp it (List.mem_singleton.mpr rfl) oi goi, r⟩
  item := by
    intro X pP pW pK calm j pn sh τ Hh E inv fpo stt goes
    subst pP pW pK
    obtain ⟨fz, hj⟩ := goes
    obtain ⟨g0, g1, g2, g3, g4, g5⟩ := fpo it (List.mem_singleton.mpr rfl)
    obtain ⟨ns, e2, p2, raw, dat2, size_e, each⟩ := frzE inv fz
    obtain ⟨rfl, rfl⟩ := same_data dat dat2
    obtain ⟨⟨ky, z⟩, hkz⟩ : ∃ p, prs[j]? = some p := ⟨prs[j], List.getElem?_eq_getElem hj⟩
    obtain ⟨hje, q, _, _, rz⟩ := each j ky z hkz
    refine wpAny_pyNext_values_item_raw stt raw hje fun hp2 stt2 smb => ?_
    have inv2 : Inv X pn τ Hh { sh with heap := hp2 } := inv.turned (t' := sh.toks) (fun b o mb g => (smb.2 b mb).trans g) g0 g1 g3 g4 g5
    obtain ⟨oi, goi, coi, doi⟩ := id stt2
    exact ⟨_, rfl, go_of (s := { sh with heap := hp2 }) goi coi doi (by decide) ⟨z, Hh, inv2, rz, ⟨rfl, ky, hkz⟩, stt2, fun b mb => (fpo b mb).1⟩⟩
  done := by
    intro X pP pW pK calm j pn sh τ Hh E inv fpo stt goes
    subst pP pW pK
    obtain ⟨fz, hj⟩ := goes
    obtain ⟨g0, g1, g2, g3, g4, g5⟩ := fpo it (List.mem_singleton.mpr rfl)
    obtain ⟨ns, e2, p2, raw, dat2, size_e, each⟩ := frzE inv fz
    obtain ⟨rfl, rfl⟩ := same_data dat dat2
    exact wpAny_pyNext_values_end_raw (inv.ok.hd calm) stt raw (by omega) fun hp2 xb => ⟨rfl, inv.turned (t' := sh.toks) (fun b o mb g => xb b o mb g) g0 g1 g3 g4 g5⟩
  self := fun A j s Q E stt q => wpAny_pyIter_valiter stt q
theorem turn_pt {prs : List (List Key × V)} {elts : List Expr} {kk : Nat} {tps : Pos} (it : Addr) (dat : ob.data = .dict ent epo) : Turn P w K (.Tuple elts kk tps) (ItP dd ob prs) [it] it (fun j hp => ∃ a b, IsItemIter hp it dd j ent.size epo a b) where
  mem := List.mem_singleton.mpr rfl
  obj := fun j hp stt b mb => by
    have eb : b = it := List.mem_singleton.mp mb
    subst eb
    obtain ⟨_, _, goi⟩ := stt
    exact ⟨_, goi, fun v z => nomatch z⟩
  keep := fun j hp hp2 stt kp => let ⟨a, b, goi⟩ := stt; ⟨a, b, kp it (List.mem_singleton.mpr rfl) _ goi⟩
  item := by
    intro X pP pW pK calm j pn sh τ Hh E inv fpo stt goes
    subst pP pW pK
    obtain ⟨fz, hj⟩ := goes
    obtain ⟨ns, e2, p2, raw, dat2, size_e, each⟩ := frzE inv fz
    obtain ⟨rfl, rfl⟩ := same_data dat dat2
    obtain ⟨⟨ky, z⟩, hkz⟩ : ∃ p, prs[j]? = some p := ⟨prs[j], List.getElem?_eq_getElem hj⟩
    obtain ⟨hje, q, kq, hq, rz⟩ := each j ky z hkz
    obtain ⟨a, b, goi⟩ := stt
    have ltI : it < sh.heap.objs.size := Heap.lt_size goi
    refine wpAny_pyNext_items_item_raw goi raw hje fun hp2 out hT hsz kp => ?_
    refine ⟨_, rfl, wpAny_letOwnedTupleGo_items (s := { sh with heap := hp2 }) out fun hp3 out2 smb => ?_⟩
    have hT3 : hp3.get? sh.heap.objs.size = some { cls := .type "tuple", data := .seq #[e2[j].key, e2[j].val] } := (smb.2 _ (Nat.ne_of_gt ltI)).trans hT
    have rq : RelV (.ref q) e2[j].key := by rw [kq]; exact rfl
    have new : ObjOk X.prog X.w (upd Hh sh.heap.objs.size (.tup [.ref q, z])) hp3 sh.heap.objs.size (.tup [.ref q, z]) :=
      ⟨by show 2 ≤ sizeLine; decide, [e2[j].key, e2[j].val], .cons rq (.cons rz .nil), ⟨_, hT3, rfl, _, rfl⟩⟩
    have inv2 : Inv X pn τ (upd Hh sh.heap.objs.size (.tup [.ref q, z])) { sh with heap := hp3 } :=
      inv.turnedNew (t' := sh.toks) (ch := [it]) (fun b o mb g => (smb.2 b (fun e => mb (by rw [e]; exact List.mem_singleton.mpr rfl))).trans (kp b o (fun e => mb (by rw [e]; exact List.mem_singleton.mpr rfl)) g)) fpo (Nat.le_refl _) new
    refine ⟨.ref sh.heap.objs.size, _, inv2, rfl, ⟨_, ky, z, q, hkz, rfl, inv.hok.fresh (Nat.le_refl _), hq, rfl⟩, ⟨_, _, out2⟩, fun b mb => ?_⟩
    have eb : b = it := List.mem_singleton.mp mb
    rw [eb, upd_ne (Nat.ne_of_lt ltI)]
    exact (fpo it (List.mem_singleton.mpr rfl)).1
  done := by
    intro X pP pW pK calm j pn sh τ Hh E inv fpo stt goes
    subst pP pW pK
    obtain ⟨fz, hj⟩ := goes
    obtain ⟨g0, g1, g2, g3, g4, g5⟩ := fpo it (List.mem_singleton.mpr rfl)
    obtain ⟨ns, e2, p2, raw, dat2, size_e, each⟩ := frzE inv fz
    obtain ⟨rfl, rfl⟩ := same_data dat dat2
    obtain ⟨a, b, goi⟩ := stt
    exact wpAny_pyNext_items_end_raw (inv.ok.hd calm) goi raw (by omega) fun hp2 xb => ⟨rfl, inv.turned (t' := sh.toks) (fun b o mb g => xb b o mb g) g0 g1 g3 g4 g5⟩
  self := fun A j s Q E stt q => let ⟨_, _, goi⟩ := stt; PySem.W.kcp_self goi q
end
def iValsT (td : TE) : TI := fun τ Hh R => td τ Hh fun x H1 => ∃ dd ob prs, x = .ref dd ∧ H1 dd = some (.frz ob (.dT prs)) ∧ R (ItV dd ob prs) H1
def iItemsT (td : TE) : TI := fun τ Hh R => td τ Hh fun x H1 => ∃ dd ob prs, x = .ref dd ∧ H1 dd = some (.frz ob (.dT prs)) ∧ R (ItP dd ob prs) H1
section
variable {X : Cx} {tg e : Expr} {td : TE} {apos cpos : Pos}
theorem pi_valuesT (he : PE X e td) (hbase : attributeBase e "values" X.env (eval e X.env) = eval e X.env := by rfl) (hline : (apos.endLine == cpos.line) = true := by rfl) : PI X tg (.Call (.Attribute e "values" apos) [] [] cpos) (iValsT td) := by
  refine ⟨fun pn sh τ Hh R inv want => ?_⟩
  refine wpAny_Call_method (T := "dict") (id := "dict.values") hbase rfl hline F.plainAttrs_dict F.slot_dict_values F.type_dict_values (thn (he.run pn sh τ Hh _ inv want) fun u s1 ⟨x, H1, I1, rx, dd, ob, prs, ex, fz, q⟩ => ?_)
  subst ex
  obtain rfl : u = Value.ref dd := rx
  obtain ⟨ns, ent, epo, raw, dat, size_e, each⟩ := frzE I1 fz
  refine ⟨raw.typeIs, ?_, ?_⟩
  · intro a ea
    cases ea
    obtain ⟨o, go, exd, _⟩ := raw
    exact ⟨o, go, exd.2.1⟩
  have I2 : Inv X pn τ H1 { s1 with heap := s1.heap.push { cls := .type "dict_values", data := .fields #[.ref dd] } } := I1.kept (t' := s1.toks) fun b o g => Heap.get?_push_of_some _ g
  have fin : wpAny (model X.prog X.w) X.A (pyIter (.ref s1.heap.objs.size)) (PIE X pn τ tg R) X.xe { s1 with heap := s1.heap.push { cls := .type "dict_values", data := .fields #[.ref dd] } } :=
    wpAny_pyIter_values_raw (d := dd) ⟨_, Heap.get?_push_size _ rfl, rfl, rfl⟩ (raw.at fun o g => Heap.get?_push_of_some _ g) (pi_one (tk := s1.toks) I2 _ (turn_vt _ dat) ⟨_, Heap.get?_push_size _ rfl, rfl, rfl⟩ q)
  show wpAny _ _ (callWith cpos (.builtin "dict.values") [.ref dd] [] []) _ X.xe s1
  exact method_meetsIn F.slot_dict_values F.entry_dict_values rfl (PySem.evalArgs_none ⟨rfl, raw.typeIs, F.args_dict_values_1 _, _, meets_dict_values_raw dd ns, ⟨ent, epo, raw⟩, fin⟩)
theorem pi_itemsT {elts : List Expr} {kk : Nat} {tps : Pos} (he : PE X e td) (hbase : attributeBase e "items" X.env (eval e X.env) = eval e X.env := by rfl) (hline : (apos.endLine == cpos.line) = true := by rfl) :
    PI X (.Tuple elts kk tps) (.Call (.Attribute e "items" apos) [] [] cpos) (iItemsT td) := by
  refine ⟨fun pn sh τ Hh R inv want => ?_⟩
  refine wpAny_Call_method (T := "dict") (id := "dict.items") hbase rfl hline F.plainAttrs_dict F.slot_dict_items F.type_dict_items (thn (he.run pn sh τ Hh _ inv want) fun u s1 ⟨x, H1, I1, rx, dd, ob, prs, ex, fz, q⟩ => ?_)
  subst ex
  obtain rfl : u = Value.ref dd := rx
  obtain ⟨ns, ent, epo, raw, dat, size_e, each⟩ := frzE I1 fz
  refine ⟨raw.typeIs, ?_, ?_⟩
  · intro a ea
    cases ea
    obtain ⟨o, go, exd, _⟩ := raw
    exact ⟨o, go, exd.2.1⟩
  have I2 : Inv X pn τ H1 { s1 with heap := s1.heap.push { cls := .type "dict_items", data := .fields #[.ref dd] } } := I1.kept (t' := s1.toks) fun b o g => Heap.get?_push_of_some _ g
  have fin : wpAny (model X.prog X.w) X.A (pyIter (.ref s1.heap.objs.size)) (PIE X pn τ (.Tuple elts kk tps) R) X.xe { s1 with heap := s1.heap.push { cls := .type "dict_items", data := .fields #[.ref dd] } } :=
    wpAny_pyIter_items_raw (d := dd) ⟨_, Heap.get?_push_size _ rfl, rfl, rfl⟩ (raw.at fun o g => Heap.get?_push_of_some _ g) (pi_one (tk := s1.toks) I2 _ (turn_pt _ dat) ⟨.none, .none, Heap.get?_push_size _ rfl⟩ q)
  show wpAny _ _ (callWith cpos (.builtin "dict.items") [.ref dd] [] []) _ X.xe s1
  exact method_meetsIn F.slot_dict_items F.entry_dict_items rfl (PySem.evalArgs_none ⟨rfl, raw.typeIs, F.args_dict_items_1 _, _, meets_dict_items_raw dd ns, ⟨ent, epo, raw⟩, fin⟩)
end
end Lw

set_option Elab.async false
set_option linter.all false
set_option maxRecDepth 100000
set_option maxHeartbeats 2000000
/-! min(x, y) over data -/
namespace PySem
open Sem (wp)
open PySem.SeqAt PySem.W PyProof.Rows
section
variable {prog : Program} {w : World} {A : Around} {E : Value → Shared → Prop} {s : Shared}
theorem call_minPair {a b : Value} {Q : Value → Shared → Prop}
    (want : wpAny (model prog w) A.in1 (pyIter (.ref s.heap.objs.size)) (fun it sh => ∃ I fp wr G n P St H bt, it = .ref I ∧ WalksS prog w A.in1 I fp wr G n P St ∧ St 0 sh ∧ (∀ b ∈ fp, b < sh.heap.objs.size) ∧ 0 < n ∧
      (∀ b o, H.get? b = some o → b ∉ wr) ∧ (∀ b o, H.get? b = some o → sh.heap.get? b = some o) ∧ CmpIn prog w A.in1 .Lt H P bt ∧ ∀ v s', P (argBest bt (n - 1)) v → Moved wr G sh s' → Q v s') E
      { s with heap := s.heap.push { cls := .type "tuple", data := .seq #[a, b] } }) :
    wpAny (model prog w) A (call (.builtin "min") [a, b]) Q E s := by
  have nm : (toString "min" ++ toString ".loop" : String) = "min.loop" := by decide
  refine call_function_tree F.kind_min F.plain_min F.entry_min (F.args_min2 _ _) ?_
  refine wpAny_bind (wpAny_of_eq (show Builtin.Builtins.bindParams "min" ["key", "default"] 0 ⟨[], []⟩ = pure [none, none] from rfl) ?_); show wpAny _ A.in1 (newTuple [a, b] >>= _) _ _ s
  refine wpAny_bind (wpAny_newObj_type ?_); refine wpAny_bind (wpAny_mono want (fun it sh got => ?_) fun _ _ e => e)
  obtain ⟨I, fp, wr, G, n, P, St, H, bt, rfl, W, stt, inb, pos, hw, kp, cmp, q⟩ := got
  refine wpAny_bind (wpAny_newObj_type ?_); have nin : sh.heap.objs.size ∉ fp := fun m => Nat.lt_irrefl _ (inb _ m)
  rw [nm]; refine wpAny_pure ⟨plainId_quiet F.plain_min_loop _, codeAny_min_loop_firstH W H hw bt cmp sh.heap.objs.size nin (fresh_in kp) _ pos (fun b o e => Heap.get?_push_of_some _ (kp b o e)) (W.frame 0 sh _ sh.toks stt (Nat.le_refl _) fun b _ o e => Heap.get?_push_of_some _ e) (Heap.get?_push_size _ rfl) fun v s' pv mv => ?_⟩
  exact q v s' pv (Moved.drop_new (tk := sh.toks) mv (Nat.le_refl _))
theorem minPair_data {a b : Value} {x y : PyData} {as1 as2 : List Addr} {Q : Value → Shared → Prop} (hnd : A.handled = none) (r1 : Reads s.heap a x as1) (r2 : Reads s.heap b y as2) (alk : AlikeAll [x, y]) (hu : A.units + 1 + PyData.depthAll [x, y] < cLine)
    (q : ∀ h' tk, (∀ b o, s.heap.get? b = some o → h'.get? b = some o) → Q (if dataLt y x then b else a) { s with heap := h', toks := tk }) :
    wpAny (model prog w) A (call (.builtin "min") [a, b]) Q E s := by
  have k0 : ∀ b' o, s.heap.get? b' = some o → (s.heap.push { cls := .type "tuple", data := .seq #[a, b] }).get? b' = some o := fun _ _ e => Heap.get?_push_of_some _ e
  have tpl : (s.heap.push { cls := .type "tuple", data := .seq #[a, b] }).IsTuple s.heap.objs.size #[a, b] := ⟨_, Heap.get?_push_size _ rfl, rfl, 0, rfl⟩
  obtain ⟨as, ra⟩ : ∃ as, ReadsAll (s.heap.push { cls := .type "tuple", data := .seq #[a, b] }) #[a, b].toList [x, y] as := ⟨_, .cons (Reads.keeps k0 r1) (.cons (Reads.keeps k0 r2) .nil)⟩
  refine call_minPair (iter_tupleW (s := { s with heap := s.heap.push { cls := .type "tuple", data := .seq #[a, b] } }) (A := A.in1) hnd tpl fun sh e W stt inb hw kp => ?_)
  refine ⟨_, _, _, _, _, _, _, _, _, rfl, W, stt, inb, by show 0 < 2; decide, hw, kp, cmpIn_lt (s := { s with heap := s.heap.push { cls := .type "tuple", data := .seq #[a, b] } }) (A := A.in1) ra alk (by show A.units + 1 + _ < _; exact hu), fun v s' pv mv => ?_⟩
  obtain ⟨h', tk, rfl, kp2⟩ := moved_old e rfl mv
  have ev : v = if dataLt y x then b else a := by
    by_cases c : dataLt y x = true
    · rw [if_pos c]
      have : (argBest (fun i j => dataLt ([x, y].getD i .none) ([x, y].getD j .none)) ((#[a, b] : Array Value).size - 1)) = 1 := by
        show argBest (fun i j => dataLt ([x, y].getD i .none) ([x, y].getD j .none)) 1 = 1
        unfold argBest
        show (if dataLt y x = true then 1 else 0) = 1
        rw [if_pos c]
      rw [this] at pv
      exact (Option.some.inj (show some b = some v from pv)).symm
    · rw [if_neg c]
      have : (argBest (fun i j => dataLt ([x, y].getD i .none) ([x, y].getD j .none)) ((#[a, b] : Array Value).size - 1)) = 0 := by
        show argBest (fun i j => dataLt ([x, y].getD i .none) ([x, y].getD j .none)) 1 = 0
        unfold argBest
        show (if dataLt y x = true then 1 else 0) = 0
        rw [if_neg c]
      rw [this] at pv
      exact (Option.some.inj (show some a = some v from pv)).symm
  rw [ev]
  exact q h' tk fun b' o e => kp2 b' o (k0 b' o e)
end
end PySem
namespace Lw
open PySem PySem.Spec PyProof.Rows L2 PySem.W
def rMin2D (K : Fr) : List V → Hp → VK → Prop := fun xs H Q => ∃ x y d e, xs = [x, y] ∧ Dp K H x d ∧ Dp K H y e ∧ AlikeAll [d, e] ∧ PyData.depthAll [d, e] ≤ 64 ∧ Q (if dataLt e d then y else x) H
theorem call_min2D {X : Cx} (hu : X.A.units + 1 + 64 < cLine) (hc : X.calm = true) : CallR X (.builtin "min") (rMin2D X.K) := fun pins s σ H xs us Q I r h => by
  obtain ⟨x, y, d, e, rfl, hd, he, alk, dp, q⟩ := h
  obtain ⟨u, v, rfl, ru, rv⟩ := vals2 r
  obtain ⟨as1, r1⟩ := Dp.reads I d x u hd ru
  obtain ⟨as2, r2⟩ := Dp.reads I e y v he rv
  refine minPair_data (I.ok.hd hc) r1 r2 alk (by omega) fun h' tk k => ?_
  by_cases c : dataLt e d = true
  · rw [if_pos c] at q ⊢
    exact ⟨y, H, I.kept k, rv, q⟩
  · rw [if_neg c] at q ⊢
    exact ⟨x, H, I.kept k, ru, q⟩
theorem n_min2D {K : Fr} {μ : AM} {d e : PyData} (alk : AlikeAll [d, e]) (dp : PyData.depthAll [d, e] ≤ 64) : OpN K (rMin2D K) [.d d, .d e] μ (.d (if dataLt e d then e else d)) μ := fun F B H xs w hx Q q => by
  match xs, hx with
  | [x, y], hx =>
    refine ⟨x, y, d, e, rfl, (dp_mono w.1 hx.1).dp, (dp_mono w.1 hx.2.1).dp, alk, dp, ?_⟩
    by_cases c : dataLt e d = true
    · rw [if_pos c] at q ⊢
      exact q y B H (Same.refl _) w hx.2.1
    · rw [if_neg c] at q ⊢
      exact q x B H (Same.refl _) w hx.1
end Lw

set_option Elab.async false
set_option linter.all false
set_option maxRecDepth 100000
set_option maxHeartbeats 2000000
/-! the mathematics of plans: labels, what is over, what stands, the least number; lists top first -/
namespace K15
open PySem PySem.Spec PyProof.Rows L2 Lw
section
variable {α : Type} [DecidableEq α]
/-- occurrences, as an int -/
def cnt (x : α) (l : List α) : Int := (l.count x : Int)
theorem cnt_nn (x : α) (l : List α) : 0 ≤ cnt x l := by unfold cnt; omega
theorem cnt_cons (x y : α) (l : List α) : cnt x (y :: l) = cnt x l + (if y = x then 1 else 0) := by
  unfold cnt
  rw [List.count_cons]
  by_cases h : y = x <;> simp [h]
theorem cnt_pos {x : α} {l : List α} : 0 < cnt x l ↔ x ∈ l := by
  unfold cnt
  rw [← List.count_pos_iff (a := x) (l := l)]
  omega
theorem cnt_zero {x : α} {l : List α} : cnt x l = 0 ↔ x ∉ l := by
  rw [← cnt_pos (x := x) (l := l)]
  have := cnt_nn x l
  omega
theorem cnt_rev (x : α) (l : List α) : cnt x l.reverse = cnt x l := by unfold cnt; rw [List.count_reverse]
theorem cnt_app (x : α) (l m : List α) : cnt x (l ++ m) = cnt x l + cnt x m := by unfold cnt; rw [List.count_append]; omega
/-- a key more -/
def kadd (ks : List α) (x : α) : List α := if x ∈ ks then ks else ks ++ [x]
theorem kadd_mem {ks : List α} {x y : α} : y ∈ kadd ks x ↔ y ∈ ks ∨ y = x := by
  unfold kadd
  split
  · next h => exact ⟨.inl, fun q => q.elim id (fun e => e ▸ h)⟩
  · simp
theorem kadd_nodup {ks : List α} {x : α} (h : ks.Nodup) : (kadd ks x).Nodup := by
  unfold kadd
  split
  · exact h
  · next q =>
    rw [List.nodup_append]
    refine ⟨h, by simp, fun a ha b hb e => ?_⟩
    have : b = x := by simpa using hb
    exact q (by rw [← this, ← e]; exact ha)
theorem kadd_len (ks : List α) (x : α) : (kadd ks x).length ≤ ks.length + 1 := by
  unfold kadd
  split
  · omega
  · simp
/-- the keys of the counts of a list -/
def dist (l : List α) : List α := l.foldl kadd []
theorem dist_snoc (l : List α) (x : α) : dist (l ++ [x]) = kadd (dist l) x := by unfold dist; rw [List.foldl_append]; rfl
theorem snoc_cases (l : List α) : l = [] ∨ ∃ (m : List α) (x : α), l = m ++ [x] := by
  rcases List.eq_nil_or_concat l with h | ⟨m, x, h⟩
  · exact .inl h
  · exact .inr ⟨m, x, by rw [h, List.concat_eq_append]⟩
theorem snoc_ind {P : List α → Prop} (h0 : P []) (hs : ∀ l x, P l → P (l ++ [x])) : ∀ l, P l := fun l => by
  have : ∀ r : List α, P r.reverse := fun r => by
    induction r with
    | nil => exact h0
    | cons x r ih => rw [List.reverse_cons]; exact hs _ _ ih
  have := this l.reverse
  rwa [List.reverse_reverse] at this
theorem dist_nodup : ∀ l : List α, (dist l).Nodup := snoc_ind (by simp [dist]) (fun l x h => by rw [dist_snoc]; exact kadd_nodup h)
theorem dist_mem {y : α} : ∀ l : List α, y ∈ dist l ↔ y ∈ l := snoc_ind (by simp [dist]) (fun l x h => by rw [dist_snoc, kadd_mem, h]; simp)
theorem dist_len : ∀ l : List α, (dist l).length ≤ l.length := snoc_ind (by simp [dist]) (fun l x h => by
  rw [dist_snoc, List.length_append]
  have := kadd_len (dist l) x
  simp
  omega)
def fup (c : α → Int) (x : α) (n : Int) : α → Int := fun y => if y = x then n else c y
/-! ### dicts of counts -/
def rep {κ : Type} (f : α → κ) (ks : List α) (c : α → Int) : List (κ × V) := ks.map fun x => (f x, V.int (c x))
theorem rep_val {κ : Type} [DecidableEq κ] {f : α → κ} (hf : ∀ a b, f a = f b → a = b) (c : α → Int) (x : α) : ∀ ks : List α, valV (rep f ks c) (f x) = if x ∈ ks then some (.int (c x)) else none
  | [] => rfl
  | y :: ks => by
    unfold rep
    rw [List.map_cons]
    by_cases e : y = x
    · subst e
      rw [valV_pos (p := (f y, V.int (c y))) rfl]
      simp
    · rw [valV_neg (p := (f y, V.int (c y))) (fun q => e (hf _ _ q))]
      have ih := rep_val hf c x ks
      unfold rep at ih
      rw [ih]
      have : (x ∈ y :: ks) ↔ x ∈ ks := ⟨fun m => (List.mem_cons.mp m).elim (fun q => absurd q.symm e) id, List.mem_cons_of_mem _⟩
      by_cases q : x ∈ ks
      · rw [if_pos q, if_pos (this.mpr q)]
      · rw [if_neg q, if_neg (fun z => q (this.mp z))]
theorem rep_put {κ : Type} [DecidableEq κ] {f : α → κ} (hf : ∀ a b, f a = f b → a = b) (c : α → Int) (x : α) (n : Int) (ks : List α) : putK (rep f ks c) (f x) (.int n) = rep f (kadd ks x) (fup c x n) := by
  have ha : ((rep f ks c).any fun kv => decide (kv.1 = f x)) = decide (x ∈ ks) := by
    rw [valV_any, rep_val hf]
    by_cases q : x ∈ ks <;> simp [q]
  unfold putK
  rw [ha]
  unfold kadd
  by_cases q : x ∈ ks
  · rw [if_pos (decide_eq_true q), if_pos q]
    unfold rep
    rw [List.map_map]
    refine List.map_congr_left fun y _ => ?_
    show (if f y = f x then (f y, V.int n) else (f y, V.int (c y))) = (f y, V.int (fup c x n y))
    unfold fup
    by_cases e : y = x
    · rw [if_pos (by rw [e]), if_pos e]
    · rw [if_neg (fun z => e (hf _ _ z)), if_neg e]
  · rw [if_neg (by simp [q]), if_neg q]
    unfold rep
    rw [List.map_append]
    congr 1
    · refine List.map_congr_left fun y hy => ?_
      unfold fup
      rw [if_neg (fun e : y = x => q (e ▸ hy))]
    · show [(f x, V.int n)] = [(f x, V.int (fup c x n x))]
      unfold fup
      rw [if_pos rfl]
theorem rep_len {κ : Type} (f : α → κ) (ks : List α) (c : α → Int) : (rep f ks c).length = ks.length := by unfold rep; simp
/-- the counts of a list -/
theorem rep_count {κ : Type} [DecidableEq κ] {f : α → κ} (hf : ∀ a b, f a = f b → a = b) (l : List α) (x : α) : putK (rep f (dist l) fun y => cnt y l) (f x) (.int (cnt x l + 1)) = rep f (dist (l ++ [x])) fun y => cnt y (l ++ [x]) := by
  rw [rep_put hf, dist_snoc]
  congr 1
  funext y
  unfold fup
  rw [cnt_app, cnt_cons]
  by_cases e : y = x
  · subst e
    rw [if_pos rfl, if_pos rfl]
    unfold cnt
    simp
  · rw [if_neg e, if_neg (fun q : x = y => e q.symm)]
    unfold cnt
    simp
/-! ### what is over -/
def spr (u : α → Int) : List α → Int
  | [] => 0
  | x :: r => spr u r + (if u x ≤ cnt x r then 1 else 0)
theorem spr_nn (u : α → Int) : ∀ r : List α, 0 ≤ spr u r ∧ spr u r ≤ r.length
  | [] => by simp [spr]
  | x :: r => by
    have := spr_nn u r
    unfold spr
    split <;> simp <;> omega
theorem sum_change {g g' : α → Int} {x : α} : ∀ {ks : List α}, ks.Nodup → (∀ y, y ≠ x → g' y = g y) → (ks.map g').sum = (ks.map g).sum + (if x ∈ ks then g' x - g x else 0)
  | [], _, _ => by simp
  | y :: ks, hn, h => by
    have hn' := List.nodup_cons.mp hn
    have ih := sum_change (g := g) (g' := g') (x := x) hn'.2 h
    rw [List.map_cons, List.map_cons, List.sum_cons, List.sum_cons, ih]
    by_cases e : y = x
    · subst e
      rw [if_neg hn'.1, if_pos List.mem_cons_self]
      omega
    · rw [h y e]
      have : (x ∈ y :: ks) ↔ x ∈ ks := ⟨fun m => (List.mem_cons.mp m).elim (fun q => absurd q.symm e) id, List.mem_cons_of_mem _⟩
      by_cases q : x ∈ ks
      · rw [if_pos q, if_pos (this.mpr q)]; omega
      · rw [if_neg q, if_neg (fun z => q (this.mp z))]; omega
theorem spr_sum {u : α → Int} (hu : ∀ x, 0 ≤ u x) : ∀ l : List α, ((dist l).map fun x => max 0 (cnt x l - u x)).sum = spr u l.reverse := snoc_ind rfl (fun l x ih => by
  rw [List.reverse_append, dist_snoc]
  show _ = spr u (x :: l.reverse)
  unfold spr
  rw [← ih, cnt_rev]
  have hc : ∀ y, y ≠ x → max 0 (cnt y (l ++ [x]) - u y) = max 0 (cnt y l - u y) := fun y hy => by
    rw [cnt_app, cnt_cons, if_neg (fun q : x = y => hy q.symm)]
    unfold cnt
    simp
  have hx : cnt x (l ++ [x]) = cnt x l + 1 := by rw [cnt_app, cnt_cons, if_pos rfl]; unfold cnt; simp
  have h0 := hu x
  have h1 := cnt_nn x l
  unfold kadd
  by_cases q : x ∈ dist l
  · rw [if_pos q, sum_change (dist_nodup l) hc, if_pos q, hx]
    split <;> omega
  · rw [if_neg q, List.map_append, List.sum_append, sum_change (dist_nodup l) hc, if_neg q]
    have hz : cnt x l = 0 := cnt_zero.mpr (fun m => q ((dist_mem l).mpr m))
    simp only [List.map_cons, List.map_nil, List.sum_cons, List.sum_nil, hx, hz]
    split <;> omega)
/-- with more keys -/
theorem spr_sumK {u : α → Int} (hu : ∀ x, 0 ≤ u x) {ks l : List α} (hn : ks.Nodup) (hm : ∀ x ∈ l, x ∈ ks) : (ks.map fun x => max 0 (cnt x l - u x)).sum = spr u l.reverse := by
  have hu' := hu
  induction l using snoc_ind with
  | h0 =>
    have : ∀ ks : List α, (ks.map fun x => max 0 (cnt x [] - u x)).sum = 0 := fun ks => by
      induction ks with
      | nil => rfl
      | cons y ks ih =>
        rw [List.map_cons, List.sum_cons, ih]
        have := hu y
        unfold cnt
        simp
        omega
    rw [this]
    rfl
  | hs l x ih =>
    have ih := ih (fun y hy => hm y (List.mem_append_left _ hy))
    rw [List.reverse_append]
    show _ = spr u (x :: l.reverse)
    unfold spr
    rw [← ih, cnt_rev]
    have hc : ∀ y, y ≠ x → max 0 (cnt y (l ++ [x]) - u y) = max 0 (cnt y l - u y) := fun y hy => by
      rw [cnt_app, cnt_cons, if_neg (fun q : x = y => hy q.symm)]
      unfold cnt
      simp
    have hx : cnt x (l ++ [x]) = cnt x l + 1 := by rw [cnt_app, cnt_cons, if_pos rfl]; unfold cnt; simp
    have h0 := hu x
    have h1 := cnt_nn x l
    rw [sum_change hn hc, if_pos (hm x (by simp)), hx]
    split <;> omega
/-! ### what stands -/
def str (g : List α) : List α → Nat
  | [] => 0
  | x :: r => str g r + (if g[str g r]? = some x then 1 else 0)
theorem str_le (g : List α) : ∀ r : List α, str g r ≤ g.length
  | [] => by simp [str]
  | x :: r => by
    have := str_le g r
    unfold str
    split
    · next h =>
      have := (List.getElem?_eq_some_iff.mp h).1
      omega
    · omega
theorem str_le2 (g : List α) : ∀ r : List α, str g r ≤ r.length
  | [] => by simp [str]
  | x :: r => by
    have := str_le2 g r
    unfold str
    rw [List.length_cons]
    split <;> omega
/-- the first that stand are a part of the pile, in its sequence -/
theorem str_sub (g : List α) : ∀ r : List α, List.Sublist (g.take (str g r)) r.reverse
  | [] => by simp [str]
  | x :: r => by
    have ih := str_sub g r
    unfold str
    rw [List.reverse_cons]
    split
    · next h =>
      rw [List.take_add_one, h]
      exact List.Sublist.append ih (List.Sublist.refl _)
    · exact List.Sublist.trans (by simpa using ih) (List.sublist_append_left _ _)
/-! ### the number of instructions -/
def need (u : α → Int) (g : List α) (r : List α) (t : Nat) : Int := (t : Int) + 2 * spr u (r.drop t) + (g.length : Int) - (str g (r.drop t) : Int)
theorem need_nn (u : α → Int) (g r : List α) (t : Nat) : 0 ≤ need u g r t := by
  unfold need
  have := (spr_nn u (r.drop t)).1
  have := str_le g (r.drop t)
  omega
/-- all that cannot be written is there -/
def okT (fr : α → Bool) (g r : List α) (t : Nat) : Bool := g.all fun x => fr x || decide (x ∈ r.drop t)
theorem okT_mono {fr : α → Bool} {g r : List α} {t k : Nat} (h : okT fr g r k = true) (hk : t ≤ k) : okT fr g r t = true := by
  unfold okT at *
  rw [List.all_eq_true] at *
  intro x hx
  have := h x hx
  simp only [Bool.or_eq_true, decide_eq_true_eq] at this ⊢
  refine this.imp id fun m => ?_
  have e : r.drop k = (r.drop t).drop (k - t) := by rw [List.drop_drop]; congr 1; omega
  rw [e] at m
  exact List.mem_of_mem_drop m
/-- the best of the first ones -/
def bestP (u : α → Int) (g r : List α) : Nat → Int × Nat
  | 0 => (need u g r 0, 0)
  | t + 1 => if need u g r (t + 1) < (bestP u g r t).1 then (need u g r (t + 1), t + 1) else bestP u g r t
theorem bestP_le (u : α → Int) (g r : List α) : ∀ t, (bestP u g r t).2 ≤ t
  | 0 => Nat.le_refl _
  | t + 1 => by
    have := bestP_le u g r t
    unfold bestP
    split
    · exact Nat.le_refl _
    · omega
theorem bestP_eq (u : α → Int) (g r : List α) : ∀ t, (bestP u g r t).1 = need u g r (bestP u g r t).2
  | 0 => rfl
  | t + 1 => by
    have := bestP_eq u g r t
    unfold bestP
    split
    · rfl
    · exact this
theorem bestP_min (u : α → Int) (g r : List α) : ∀ t k, k ≤ t → (bestP u g r t).1 ≤ need u g r k
  | 0, k, h => by
    have : k = 0 := by omega
    subst this
    exact Int.le_refl _
  | t + 1, k, h => by
    have ih := bestP_min u g r t
    have hs : (bestP u g r (t + 1)).1 ≤ (bestP u g r t).1 ∧ (bestP u g r (t + 1)).1 ≤ need u g r (t + 1) := by
      show (if need u g r (t + 1) < (bestP u g r t).1 then (need u g r (t + 1), t + 1) else bestP u g r t).1 ≤ _ ∧ (if need u g r (t + 1) < (bestP u g r t).1 then (need u g r (t + 1), t + 1) else bestP u g r t).1 ≤ _
      split <;> simp <;> omega
    rcases Nat.lt_or_ge t k with h2 | h2
    · have : k = t + 1 := by omega
      subst this
      exact hs.2
    · exact Int.le_trans hs.1 (ih k h2)
/-- the last number of drops behind which all is there -/
def Last (fr : α → Bool) (g r : List α) (T : Nat) : Prop := T ≤ r.length ∧ okT fr g r T = true ∧ (T < r.length → okT fr g r (T + 1) = false)
theorem last_ex {fr : α → Bool} {g r : List α} (h : okT fr g r 0 = true) : ∃ T, Last fr g r T := by
  have : ∀ n, n ≤ r.length → okT fr g r n = true ∨ ∃ T, Last fr g r T := fun n => by
    induction n with
    | zero => intro _; exact .inl h
    | succ n ih =>
      intro hn
      rcases ih (by omega) with q | q
      · cases e : okT fr g r (n + 1) with
        | true => exact .inl rfl
        | false => exact .inr ⟨n, by omega, q, fun _ => e⟩
      · exact .inr q
  rcases this r.length (Nat.le_refl _) with q | q
  · exact ⟨r.length, Nat.le_refl _, q, fun h => absurd h (Nat.lt_irrefl _)⟩
  · exact q
theorem Last.iff {fr : α → Bool} {g r : List α} {T t : Nat} (h : Last fr g r T) (ht : t ≤ r.length) : okT fr g r t = decide (t ≤ T) := by
  by_cases q : t ≤ T
  · rw [decide_eq_true q]
    exact okT_mono h.2.1 q
  · rw [decide_eq_false q]
    cases e : okT fr g r t with
    | false => rfl
    | true =>
      have := okT_mono (t := T + 1) e (by omega)
      rw [h.2.2 (by omega)] at this
      cases this
/-- the least number, as a law finds it -/
def bestL (u : α → Int) (fr : α → Bool) (g r : List α) : Nat → Option Int
  | 0 => none
  | t + 1 => if okT fr g r t = true then (match bestL u fr g r t with | none => some (need u g r t) | some b => some (min b (need u g r t))) else bestL u fr g r t
theorem bestL_at {u : α → Int} {fr : α → Bool} {g r : List α} {T : Nat} (h : Last fr g r T) : ∀ t, t ≤ r.length → bestL u fr g r (t + 1) = some (bestP u g r (min t T)).1
  | 0, _ => by
    unfold bestL
    rw [if_pos (okT_mono h.2.1 (Nat.zero_le _))]
    have e : min 0 T = 0 := by omega
    rw [e]
    rfl
  | t + 1, ht => by
    have ih := bestL_at (u := u) h t (by omega)
    rw [bestL]
    rw [h.iff ht, ih]
    by_cases q : t + 1 ≤ T
    · rw [decide_eq_true q, if_pos rfl]
      have e1 : min t T = t := by omega
      have e2 : min (t + 1) T = t + 1 := by omega
      rw [e1, e2]
      show some (min (bestP u g r t).1 (need u g r (t + 1))) = some (bestP u g r (t + 1)).1
      congr 1
      show _ = (if need u g r (t + 1) < (bestP u g r t).1 then (need u g r (t + 1), t + 1) else bestP u g r t).1
      split <;> first | (dsimp only; omega) | omega
    · rw [decide_eq_false q, if_neg (by simp)]
      have e1 : min (t + 1) T = min t T := by omega
      rw [e1]
theorem bestL_no {u : α → Int} {fr : α → Bool} {g r : List α} (h : okT fr g r 0 = false) : ∀ t, bestL u fr g r t = none
  | 0 => rfl
  | t + 1 => by
    rw [bestL]
    have : okT fr g r t = false := by
      cases e : okT fr g r t with
      | false => rfl
      | true => rw [okT_mono e (Nat.zero_le _)] at h; cases h
    rw [this, if_neg (by simp)]
    exact bestL_no h t
/-- what a plan has -/
def due (u : α → Int) (fr : α → Bool) (g r : List α) : Option Int := bestL u fr g r (r.length + 1)
/-! ### 0 exactly for the same pile -/
theorem len_of_counts : ∀ {p g : List α}, (∀ x, cnt x p ≤ cnt x g) → p.length ≤ g.length
  | [], g, _ => Nat.zero_le _
  | x :: p, g, h => by
    have hx : x ∈ g := by
      have := h x
      rw [cnt_cons, if_pos rfl] at this
      have := cnt_nn x p
      exact cnt_pos.mp (by omega)
    have ih := len_of_counts (p := p) (g := g.erase x) (fun y => by
      have := h y
      rw [cnt_cons] at this
      unfold cnt at *
      rw [List.count_erase]
      by_cases e : x = y
      · subst e
        rw [if_pos rfl] at this
        rw [if_pos (beq_self_eq_true _)]
        omega
      · rw [if_neg e] at this
        rw [if_neg (fun q => e (eq_of_beq q))]
        omega)
    rw [List.length_erase_of_mem hx] at ih
    have := List.length_pos_of_mem hx
    rw [List.length_cons]
    omega
theorem spr_zero {u : α → Int} : ∀ {r : List α}, spr u r = 0 → ∀ x, x ∈ r → cnt x r ≤ u x
  | [], _, x, hx => by simp at hx
  | y :: r, h, x, hx => by
    unfold spr at h
    have h0 := (spr_nn u r).1
    have hy : ¬ u y ≤ cnt y r := fun q => by rw [if_pos q] at h; omega
    rw [if_neg hy] at h
    have ih := spr_zero (u := u) (r := r) (by omega)
    rw [cnt_cons]
    by_cases e : y = x
    · subst e
      rw [if_pos rfl]
      omega
    · rw [if_neg e]
      have hxr : x ∈ r := by
        rcases List.mem_cons.mp hx with q | q
        · exact absurd q.symm e
        · exact q
      have := ih x hxr
      omega
theorem need_zero {g p : List α} {t : Nat} (h : need (fun x => cnt x g) g p.reverse t = 0) : p = g := by
  unfold need at h
  have h1 := (spr_nn (fun x => cnt x g) (p.reverse.drop t)).1
  have h2 := str_le g (p.reverse.drop t)
  have ht : t = 0 := by omega
  subst ht
  rw [List.drop_zero] at *
  have hs : spr (fun x => cnt x g) p.reverse = 0 := by omega
  have hl : str g p.reverse = g.length := by omega
  have sub := str_sub g p.reverse
  rw [hl, List.take_length, List.reverse_reverse] at sub
  have hc : ∀ x, cnt x p ≤ cnt x g := fun x => by
    by_cases q : x ∈ p
    · have := spr_zero hs x (List.mem_reverse.mpr q)
      rwa [cnt_rev] at this
    · have := cnt_zero.mpr q
      have := cnt_nn x g
      omega
  exact (sub.eq_of_length_le (len_of_counts hc)).symm
theorem str_self (g : List α) : ∀ k, k ≤ g.length → str g (g.take k).reverse = k
  | 0, _ => by simp [str]
  | k + 1, h => by
    have ih := str_self g k (by omega)
    rw [List.take_add_one, List.getElem?_eq_getElem (by omega : k < g.length), Option.toList, List.reverse_append]
    show str g (g[k] :: (g.take k).reverse) = k + 1
    unfold str
    rw [ih, if_pos (List.getElem?_eq_getElem (by omega))]
theorem spr_self (g : List α) : ∀ r : List α, (∀ x, cnt x r ≤ cnt x g) → spr (fun x => cnt x g) r = 0
  | [], _ => rfl
  | y :: r, h => by
    unfold spr
    have h1 := h y
    rw [cnt_cons, if_pos rfl] at h1
    rw [spr_self g r (fun x => by have := h x; rw [cnt_cons] at this; split at this <;> omega), if_neg (by omega)]
    rfl
theorem need_self (g : List α) : need (fun x => cnt x g) g g.reverse 0 = 0 := by
  unfold need
  rw [List.drop_zero, spr_self g g.reverse (fun x => by rw [cnt_rev]; exact Int.le_refl _)]
  have := str_self g g.length (Nat.le_refl _)
  rw [List.take_length] at this
  rw [this]
  simp
theorem due_zero {fr : α → Bool} {g p : List α} : due (fun x => cnt x g) fr g p.reverse = some 0 ↔ p = g := by
  unfold due
  refine ⟨fun h => ?_, fun h => ?_⟩
  · cases e : okT fr g p.reverse 0 with
    | false => rw [bestL_no e] at h; cases h
    | true =>
      obtain ⟨T, hT⟩ := last_ex e
      rw [bestL_at hT _ (Nat.le_refl _)] at h
      have h2 := Option.some.inj h
      rw [bestP_eq] at h2
      exact need_zero h2
  · subst h
    have ok : okT fr p p.reverse 0 = true := by
      unfold okT
      rw [List.all_eq_true]
      intro x hx
      simp [hx]
    obtain ⟨T, hT⟩ := last_ex ok
    rw [bestL_at hT _ (Nat.le_refl _)]
    congr 1
    have h1 := bestP_min (fun x => cnt x p) p p.reverse (min p.reverse.length T) 0 (Nat.zero_le _)
    rw [need_self] at h1
    rw [bestP_eq] at h1 ⊢
    have := need_nn (fun x => cnt x p) p p.reverse (bestP (fun x => cnt x p) p p.reverse (min p.reverse.length T)).2
    omega
end
/-! ### other names for the labels -/
section
variable {α β : Type} [DecidableEq α] [DecidableEq β] {f : α → β}
theorem cnt_map (hf : ∀ a b, f a = f b → a = b) (x : α) : ∀ l : List α, cnt (f x) (l.map f) = cnt x l
  | [] => rfl
  | y :: l => by
    rw [List.map_cons, cnt_cons, cnt_cons, cnt_map hf x l]
    by_cases e : y = x
    · rw [if_pos (by rw [e]), if_pos e]
    · rw [if_neg (fun q => e (hf _ _ q)), if_neg e]
theorem spr_mapL (hf : ∀ a b, f a = f b → a = b) {u : α → Int} {u' : β → Int} (hu : ∀ x, u' (f x) = u x) : ∀ r : List α, spr u' (r.map f) = spr u r
  | [] => rfl
  | x :: r => by
    rw [List.map_cons]
    unfold spr
    rw [spr_mapL hf hu r, cnt_map hf, hu]
theorem str_mapL (hf : ∀ a b, f a = f b → a = b) (g : List α) : ∀ r : List α, str (g.map f) (r.map f) = str g r
  | [] => rfl
  | x :: r => by
    rw [List.map_cons]
    unfold str
    rw [str_mapL hf g r, List.getElem?_map]
    cases e : g[str g r]? with
    | none => rfl
    | some y =>
      show _ + (if some (f y) = some (f x) then 1 else 0) = _ + (if some y = some x then 1 else 0)
      by_cases q : y = x
      · rw [if_pos (by rw [q]), if_pos (by rw [q])]
      · rw [if_neg (fun z => q (hf _ _ (Option.some.inj z))), if_neg (fun z => q (Option.some.inj z))]
theorem need_mapL (hf : ∀ a b, f a = f b → a = b) {u : α → Int} {u' : β → Int} (hu : ∀ x, u' (f x) = u x) (g r : List α) (t : Nat) : need u' (g.map f) (r.map f) t = need u g r t := by
  unfold need
  rw [← List.map_drop, spr_mapL hf hu, str_mapL hf, List.length_map]
theorem okT_mapL (hf : ∀ a b, f a = f b → a = b) {fr : α → Bool} {fr' : β → Bool} (h : ∀ x, fr' (f x) = fr x) (g r : List α) (t : Nat) : okT fr' (g.map f) (r.map f) t = okT fr g r t := by
  unfold okT
  rw [List.all_map, ← List.map_drop]
  congr 1
  funext x
  show (fr' (f x) || decide (f x ∈ (r.drop t).map f)) = _
  rw [h]
  congr 1
  refine decide_eq_decide.mpr ?_
  rw [List.mem_map]
  exact ⟨fun ⟨y, hy, e⟩ => by rw [← hf _ _ e]; exact hy, fun m => ⟨x, m, rfl⟩⟩
theorem bestL_mapL (hf : ∀ a b, f a = f b → a = b) {u : α → Int} {u' : β → Int} (hu : ∀ x, u' (f x) = u x) {fr : α → Bool} {fr' : β → Bool} (h : ∀ x, fr' (f x) = fr x) (g r : List α) : ∀ t, bestL u' fr' (g.map f) (r.map f) t = bestL u fr g r t
  | 0 => rfl
  | t + 1 => by
    rw [bestL, bestL, okT_mapL hf h, bestL_mapL hf hu h g r t, need_mapL hf hu]
theorem due_mapL (hf : ∀ a b, f a = f b → a = b) {fr : α → Bool} {fr' : β → Bool} (h : ∀ x, fr' (f x) = fr x) (g p : List α) : due (fun x => cnt x (g.map f)) fr' (g.map f) (p.map f).reverse = due (fun x => cnt x g) fr g p.reverse := by
  unfold due
  rw [← List.map_reverse, bestL_mapL hf (u := fun x => cnt x g) (fun x => cnt_map hf x g) h, List.length_map]
end
end K15

set_option Elab.async false
set_option linter.all false
set_option maxRecDepth 100000
set_option maxHeartbeats 2000000
/-! labels as data; dicts whose keys are labels, also while they are walked -/
namespace Lw
open PySem PySem.Spec PyProof.Rows L2 K15
def keyD : Key → PyData
  | .inl i => .int i
  | .inr s => .str s
/-- a label: ("in", anything) or ("lit", anything) -/
structure Lab where
  free : Bool
  b : Key
deriving DecidableEq
def tagS (f : Bool) : Str := if f = true then sLit else sIn
theorem tag_inj : ∀ {a b : Bool}, tagS a = tagS b → a = b
  | true, true, _ => rfl
  | false, false, _ => rfl
  | true, false, h => absurd h (show ¬ sLit = sIn by decide +kernel)
  | false, true, h => absurd h (show ¬ sIn = sLit by decide +kernel)
def Lab.d (x : Lab) : PyData := .tuple [.str (tagS x.free), keyD x.b]
def Lab.key (x : Lab) : List Key := [.inr (tagS x.free), x.b]
theorem Lab.key_inj (x y : Lab) (h : x.key = y.key) : x = y := by
  obtain ⟨a, b⟩ := x
  obtain ⟨c, d⟩ := y
  unfold Lab.key at h
  injection h with h1 h2
  injection h2 with h2 _
  injection h1 with h1
  have := tag_inj h1
  simp only at this h2
  rw [this, h2]
theorem keyD_inj {a b : Key} (h : keyD a = keyD b) : a = b := by
  cases a <;> cases b <;> unfold keyD at h <;> first | (injection h with h; rw [h]) | cases h
theorem Lab.d_inj {x y : Lab} (h : x.d = y.d) : x = y := by
  unfold Lab.d at h
  injection h with h
  injection h with h1 h2
  injection h2 with h2 _
  injection h1 with h1
  have := tag_inj h1
  have := keyD_inj h2
  cases x
  cases y
  simp only at *
  subst_vars
  rfl
theorem key_v {K : Fr} {B : Hp} {v : V} {k : Key} (h : Dt K B v (keyD k)) : v = kV k := by
  cases k with
  | inl i => cases (show Dt K B v (.int i) from h); rfl
  | inr s => cases (show Dt K B v (.str s) from h); rfl
theorem dt_key {K : Fr} {B : Hp} (k : Key) : Dt K B (kV k) (keyD k) := by
  cases k with
  | inl i => exact .int i
  | inr s => exact .str s
theorem lab_at {K : Fr} {B : Hp} {v : V} {x : Lab} (h : Dt K B v x.d) : ∃ a, v = .ref a ∧ B a = some (.tup (x.key.map kV)) := by
  cases (show Dt K B v (.tuple [.str (tagS x.free), keyD x.b]) from h) with
  | @tup a vs _ _ h0 h2 =>
    cases h2 with
    | cons g1 h2 =>
      cases h2 with
      | cons g2 h2 =>
        cases h2
        cases g1
        have := key_v g2
        subst this
        exact ⟨a, rfl, h0 (Trk.str _ _)⟩
theorem dt_lab {K : Fr} {B : Hp} {a : Addr} (x : Lab) (h : B a = some (.tup (x.key.map kV))) : Dt K B (.ref a) x.d :=
  .tup (xs := x.key.map kV) (SqT.of h) (fun _ => h) (.cons (.str _) (.cons (dt_key x.b) .nil))
/-- what a dict tells of a key -/
inductive Has : HO → PyData → Option V → Prop
  | t (kvs : List (List Key × V)) (x : Lab) : Has (.dT kvs) x.d (valV kvs x.key)
  | k (kvs : List (Key × V)) (k : Key) : Has (.dK kvs) (keyD k) (valV kvs k)
/-- owned, perhaps locked -/
def RdM (μ : AM) (l : Addr) (u : HO) : Prop := μ l = some (.o u) ∨ ∃ od, μ l = some (.o (.frz od u))
section
variable {K : Fr} {ρ : AS} {μ μ1 μ2 μ3 : AM} {ta tb td te tl ty tv tx : TE} {R R1 R2 : AV} {P : Po} {d e : PyData} {ds es : List PyData} {l : Addr} {u : HO}
theorem rd_of {F B H : Hp} (w : Wd K F B μ H) (h : RdM μ l u) : Rd H l u := by
  rcases h with h | ⟨od, h⟩
  · exact .inl (own_o w h)
  · exact .inr ⟨od, own_o w h⟩
theorem dget_of {B H : Hp} {v : V} {r : Option V} (sb : Same B H) (hr : Rd H l u) (hh : Has u d r) (hv : Dt K B v d) : DGet H l v r := by
  cases hh with
  | t kvs x =>
    obtain ⟨a, rfl, ha⟩ := lab_at hv
    exact .inr ⟨kvs, x.key, a, hr, rfl, sb _ _ ha, rfl⟩
  | k kvs k =>
    have := key_v hv
    subst this
    exact .inl ⟨kvs, k, hr, rfl, rfl⟩
/-- d[x], an int -/
theorem ew_dgetH {r : Int} (hd : EvW K td ρ μ (.r l) μ1) (hy : EvW K ty ρ μ1 (.d d) μ2) (hl : RdM μ2 l u) (hh : Has u d (some (.int r))) : EvW K (tDGet td ty) ρ μ (.i r) μ2 := fun F B H σ w sl Q q =>
  hd F B H σ w sl _ fun x B1 H1 e1 w1 h1 => hy F B1 H1 σ w1 (sl.mono e1) _ fun y B2 H2 e2 w2 h2 => by
    have ex : x = .ref l := h1
    subst ex
    exact ⟨l, .int r, rfl, dget_of w2.1 (rd_of w2 hl) hh h2, q _ B2 H2 (e1.trans e2) w2 (.int r)⟩
theorem isD_of {F B H : Hp} {r : Option V} (w : Wd K F B μ H) (h : RdM μ l u) (hh : Has u d r) : IsD H l := by
  have := rd_of w h
  cases hh with
  | t kvs x => exact .inr ⟨kvs, this⟩
  | k kvs x => exact .inl ⟨kvs, this⟩
/-- d.get(x, i) -/
theorem ew_dget2H {i r : Int} {o : Option V} (hd : EvW K td ρ μ (.r l) μ) (hl : RdM μ l u) (hy : EvW K ty ρ μ (.d d) μ) (hx : EvW K tx ρ μ (.i i) μ) (hh : Has u d o) (hr : o.getD (.int i) = .int r) : EvW K (tDGet2 td ty tx) ρ μ (.i r) μ := fun F B H σ w sl Q q =>
  hd F B H σ w sl _ fun v B1 H1 e1 w1 hv => by
    have ev : v = .ref l := hv
    subst ev
    refine ⟨l, rfl, isD_of w1 hl hh, hy F B1 H1 σ w1 (sl.mono e1) _ fun y B2 H2 e2 w2 hy2 => hx F B2 H2 σ w2 (sl.mono (e1.trans e2)) _ fun z B3 H3 e3 w3 hz => ?_⟩
    have ez := h_i hz
    subst ez
    refine ⟨o, dget_of w3.1 (rd_of w3 hl) hh (dp_mono e3 hy2), ?_⟩
    rw [hr]
    exact q _ B3 H3 ((e1.trans e2).trans e3) w3 (.int r)
/-- x in d -/
theorem et_dinH {o : Option V} (hy : EvW K ty ρ μ (.d d) μ1) (hd : EvW K td ρ μ1 (.r l) μ2) (hl : RdM μ2 l u) (hh : Has u d o) : EvT K (tB (tDIn ty td)) ρ μ o.isSome μ2 := fun F B H σ w sl Q q =>
  hy F B H σ w sl _ fun y B1 H1 e1 w1 h1 => hd F B1 H1 σ w1 (sl.mono e1) _ fun x B2 H2 e2 w2 h2 => by
    have ex : x = .ref l := h2
    subst ex
    exact ⟨l, o, rfl, dget_of w2.1 (rd_of w2 hl) hh (dp_mono e2 h1), _, rfl, q B2 H2 (e1.trans e2) w2⟩
theorem ew_dinH {o : Option V} (hy : EvW K ty ρ μ (.d d) μ1) (hd : EvW K td ρ μ1 (.r l) μ2) (hl : RdM μ2 l u) (hh : Has u d o) : EvW K (tDIn ty td) ρ μ (.b o.isSome) μ2 := fun F B H σ w sl Q q =>
  hy F B H σ w sl _ fun y B1 H1 e1 w1 h1 => hd F B1 H1 σ w1 (sl.mono e1) _ fun x B2 H2 e2 w2 h2 => by
    have ex : x = .ref l := h2
    subst ex
    exact ⟨l, o, rfl, dget_of w2.1 (rd_of w2 hl) hh (dp_mono e2 h1), q _ B2 H2 (e1.trans e2) w2 (.bl _)⟩
theorem et_dnotinH {o : Option V} (hy : EvW K ty ρ μ (.d d) μ1) (hd : EvW K td ρ μ1 (.r l) μ2) (hl : RdM μ2 l u) (hh : Has u d o) : EvT K (tB (tDNotIn ty td)) ρ μ (!o.isSome) μ2 := fun F B H σ w sl Q q =>
  hy F B H σ w sl _ fun y B1 H1 e1 w1 h1 => hd F B1 H1 σ w1 (sl.mono e1) _ fun x B2 H2 e2 w2 h2 => by
    have ex : x = .ref l := h2
    subst ex
    exact ⟨l, o, rfl, dget_of w2.1 (rd_of w2 hl) hh (dp_mono e2 h1), _, rfl, q B2 H2 (e1.trans e2) w2⟩
/-- what a dict is with a value put -/
inductive Put : HO → PyData → V → HO → Prop
  | t (kvs : List (List Key × V)) (x : Lab) (v : V) : kvs.length < 100000 → Put (.dT kvs) x.d v (.dT (putK kvs x.key v))
  | k (kvs : List (Key × V)) (k : Key) (v : V) : kvs.length < 100000 → Put (.dK kvs) (keyD k) v (.dK (putK kvs k v))
/-- d[x] = an int -/
theorem s_dputH {r : Int} {u' : HO} (hv : EvW K tv ρ μ (.i r) μ1) (hd : EvW K td ρ μ1 (.r l) μ2) (hy : EvW K ty ρ μ2 (.d d) μ3) (hl : μ3 l = some (.o u)) (hp : Put u d (.int r) u') (p : P.nx ρ (updM μ3 l (.o u'))) : StW K (sDPut td ty tv) ρ μ P := fun F D B H σ w sl re =>
  hv F B H σ w sl _ fun v B1 H1 e1 w1 h1 => hd F B1 H1 σ w1 (sl.mono e1) _ fun x B2 H2 e2 w2 h2 => hy F B2 H2 σ w2 (sl.mono (e1.trans e2)) _ fun y B3 H3 e3 w3 h3 => by
    have ex : x = .ref l := h2
    have ev := h_i h1
    subst ex ev
    have hu := own_o w3 hl
    have nt : NoTup u' := by cases hp <;> trivial
    have fin := re.nx _ _ B3 _ σ p ((e1.trans e2).trans e3) (w3.set (ao := .o u') hl ⟨rfl, nt⟩) (sl.mono ((e1.trans e2).trans e3))
    cases hp with
    | t kvs x _ hz =>
      obtain ⟨a, rfl, ha⟩ := lab_at h3
      exact ⟨l, _, rfl, .t hu (w3.1 _ _ ha) (Nat.lt_of_lt_of_le hz (by decide : 100000 ≤ sizeLine)), fin⟩
    | k kvs k _ hz =>
      have := key_v h3
      subst this
      exact ⟨l, _, rfl, .k hu (Nat.lt_of_lt_of_le hz (by decide : 100000 ≤ sizeLine)), fin⟩
/-! ### locked while it is walked -/
theorem ew_lockO (hl : μ l = some (.o u)) (mu : Mut (some u)) (h : ∀ od, EvW K te ρ (updM μ l (.o (.frz od u))) R (updM μ l (.o (.frz od u)))) : EvW K (tLockE te) ρ μ R μ := fun F B H σ w sl Q q => by
  have hu := own_o w hl
  refine ⟨l, u, hu, mu, fun od => ?_⟩
  have w1 : Wd K F B (updM μ l (.o (.frz od u))) (upd H l (.frz od u)) := w.set (ao := .o (.frz od u)) hl ⟨rfl, trivial⟩
  refine h od F B _ σ w1 sl _ fun v B2 H2 e2 w2 hv => ⟨own_o w2 updM_same, ?_⟩
  have nt : NoTup u := by cases u <;> first | trivial | exact mu.elim
  have w3 := w2.set (ao := .o u) updM_same ⟨rfl, nt⟩
  rw [updM_updM, updM_self hl] at w3
  exact q v B2 _ e2 w3 hv
theorem s_lockO {s : TS} (hl : μ l = some (.o u)) (mu : Mut (some u)) (h : ∀ od, StW K s ρ (updM μ l (.o (.frz od u))) { nx := fun ρ' μ' => μ' l = some (.o (.frz od u)) ∧ P.nx ρ' (updM μ' l (.o u)), rt := fun R μ' => μ' l = some (.o (.frz od u)) ∧ P.rt R (updM μ' l (.o u)), bk := fun ρ' μ' => μ' l = some (.o (.frz od u)) ∧ P.bk ρ' (updM μ' l (.o u)), ct := fun ρ' μ' => μ' l = some (.o (.frz od u)) ∧ P.ct ρ' (updM μ' l (.o u)) }) : StW K (tLock s) ρ μ P := fun F D B H σ w sl re => by
  have hu := own_o w hl
  refine ⟨l, u, hu, mu, fun od => ?_⟩
  have w1 : Wd K F B (updM μ l (.o (.frz od u))) (upd H l (.frz od u)) := w.set (ao := .o (.frz od u)) hl ⟨rfl, trivial⟩
  have nt : NoTup u := by cases u <;> first | trivial | exact mu.elim
  refine h od F _ B _ σ w1 sl ⟨?_, ?_, ?_, ?_⟩
  · rintro ρ' μ' B2 H2 σ2 ⟨g1, g2⟩ e2 w2 sl2
    exact ⟨own_o w2 g1, re.nx _ _ B2 _ σ2 g2 e2 (w2.set (ao := .o u) g1 ⟨rfl, nt⟩) sl2⟩
  · rintro R μ' v B2 H2 ⟨g1, g2⟩ e2 w2 hv
    exact ⟨own_o w2 g1, re.rt _ _ v B2 _ g2 e2 (w2.set (ao := .o u) g1 ⟨rfl, nt⟩) hv⟩
  · rintro ρ' μ' B2 H2 σ2 ⟨g1, g2⟩ e2 w2 sl2
    exact ⟨own_o w2 g1, re.bk _ _ B2 _ σ2 g2 e2 (w2.set (ao := .o u) g1 ⟨rfl, nt⟩) sl2⟩
  · rintro ρ' μ' B2 H2 σ2 ⟨g1, g2⟩ e2 w2 sl2
    exact ⟨own_o w2 g1, re.ct _ _ B2 _ σ2 g2 e2 (w2.set (ao := .o u) g1 ⟨rfl, nt⟩) sl2⟩
/-! ### walks that ask what is owned -/
structure JOkM (K : Fr) (J : It) (xs : List AV) (B : Hp) (M : AM → Prop) : Prop where
  go : ∀ F B2 H μ i, Same B B2 → Wd K F B2 μ H → M μ → i < xs.length → J.go i H
  stop : ∀ F B2 H μ, Same B B2 → Wd K F B2 μ H → M μ → J.stop xs.length H
  yld : ∀ F B2 H μ i a x H', Same B B2 → Wd K F B2 μ H → M μ → xs[i]? = some a → J.yld i H x H' → ∃ B3, Same B2 B3 ∧ Wd K F B3 μ H' ∧ a.h K x B3
def ItWM (K : Fr) (wi : TI) (ρ : AS) (μ : AM) (xs : List AV) (μ1 : AM) (M : AM → Prop) : Prop := ∀ F B H σ, Wd K F B μ H → Sl K B σ ρ → ∀ Rk : It → Hp → Prop, (∀ J B2 H2, Same B B2 → Wd K F B2 μ1 H2 → JOkM K J xs B2 M → Rk J H2) → wi σ H Rk
theorem ItW.m {wi : TI} {xs : List AV} {M : AM → Prop} (h : ItW K wi ρ μ xs μ1) : ItWM K wi ρ μ xs μ1 M := fun F B H σ w sl Rk q =>
  h F B H σ w sl Rk fun J B2 H2 e w2 j => q J B2 H2 e w2 ⟨fun F B3 H3 μ i e3 w3 _ hi => j.go B3 H3 i e3 w3.1 hi, fun F B3 H3 μ e3 w3 _ => j.stop B3 H3 e3 w3.1, fun F B3 H3 μ i a x H' e3 w3 _ => j.yld F B3 H3 μ i a x H' e3 w3⟩
theorem s_forM {g : TG} {s : TS} {wi : TI} {xs : List AV} {M : AM → Prop} (hi : ItWM K wi ρ μ xs μ1 M) (Iv : Nat → AS → AM → Prop) (h0 : Iv 0 ρ μ1) (hm : ∀ i ρ' μ', Iv i ρ' μ' → M μ')
    (hs : ∀ i a ρ' μ', xs[i]? = some a → Iv i ρ' μ' → ∃ ρ2, GtW K g a ρ' ρ2 ∧ StW K s ρ2 μ' { P with nx := Iv (i + 1), ct := Iv (i + 1), bk := P.nx }) (hd : ∀ ρ' μ', Iv xs.length ρ' μ' → P.nx ρ' μ') : StW K (tFor wi g s) ρ μ P := fun F D B H σ w sl r =>
  hi F B H σ w sl _ fun J B1 H1 e1 w1 j => by
    refine ⟨fun i m σ H => m = xs.length - i ∧ i ≤ xs.length ∧ ∃ ρ' μ' B', Iv i ρ' μ' ∧ Same B1 B' ∧ Wd K F B' μ' H ∧ Sl K B' σ ρ', ⟨xs.length, by simp, Nat.zero_le _, ρ, μ1, B1, h0, Same.refl _, w1, sl.mono e1⟩, ?_⟩
    rintro i m σ H ⟨rfl, hil, ρ', μ', B', iv, e, w, sl'⟩
    by_cases hlt : i < xs.length
    · refine .inr ⟨j.go F B' H μ' i e w (hm _ _ _ iv) hlt, fun σ' H' => ∃ ρ' μ' B', Iv (i + 1) ρ' μ' ∧ Same B1 B' ∧ Wd K F B' μ' H' ∧ Sl K B' σ' ρ', fun σ' H' q => ⟨xs.length - (i + 1), by omega, rfl, hlt, q⟩, fun x H' y => ?_⟩
      obtain ⟨B3, e3, w3, hx⟩ := j.yld F B' H μ' i xs[i] x H' e w (hm _ _ _ iv) (by simp [hlt]) y
      obtain ⟨ρ2, hg, hst⟩ := hs i xs[i] ρ' μ' (by simp [hlt]) iv
      refine hg B3 H' σ x w3.1 hx (sl'.mono e3) _ fun σ2 sl2 => ?_
      refine hst F _ B3 H' σ2 w3 sl2 ⟨fun ρ3 μ3 B4 H4 σ4 p e4 w4 sl4 => ⟨ρ3, μ3, B4, p, (e.trans e3).trans e4, w4, sl4⟩, fun R μ v B4 H4 p e4 => r.rt R μ v B4 H4 p (((e1.trans e).trans e3).trans e4), fun ρ3 μ3 B4 H4 σ4 p e4 => r.nx ρ3 μ3 B4 H4 σ4 p (((e1.trans e).trans e3).trans e4), fun ρ3 μ3 B4 H4 σ4 p e4 w4 sl4 => ⟨ρ3, μ3, B4, p, (e.trans e3).trans e4, w4, sl4⟩⟩
    · have ei : i = xs.length := by omega
      subst ei
      exact .inl ⟨j.stop F B' H μ' e w (hm _ _ _ iv), r.nx ρ' μ' B' H σ (hd ρ' μ' iv) (e1.trans e) w sl'⟩
/-- [te for g in .. if tt], what is owned the same all the time -/
theorem ew_lcD {α : Type} {g : TG} {wi : TI} {tt : TT} {vs : List Nat} {M : AM → Prop} (l : List α) (f : α → AV) (b : α → Bool) (h : α → PyData) (hi : ItWM K wi ρ μ (l.map f) μ1 M) (hM : M μ1)
    (hs : ∀ x ∈ l, ∃ ρ2, GcW K g vs (f x) (wipeA ρ vs) ρ2 ∧ EvT K tt ρ2 μ1 (b x) μ1 ∧ (b x = true → EvW K te ρ2 μ1 (.d (h x)) μ1)) (hz : l.length ≤ 90000) : EvW K (tLc wi g tt te vs) ρ μ (.d (.list ((l.filter b).map h))) μ1 := fun F B H σ w sl Q q =>
  hi F B H σ w sl _ fun J B1 H1 e1 w1 j => fun Dl hD => by
    have hF0 : F Dl = none := by
      cases hF : F Dl with
      | none => rfl
      | some u => rw [(w1.2.2 Dl u hF).2.1] at hD; cases hD
    have hln : (l.map f).length = l.length := List.length_map _
    have hlen : ∀ i, (((l.take i).filter b).map h).length ≤ i := fun i => by
      rw [List.length_map]
      exact Nat.le_trans (List.length_filter_le _ _) (by rw [List.length_take]; omega)
    refine ⟨fun i m H => m = l.length - i ∧ i ≤ l.length ∧ ∃ B' ys, Same B1 B' ∧ Wd K (upd F Dl (.lst ys)) B' μ1 H ∧ DtAll K B' ys (((l.take i).filter b).map h), ⟨l.length, by simp, Nat.zero_le _, B1, [], Same.refl _, w1.newF hD, .nil⟩, ?_⟩
    rintro i m H ⟨rfl, hil, B', ys, e, w, hys⟩
    by_cases hlt : i < l.length
    · refine .inr ⟨j.go _ B' H μ1 i e w hM (by rw [hln]; exact hlt), fun H' => ∃ B' ys, Same B1 B' ∧ Wd K (upd F Dl (.lst ys)) B' μ1 H' ∧ DtAll K B' ys (((l.take (i + 1)).filter b).map h), fun H' q => ⟨l.length - (i + 1), by omega, rfl, hlt, q⟩, fun x H' y => ?_⟩
      have hx0 : l[i]? = some l[i] := List.getElem?_eq_getElem hlt
      obtain ⟨B3, e3, w3, hx⟩ := j.yld _ B' H μ1 i (f l[i]) x H' e w hM (by rw [List.getElem?_map, hx0]; rfl) y
      obtain ⟨ρ2, hg, ht, h1⟩ := hs l[i] (List.getElem_mem hlt)
      refine hg B3 H' σ x w3.1 hx ((sl.wipe vs).mono ((e1.trans e).trans e3)) _ fun σ2 hw sl2 => ⟨hw, ?_⟩
      refine ht _ B3 H' σ2 w3 sl2 _ fun B4 H4 e4 w4 => ?_
      have hac : ∀ c, b l[i] = c → ((l.take (i + 1)).filter b).map h = ((l.take i).filter b).map h ++ (if c = true then [h l[i]] else []) := fun c hc => by
        rw [List.take_add_one, hx0, List.filter_append, List.map_append]
        congr 1
        cases c <;> simp [hc]
      cases hb : b l[i] with
      | true =>
        show te σ2 H4 _
        refine h1 hb _ B4 H4 σ2 w4 (sl2.mono e4) _ fun v B5 H5 e5 w5 h5 => ⟨ys, (w5.2.2 Dl _ upd_same).2.1, ?_, B5, ys ++ [v], ((((e.trans e3).trans e4).trans e5)), ?_, ?_⟩
        · have l1 := dpa_length hys
          have l2 := hlen i
          exact Nat.lt_of_lt_of_le (by omega : ys.length < 100000) (by decide : 100000 ≤ sizeLine)
        · have := w5.setF (o := .lst (ys ++ [v])) upd_same
          rw [upd_upd] at this
          exact this
        · rw [hac true hb]
          exact dpa_app (dpa_mono ((e3.trans e4).trans e5) hys) (.cons h5 .nil)
      | false =>
        show ∃ B' ys, _
        rw [hac false hb]
        refine ⟨B4, ys, (e.trans e3).trans e4, w4, ?_⟩
        rw [if_neg (by simp), List.append_nil]
        exact dpa_mono (e3.trans e4) hys
    · have ei : i = l.length := by omega
      subst ei
      rw [List.take_length] at hys
      have stp := j.stop _ B' H μ1 e w hM
      rw [hln] at stp
      obtain ⟨w5, e5, e6⟩ := w.freezeF hF0
      exact .inl ⟨stp, q _ _ H ((e1.trans e).trans e5) w5 (.lst (SqL.of e6) (dpa_mono e5 hys))⟩
/-- for k in d, the keys ints and texts -/
theorem it_keysK {kvs : List (Key × V)} {od : Obj} (h : EvW K td ρ μ (.r l) μ) (hl : μ l = some (.o (.frz od (.dK kvs)))) : ItWM K (iKeys td) ρ μ (kvs.map fun kv => .d (keyD kv.1)) μ (fun μ' => μ' l = some (.o (.frz od (.dK kvs)))) := fun F B H σ w sl Rk q =>
  h F B H σ w sl _ fun v B2 H2 e w2 hv => by
    have ev : v = .ref l := hv
    subst ev
    refine ⟨l, od, rfl, .inl ⟨kvs, own_o w2 hl, q _ B2 H2 e w2 ⟨fun F B3 H3 μ i e3 w3 hm hi => ?_, fun F B3 H3 μ e3 w3 hm => ?_, fun F B3 H3 μ i a x H' e3 w3 hm ha y => ?_⟩⟩⟩
    · rw [List.length_map] at hi
      exact ⟨own_o w3 hm, hi⟩
    · rw [List.length_map]
      exact ⟨own_o w3 hm, Nat.le_refl _⟩
    · obtain ⟨rfl, k, v, hk, rfl⟩ := y
      rw [List.getElem?_map, hk] at ha
      have ea := (Option.some.inj ha).symm
      subst ea
      exact ⟨B3, Same.refl _, w3, dt_key k⟩
/-- for x, n in d.items(), the keys labels, the values ints -/
theorem it_itemsL {ks : List Lab} {c : Lab → Int} {od : Obj} (h : EvW K td ρ μ (.r l) μ) (hl : μ l = some (.o (.frz od (.dT (rep Lab.key ks c))))) : ItWM K (iItemsT td) ρ μ (ks.map fun x => .d (.tuple [x.d, .int (c x)])) μ (fun μ' => μ' l = some (.o (.frz od (.dT (rep Lab.key ks c))))) := fun F B H σ w sl Rk q =>
  h F B H σ w sl _ fun v B2 H2 e w2 hv => by
    have ev : v = .ref l := hv
    subst ev
    refine ⟨l, od, _, rfl, own_o w2 hl, q _ B2 H2 e w2 ⟨fun F B3 H3 μ i e3 w3 hm hi => ?_, fun F B3 H3 μ e3 w3 hm => ?_, fun F B3 H3 μ i a x H' e3 w3 hm ha y => ?_⟩⟩
    · rw [List.length_map] at hi
      exact ⟨own_o w3 hm, by rw [rep_len]; exact hi⟩
    · rw [List.length_map]
      exact ⟨own_o w3 hm, Nat.le_of_eq (rep_len _ _ _)⟩
    · obtain ⟨T, ky, z, qa, hk, rfl, hT, hq, rfl⟩ := y
      unfold rep at hk
      rw [List.getElem?_map] at hk ha
      cases hx : ks[i]? with
      | none => rw [hx] at hk; cases hk
      | some x =>
        rw [hx] at hk ha
        have ea := (Option.some.inj ha).symm
        subst ea
        have ek := Option.some.inj hk
        injection ek with ek ez
        subst ek ez
        obtain ⟨w4, e4, f4⟩ := w3.learn hq
        obtain ⟨w5, e5, f5⟩ := w4.new (o := .tup [.ref qa, .int (c x)]) hT
        exact ⟨_, e4.trans e5, w5, .tup (SqT.of f5) (fun qq => absurd qq Trk.noRef) (.cons (dp_mono e5 (dt_lab x f4)) (.cons (.int _) .nil))⟩
end
end Lw

set_option Elab.async false
set_option linter.all false
set_option maxRecDepth 100000
set_option maxHeartbeats 2000000
/-! labels compared; sums; pairs compared; joins -/
namespace Lw
open PySem PySem.Spec L2 PySem.W PySem.SeqAt K15
theorem dataLt_pair (a b c d : Int) : dataLt (.tuple [.int a, .int b]) (.tuple [.int c, .int d]) = (decide (a < c) || (decide (a = c) && decide (b < d))) := by
  have e : dataLt (.tuple [.int a, .int b]) (.tuple [.int c, .int d]) = (decide ((1 : Int) < 1) || (!decide ((1 : Int) < 1) && (decide (a < c) || (!decide (c < a) && (decide ((1 : Int) < 1) || (!decide ((1 : Int) < 1) && (decide (b < d) || (!decide (d < b) && (decide ((0 : Int) < 0) || (!decide ((0 : Int) < 0) && false)))))))))) := by
    unfold dataLt
    simp only [keyToks, keyToksAll]
    rfl
  rw [e]
  by_cases h1 : a < c
  · simp [h1]
  · by_cases h2 : c < a
    · have : a ≠ c := by omega
      simp [h1, h2, this]
    · have : a = c := by omega
      by_cases h3 : b < d <;> simp [this, h3]
theorem alike_pair (a b c d : Int) : AlikeAll [.tuple [.int a, .int b], .tuple [.int c, .int d]] := by
  refine ⟨fun x hx y hy => ?_, fun x hx => ?_⟩
  · simp only [List.mem_cons, List.not_mem_nil, or_false] at hx hy
    rcases hx with rfl | rfl <;> rcases hy with rfl | rfl <;> simp only [alike, alikeAll, Bool.and_self]
  · simp only [List.mem_cons, List.not_mem_nil, or_false] at hx
    rcases hx with rfl | rfl <;> exact fun h => nomatch h
/-- the texts of a key can stand in data -/
def keyOk : Key → Bool
  | .inl _ => true
  | .inr s => PyData.strOk s
theorem lay_key : ∀ {k : Key}, keyOk k = true → (keyD k).canLay0 = true
  | .inl i, _ => by simp [keyD, PyData.canLay0]
  | .inr s, h => by
    have h' : PyData.strOk s = true := h
    simp [keyD, PyData.canLay0, h']
theorem depth_key : ∀ k : Key, (keyD k).depth = 0
  | .inl _ => by simp [keyD, PyData.depth]
  | .inr _ => by simp [keyD, PyData.depth]
theorem shaped_key {k : Key} (h : keyOk k = true) : shaped (keyD k) = true := by
  unfold shaped
  rw [lay_key h, depth_key]
  rfl
theorem strOk_tag : ∀ f : Bool, PyData.strOk (tagS f) = true
  | true => by unfold tagS; rw [if_pos rfl]; exact strOk_lit
  | false => by unfold tagS; rw [if_neg (by simp)]; exact strOk_in
theorem lay_lab {x : Lab} (h : keyOk x.b = true) : x.d.canLay0 = true := by
  unfold Lab.d
  simp only [PyData.canLay0, PyData.canLayAll0, strOk_tag, lay_key h, Bool.and_self]
theorem depth_lab (x : Lab) : x.d.depth = 1 := by
  unfold Lab.d
  simp only [PyData.depth, PyData.depthAll, depth_key]
  rfl
theorem shaped_lab {x : Lab} (h : keyOk x.b = true) : shaped x.d = true := by
  unfold shaped
  rw [lay_lab h, depth_lab]
  rfl
theorem eqv_key : ∀ a b : Key, PyData.eqv (keyD a) (keyD b) = decide (a = b)
  | .inl i, .inl j => by
    simp only [keyD, PyData.eqv]
    by_cases h : i = j <;> simp [h]
  | .inr i, .inr j => by
    simp only [keyD, PyData.eqv]
    by_cases h : i = j <;> simp [h]
  | .inl i, .inr j => by simp [keyD, PyData.eqv]
  | .inr i, .inl j => by simp [keyD, PyData.eqv]
theorem eqv_lab (x y : Lab) : PyData.eqv x.d y.d = decide (x = y) := by
  have e1 : (tagS x.free == tagS y.free) = decide (x.free = y.free) := by
    by_cases h : x.free = y.free
    · rw [decide_eq_true h, h]
      simp
    · rw [decide_eq_false h]
      exact beq_false_of_ne (fun e => h (tag_inj e))
  unfold Lab.d
  simp only [PyData.eqv, PyData.eqvAll, eqv_key, Bool.and_true, e1]
  obtain ⟨a, b⟩ := x
  obtain ⟨c, d⟩ := y
  simp only [Lab.mk.injEq]
  by_cases h1 : a = c <;> by_cases h2 : b = d <;> simp [h1, h2]
/-- isinstance within a comprehension: the fragment told -/
theorem call_isiI {X : Cx} {K : Fr} (hK : X.K = K) : CallR X (.builtin "isinstance") (rIsi K) := by
  subst hK
  exact call_isi
def labD (l : List Lab) : List PyData := l.map Lab.d
theorem labD_len (l : List Lab) : (labD l).length = l.length := by unfold labD; simp
theorem labD_get {l : List Lab} {i : Nat} {x : Lab} (h : l[i]? = some x) : (labD l)[i]? = some x.d := by
  unfold labD
  rw [List.getElem?_map, h]
  rfl
def keysD (l : List Key) : List PyData := l.map keyD
theorem keysD_len (l : List Key) : (keysD l).length = l.length := by unfold keysD; simp
theorem keysD_get {l : List Key} {i : Nat} {x : Key} (h : l[i]? = some x) : (keysD l)[i]? = some (keyD x) := by
  unfold keysD
  rw [List.getElem?_map, h]
  rfl
theorem lay_keys : ∀ {l : List Key}, (∀ k ∈ l, keyOk k = true) → PyData.canLayAll0 (keysD l) = true
  | [], _ => by simp [keysD, PyData.canLayAll0]
  | k :: l, h => by
    have ih := lay_keys (l := l) (fun x hx => h x (List.mem_cons_of_mem _ hx))
    unfold keysD at ih ⊢
    simp only [List.map_cons, PyData.canLayAll0, lay_key (h k List.mem_cons_self), ih, Bool.and_self]
theorem depth_keys : ∀ l : List Key, PyData.depthAll (keysD l) ≤ 1
  | [] => by simp [keysD, PyData.depthAll]
  | k :: l => by
    have ih := depth_keys l
    unfold keysD at ih ⊢
    simp only [List.map_cons, PyData.depthAll, depth_key]
    omega
theorem shaped_keys {l : List Key} (h : ∀ k ∈ l, keyOk k = true) : shaped (.tuple (keysD l)) = true ∧ shaped (.list (keysD l)) = true := by
  unfold shaped
  have h2 := depth_keys l
  simp only [PyData.canLay0, PyData.depth, lay_keys h, Bool.true_and]
  have e : decide (PyData.depthAll (keysD l) + 1 ≤ 64) = true := decide_eq_true (by omega)
  exact ⟨e, e⟩
theorem eqv_keysAll : ∀ a b : List Key, PyData.eqvAll (keysD a) (keysD b) = decide (a = b)
  | [], [] => by simp [keysD, PyData.eqvAll]
  | [], _ :: _ => by simp [keysD, PyData.eqvAll]
  | _ :: _, [] => by simp [keysD, PyData.eqvAll]
  | x :: a, y :: b => by
    have ih := eqv_keysAll a b
    unfold keysD at ih ⊢
    simp only [List.map_cons, PyData.eqvAll, eqv_key, ih, List.cons.injEq]
    by_cases h1 : x = y <;> by_cases h2 : a = b <;> simp [h1, h2]
theorem eqv_keys (a b : List Key) : PyData.eqv (.tuple (keysD a)) (.tuple (keysD b)) = decide (a = b) := by
  simp only [PyData.eqv]
  exact eqv_keysAll a b
section
variable {K : Fr} {ρ : AS} {μ μ1 μ2 μ3 : AM} {ta tb td te tl to : TE} {R : AV} {a b z : Str} {P : Po}
theorem ew_isB {a b : Bool} (h : EvW K te ρ μ (.b a) μ1) (e : a = b) : EvW K te ρ μ (.b b) μ1 := e ▸ h
theorem n_sumI {ns : List Int} : OpN K (rSum K) [.d (.list (intsD ns))] μ (.i ns.sum) μ := fun F B H xs w hx Q q => by
  match xs, hx with
  | [v], hx =>
    cases (show Dt K B v (.list (intsD ns)) from hx.1) with
    | @lst a vs _ h1 h2 =>
      have : ∀ (ns : List Int) (vs : List V), DtAll K B vs (intsD ns) → vs = ns.map V.int := by
        intro ns
        induction ns with
        | nil => intro vs h; cases h; rfl
        | cons n ns ih =>
          intro vs h
          cases h with
          | cons h1 h2 =>
            cases h1
            rw [ih _ h2]
            rfl
      have e := this ns vs h2
      subst e
      exact ⟨a, ns, rfl, w.1.seq h1, q _ B H (Same.refl _) w (.int _)⟩
/-- "..".join(l) -/
theorem ew_join {zs : List Str} (h : EvW K to ρ μ (.s a) μ1) (h2 : EvW K te ρ μ1 (.d (.list (zs.map .str))) μ2) (hz : (zs.map (·.length)).sum + zs.length * a.length ≤ 16777216) :
    EvW K (tBM K "str" (fun x xs H Q => ∃ a p, ∃ ys : List Str, x = .str a ∧ xs = [.ref p] ∧ (SqL K H p (ys.map V.str) ∨ SqT K H p (ys.map V.str)) ∧ (ys.map (·.length)).sum + ys.length * a.length ≤ 16777216 ∧ Q (.str (Txt.join a ys)) H) to (tCons te tNil)) ρ μ (.s (Txt.join a zs)) μ2 := fun F B H σ w sl Q q =>
  h F B H σ w sl _ fun v B1 H1 e1 w1 h1 => by
    have ev := h_s h1
    subst ev
    refine ⟨rfl, h2 F B1 H1 σ w1 (sl.mono e1) _ fun v2 B2 H2 e2 w2 h3 => ?_⟩
    cases (show Dt K B2 v2 (.list (zs.map .str)) from h3) with
    | @lst p vs _ g1 g2 =>
      have : ∀ (zs : List Str) (vs : List V), DtAll K B2 vs (zs.map .str) → vs = zs.map V.str := by
        intro zs
        induction zs with
        | nil => intro vs h; cases h; rfl
        | cons n ns ih =>
          intro vs h
          cases h with
          | cons h1 h2 =>
            cases h1
            rw [ih _ h2]
            rfl
      have e := this zs vs g2
      subst e
      exact ⟨a, p, zs, rfl, rfl, .inl (w2.1.seq g1), hz, q _ B2 H2 (e1.trans e2) w2 (.str _)⟩
/-- z[i], a sign of a text -/
theorem o_ixS {i : Int} {c : Nat} (hz : z.length ≤ 100000) (h : z.cps.toList[i.toNat]? = some c) (hi : 0 ≤ i := by omega) : Op2 K rIxS (.s z) (.i i) μ (.s ⟨#[c]⟩) μ := fun F B H x y w r1 r2 Q q => by
  have e1 := h_s r1
  have e2 := h_i r2
  subst e1 e2
  refine ⟨z, i, c, rfl, rfl, Nat.le_trans hz (by decide), ?_, q _ B H (Same.refl _) w (.str _)⟩
  obtain ⟨n, rfl⟩ := Int.eq_ofNat_of_zero_le hi
  rw [show ((n : Nat) : Int).toNat = n by omega] at h
  unfold atI
  rw [ixN_at (List.getElem?_eq_some_iff.mp h).1]
  exact h
theorem o_leS {i j : Str} : Op2 K (fun x y H Q => ∃ i j, x = .str i ∧ y = .str j ∧ Q (.bl (!decide (j.cps.toList < i.cps.toList))) H) (.s i) (.s j) μ (.b (!decide (j.cps.toList < i.cps.toList))) μ := fun F B H x y w r1 r2 Q q => by
  have e1 := h_s r1
  have e2 := h_s r2
  subst e1 e2
  exact ⟨i, j, rfl, rfl, q _ B H (Same.refl _) w (.bl _)⟩
/-- for x in a text -/
theorem it_str (h : EvW K te ρ μ (.s z) μ1) : ItW K (iStr te) ρ μ (z.cps.toList.map fun c => .s ⟨#[c]⟩) μ1 := fun F B H σ w sl Rk q =>
  h F B H σ w sl _ fun v B2 H2 e w2 hv => by
    have ev := h_s hv
    subst ev
    refine ⟨z, rfl, q _ B2 H2 e w2 ⟨fun B3 H3 i e3 e4 hi => ?_, fun B3 H3 e3 e4 => ?_, fun F B3 H3 μ i a x H' e3 w3 ha y => ?_⟩⟩
    · rw [List.length_map, Array.length_toList] at hi
      exact hi
    · show z.cps.size ≤ _
      rw [List.length_map, Array.length_toList]
      exact Nat.le_refl _
    · obtain ⟨rfl, c, hc, rfl⟩ := y
      rw [List.getElem?_map, Array.getElem?_toList, hc] at ha
      have ea := (Option.some.inj ha).symm
      subst ea
      exact ⟨B3, Same.refl _, w3, .str _⟩
/-- l.insert(i, x), l owned -/
theorem s_insO {l : Addr} {xs : List AV} {i : Int} {tx : TE} (ho : EvW K to ρ μ (.r l) μ1) (hi : EvW K te ρ μ1 (.i i) μ2) (hx : EvW K tx ρ μ2 R μ3) (hl1 : ∃ xs1, μ1 l = some (.lst xs1)) (hl : μ3 l = some (.lst xs)) (hz : xs.length < 100000) (h0 : 0 ≤ i ∧ i < 2 ^ 62) (p : P.nx ρ (updM μ3 l (.lst (xs.take i.toNat ++ [R] ++ xs.drop i.toNat)))) :
    StW K (tDrop (tBM K "list" (fun x vs H Q => ∃ (l : Addr) (xs : List V) (i : Int) (y : V), x = .ref l ∧ vs = [.int i, y] ∧ H l = some (.lst xs) ∧ xs.length < sizeLine ∧ 0 ≤ i ∧ i < 2 ^ 63 ∧ Q .non (upd H l (.lst (xs.take i.toNat ++ [y] ++ xs.drop i.toNat)))) to (tCons te (tCons tx tNil)))) ρ μ P := fun F D B H σ w sl r =>
  ho F B H σ w sl _ fun a B1 H1 e1 w1 ha => by
    have ea : a = .ref l := ha
    subst ea
    obtain ⟨xs1, q1⟩ := hl1
    obtain ⟨vs1, hu1, _⟩ := own_lst w1 q1
    refine ⟨.inl ⟨rfl, vs1, SqL.of hu1⟩, hi F B1 H1 σ w1 (sl.mono e1) _ fun v B2 H2 e2 w2 h2 => hx F B2 H2 σ w2 (sl.mono (e1.trans e2)) _ fun y B3 H3 e3 w3 h3 => ?_⟩
    have ev := h_i h2
    subst ev
    obtain ⟨vs, hu, hA⟩ := own_lst w3 hl
    refine ⟨l, vs, i, y, rfl, rfl, hu, Nat.lt_of_lt_of_le (by rw [← hA.length]; exact hz) (by decide : 100000 ≤ sizeLine), h0.1, by have := h0.2; omega, ?_⟩
    have tk : ∀ {as : List AV} {vs : List V} (n : Nat), AllH K B3 as vs → AllH K B3 (as.take n) (vs.take n) ∧ AllH K B3 (as.drop n) (vs.drop n) := by
      intro as
      induction as with
      | nil => intro vs n h; cases vs with
        | nil => cases n <;> exact ⟨trivial, trivial⟩
        | cons _ _ => exact h.elim
      | cons a as ih => intro vs n h; cases vs with
        | nil => exact h.elim
        | cons v vs =>
          cases n with
          | zero => exact ⟨trivial, h⟩
          | succ n => exact ⟨⟨h.1, (ih n h.2).1⟩, (ih n h.2).2⟩
    have w4 : Wd K F B3 (updM μ3 l (.lst (xs.take i.toNat ++ [R] ++ xs.drop i.toNat))) (upd H3 l (.lst (vs.take i.toNat ++ [y] ++ vs.drop i.toNat))) := w3.set hl ⟨_, rfl, AllH.app (AllH.app (tk i.toNat hA).1 ⟨h3, trivial⟩) (tk i.toNat hA).2⟩
    exact r.nx _ _ B3 _ _ p ((e1.trans e2).trans e3) w4 (sl.mono ((e1.trans e2).trans e3))
end
end Lw

set_option Elab.async false
set_option linter.all false
set_option maxRecDepth 100000
set_option maxHeartbeats 2000000
/-! targets of what only something is told of; tuples with owned things; dict(pairs) -/
namespace Lw
open PySem PySem.Spec PyProof.Rows L2
section
variable {K : Fr} {ρ : AS} {μ μ1 μ2 : AM} {te ta tv : TE} {ts : TA} {R : AV} {P : Po} {l p dx C : Addr} {xs : List AV} {Rel : AV → AM → Prop} {RelA : List AV → AM → Prop} {g : TG}
theorem s_asgX (h : EvX K te ρ μ Rel) (k : ∀ R μ1, Rel R μ1 → ∃ ρ2, GtW K g R ρ ρ2 ∧ P.nx ρ2 μ1) : StW K (tAsg te g) ρ μ P := fun F D B H σ w sl r =>
  h F B H σ w sl _ fun R μ1 v B2 H2 hr e2 w2 hv => by
    obtain ⟨ρ2, hg, hn⟩ := k R μ1 hr
    exact hg B2 H2 σ v w2.1 hv (sl.mono e2) _ fun σ2 sl2 => r.nx _ _ B2 H2 _ hn e2 w2 sl2
theorem s_retX (h : EvX K te ρ μ Rel) (k : ∀ R μ1, Rel R μ1 → P.rt R μ1) : StW K (tRet te) ρ μ P := fun F D B H σ w sl r =>
  h F B H σ w sl _ fun R μ1 v B2 H2 hr e2 w2 hv => r.rt R μ1 v B2 H2 (k R μ1 hr) e2 w2 hv
theorem ex_newK : EvX K tDNewK ρ μ (fun R μ1 => ∃ l, μ l = none ∧ R = .r l ∧ μ1 = updM μ l (.o (.dK []))) := fun F B H σ w sl Q q => fun l hp =>
  q (.r l) _ (.ref l) B _ ⟨l, own_free w hp, rfl, rfl⟩ (Same.refl _) (w.newM (ao := .o (.dK [])) hp ⟨rfl, trivial⟩) rfl
theorem ex_tup (h : EvAX K ts ρ μ RelA) (hz : ∀ Rs μ1, RelA Rs μ1 → Rs.length ≤ 100000) : EvX K (tTup ts) ρ μ (fun R μ1 => ∃ Rs, RelA Rs μ1 ∧ R = .tl Rs) := fun F B H σ w sl Q q =>
  h F B H σ w sl _ fun Rs μ1 vs B2 H2 hr e2 w2 hv => ⟨by rw [← hv.length]; exact Nat.le_trans (hz Rs μ1 hr) (by decide), fun p hp => by
    obtain ⟨w3, e3, e4⟩ := w2.new (o := .tup vs) hp
    exact q (.tl Rs) _ _ _ _ ⟨Rs, hr, rfl⟩ (e2.trans e3) w3 ⟨p, vs, rfl, e4, hv.mono e3⟩⟩
theorem ex_imp {Rel' : AV → AM → Prop} (h : EvX K te ρ μ Rel) (k : ∀ R μ1, Rel R μ1 → Rel' R μ1) : EvX K te ρ μ Rel' := fun F B H σ w sl Q q =>
  h F B H σ w sl Q fun R μ1 v B2 H2 hr => q R μ1 v B2 H2 (k R μ1 hr)
/-- x = dict([(k, True), ..]) -/
theorem s_dictT {i : Nat} {ks : List Key} (h : EvW K te ρ μ (.d (.list (ks.map fun k => .tuple [keyD k, .bool true]))) μ1) (k : ∀ a, μ1 a = none → P.nx (ρ.set i (some (.r a))) (updM μ1 a (.o (.dK (mergeK [] (ks.map fun k => (k, V.bl true))))))) :
    StW K (tAsg (tCB (fun xs H Q => ∃ (a : Addr) (ps : List Addr) (kvs : List (Key × V)), xs = [.ref a] ∧ SqL K H a (ps.map V.ref) ∧ Paired (fun p kv => SqT K H p [kV kv.1, kv.2]) ps kvs ∧ ∀ p, H p = none → Q (.ref p) (upd H p (.dK (mergeK [] kvs)))) (tCons te tNil)) (gName i)) ρ μ P := fun F D B H σ w sl r =>
  h F B H σ w sl _ fun v B2 H2 e2 w2 hv => by
    cases (show Dt K B2 v (.list (ks.map fun k => .tuple [keyD k, .bool true])) from hv) with
    | @lst a vs _ h1 h2 =>
      have : ∀ (ks : List Key) (vs : List V), DtAll K B2 vs (ks.map fun k => .tuple [keyD k, .bool true]) → ∃ ps : List Addr, vs = ps.map V.ref ∧ Paired (fun p (kv : Key × V) => SqT K H2 p [kV kv.1, kv.2]) ps (ks.map fun k => (k, V.bl true)) := by
        intro ks
        induction ks with
        | nil => intro vs g; cases g; exact ⟨[], rfl, .nil⟩
        | cons x ks ih =>
          intro vs g
          cases g with
          | cons g1 g2 =>
            obtain ⟨ps, rfl, hp⟩ := ih _ g2
            cases g1 with
            | @tup b ws _ q1 _ q2 =>
              cases q2 with
              | cons z1 q2 =>
                cases q2 with
                | cons z2 q2 =>
                  cases q2
                  have := key_v z1
                  subst this
                  cases z2
                  exact ⟨b :: ps, rfl, .cons (seq_l w2.1 q1) hp⟩
      obtain ⟨ps, rfl, hp⟩ := this ks vs h2
      exact ⟨a, ps, _, rfl, w2.1.seq h1, hp, fun p hp0 => r.nx _ _ B2 _ _ (k p (own_free w2 hp0)) e2 (w2.newM (ao := .o (.dK _)) hp0 ⟨rfl, trivial⟩) (Sl.set (R := .r p) (v := .ref p) (show V.ref p = V.ref p from rfl) i (sl.mono e2))⟩
end
theorem merge_some (v : V) (k : Key) : ∀ (ks : List Key) (kvs : List (Key × V)), (valV (mergeK kvs (ks.map fun k => (k, v))) k).isSome = ((valV kvs k).isSome || ks.any fun x => decide (x = k))
  | [], kvs => by simp [mergeK]
  | x :: ks, kvs => by
    have ih := merge_some v k ks (putK kvs x v)
    have e : mergeK kvs ((x :: ks).map fun k => (k, v)) = mergeK (putK kvs x v) (ks.map fun k => (k, v)) := rfl
    rw [e, ih, valV_put, List.any_cons]
    by_cases h : k = x
    · rw [if_pos h, decide_eq_true h.symm]
      simp
    · rw [if_neg h, decide_eq_false (fun q => h q.symm), Bool.false_or]
theorem merge_len (v : V) : ∀ (ks : List Key) (kvs : List (Key × V)), (mergeK kvs (ks.map fun k => (k, v))).length ≤ kvs.length + ks.length
  | [], kvs => Nat.le_refl _
  | x :: ks, kvs => by
    have ih := merge_len v ks (putK kvs x v)
    have := putK_len kvs x v
    have e : mergeK kvs ((x :: ks).map fun k => (k, v)) = mergeK (putK kvs x v) (ks.map fun k => (k, v)) := rfl
    rw [e, List.length_cons]
    omega
end Lw

set_option Elab.async false
set_option linter.all false
set_option maxRecDepth 100000
set_option maxHeartbeats 2000000
/-! draws out of a jar: the mathematics -/
namespace K15
open PySem PySem.Spec PyProof.Rows L2 Lw
def jm1 (s : Kl) : Int := (s.b + 198491317 * (s.c + 1)) ^ 3 % (10 ^ 47 + 63)
def jm2 (s : Kl) : Int := (jm1 s + 71425349 * (s.c + 1)) ^ 3 % (10 ^ 44 + 57)
def jd (s : Kl) (n : Int) : Int := if 0 < s.a then s.a % n else jm2 s / 524287 % n
theorem jd_lo (s : Kl) {n : Int} (h : 0 < n) : 0 ≤ jd s n ∧ jd s n < n := by
  unfold jd
  split
  · exact ⟨Int.emod_nonneg _ (by omega), Int.emod_lt_of_pos _ h⟩
  · exact ⟨Int.emod_nonneg _ (by omega), Int.emod_lt_of_pos _ h⟩
def jok (s : Kl) : Prop := 0 ≤ s.b ∧ s.b ≤ 10 ^ 44 ∧ 0 ≤ s.c ∧ 0 ≤ s.a
/-- later states of the jar -/
structure JG (s s' : Kl) (n : Nat) : Prop where
  ok : jok s'
  c : s'.c ≤ s.c + n
theorem jg1 {s : Kl} {n : Int} (h : jok s) (hn : 0 < n) : JG s (after s n) 1 := by
  obtain ⟨h1, h2, h3, h5⟩ := h
  refine ⟨?_, after_c s n⟩
  unfold after
  split
  · exact ⟨h1, h2, h3, Int.ediv_nonneg h5 (by omega)⟩
  · refine ⟨h1, h2, ?_, h5⟩
    show 0 ≤ s.c + 1
    omega
theorem JG.refl {s : Kl} (h : jok s) : JG s s 0 := ⟨h, by omega⟩
theorem JG.trans {a b c : Kl} {m n : Nat} (h : JG a b m) (k : JG b c n) : JG a c (m + n) := ⟨k.ok, by have := h.c; have := k.c; push_cast; omega⟩
theorem JG.le {a b : Kl} {m n : Nat} (h : JG a b m) (k : m ≤ n) : JG a b n := ⟨h.ok, by have := h.c; omega⟩
theorem JG.step {a b : Kl} {m : Nat} {n : Int} (h : JG a b m) (hn : 0 < n) : JG a (after b n) (m + 1) := h.trans (jg1 h.ok hn)
def jil (ns : List Int) (k : Nat) : Kl := let cell := ns.getD k 0; ⟨max 0 (cell - 10 ^ 18), cell % (10 ^ 41 + 109) * 64 + (k : Int), 0⟩
theorem jil_ok (ns : List Int) {k : Nat} (h : k ≤ 100) : jok (jil ns k) := by
  unfold jil jok
  have h0 := Int.emod_nonneg (ns.getD k 0) (show (10 ^ 41 + 109 : Int) ≠ 0 by decide)
  have h1 := Int.emod_lt_of_pos (ns.getD k 0) (show (0 : Int) < 10 ^ 41 + 109 by decide)
  refine ⟨?_, ?_, ?_, ?_⟩ <;> simp only <;> omega
def memB {α : Type} [DecidableEq α] (x : α) (l : List α) : Bool := decide (x ∈ l)
theorem memB_iff {α : Type} [DecidableEq α] {x : α} {l : List α} : memB x l = true ↔ x ∈ l := by unfold memB; exact decide_eq_true_iff
theorem okT_memB {α : Type} [DecidableEq α] (fr : α → Bool) (g r : List α) (t : Nat) : okT fr g r t = g.all fun x => fr x || memB x (r.drop t) := rfl
/-! ### labels -/
def lettersJ : Nat → Kl → List Nat × Kl
  | 0, s => ([], s)
  | n + 1, s => ((lettersJ n s).1 ++ [97 + (jd (lettersJ n s).2 26).toNat], after (lettersJ n s).2 26)
theorem letters_ok {s : Kl} (h : jok s) : ∀ n, (lettersJ n s).1.length = n ∧ JG s (lettersJ n s).2 n ∧ ∀ c ∈ (lettersJ n s).1, 97 ≤ c ∧ c ≤ 122
  | 0 => ⟨rfl, JG.refl h, by simp [lettersJ]⟩
  | n + 1 => by
    obtain ⟨h1, h2, h3⟩ := letters_ok h n
    refine ⟨by simp [lettersJ, h1], h2.step (by decide), fun c hc => ?_⟩
    unfold lettersJ at hc
    rcases List.mem_append.mp hc with q | q
    · exact h3 c q
    · have : c = 97 + (jd (lettersJ n s).2 26).toNat := by simpa using q
      have := jd_lo (lettersJ n s).2 (n := 26) (by decide)
      omega
def someK : List Key := [.inr "a", .inr "b", .inr "c", .inl 1, .inl 2, .inr "aaaaaaaa", .inr "zz", .inl 0, .inl (10 ^ 30), .inl (0 - 10 ^ 30)]
def labJ (s : Kl) (style : Int) : Key × Kl :=
  if style = 0 then (someK.getD (jd s 5).toNat (.inl 0), after s 5)
  else if style = 1 then (someK.getD (jd s 10).toNat (.inl 0), after s 10)
  else
    let p := lettersJ (1 + jd s 8).toNat (after s 8)
    let q := after p.2 (10 ^ 30)
    (if jd q 2 = 0 then .inr ⟨p.1.toArray⟩ else .inl (jd p.2 (10 ^ 30) - 10 ^ 29), after q 2)
def labsJ (style : Int) : Nat → Kl → List Key × Kl
  | 0, s => ([], s)
  | n + 1, s => ((labsJ style n s).1 ++ [(labJ (labsJ style n s).2 style).1], (labJ (labsJ style n s).2 style).2)
/-- those of a list of which a draw is 0 -/
def someF (often : Int) (p : List Key × Kl) (k : Key) : List Key × Kl := (if jd p.2 often = 0 then p.1 ++ [k] else p.1, after p.2 often)
def someJ (often : Int) (l : List Key) (s : Kl) : List Key × Kl := l.foldl (someF often) ([], s)
theorem some_snoc (often : Int) (l : List Key) (k : Key) (s : Kl) : someJ often (l ++ [k]) s = someF often (someJ often l s) k := by unfold someJ; rw [List.foldl_append]; rfl
theorem some_ok {s : Kl} {often : Int} (h : jok s) (ho : 0 < often) (l : List Key) : (someJ often l s).1.length ≤ l.length ∧ JG s (someJ often l s).2 l.length ∧ ∀ c ∈ (someJ often l s).1, c ∈ l := by
  have : ∀ (l : List Key) (p : List Key × Kl), jok p.2 → (l.foldl (someF often) p).1.length ≤ p.1.length + l.length ∧ JG p.2 (l.foldl (someF often) p).2 l.length ∧ ∀ c ∈ (l.foldl (someF often) p).1, c ∈ p.1 ∨ c ∈ l := by
    intro l
    induction l with
    | nil => intro p hp; exact ⟨Nat.le_refl _, JG.refl hp, fun c hc => .inl hc⟩
    | cons k l ih =>
      intro p hp
      have g := jg1 hp ho
      obtain ⟨h1, h2, h3⟩ := ih (someF often p k) g.ok
      rw [List.foldl_cons]
      have e : (someF often p k).1.length ≤ p.1.length + 1 := by unfold someF; simp only; split <;> simp
      refine ⟨by rw [List.length_cons]; omega, (g.trans h2).le (by rw [List.length_cons]; omega), fun c hc => ?_⟩
      rcases h3 c hc with q | q
      · unfold someF at q
        simp only at q
        split at q
        · rcases List.mem_append.mp q with z | z
          · exact .inl z
          · exact .inr (by rw [List.mem_singleton.mp z]; exact List.mem_cons_self)
        · exact .inl q
      · exact .inr (List.mem_cons_of_mem _ q)
  obtain ⟨h1, h2, h3⟩ := this l ([], s) h
  exact ⟨Nat.le_trans h1 (by simp), h2, fun c hc => (h3 c hc).elim (fun q => by simp at q) id⟩
theorem join_one : ∀ cs : List Nat, Str.join "" (cs.map fun c => (⟨#[c]⟩ : Str)) = ⟨cs.toArray⟩
  | [] => rfl
  | [c] => rfl
  | c :: d :: r => by
    have ih := join_one (d :: r)
    show (⟨#[c]⟩ : Str) ++ ("" : Str) ++ Str.join "" ((d :: r).map fun c => (⟨#[c]⟩ : Str)) = _
    rw [ih]
    show (⟨(#[c] ++ (#[] : Array Nat)) ++ (d :: r).toArray⟩ : Str) = _
    congr 1
    simp
end K15

set_option Elab.async false
set_option linter.all false
set_option maxRecDepth 100000
set_option maxHeartbeats 2000000
/-! a text so many times -/
namespace Lw
open PySem PySem.Spec PyProof.Rows L2
def repS (z : Str) (i : Int) : Str := ⟨(List.replicate i.toNat z.cps).foldl (· ++ ·) #[]⟩
theorem rep_size (a : Array Nat) : ∀ (n : Nat) (acc : Array Nat), ((List.replicate n a).foldl (· ++ ·) acc).size = acc.size + n * a.size
  | 0, acc => by simp
  | n + 1, acc => by
    rw [List.replicate_succ, List.foldl_cons, rep_size a n, Array.size_append, Nat.add_mul]
    omega
theorem repS_len (z : Str) (i : Int) : (repS z i).length = i.toNat * z.length := by
  show ((List.replicate i.toNat z.cps).foldl (· ++ ·) #[]).size = _
  rw [rep_size]
  simp
  rfl
def rRepS : R2 := fun x y H Q => ∃ z i, x = .str z ∧ y = .int i ∧ 2 ≤ i ∧ i ≤ 1000 ∧ 1 ≤ z.length ∧ z.length ≤ 1000 ∧ Q (.str (repS z i)) H
theorem op_repS {X : Cx} : OpR X (binaryOp .Mult) rRepS := fun pins s σ H x y v u Q I rx ry h => by
  obtain ⟨z, i, rfl, rfl, h1, h2, h3, h4, q⟩ := h
  obtain ⟨t, rfl⟩ := rx
  obtain ⟨t', rfl⟩ := ry
  have hm : z.length * i.toNat ≤ 1000 * 1000 := Nat.mul_le_mul h4 (by omega)
  have g1 : (decide (i < -(2 ^ 63 : Int)) || decide (i ≥ 2 ^ 63)) = false := by
    rw [decide_eq_false (by omega), decide_eq_false (by omega)]
    rfl
  have g2 : (i == 1 || z.length == 0) = false := by
    have a1 : (i == 1) = false := by simp; omega
    have a2 : (z.length == 0) = false := by simp; omega
    rw [a1, a2]
    rfl
  refine PySem.P.mul_str g1 (fun _ _ => ?_) (fun _ _ => ?_) ?_
  · have : (1000 : Int) ≤ (2 ^ 63 - 1) / i := (Int.le_ediv_iff_mul_le (by omega)).mpr (by omega)
    omega
  · have hs : sizeLine = 16777216 := by decide
    exact decide_eq_false (by omega)
  · rw [if_neg (by omega), if_neg (by rw [g2]; simp)]
    refine ⟨?_, .str _, H, I.tok _, ⟨_, rfl⟩, q⟩
    have hs : sizeLine = 16777216 := by decide
    have := repS_len z i
    rw [Nat.mul_comm] at this
    show (repS z i).length ≤ sizeLine
    omega
section
variable {K : Fr} {μ : AM}
theorem o_repS {z : Str} {i : Int} (h : 2 ≤ i ∧ i ≤ 1000 ∧ 1 ≤ z.length ∧ z.length ≤ 1000) : Op2 K rRepS (.s z) (.i i) μ (.s (repS z i)) μ := fun F B H x y w r1 r2 Q q => by
  have e1 := h_s r1
  have e2 := h_i r2
  subst e1 e2
  exact ⟨z, i, rfl, rfl, h.1, h.2.1, h.2.2.1, h.2.2.2, q _ B H (Same.refl _) w (.str _)⟩
end
end Lw

set_option Elab.async false
set_option linter.all false
set_option maxRecDepth 100000
set_option maxHeartbeats 2000000
/-! the least number is the number of instructions of a shortest way; the mathematics -/
namespace K15
open PySem PySem.Spec PyProof.Rows L2 Lw
section
variable {α : Type} [DecidableEq α]
abbrev cu (g : List α) : α → Int := fun x => cnt x g
def spa (g q : List α) : Int := spr (cu g) q.reverse
def sta (g q : List α) : Nat := str g q.reverse
def cost (g q : List α) : Int := 2 * spa g q + (g.length : Int) - (sta g q : Int)
def okL (fr : α → Bool) (g q : List α) : Prop := ∀ x ∈ g, fr x = true ∨ x ∈ q
theorem spa_nn (g q : List α) : 0 ≤ spa g q := (spr_nn _ _).1
theorem sta_le (g q : List α) : sta g q ≤ g.length := str_le _ _
theorem spa_snoc (g q : List α) (l : α) : spa g (q ++ [l]) = spa g q + (if cnt l g ≤ cnt l q then 1 else 0) := by
  unfold spa
  rw [List.reverse_append]
  show spr (cu g) (l :: q.reverse) = _
  rw [spr, cnt_rev]
theorem spa_eq {g a b : List α} (h : ∀ x, cnt x a = cnt x b) : spa g a = spa g b := by
  have hu : ∀ x, 0 ≤ cu g x := fun x => cnt_nn x g
  have ha : ∀ x ∈ a, x ∈ dist (a ++ b) := fun x m => (dist_mem _).mpr (List.mem_append_left _ m)
  have hb : ∀ x ∈ b, x ∈ dist (a ++ b) := fun x m => (dist_mem _).mpr (List.mem_append_right _ m)
  unfold spa
  rw [← spr_sumK hu (dist_nodup (a ++ b)) ha, ← spr_sumK hu (dist_nodup (a ++ b)) hb]
  congr 1
  refine List.map_congr_left fun x _ => ?_
  rw [h x]
theorem cnt_mid (x l : α) (A B : List α) : cnt x (A ++ l :: B) = cnt x (A ++ B ++ [l]) := by
  rw [cnt_app, cnt_cons, cnt_app, cnt_app, cnt_cons]
  unfold cnt
  simp
  omega
theorem spa_mid (g A B : List α) (l : α) : spa g (A ++ l :: B) = spa g (A ++ B) + (if cnt l g ≤ cnt l (A ++ B) then 1 else 0) := by
  rw [spa_eq (fun x => cnt_mid x l A B), spa_snoc]
theorem sta_snoc (g q : List α) (l : α) : sta g (q ++ [l]) = sta g q + (if g[sta g q]? = some l then 1 else 0) := by
  unfold sta
  rw [List.reverse_append]
  rfl
theorem sta_sub (g q : List α) : List.Sublist (g.take (sta g q)) q := by
  have := str_sub g q.reverse
  rwa [List.reverse_reverse] at this
theorem take_snoc {g : List α} {k : Nat} (h : k < g.length) : g.take (k + 1) = g.take k ++ [g[k]] := by
  rw [List.take_add_one, List.getElem?_eq_getElem h]
  rfl
/-- a part that ends in a last one -/
theorem sub_snoc {s q : List α} {x l : α} (h : List.Sublist (s ++ [x]) (q ++ [l])) : List.Sublist s q := by
  have h2 := h.reverse
  rw [List.reverse_append, List.reverse_append] at h2
  have h3 : List.Sublist (x :: s.reverse) (l :: q.reverse) := h2
  have h4 : List.Sublist s.reverse q.reverse := by
    cases h3 with
    | cons _ h => exact (List.sublist_cons_self _ _).trans h
    | cons_cons _ h => exact h
  have := h4.reverse
  rwa [List.reverse_reverse, List.reverse_reverse] at this
theorem sub_snoc2 {s q : List α} {l : α} (h : List.Sublist s (q ++ [l])) : List.Sublist s q ∨ ∃ s', s = s' ++ [l] ∧ List.Sublist s' q := by
  have h2 := h.reverse
  rw [List.reverse_append] at h2
  have h3 : List.Sublist s.reverse (l :: q.reverse) := h2
  generalize hr : s.reverse = r at h3
  cases h3 with
  | cons _ h =>
    refine .inl ?_
    have := h.reverse
    rw [← hr] at this
    rwa [List.reverse_reverse, List.reverse_reverse] at this
  | @cons_cons r' _ _ h =>
    refine .inr ⟨r'.reverse, ?_, ?_⟩
    · have := congrArg List.reverse hr
      rw [List.reverse_reverse, List.reverse_cons] at this
      exact this
    · have := h.reverse
      rwa [List.reverse_reverse] at this
theorem sta_max (g : List α) : ∀ (q : List α) (k : Nat), k ≤ g.length → List.Sublist (g.take k) q → k ≤ sta g q := snoc_ind (fun k hk h => by
  have := List.eq_nil_of_sublist_nil h
  have e := congrArg List.length this
  rw [List.length_take] at e
  have e : min k g.length = 0 := e
  omega) (fun q l ih k hk h => by
  rw [sta_snoc]
  rcases sub_snoc2 h with h' | ⟨s', e, h'⟩
  · have := ih k hk h'
    omega
  · cases k with
    | zero => omega
    | succ k =>
      rw [take_snoc (by omega)] at e
      have e1 := List.append_inj' e rfl
      have := ih k (by omega) (by rw [e1.1]; exact h')
      by_cases c : k = sta g q
      · rw [← c, List.getElem?_eq_getElem (by omega)]
        have e2 : g[k] = l := by
          have := e1.2
          injection this
        rw [e2, if_pos rfl]
        omega
      · omega)
theorem sta_mono {g a b : List α} (h : List.Sublist a b) : sta g a ≤ sta g b := sta_max g b _ (sta_le g a) ((sta_sub g a).trans h)
theorem sta_last (g q : List α) (l : α) : sta g (q ++ [l]) ≤ sta g q + 1 := by
  rw [sta_snoc]
  split <;> omega
theorem sta_roll (g A B : List α) (l : α) : sta g (A ++ B ++ [l]) ≤ sta g (A ++ l :: B) + 1 := by
  have h1 := sta_last g (A ++ B) l
  have h2 : sta g (A ++ B) ≤ sta g (A ++ l :: B) := sta_mono (List.Sublist.append (List.Sublist.refl _) (List.sublist_cons_self _ _))
  omega
/-! ### what is due, of what is left -/
theorem best_le {u : α → Int} {fr : α → Bool} {g r : List α} : ∀ {T t : Nat}, t < T → okT fr g r t = true → ∃ d, bestL u fr g r T = some d ∧ d ≤ need u g r t
  | 0, t, h, _ => absurd h (Nat.not_lt_zero _)
  | T + 1, t, h, ok => by
    by_cases c : t = T
    · subst c
      unfold bestL
      rw [if_pos ok]
      cases bestL u fr g r t with
      | none => exact ⟨_, rfl, Int.le_refl _⟩
      | some b => exact ⟨_, rfl, by omega⟩
    · obtain ⟨d, h1, h2⟩ := best_le (u := u) (T := T) (t := t) (by omega) ok
      unfold bestL
      rw [h1]
      split
      · exact ⟨_, rfl, by omega⟩
      · exact ⟨_, rfl, h2⟩
theorem best_ex {u : α → Int} {fr : α → Bool} {g r : List α} : ∀ {T : Nat} {d : Int}, bestL u fr g r T = some d → ∃ t, t < T ∧ okT fr g r t = true ∧ d = need u g r t
  | 0, d, h => by cases h
  | T + 1, d, h => by
    unfold bestL at h
    split at h
    · next ok =>
      cases hb : bestL u fr g r T with
      | none =>
        rw [hb] at h
        exact ⟨T, by omega, ok, (Option.some.inj h).symm⟩
      | some b =>
        rw [hb] at h
        have h : min b (need u g r T) = d := Option.some.inj h
        by_cases c : b ≤ need u g r T
        · obtain ⟨t, h1, h2, h3⟩ := best_ex hb
          exact ⟨t, by omega, h2, by omega⟩
        · exact ⟨T, by omega, ok, by omega⟩
    · obtain ⟨t, h1, h2, h3⟩ := best_ex h
      exact ⟨t, by omega, h2, h3⟩
/-- of a pile and a goal -/
abbrev dueP (fr : α → Bool) (p g : List α) : Option Int := due (cu g) fr g p.reverse
theorem drop_rev (q D : List α) : (q ++ D).reverse.drop D.length = q.reverse := by
  rw [List.reverse_append, ← List.length_reverse (as := D), List.drop_left]
theorem need_cost (g q D : List α) : need (cu g) g (q ++ D).reverse D.length = D.length + cost g q := by
  unfold need cost spa sta
  rw [drop_rev]
  omega
theorem okT_okL {fr : α → Bool} {g q D : List α} : okT fr g (q ++ D).reverse D.length = true ↔ okL fr g q := by
  unfold okT okL
  rw [drop_rev, List.all_eq_true]
  exact forall_congr' fun x => forall_congr' fun _ => by rw [Bool.or_eq_true, decide_eq_true_iff, List.mem_reverse]
theorem due_le {fr : α → Bool} {g q D : List α} (h : okL fr g q) : ∃ d, dueP fr (q ++ D) g = some d ∧ d ≤ D.length + cost g q := by
  obtain ⟨d, h1, h2⟩ := best_le (u := cu g) (fr := fr) (g := g) (r := (q ++ D).reverse) (T := (q ++ D).reverse.length + 1) (t := D.length) (by simp; omega) (okT_okL.mpr h)
  rw [need_cost] at h2
  exact ⟨d, h1, h2⟩
theorem due_ex {fr : α → Bool} {p g : List α} {d : Int} (h : dueP fr p g = some d) : ∃ q D, p = q ++ D ∧ okL fr g q ∧ d = D.length + cost g q := by
  obtain ⟨t, h1, h2, h3⟩ := best_ex h
  rw [List.length_reverse] at h1
  have e : p = p.take (p.length - t) ++ p.drop (p.length - t) := (List.take_append_drop _ _).symm
  have el : (p.drop (p.length - t)).length = t := by rw [List.length_drop]; omega
  refine ⟨_, _, e, ?_, ?_⟩
  · rw [← okT_okL (D := p.drop (p.length - t)), el, ← e]
    exact h2
  · rw [← need_cost, el, ← e]
    exact h3
theorem due_nn {fr : α → Bool} {p g : List α} {d : Int} (h : dueP fr p g = some d) : 0 ≤ d := by
  obtain ⟨t, _, _, h3⟩ := best_ex h
  rw [h3]
  exact need_nn _ _ _ _
/-! ### one instruction -/
inductive Near (cs : List α) : List α → List α → Prop
  | push (p : List α) (l : α) : (l ∈ p ∨ l ∈ cs) → Near cs p (p ++ [l])
  | roll (A : List α) (l : α) (B : List α) : B ≠ [] → Near cs (A ++ l :: B) (A ++ B ++ [l])
  | drop (p : List α) (l : α) : Near cs (p ++ [l]) p
theorem mem_mid {x l : α} {A B : List α} : x ∈ A ++ l :: B ↔ x = l ∨ x ∈ A ++ B := by
  simp only [List.mem_append, List.mem_cons]
  constructor
  · rintro (h | h | h)
    · exact .inr (.inl h)
    · exact .inl h
    · exact .inr (.inr h)
  · rintro (h | h | h)
    · exact .inr (.inl h)
    · exact .inl h
    · exact .inr (.inr h)
theorem cost_nn (g q : List α) : 0 ≤ cost g q := by
  have := spa_nn g q
  have := sta_le g q
  unfold cost
  omega
/-- one instruction brings nothing nearer than by one -/
theorem due_near {fr : α → Bool} {cs y x g : List α} (hc : ∀ l ∈ cs, fr l = true) (h : Near cs y x) {d : Int} (hd : dueP fr x g = some d) : ∃ e, dueP fr y g = some e ∧ e ≤ d + 1 := by
  obtain ⟨q, D, e, ok, rfl⟩ := due_ex hd
  clear hd
  cases h with
  | push y l hl =>
    rcases snoc_cases D with rfl | ⟨D', z, rfl⟩
    · rw [List.append_nil] at e
      subst e
      have ok2 : okL fr g y := fun s hs => by
        rcases ok s hs with h | h
        · exact .inl h
        · rcases List.mem_append.mp h with h | h
          · exact .inr h
          · rw [List.mem_singleton.mp h]
            exact hl.symm.imp (hc _) id
      obtain ⟨d, h1, h2⟩ := due_le (D := []) ok2
      rw [List.append_nil] at h1
      refine ⟨d, h1, ?_⟩
      have a1 := spa_snoc g y l
      have a2 := sta_last g y l
      unfold cost at *
      simp only [List.length_nil] at *
      split at a1 <;> omega
    · rw [← List.append_assoc] at e
      have e2 := (List.append_inj' e rfl).1
      obtain ⟨d, h1, h2⟩ := due_le (D := D') ok
      rw [← e2] at h1
      refine ⟨d, h1, ?_⟩
      rw [List.length_append]
      push_cast
      omega
  | drop x l =>
    obtain ⟨d, h1, h2⟩ := due_le (D := D ++ [l]) ok
    rw [← List.append_assoc, ← e] at h1
    refine ⟨d, h1, ?_⟩
    simp only [List.length_append, List.length_cons, List.length_nil] at h2
    push_cast at h2
    omega
  | roll A l B hB =>
    rcases snoc_cases D with rfl | ⟨D', z, rfl⟩
    · rw [List.append_nil] at e
      subst e
      have ok2 : okL fr g (A ++ l :: B) := fun s hs => (ok s hs).imp id fun h => by
        rw [mem_mid]
        rcases List.mem_append.mp h with h | h
        · exact .inr h
        · exact .inl (List.mem_singleton.mp h)
      obtain ⟨d, h1, h2⟩ := due_le (D := []) ok2
      rw [List.append_nil] at h1
      refine ⟨d, h1, ?_⟩
      have a1 : spa g (A ++ l :: B) = spa g (A ++ B ++ [l]) := spa_eq (fun x => cnt_mid x l A B)
      have a2 := sta_roll g A B l
      unfold cost at *
      simp only [List.length_nil] at *
      omega
    · rw [← List.append_assoc] at e
      have e2 := (List.append_inj' e rfl).1
      rw [List.length_append, show [z].length = 1 from rfl]
      rcases List.append_eq_append_iff.mp e2 with ⟨B1, h1, h2⟩ | ⟨A2, h1, h2⟩
      · subst h1 h2
        have ok2 : okL fr g (A ++ l :: B1) := fun s hs => (ok s hs).imp id fun h => by
          rw [mem_mid]
          exact .inr h
        obtain ⟨d, h3, h4⟩ := due_le (D := D') ok2
        rw [List.append_assoc, List.cons_append] at h3
        refine ⟨d, h3, ?_⟩
        have a1 := spa_mid g A B1 l
        have a2 : sta g (A ++ B1) ≤ sta g (A ++ l :: B1) := sta_mono (List.Sublist.append (List.Sublist.refl _) (List.sublist_cons_self _ _))
        unfold cost at *
        push_cast
        split at a1 <;> omega
      · subst h1 h2
        obtain ⟨d, h3, h4⟩ := due_le (D := A2 ++ l :: B) ok
        rw [← List.append_assoc] at h3
        refine ⟨d, h3, ?_⟩
        rw [List.length_append, List.length_cons] at h4
        rw [List.length_append]
        push_cast at *
        omega
/-- one that is not needed -/
theorem sub_free {l : α} : ∀ {s y : List α}, List.Sublist s y → cnt l s < cnt l y → ∃ A B, y = A ++ l :: B ∧ List.Sublist s (A ++ B) := by
  intro s y h
  induction h with
  | slnil => intro h; omega
  | @cons s y a h ih =>
    intro hc
    by_cases e : a = l
    · subst e
      exact ⟨[], y, rfl, h⟩
    · rw [cnt_cons, if_neg e] at hc
      obtain ⟨A, B, rfl, h2⟩ := ih (by omega)
      exact ⟨a :: A, B, rfl, h2.cons a⟩
  | @cons_cons s y a h ih =>
    intro hc
    rw [cnt_cons, cnt_cons] at hc
    obtain ⟨A, B, rfl, h2⟩ := ih (by omega)
    exact ⟨a :: A, B, rfl, h2.cons_cons a⟩
theorem cnt_sub {l : α} {s y : List α} (h : List.Sublist s y) : cnt l s ≤ cnt l y := by
  unfold cnt
  have := h.count_le (a := l)
  omega
/-- what is not there yet has an instruction that brings it nearer -/
theorem due_step {fr : α → Bool} {cs y g : List α} (hc : ∀ l ∈ g, fr l = true → l ∈ cs) {d : Int} (hd : dueP fr y g = some d) (h0 : 0 < d) :
    ∃ x e, Near cs y x ∧ dueP fr x g = some e ∧ e < d ∧ (x.length ≤ y.length ∨ x.length ≤ g.length) := by
  obtain ⟨q, D, rfl, ok, rfl⟩ := due_ex hd
  clear hd
  rcases snoc_cases D with rfl | ⟨D', z, rfl⟩
  rotate_left
  · obtain ⟨d, h1, h2⟩ := due_le (D := D') ok
    refine ⟨q ++ D', d, ?_, h1, ?_, .inl ?_⟩
    · rw [← List.append_assoc]
      exact .drop _ _
    · rw [List.length_append]
      push_cast
      simp
      omega
    · rw [List.length_append, List.length_append, List.length_append]
      omega
  rw [List.append_nil]
  simp only [List.length_nil] at h0
  have s0 := spa_nn g q
  have sl := sta_le g q
  have sub := sta_sub g q
  by_cases hs : spa g q = 0
  · have hcn : ∀ x, cnt x q ≤ cnt x g := fun x => by
      by_cases m : x ∈ q
      · have := spr_zero (u := cu g) hs x (List.mem_reverse.mpr m)
        rwa [cnt_rev] at this
      · have := cnt_zero.mpr m
        have := cnt_nn x g
        omega
    have hlt : sta g q < g.length := by
      unfold cost at h0
      omega
    have hg := List.getElem?_eq_getElem hlt
    generalize hl : g[sta g q] = l at hg
    have hm : l ∈ g := by rw [← hl]; exact List.getElem_mem hlt
    have ht : g.take (sta g q + 1) = g.take (sta g q) ++ [l] := by rw [take_snoc hlt, hl]
    by_cases c : cnt l q < cnt l g
    · -- one more
      have ok2 : okL fr g (q ++ [l]) := fun s hs => (ok s hs).imp id fun h => List.mem_append_left _ h
      obtain ⟨d, h1, h2⟩ := due_le (D := []) ok2
      rw [List.append_nil] at h1
      refine ⟨_, d, .push q l ?_, h1, ?_, .inr (len_of_counts fun x => ?_)⟩
      · rcases ok l hm with h | h
        · exact .inr (hc l hm h)
        · exact .inl h
      · have a1 := spa_snoc g q l
        rw [if_neg (by omega)] at a1
        have a2 := sta_snoc g q l
        rw [if_pos hg] at a2
        unfold cost at *
        simp only [List.length_nil] at *
        omega
      · rw [cnt_app, cnt_cons]
        have := hcn x
        by_cases e : l = x
        · subst e
          rw [if_pos rfl]
          unfold cnt at *
          simp
          omega
        · rw [if_neg e]
          unfold cnt at *
          simp
          omega
    · -- one that is there
      have a1 := cnt_sub (l := l) (List.take_sublist (sta g q + 1) g)
      rw [ht, cnt_app, cnt_cons, if_pos rfl] at a1
      have a0 := cnt_nn l ([] : List α)
      obtain ⟨A, B, e, h2⟩ := sub_free (l := l) sub (by omega)
      have h3 : List.Sublist (g.take (sta g q + 1)) (A ++ B ++ [l]) := by
        rw [ht]
        exact List.Sublist.append h2 (List.Sublist.refl _)
      rcases snoc_cases B with rfl | ⟨B', z, rfl⟩
      · rw [List.append_nil, ← e] at h3
        have := sta_max g q _ (by omega) h3
        omega
      have ok2 : okL fr g (A ++ (B' ++ [z]) ++ [l]) := fun s hs => (ok s hs).imp id fun h => by
        rw [e, mem_mid] at h
        rcases h with h | h
        · rw [h]; simp
        · exact List.mem_append_left _ h
      obtain ⟨d, h4, h5⟩ := due_le (D := []) ok2
      rw [List.append_nil] at h4
      have hn := Near.roll (cs := cs) A l (B' ++ [z]) (by simp)
      rw [← e] at hn
      refine ⟨_, d, hn, h4, ?_, .inl ?_⟩
      · have a2 := sta_max g _ _ (by omega) h3
        have a3 : spa g q = spa g (A ++ (B' ++ [z]) ++ [l]) := by
          rw [e]
          exact spa_eq (fun x => cnt_mid x l A (B' ++ [z]))
        unfold cost at *
        simp only [List.length_nil] at *
        omega
      · rw [e]
        simp only [List.length_append, List.length_cons, List.length_nil]
        omega
  · -- one too many
    obtain ⟨l, hl⟩ : ∃ l, cnt l g < cnt l q := by
      apply Classical.byContradiction
      intro h
      have : ∀ x, cnt x q.reverse ≤ cnt x g := fun x => by
        rw [cnt_rev]
        apply Classical.byContradiction
        intro h2
        exact h ⟨x, by omega⟩
      exact hs (spr_self g q.reverse this)
    have a1 := cnt_sub (l := l) (List.take_sublist (sta g q) g)
    obtain ⟨A, B, e, h2⟩ := sub_free (l := l) sub (by omega)
    have a2 := sta_max g _ _ sl h2
    have a3 := spa_mid g A B l
    have a4 : cnt l g ≤ cnt l (A ++ B) := by
      rw [e, cnt_mid, cnt_app, cnt_cons, if_pos rfl] at hl
      have : cnt l ([] : List α) = 0 := rfl
      omega
    rw [if_pos a4, ← e] at a3
    have ok2 : okL fr g (A ++ B) := fun s hs' => (ok s hs').imp id fun h => by
      rw [e, mem_mid] at h
      rcases h with h | h
      · subst h
        have : 0 < cnt s g := cnt_pos.mpr hs'
        exact cnt_pos.mp (by omega)
      · exact h
    rcases snoc_cases B with rfl | ⟨B', z, rfl⟩
    · rw [List.append_nil] at *
      obtain ⟨d, h4, h5⟩ := due_le (D := []) ok2
      rw [List.append_nil] at h4
      have hn := Near.drop (cs := cs) A l
      rw [← e] at hn
      refine ⟨_, d, hn, h4, ?_, .inl ?_⟩
      · unfold cost at *
        simp only [List.length_nil] at *
        omega
      · rw [e]; simp
    · obtain ⟨d, h4, h5⟩ := due_le (D := [l]) ok2
      have hn := Near.roll (cs := cs) A l (B' ++ [z]) (by simp)
      rw [← e] at hn
      refine ⟨_, d, hn, h4, ?_, .inl ?_⟩
      · unfold cost at *
        simp only [List.length_cons, List.length_nil] at *
        omega
      · rw [e]
        simp only [List.length_append, List.length_cons, List.length_nil]
        omega
/-! ### a search, whole -/
/-- what a search has found: every pile that one instruction leads to, within the line -/
structure Whole (fr : α → Bool) (cs start : List α) (high : Nat) (ls : List (List α)) (f : List α → Int) : Prop where
  at0 : start ∈ ls ∧ f start = 0
  low : ∀ x ∈ ls, ∀ (g : List α) (d : Int), dueP fr x g = some d → ∃ e, dueP fr start g = some e ∧ e ≤ d + f x
  out : ∀ y ∈ ls, ∀ x, Near cs y x → x.length ≤ high → x ∈ ls ∧ f x ≤ f y + 1
theorem Whole.way {fr : α → Bool} {cs start g : List α} {high : Nat} {ls : List (List α)} {f : List α → Int} (h : Whole fr cs start high ls f) (hc : ∀ l ∈ g, fr l = true → l ∈ cs) (hg : g.length ≤ high) :
    ∀ (n : Nat) (y : List α) (d : Int), d ≤ n → y ∈ ls → y.length ≤ high → dueP fr y g = some d → g ∈ ls ∧ f g ≤ f y + d
  | n, y, d, hn, hy, hz, hd => by
    have d0 := due_nn hd
    by_cases c : d = 0
    · subst c
      have e := due_zero.mp hd
      rw [← e]
      exact ⟨hy, by omega⟩
    · obtain ⟨x, e, h1, h2, h3, h4⟩ := due_step hc hd (by omega)
      have hx : x.length ≤ high := by omega
      obtain ⟨g1, g2⟩ := h.out y hy x h1 hx
      match n, hn with
      | 0, hn => omega
      | n + 1, hn =>
        obtain ⟨g3, g4⟩ := Whole.way h hc hg n x e (by push_cast at hn; omega) g1 hx h2
        exact ⟨g3, by omega⟩
theorem Whole.val {fr : α → Bool} {cs start g : List α} {high : Nat} {ls : List (List α)} {f : List α → Int} (h : Whole fr cs start high ls f) (hc : ∀ l ∈ g, fr l = true → l ∈ cs) (hg : g.length ≤ high) (hs : start.length ≤ high) :
    (if g ∈ ls then some (f g) else none) = dueP fr start g := by
  by_cases m : g ∈ ls
  · rw [if_pos m]
    obtain ⟨e, h1, h2⟩ := h.low g m g 0 (due_zero.mpr rfl)
    obtain ⟨h3, h4⟩ := h.way hc hg e.toNat start e (by have := due_nn h1; omega) h.at0.1 hs h1
    rw [h1]
    congr 1
    have := h.at0.2
    omega
  · rw [if_neg m]
    cases hd : dueP fr start g with
    | none => rfl
    | some d => exact absurd (h.way hc hg d.toNat start d (by have := due_nn hd; omega) h.at0.1 hs hd).1 m
/-! ### the search, under way -/
/-- i piles of the line are done, and of the next some neighbours -/
structure Under (fr : α → Bool) (cs start : List α) (high : Nat) (S : List α) (i : Nat) (some' : List α → Prop) (ls : List (List α)) (f : List α → Int) : Prop where
  at0 : start ∈ ls ∧ f start = 0
  nd : ls.Nodup
  small : ∀ x ∈ ls, x.length ≤ high ∧ ∀ l ∈ x, l ∈ S
  low : ∀ x ∈ ls, ∀ (g : List α) (d : Int), dueP fr x g = some d → ∃ e, dueP fr start g = some e ∧ e ≤ d + f x
  out : ∀ (j : Nat) (y : List α), j < i → ls[j]? = some y → ∀ x, Near cs y x → x.length ≤ high → x ∈ ls ∧ f x ≤ f y + 1
  now : ∀ y, ls[i]? = some y → (∀ x, some' x → x.length ≤ high → x ∈ ls ∧ f x ≤ f y + 1) ∧ ∀ x ∈ ls, f x ≤ f y + 1
  mono : ∀ (j k : Nat) (x y : List α), j ≤ k → ls[j]? = some x → ls[k]? = some y → f x ≤ f y
  nn : ∀ x ∈ ls, 0 ≤ f x ∧ f x ≤ ls.length
theorem Under.whole {fr : α → Bool} {cs start S : List α} {high i : Nat} {ls : List (List α)} {f : List α → Int} {Q : List α → Prop} (h : Under fr cs start high S i Q ls f) (hi : ls.length ≤ i) : Whole fr cs start high ls f :=
  ⟨h.at0, h.low, fun y hy x h1 h2 => by
    obtain ⟨j, hj⟩ := List.getElem?_of_mem hy
    exact h.out j y (by have := (List.getElem?_eq_some_iff.mp hj).1; omega) hj x h1 h2⟩
theorem Under.begin {fr : α → Bool} {cs start S : List α} {high : Nat} (h1 : start.length ≤ high) (h2 : ∀ l ∈ start, l ∈ S) {f : List α → Int} (h3 : f start = 0) : Under fr cs start high S 0 (fun _ => False) [start] f where
  at0 := ⟨List.mem_singleton_self _, h3⟩
  nd := by simp
  small := fun x hx => by rw [List.mem_singleton.mp hx]; exact ⟨h1, h2⟩
  low := fun x hx g d hd => by rw [List.mem_singleton.mp hx] at hd ⊢; exact ⟨d, hd, by omega⟩
  out := fun j y hj => absurd hj (Nat.not_lt_zero _)
  now := fun y hy => ⟨fun x hx => hx.elim, fun x hx => by
    have : start = y := Option.some.inj hy
    rw [List.mem_singleton.mp hx, this]
    omega⟩
  mono := fun j k x y hjk hx hy => by
    have e1 : start = x := by
      cases j with
      | zero => exact Option.some.inj hx
      | succ j => simp at hx
    have e2 : start = y := by
      cases k with
      | zero => exact Option.some.inj hy
      | succ j => simp at hy
    rw [← e1, ← e2]
    exact Int.le_refl _
  nn := fun x hx => by rw [List.mem_singleton.mp hx, h3]; simp
/-- the next one of the line -/
theorem Under.next {fr : α → Bool} {cs start S y : List α} {high i : Nat} {ls : List (List α)} {f : List α → Int} {Q : List α → Prop} (h : Under fr cs start high S i Q ls f) (hy : ls[i]? = some y) (hQ : ∀ x, Near cs y x → Q x) : Under fr cs start high S (i + 1) (fun _ => False) ls f :=
  { h with
    out := fun j z hj hz x h1 h2 => by
      by_cases c : j = i
      · subst c
        have : y = z := by rw [hy] at hz; exact Option.some.inj hz
        subst this
        exact (h.now y hy).1 x (hQ x h1) h2
      · exact h.out j z (by omega) hz x h1 h2
    now := fun z hz => ⟨fun x hx => hx.elim, fun x hx => by
      have := (h.now y hy).2 x hx
      have := h.mono i (i + 1) y z (by omega) hy hz
      omega⟩ }
/-- a neighbour that is there, or is too large -/
theorem Under.old {fr : α → Bool} {cs start S y x : List α} {high i : Nat} {ls : List (List α)} {f : List α → Int} {Q : List α → Prop} (h : Under fr cs start high S i Q ls f) (hy : ls[i]? = some y) (hx : x.length ≤ high → x ∈ ls) : Under fr cs start high S i (fun z => Q z ∨ z = x) ls f :=
  { h with
    now := fun z hz => ⟨fun w hw hl => by
      rcases hw with hw | rfl
      · exact (h.now z hz).1 w hw hl
      · exact ⟨hx hl, (h.now z hz).2 _ (hx hl)⟩, (h.now z hz).2⟩ }
/-- a neighbour that is new -/
theorem Under.new {fr : α → Bool} {cs start S y x : List α} {high i : Nat} {ls : List (List α)} {f : List α → Int} {Q : List α → Prop} (h : Under fr cs start high S i Q ls f) (hy : ls[i]? = some y) (hc : ∀ l ∈ cs, fr l = true) (hn : Near cs y x) (hx : x ∉ ls) (hl : x.length ≤ high) (hS : ∀ l ∈ x, l ∈ S) :
    Under fr cs start high S i (fun z => Q z ∨ z = x) (ls ++ [x]) (fup f x (f y + 1)) := by
  have hil := (List.getElem?_eq_some_iff.mp hy).1
  have hym : y ∈ ls := List.mem_of_getElem? hy
  have hf : ∀ z ∈ ls, fup f x (f y + 1) z = f z := fun z hz => by
    unfold fup
    rw [if_neg (fun e : z = x => hx (e ▸ hz))]
  have hfx : fup f x (f y + 1) x = f y + 1 := by unfold fup; rw [if_pos rfl]
  have hget : ∀ {j z}, (ls ++ [x])[j]? = some z → ls[j]? = some z ∨ j = ls.length ∧ z = x := fun {j z} hz => by
    by_cases c : j < ls.length
    · rw [List.getElem?_append_left c] at hz
      exact .inl hz
    · rw [List.getElem?_append_right (by omega)] at hz
      have hj := (List.getElem?_eq_some_iff.mp hz).1
      simp at hj
      have e : j = ls.length := by omega
      subst e
      rw [Nat.sub_self] at hz
      exact .inr ⟨rfl, (Option.some.inj hz).symm⟩
  have hmem : ∀ z ∈ ls ++ [x], z ∈ ls ∨ z = x := fun z hz => (List.mem_append.mp hz).imp id List.mem_singleton.mp
  have hold := (h.now y hy).2
  refine ⟨⟨List.mem_append_left _ h.at0.1, by rw [hf _ h.at0.1]; exact h.at0.2⟩, ?_, ?_, ?_, ?_, ?_, ?_, ?_⟩
  · rw [List.nodup_append]
    exact ⟨h.nd, by simp, fun a ha b hb => by rw [List.mem_singleton.mp hb]; exact fun e => hx (e ▸ ha)⟩
  · intro z hz
    rcases hmem z hz with hz | rfl
    · exact h.small z hz
    · exact ⟨hl, hS⟩
  · intro z hz g d hd
    rcases hmem z hz with hz | rfl
    · rw [hf z hz]
      exact h.low z hz g d hd
    · rw [hfx]
      obtain ⟨e, h1, h2⟩ := due_near hc hn hd
      obtain ⟨e', h3, h4⟩ := h.low y hym g e h1
      exact ⟨e', h3, by omega⟩
  · intro j z hj hz w h1 h2
    have hz' : ls[j]? = some z := by
      rw [List.getElem?_append_left (by omega)] at hz
      exact hz
    obtain ⟨h3, h4⟩ := h.out j z hj hz' w h1 h2
    rw [hf w h3, hf z (List.mem_of_getElem? hz')]
    exact ⟨List.mem_append_left _ h3, h4⟩
  · intro z hz
    have hz' : z = y := by
      rw [List.getElem?_append_left hil, hy] at hz
      exact (Option.some.inj hz).symm
    subst hz'
    rw [hf z hym]
    refine ⟨fun w hw h2 => ?_, fun w hw => ?_⟩
    · rcases hw with hw | rfl
      · obtain ⟨h3, h4⟩ := (h.now z hy).1 w hw h2
        rw [hf w h3]
        exact ⟨List.mem_append_left _ h3, h4⟩
      · rw [hfx]
        exact ⟨by simp, by omega⟩
    · rcases hmem w hw with hw | rfl
      · rw [hf w hw]
        exact hold w hw
      · rw [hfx]
        omega
  · intro j k z w hjk hz hw
    rcases hget hw with hw | ⟨rfl, rfl⟩
    · have hz' : ls[j]? = some z := by
        have := (List.getElem?_eq_some_iff.mp hw).1
        rw [List.getElem?_append_left (by omega)] at hz
        exact hz
      rw [hf z (List.mem_of_getElem? hz'), hf w (List.mem_of_getElem? hw)]
      exact h.mono j k z w hjk hz' hw
    · rw [hfx]
      rcases hget hz with hz | ⟨_, rfl⟩
      · rw [hf z (List.mem_of_getElem? hz)]
        exact hold z (List.mem_of_getElem? hz)
      · rw [hfx]
        omega
  · intro z hz
    rw [List.length_append]
    rcases hmem z hz with hz | rfl
    · rw [hf z hz]
      have := h.nn z hz
      push_cast
      omega
    · rw [hfx]
      have := h.nn y hym
      push_cast
      simp
      omega
/-! ### there are not many -/
theorem nodup_len {ls all : List α} (hn : ls.Nodup) (h : ∀ x ∈ ls, x ∈ all) : ls.length ≤ all.length := len_of_counts fun x => by
  by_cases m : x ∈ ls
  · have h1 : cnt x ls ≤ 1 := by
      unfold cnt
      have := List.nodup_iff_count.mp hn x
      omega
    have := cnt_pos.mpr (h x m)
    omega
  · have := cnt_zero.mpr m
    have := cnt_nn x all
    omega
def level (S : List α) : Nat → List (List α)
  | 0 => [[]]
  | n + 1 => (level S n).flatMap fun p => S.map fun l => p ++ [l]
def upTo (S : List α) : Nat → List (List α)
  | 0 => [[]]
  | n + 1 => upTo S n ++ level S (n + 1)
theorem level_mem (S : List α) : ∀ (x : List α), (∀ l ∈ x, l ∈ S) → x ∈ level S x.length := snoc_ind (fun _ => by simp [level]) (fun x l ih h => by
  rw [List.length_append]
  show _ ∈ level S (x.length + 1)
  unfold level
  rw [List.mem_flatMap]
  exact ⟨x, ih (fun z hz => h z (List.mem_append_left _ hz)), List.mem_map.mpr ⟨l, h l (by simp), rfl⟩⟩)
theorem upTo_mem {S : List α} : ∀ {n : Nat} {x : List α}, x.length ≤ n → (∀ l ∈ x, l ∈ S) → x ∈ upTo S n
  | 0, x, h, _ => by
    have : x = [] := List.length_eq_zero_iff.mp (by omega)
    subst this
    simp [upTo]
  | n + 1, x, h, h2 => by
    unfold upTo
    by_cases c : x.length = n + 1
    · refine List.mem_append_right _ ?_
      rw [← c]
      exact level_mem S x h2
    · exact List.mem_append_left _ (upTo_mem (by omega) h2)
theorem level_len (S : List α) : ∀ n, (level S n).length = S.length ^ n
  | 0 => rfl
  | n + 1 => by
    unfold level
    rw [List.length_flatMap]
    have : ((level S n).map fun p => (S.map fun l => p ++ [l]).length) = (level S n).map fun _ => S.length := List.map_congr_left fun p _ => List.length_map _
    rw [this, List.map_const', List.sum_replicate_nat, level_len S n, Nat.pow_succ]
end
end K15

set_option Elab.async false
set_option linter.all false
set_option maxRecDepth 100000
set_option maxHeartbeats 2000000
/-! piles as keys; {k: v}; repr of an int or None; lists owned (only over the base of tools/fork.py) -/
namespace Lw
open PySem PySem.Spec PyProof.Rows L2 K15
abbrev tk (p : List Key) : PyData := .tuple (keysD p)
theorem dta_keys {K : Fr} {B : Hp} : ∀ {p : List Key} {vs : List V}, DtAll K B vs (keysD p) → vs = p.map kV
  | [], _, h => by cases h; rfl
  | k :: p, _, h => by
    cases h with
    | cons h1 h2 =>
      rw [key_v h1, dta_keys h2]
      rfl
theorem tk_at {K : Fr} {B : Hp} {v : V} {p : List Key} (h : Dt K B v (tk p)) : ∃ a, v = .ref a ∧ B a = some (.tup (p.map kV)) := by
  cases h with
  | @tup a vs _ _ h0 h2 =>
    have := dta_keys h2
    subst this
    exact ⟨a, rfl, h0 (Trk.keys p)⟩
/-- in a comprehension: the fragment told -/
theorem op_catK {X : Cx} {K : Fr} (h : X.K = K) : OpR X (binaryOp .Add) (rCatA K) := h ▸ op_catA
theorem call_lenK {X : Cx} {K : Fr} (h : X.K = K) : CallR X (.builtin "len") (fun xs H Q => ∃ p ys, xs = [.ref p] ∧ (SqL K H p ys ∨ SqT K H p ys) ∧ Q (.int ys.length) H) := h ▸ call_len_seq
/-! ### {k: v}, k a tuple -/
def tDisp1T (tk tv : TE) : TE := fun σ H Q => ∀ p, H p = none → tk σ (upd H p (.dT [])) fun x H1 => tv σ H1 fun y H2 => ∃ (ks : List Key) (b : Addr), x = .ref b ∧ H2 b = some (.tup (ks.map kV)) ∧ H2 p = some (.dT []) ∧ Q (.ref p) (upd H2 p (.dT [(ks, y)]))
theorem pe_disp1T {X : Cx} {k v : Expr} {pos : Pos} {tk tv : TE} (hu : X.A.units + 1 < cLine) (hk : PE X k tk) (hv : PE X v tv) : PE X (.Dict [some k] [v] pos) (tDisp1T tk tv) := by
  refine ⟨fun pins s σ H Q I q => ?_⟩
  have hn := I.hok.fresh (Nat.le_refl s.heap.objs.size)
  have I1 := I.laid (a := s.heap.objs.size) (o := .dT []) (h' := s.heap.push { cls := .type "dict", data := .dict #[] }) (t' := s.toks) (fun _ _ q => Heap.get?_push_of_some _ q) (Nat.le_refl _) (dt_empty s.heap I.big)
  refine wpAny_Dict_any rfl rfl (by simp) (by simp) (pairTrees_cons_walk (thn (hk.run pins _ σ _ _ I1 (q _ hn)) fun kv s1 ⟨x, H1, I2, rx, q1⟩ => thn (hv.run pins s1 σ H1 _ I2 q1) fun vv s2 ⟨y, H2, I3, ry, ks, b, ex, eb, ek, q2⟩ => pairTrees_nil_walk ?_))
  subst ex
  cases (show kv = Value.ref b from rx)
  obtain ⟨z, hd, xs, rel, dd⟩ := dt_of I3.hok ek
  cases rel
  have hc : CarriesH (tupleKind (mixKind X.prog X.w)) s2.heap [(Value.ref b, vv)] [(ks, b, vv)] := ⟨rfl, rfl, key_of I3.hok eb, trivial⟩
  refine wpAny_storeAllH (knd := tupleKind (mixKind X.prog X.w)) (Nat.lt_of_le_of_lt (Nat.le_succ _) hu) [(Value.ref b, vv)] [(ks, b, vv)] [] s2 (fun _ s₂ => EP X pins σ Q (Value.ref s.heap.objs.size) s₂) hc dd (by simp [sizeLine_eq]) fun h' tk' dd' hs => ⟨.ref s.heap.objs.size, _, ?_, rfl, q2⟩
  obtain ⟨q, es, ep, hq, h2, h3, h4, _, h5⟩ := dd'
  have r0 : KT H2 (putK [] ks y) (storedH [] ks b vv) := KT.put (kvs := []) .nil ks eb ry
  have e0 : putK ([] : List (List Key × V)) ks y = [(ks, y)] := rfl
  rw [e0] at r0
  refine d_write I3 (by rw [ek]; exact True.intro) hs ⟨q, hq⟩ ⟨by simp [sizeLine_eq], hd, _, r0.keeps fun c ys ec => ?_, q, es, ep, hq, h2, h3, h4, h5⟩
  rw [upd_ne (ne_of ec ek (fun z => nomatch z))]
  exact ec
section
variable {K : Fr} {ρ : AS} {μ μ1 μ2 μ3 : AM} {ta tb td te tl ty tv tx : TE} {ts : TA} {R : AV} {Rs : List AV} {P : Po} {l : Addr} {p : List Key} {kvs : List (List Key × V)} {ds es : List PyData}
theorem dget_p {B H : Hp} {v : V} (sb : Same B H) (hr : H l = some (.dT kvs)) (hv : Dt K B v (tk p)) : DGet H l v (valV kvs p) := by
  obtain ⟨a, rfl, ha⟩ := tk_at hv
  exact .inr ⟨kvs, p, a, .inl hr, rfl, sb _ _ ha, rfl⟩
/-- p not in d -/
theorem et_dnotinP (hy : EvW K ty ρ μ (.d (tk p)) μ1) (hd : EvW K td ρ μ1 (.r l) μ2) (hl : μ2 l = some (.o (.dT kvs))) : EvT K (tB (tDNotIn ty td)) ρ μ (!(valV kvs p).isSome) μ2 := fun F B H σ w sl Q q =>
  hy F B H σ w sl _ fun y B1 H1 e1 w1 h1 => hd F B1 H1 σ w1 (sl.mono e1) _ fun x B2 H2 e2 w2 h2 => by
    have ex : x = .ref l := h2
    subst ex
    exact ⟨l, valV kvs p, rfl, dget_p w2.1 (own_o w2 hl) (dp_mono e2 h1), _, rfl, q B2 H2 (e1.trans e2) w2⟩
/-- d[p] -/
theorem ew_dgetP {r : Int} (hd : EvW K td ρ μ (.r l) μ1) (hy : EvW K ty ρ μ1 (.d (tk p)) μ2) (hl : μ2 l = some (.o (.dT kvs))) (hh : valV kvs p = some (.int r)) : EvW K (tDGet td ty) ρ μ (.i r) μ2 := fun F B H σ w sl Q q =>
  hd F B H σ w sl _ fun x B1 H1 e1 w1 h1 => hy F B1 H1 σ w1 (sl.mono e1) _ fun y B2 H2 e2 w2 h2 => by
    have ex : x = .ref l := h1
    subst ex
    have := dget_p w2.1 (own_o w2 hl) h2
    rw [hh] at this
    exact ⟨l, .int r, rfl, this, q _ B2 H2 (e1.trans e2) w2 (.int r)⟩
/-- d.get(p) -/
theorem ew_dget1P {o : Option Int} (hd : EvW K td ρ μ (.r l) μ1) (hl1 : μ1 l = some (.o (.dT kvs))) (hy : EvW K ty ρ μ1 (.d (tk p)) μ2) (hl : μ2 l = some (.o (.dT kvs))) (hh : valV kvs p = o.map V.int) : EvW K (tDGet1 td ty) ρ μ (.d (optD o)) μ2 := fun F B H σ w sl Q q =>
  hd F B H σ w sl _ fun x B1 H1 e1 w1 h1 => by
    have ex : x = .ref l := h1
    subst ex
    refine ⟨l, rfl, .inr ⟨kvs, .inl (own_o w1 hl1)⟩, hy F B1 H1 σ w1 (sl.mono e1) _ fun y B2 H2 e2 w2 h2 => ⟨_, dget_p w2.1 (own_o w2 hl) h2, ?_⟩⟩
    rw [hh]
    cases o with
    | none => exact q _ B2 H2 (e1.trans e2) w2 .non
    | some i => exact q _ B2 H2 (e1.trans e2) w2 (.int i)
/-- d[p] = an int -/
theorem s_dputP {r : Int} (hv : EvW K tv ρ μ (.i r) μ1) (hd : EvW K td ρ μ1 (.r l) μ2) (hy : EvW K ty ρ μ2 (.d (tk p)) μ3) (hl : μ3 l = some (.o (.dT kvs))) (hz : kvs.length < 100000) (k : P.nx ρ (updM μ3 l (.o (.dT (putK kvs p (.int r)))))) : StW K (sDPut td ty tv) ρ μ P := fun F D B H σ w sl re =>
  hv F B H σ w sl _ fun v B1 H1 e1 w1 h1 => hd F B1 H1 σ w1 (sl.mono e1) _ fun x B2 H2 e2 w2 h2 => hy F B2 H2 σ w2 (sl.mono (e1.trans e2)) _ fun y B3 H3 e3 w3 h3 => by
    have ex : x = .ref l := h2
    have ev := h_i h1
    subst ex ev
    obtain ⟨a, rfl, ha⟩ := tk_at h3
    exact ⟨l, _, rfl, .t (own_o w3 hl) (w3.1 _ _ ha) (Nat.lt_of_lt_of_le hz (by decide : 100000 ≤ sizeLine)), re.nx _ _ B3 _ σ k ((e1.trans e2).trans e3) (w3.set (ao := .o (.dT (putK kvs p (.int r)))) hl ⟨rfl, trivial⟩) (sl.mono ((e1.trans e2).trans e3))⟩
theorem ex_disp1T {r : Int} (h : ∀ a, μ a = none → EvW K te ρ (updM μ a (.o (.dT []))) (.d (tk p)) (updM μ a (.o (.dT [])))) (hv : ∀ a, μ a = none → EvW K tv ρ (updM μ a (.o (.dT []))) (.i r) (updM μ a (.o (.dT [])))) :
    EvX K (tDisp1T te tv) ρ μ (fun R μ1 => ∃ a, μ a = none ∧ R = .r a ∧ μ1 = updM μ a (.o (.dT [(p, .int r)]))) := fun F B H σ w sl Q q => fun a hp => by
  have hm := own_free w hp
  have w1 := w.newM (ao := .o (.dT [])) hp ⟨rfl, trivial⟩
  exact h a hm F B _ σ w1 sl _ fun x B1 H1 e1 w2 hx => hv a hm F B1 H1 σ w2 (sl.mono e1) _ fun y B2 H2 e2 w3 hy => by
    have ey := h_i hy
    subst ey
    obtain ⟨b, rfl, hb⟩ := tk_at hx
    refine ⟨p, b, rfl, w3.1 _ _ (e2 _ _ hb), own_o w3 updM_same, q (.r a) _ (.ref a) B2 _ ⟨a, hm, rfl, rfl⟩ (e1.trans e2) ?_ rfl⟩
    have := w3.set (ao := .o (.dT [(p, .int r)])) updM_same ⟨rfl, trivial⟩
    rw [updM_updM] at this
    exact this
theorem ex_lstO (h : EvA K ts ρ μ Rs μ1) (hz : Rs.length ≤ 100000) : EvX K (tLst ts) ρ μ (fun R μ2 => ∃ a, μ1 a = none ∧ R = .r a ∧ μ2 = updM μ1 a (.lst Rs)) := fun F B H σ w sl Q q =>
  ew_lstR h hz F B H σ w sl _ fun a B2 H2 e hm w2 => q (.r a) _ (.ref a) B2 H2 ⟨a, hm, rfl, rfl⟩ e w2 rfl
/-- a, b, c = .., plain names -/
theorem s_par3X {i j k : Nat} {RelA : List AV → AM → Prop} (h : EvAX K ts ρ μ RelA) (hp : ∀ Rs μ1, RelA Rs μ1 → ∃ R1 R2 R3, Rs = [R1, R2, R3] ∧ P.nx (((ρ.set i (some R1)).set j (some R2)).set k (some R3)) μ1) : StW K (tPar3 i j k ts) ρ μ P := fun F D B H σ w sl r =>
  h F B H σ w sl _ fun Rs μ1 vs B2 H2 hr e2 w2 hv => by
    obtain ⟨R1, R2, R3, rfl, hn⟩ := hp Rs μ1 hr
    match vs, hv with
    | [u, v, x], hv => exact ⟨u, v, x, rfl, r.nx _ _ B2 H2 _ hn e2 w2 (Sl.set hv.2.2.1 k (Sl.set hv.2.1 j (Sl.set hv.1 i (sl.mono e2))))⟩
/-- an owned list + a list -/
theorem o_catO (hl : μ l = some (.lst (ds.map .d))) (hz : ds.length + es.length ≤ 100000) : Op2 K rCat (.r l) (.t es) μ (.t (ds ++ es)) μ := fun F B H x y w r1 r2 Q q => by
  have ex : x = .ref l := r1
  subst ex
  obtain ⟨vs, hu, hA⟩ := own_lst w hl
  obtain ⟨b, ws, rfl, k2, k3⟩ := r2
  refine ⟨l, b, vs, ws, rfl, rfl, hu, w.1 _ _ k2, ?_, fun p hp => ?_⟩
  · rw [dpa_length (AllH.data hA), dpa_length k3]
    exact Nat.le_trans hz (by decide)
  · obtain ⟨w3, e3, e4⟩ := w.new (o := .lst (vs ++ ws)) hp
    exact q _ _ _ e3 w3 ⟨p, _, rfl, e4, dpa_mono e3 (dpa_app (AllH.data hA) k3)⟩
/-- a list + an owned list -/
theorem o_catR (hl : μ l = some (.lst (es.map .d))) (hz : ds.length + es.length ≤ 100000) : Op2 K rCat (.t ds) (.r l) μ (.t (ds ++ es)) μ := fun F B H x y w r1 r2 Q q => by
  have ex : y = .ref l := r2
  subst ex
  obtain ⟨vs, hu, hA⟩ := own_lst w hl
  obtain ⟨b, ws, rfl, k2, k3⟩ := r1
  refine ⟨b, l, ws, vs, rfl, rfl, w.1 _ _ k2, hu, ?_, fun p hp => ?_⟩
  · rw [dpa_length (AllH.data hA), dpa_length k3]
    exact Nat.le_trans hz (by decide)
  · obtain ⟨w3, e3, e4⟩ := w.new (o := .lst (ws ++ vs)) hp
    exact q _ _ _ e3 w3 ⟨p, _, rfl, e4, dpa_mono e3 (dpa_app k3 (AllH.data hA))⟩
end
/-! ### repr of an int or None -/
def rReprO : List V → Hp → VK → Prop := fun xs H Q => (∃ i, xs = [.int i] ∧ i.natAbs.log2 < 1920 ∧ Q (.str (toString i)) H) ∨ (xs = [.non] ∧ Q (.str "None") H)
theorem call_reprO {X : Cx} : CallR X (.builtin "repr") rReprO := fun pins s σ H xs us Q I r h => by
  rcases h with h | ⟨rfl, q⟩
  · exact SkE.call_repr_int pins s σ H xs us Q I r h
  · obtain ⟨u, rfl, hu⟩ := vals1 r
    cases (show u = Value.none from hu)
    exact PySem.P.repr_of_none ⟨.str _, H, I.tok _, ⟨_, rfl⟩, q⟩
def shownO : Option Int → Str
  | none => "None"
  | some i => toString i
theorem n_reprO1 {K : Fr} {μ : AM} {o : Option Int} (h : ∀ d, o = some d → 0 ≤ d ∧ d ≤ 10 ^ 6) : OpN K rReprO [.d (optD o)] μ (.s (shownO o)) μ := fun F B H xs w hx Q q => by
  match xs, hx with
  | [v], hx =>
    cases o with
    | none =>
      have := h_n hx.1
      subst this
      exact .inr ⟨rfl, q _ B H (Same.refl _) w (.str _)⟩
    | some i =>
      have := h_i hx.1
      subst this
      have hi := h i rfl
      exact .inl ⟨i, rfl, isml_of (i := i) (by omega), q _ B H (Same.refl _) w (.str _)⟩
end Lw

set_option Elab.async false
set_option linter.all false
set_option maxRecDepth 100000
set_option maxHeartbeats 4000000
namespace K15
open PySem PySem.Spec PyProof.Rows L2 Lw

def topS (i : Nat) : Stmt := PySem.Challenge.pw_stackworks_k39_fewest_instructions_by_se.main.body.getD i (.Pass ⟨0, 0, 0, 0⟩)
abbrev s_is_constant : Stmt := topS 5
theorem sc_is_constant : FnScope ["value"] ["value"] (defScope s_is_constant) := ⟨rfl, rfl, rfl, by decide +kernel, rfl, by decide +kernel, by decide +kernel⟩
abbrev s_is_name : Stmt := topS 6
theorem sc_is_name : FnScope ["value", "least", "most", "letter"] ["value", "least", "most"] (defScope s_is_name) := ⟨rfl, rfl, rfl, by decide +kernel, rfl, by decide +kernel, by decide +kernel⟩
abbrev s_counts_of : Stmt := topS 8
theorem sc_counts_of : FnScope ["labels", "counts", "label"] ["labels"] (defScope s_counts_of) := ⟨rfl, rfl, rfl, by decide +kernel, rfl, by decide +kernel, by decide +kernel⟩
abbrev s_is_reachable : Stmt := topS 9
theorem sc_is_reachable : FnScope ["cells", "goal", "there", "label"] ["cells", "goal"] (defScope s_is_reachable) := ⟨rfl, rfl, rfl, by decide +kernel, rfl, by decide +kernel, by decide +kernel⟩
abbrev s_standing_cells : Stmt := topS 10
theorem sc_standing_cells : FnScope ["cells", "goal", "marked", "count", "label", "stands"] ["cells", "goal"] (defScope s_standing_cells) := ⟨rfl, rfl, rfl, by decide +kernel, rfl, by decide +kernel, by decide +kernel⟩
abbrev s_best_plan : Stmt := topS 11
theorem sc_best_plan : FnScope ["cells", "goal", "there", "wanted", "marked", "pushed", "over", "best", "drops", "label", "stands", "count"] ["cells", "goal"] (defScope s_best_plan) := ⟨rfl, rfl, rfl, by decide +kernel, rfl, by decide +kernel, by decide +kernel⟩
abbrev s_check_pile : Stmt := topS 15
theorem sc_check_pile : FnScope ["pile", "label"] ["pile"] (defScope s_check_pile) := ⟨rfl, rfl, rfl, by decide +kernel, rfl, by decide +kernel, by decide +kernel⟩
abbrev s_labels_of : Stmt := topS 16
theorem sc_labels_of : FnScope ["pile", "label"] ["pile"] (defScope s_labels_of) := ⟨rfl, rfl, rfl, by decide +kernel, rfl, by decide +kernel, by decide +kernel⟩
abbrev s_can_reach : Stmt := topS 17
theorem sc_can_reach : FnScope ["pile", "goal"] ["pile", "goal"] (defScope s_can_reach) := ⟨rfl, rfl, rfl, by decide +kernel, rfl, by decide +kernel, by decide +kernel⟩
abbrev s_fewest : Stmt := topS 18
theorem sc_fewest : FnScope ["pile", "goal", "best"] ["pile", "goal"] (defScope s_fewest) := ⟨rfl, rfl, rfl, by decide +kernel, rfl, by decide +kernel, by decide +kernel⟩
abbrev s__law_jar : Stmt := topS 20
theorem sc__law_jar : FnScope ["script", "k", "cell"] ["script", "k"] (defScope s__law_jar) := ⟨rfl, rfl, rfl, by decide +kernel, rfl, by decide +kernel, by decide +kernel⟩
abbrev s__law_ladle : Stmt := topS 21
theorem sc__law_ladle : FnScope ["jar", "many", "found", "mixed"] ["jar", "many"] (defScope s__law_ladle) := ⟨rfl, rfl, rfl, by decide +kernel, rfl, by decide +kernel, by decide +kernel⟩
abbrev s__law_near : Stmt := topS 22
theorem sc__law_near : FnScope ["cells", "constants", "found", "spot", "label"] ["cells", "constants"] (defScope s__law_near) := ⟨rfl, rfl, rfl, by decide +kernel, rfl, by decide +kernel, by decide +kernel⟩
abbrev s__law_distances : Stmt := topS 23
theorem sc__law_distances : FnScope ["start", "constants", "high", "found", "line", "at", "cells", "later"] ["start", "constants", "high"] (defScope s__law_distances) := ⟨rfl, rfl, rfl, by decide +kernel, rfl, by decide +kernel, by decide +kernel⟩
abbrev s_law : Stmt := topS 24
theorem sc_law : FnScope ["script", "labels", "goals", "turn", "longer", "cells", "k", "jar", "start", "found", "goal", "due", "label", "again"] ["script"] (defScope s_law) := ⟨rfl, rfl, rfl, by decide +kernel, rfl, by decide +kernel, by decide +kernel⟩
structure Ad where
  f_is_constant : Addr
  fd_is_constant : FuncData
  f_is_name : Addr
  fd_is_name : FuncData
  f_counts_of : Addr
  fd_counts_of : FuncData
  f_is_reachable : Addr
  fd_is_reachable : FuncData
  f_standing_cells : Addr
  fd_standing_cells : FuncData
  f_best_plan : Addr
  fd_best_plan : FuncData
  f_check_pile : Addr
  fd_check_pile : FuncData
  f_labels_of : Addr
  fd_labels_of : FuncData
  f_can_reach : Addr
  fd_can_reach : FuncData
  f_fewest : Addr
  fd_fewest : FuncData
  f__law_jar : Addr
  fd__law_jar : FuncData
  f__law_ladle : Addr
  fd__law_ladle : FuncData
  f__law_near : Addr
  fd__law_near : FuncData
  f__law_distances : Addr
  fd__law_distances : FuncData
  f_law : Addr
  fd_law : FuncData
  t_LARGEST : Tok
  t_MOST_LABELS : Tok
  t_MOST_LETTERS : Tok
structure Txt (K : Fr) (mg : Str → Option Value) (ad : Ad) : Prop where
  F_is_constant : Fun K "is_constant" "is_constant" s_is_constant ad.f_is_constant ad.fd_is_constant
  b_is_constant : L2.Binds K ad.fd_is_constant ["value"] []
  k_is_constant : PySem.W.keepIn K (.ref ad.f_is_constant) = true
  mg_is_constant : mg "is_constant" = some (.ref ad.f_is_constant)
  F_is_name : Fun K "is_name" "is_name" s_is_name ad.f_is_name ad.fd_is_name
  b_is_name : L2.Binds K ad.fd_is_name ["value", "least", "most"] []
  k_is_name : PySem.W.keepIn K (.ref ad.f_is_name) = true
  mg_is_name : mg "is_name" = some (.ref ad.f_is_name)
  F_counts_of : Fun K "counts_of" "counts_of" s_counts_of ad.f_counts_of ad.fd_counts_of
  b_counts_of : L2.Binds K ad.fd_counts_of ["labels"] []
  k_counts_of : PySem.W.keepIn K (.ref ad.f_counts_of) = true
  mg_counts_of : mg "counts_of" = some (.ref ad.f_counts_of)
  F_is_reachable : Fun K "is_reachable" "is_reachable" s_is_reachable ad.f_is_reachable ad.fd_is_reachable
  b_is_reachable : L2.Binds K ad.fd_is_reachable ["cells", "goal"] []
  k_is_reachable : PySem.W.keepIn K (.ref ad.f_is_reachable) = true
  mg_is_reachable : mg "is_reachable" = some (.ref ad.f_is_reachable)
  F_standing_cells : Fun K "standing_cells" "standing_cells" s_standing_cells ad.f_standing_cells ad.fd_standing_cells
  b_standing_cells : L2.Binds K ad.fd_standing_cells ["cells", "goal"] []
  k_standing_cells : PySem.W.keepIn K (.ref ad.f_standing_cells) = true
  mg_standing_cells : mg "standing_cells" = some (.ref ad.f_standing_cells)
  F_best_plan : Fun K "best_plan" "best_plan" s_best_plan ad.f_best_plan ad.fd_best_plan
  b_best_plan : L2.Binds K ad.fd_best_plan ["cells", "goal"] []
  k_best_plan : PySem.W.keepIn K (.ref ad.f_best_plan) = true
  mg_best_plan : mg "best_plan" = some (.ref ad.f_best_plan)
  F_check_pile : Fun K "check_pile" "check_pile" s_check_pile ad.f_check_pile ad.fd_check_pile
  b_check_pile : L2.Binds K ad.fd_check_pile ["pile"] []
  k_check_pile : PySem.W.keepIn K (.ref ad.f_check_pile) = true
  mg_check_pile : mg "check_pile" = some (.ref ad.f_check_pile)
  F_labels_of : Fun K "labels_of" "labels_of" s_labels_of ad.f_labels_of ad.fd_labels_of
  b_labels_of : L2.Binds K ad.fd_labels_of ["pile"] []
  k_labels_of : PySem.W.keepIn K (.ref ad.f_labels_of) = true
  mg_labels_of : mg "labels_of" = some (.ref ad.f_labels_of)
  F_can_reach : Fun K "can_reach" "can_reach" s_can_reach ad.f_can_reach ad.fd_can_reach
  b_can_reach : L2.Binds K ad.fd_can_reach ["pile", "goal"] []
  k_can_reach : PySem.W.keepIn K (.ref ad.f_can_reach) = true
  mg_can_reach : mg "can_reach" = some (.ref ad.f_can_reach)
  F_fewest : Fun K "fewest" "fewest" s_fewest ad.f_fewest ad.fd_fewest
  b_fewest : L2.Binds K ad.fd_fewest ["pile", "goal"] []
  k_fewest : PySem.W.keepIn K (.ref ad.f_fewest) = true
  mg_fewest : mg "fewest" = some (.ref ad.f_fewest)
  F__law_jar : Fun K "_law_jar" "_law_jar" s__law_jar ad.f__law_jar ad.fd__law_jar
  b__law_jar : L2.Binds K ad.fd__law_jar ["script", "k"] []
  k__law_jar : PySem.W.keepIn K (.ref ad.f__law_jar) = true
  mg__law_jar : mg "_law_jar" = some (.ref ad.f__law_jar)
  F__law_ladle : Fun K "_law_ladle" "_law_ladle" s__law_ladle ad.f__law_ladle ad.fd__law_ladle
  b__law_ladle : L2.Binds K ad.fd__law_ladle ["jar", "many"] []
  k__law_ladle : PySem.W.keepIn K (.ref ad.f__law_ladle) = true
  mg__law_ladle : mg "_law_ladle" = some (.ref ad.f__law_ladle)
  F__law_near : Fun K "_law_near" "_law_near" s__law_near ad.f__law_near ad.fd__law_near
  b__law_near : L2.Binds K ad.fd__law_near ["cells", "constants"] []
  k__law_near : PySem.W.keepIn K (.ref ad.f__law_near) = true
  mg__law_near : mg "_law_near" = some (.ref ad.f__law_near)
  F__law_distances : Fun K "_law_distances" "_law_distances" s__law_distances ad.f__law_distances ad.fd__law_distances
  b__law_distances : L2.Binds K ad.fd__law_distances ["start", "constants", "high"] []
  k__law_distances : PySem.W.keepIn K (.ref ad.f__law_distances) = true
  mg__law_distances : mg "_law_distances" = some (.ref ad.f__law_distances)
  F_law : Fun K "law" "law" s_law ad.f_law ad.fd_law
  b_law : L2.Binds K ad.fd_law ["script"] []
  k_law : PySem.W.keepIn K (.ref ad.f_law) = true
  mg_law : mg "law" = some (.ref ad.f_law)
  z_isinstance : mg "isinstance" = none
  z_int : mg "int" = none
  z_bool : mg "bool" = none
  z_str : mg "str" = none
  z_tuple : mg "tuple" = none
  z_len : mg "len" = none
  z_all : mg "all" = none
  z_max : mg "max" = none
  z_min : mg "min" = none
  z_range : mg "range" = none
  z_repr : mg "repr" = none
  z_sum : mg "sum" = none
  z_enumerate : mg "enumerate" = none
  z_reversed : mg "reversed" = none
  z_ValueError : mg "ValueError" = none
  v_LARGEST : mg "LARGEST" = some (.int 1000000000000000000000000000000 ad.t_LARGEST)
  v_MOST_LABELS : mg "MOST_LABELS" = some (.int 60 ad.t_MOST_LABELS)
  v_MOST_LETTERS : mg "MOST_LETTERS" = some (.int 8 ad.t_MOST_LETTERS)
end K15

set_option Elab.async false
set_option linter.all false
set_option maxRecDepth 100000
set_option maxHeartbeats 4000000
/-! counts_of, is_reachable, standing_cells, best_plan -/
namespace K15
open PySem PySem.Spec PyProof.Rows L2 Lw
abbrev cntO (l : List Lab) : AO := .o (.dT (rep Lab.key (dist l) fun x => cnt x l))
/-- what stands, top first -/
def mkr (g : List Lab) : List Lab → List (Lab × Bool)
  | [] => []
  | x :: r => (x, decide (g[str g r]? = some x)) :: mkr g r
theorem mkr_len (g : List Lab) : ∀ r, (mkr g r).length = r.length
  | [] => rfl
  | x :: r => by unfold mkr; rw [List.length_cons, mkr_len g r, List.length_cons]
theorem mkr_get (g : List Lab) : ∀ (r : List Lab) (i : Nat) (x : Lab), r[i]? = some x → (mkr g r)[i]? = some (x, decide (g[str g (r.drop (i + 1))]? = some x))
  | [], _, _, h => by simp at h
  | y :: r, 0, x, h => by
    have e := Option.some.inj (show some y = some x from h)
    subst e
    rfl
  | y :: r, i + 1, x, h => mkr_get g r i x h
theorem mkr_cons (g : List Lab) (x : Lab) (r : List Lab) : mkr g (x :: r) = (x, decide (g[str g r]? = some x)) :: mkr g r := rfl
theorem str_cons (g : List Lab) (x : Lab) (r : List Lab) : str g (x :: r) = str g r + (if g[str g r]? = some x then 1 else 0) := rfl
theorem mkr_count (g : List Lab) : ∀ r, ((mkr g r).filter fun p => p.2).length = str g r
  | [] => rfl
  | x :: r => by
    rw [mkr_cons, str_cons, List.filter_cons]
    by_cases h : g[str g r]? = some x
    · rw [if_pos h, if_pos (decide_eq_true h), List.length_cons, mkr_count g r]
    · rw [if_neg h, if_neg (by simpa using h), mkr_count g r]
      rfl
def mkD (l : List (Lab × Bool)) : List PyData := l.map fun p => .tuple [p.1.d, .bool p.2]
def SCounts : Spc := fun As μ Post => ∃ l : List Lab, As = [.d (.tuple (labD l))] ∧ l.length ≤ 5000 ∧ ∀ p, μ p = none → Post (.r p) (updM μ p (cntO l))
def SReachable : Spc := fun As μ Post => ∃ l g : List Lab, As = [.d (.tuple (labD l)), .d (.tuple (labD g))] ∧ l.length ≤ 5000 ∧ g.length ≤ 5000 ∧ Post (.b (okT Lab.free g l.reverse 0)) μ
def SStanding : Spc := fun As μ Post => ∃ l g : List Lab, As = [.d (.tuple (labD l)), .d (.tuple (labD g))] ∧ l.length ≤ 5000 ∧ g.length ≤ 5000 ∧ (∀ x ∈ l, keyOk x.b = true) ∧ (∀ x ∈ g, keyOk x.b = true) ∧ Post (.d (.list (mkD (mkr g l.reverse).reverse))) μ
def SBest : Spc := fun As μ Post => ∃ l g : List Lab, As = [.d (.tuple (labD l)), .d (.tuple (labD g))] ∧ l.length ≤ 5000 ∧ g.length ≤ 5000 ∧ (∀ x ∈ l, keyOk x.b = true) ∧ (∀ x ∈ g, keyOk x.b = true) ∧
  (okT Lab.free g l.reverse 0 = false → Post (.d .none) μ) ∧ ∀ T, Last Lab.free g l.reverse T → Post (.d (.tuple [.int (bestP (fun x => cnt x g) g l.reverse T).1, .int ((bestP (fun x => cnt x g) g l.reverse T).2 : Int)])) μ
theorem rep_has (l ks : List Lab) (c : Lab → Int) (x : Lab) : Has (.dT (rep Lab.key ks c)) x.d (if x ∈ ks then some (.int (c x)) else none) := by
  have := Has.t (rep Lab.key ks c) x
  rwa [rep_val Lab.key_inj] at this
section
variable {P : Program} {w : World} {K : Fr} {mg : Str → Option Value} {base : Heap} {ad : Ad}
theorem ok_counts_of (T : Txt K mg ad) : FnOk P w K mg base CX0 1 ad.f_counts_of ad.fd_counts_of ["labels"] (spP K SCounts) := by
  have nd := sc_counts_of.nd
  refine fn_ok T.F_counts_of sc_counts_of (fun As μ Post h => ?_) (fun cdv A outer s H E hr => ?_)
  · obtain ⟨l, rfl, _⟩ := h
    rfl
  · have hu := hr.un
    have hu1 : A.units + 3 + 1 < cLine := by
      have : A.units + 3 + 200 < cLine := by simpa using hu
      omega
    refine ⟨_, (pss_cons (ps_set (i := 1) nd rfl (Or.inl rfl) pe_dnewT)
 (pss_cons (ps_for PassesOwn.never rfl (pi_tup (pv 0)) (pg_name (i := 2) nd rfl (Or.inl rfl))
 (pss_one (ps_dput hu1 (pv 1) (pv 2) (pe_op op_add (pe_dget2 hu1 (pv 1) (pv 2) pe_int ⟨rfl, rfl, rfl, rfl⟩) pe_int) rfl)))
 (pss_one (ps_ret (pv 1))))), ?_⟩
    rintro As μ Post ⟨l, rfl, hz, hp⟩
    refine s_seq (s_dnew (fun p hp0 => ?_))
    refine s_seqM (fun ρ' μ' => ∃ v, ρ' = [some (.d (.tuple (labD l))), some (.r p), v] ∧ μ' = updM μ p (cntO l))
      (s_for (it_t (tl := tVar 0) (ew_var rfl)) (fun i ρ' μ' => ∃ v, ρ' = [some (.d (.tuple (labD l))), some (.r p), v] ∧ μ' = updM μ p (cntO (l.take i))) ⟨_, rfl, rfl⟩ ?_ ?_) ?_
    · rintro i a ρ' μ' ha ⟨v, rfl, rfl⟩
      unfold labD at ha
      rw [List.map_map, List.getElem?_map] at ha
      cases hx : l[i]? with
      | none => rw [hx] at ha; cases ha
      | some x =>
        rw [hx] at ha
        have ea := (Option.some.inj ha).symm
        subst ea
        refine ⟨_, gw_name, ?_⟩
        have hil := (List.getElem?_eq_some_iff.mp hx).1
        have hh := rep_has l (dist (l.take i)) (fun y => cnt y (l.take i)) x
        have hg : (if x ∈ dist (l.take i) then some (V.int (cnt x (l.take i))) else none).getD (.int 0) = .int (cnt x (l.take i)) := by
          by_cases q : x ∈ dist (l.take i)
          · rw [if_pos q]; rfl
          · rw [if_neg q]
            have : cnt x (l.take i) = 0 := cnt_zero.mpr (fun m => q ((dist_mem _).mpr m))
            rw [this]
            rfl
        refine s_dputH (u := .dT (rep Lab.key (dist (l.take i)) fun y => cnt y (l.take i))) (d := x.d) (r := cnt x (l.take i) + 1) (ew_op (ew_dget2H (i := 0) (ew_var rfl) (.inl updM_same) (ew_var rfl) ew_int hh hg) ew_int o_I0) (ew_var rfl) (ew_var rfl) updM_same (.t _ x _ ?_) ?_
        · rw [rep_len]
          have := dist_len (l.take i)
          rw [List.length_take] at this
          omega
        · rw [updM_updM, rep_count Lab.key_inj]
          have e : l.take i ++ [x] = l.take (i + 1) := by rw [List.take_add_one, hx]; rfl
          rw [e]
          exact ⟨_, rfl, rfl⟩
    · rintro ρ' μ' ⟨v, rfl, rfl⟩
      have e : l.take ((labD l).map AV.d).length = l := by rw [List.length_map, labD_len, List.take_length]
      rw [e]
      exact ⟨_, rfl, rfl⟩
    · rintro ρ' μ' ⟨v, rfl, rfl⟩
      exact s_ret (ew_var rfl) ⟨_, hp p hp0, Sub.refl _⟩
theorem ok_is_reachable (T : Txt K mg ad) : FnOk P w K mg base CX0 2 ad.f_is_reachable ad.fd_is_reachable ["cells", "goal"] (spP K SReachable) := by
  have nd := sc_is_reachable.nd
  refine fn_ok T.F_is_reachable sc_is_reachable (fun As μ Post h => ?_) (fun cdv A outer s H E hr => ?_)
  · obtain ⟨l, g, rfl, _⟩ := h
    rfl
  · have hu := hr.un
    have hu1 : A.units + 3 + 1 < cLine := by
      have : A.units + 3 + 16 + 200 < cLine := by simpa using hu
      omega
    refine ⟨_, (pss_cons (ps_set (i := 2) nd rfl (Or.inr rfl) (pe_call (ok_counts_of T) (hr.mono (by decide)) rfl T.mg_counts_of T.k_counts_of T.b_counts_of .nil pass0 (pa_cons (pv 0) pa_nil)))
 (pss_one (ps_ret (pe_callB (cr_all rfl) (by rfl) T.z_all (by decide +kernel) (pa_cons (pe_lc (own := [("label", 3)]) (by rfl) nd (pi_tup (pv 1)) (blkOk_by (N := ["cells", "goal", "there", "label"]) (sc := defScope s_is_reachable) (by decide +kernel)) (fun _ _ _ _ _ => (pg_name (i := 3) nd rfl (Or.inl rfl))) (fun _ _ _ _ _ => pts_nil) (fun _ _ _ _ _ => (pe_or (pe_cmpR op_eq (pe_ix (ix_tupK (K := K) rfl) (pv 3) pe_int (fun _ _ => rfl)) pe_str (nomark _)) (pe_one (pe_cmp (pc_din hu1 (pv 3) (pv 2)) rfl))))) pa_nil))))), ?_⟩
    rintro As μ Post ⟨l, g, rfl, hz, hz2, hp⟩
    refine s_seq (s_asgC (S := SCounts) (Post := fun R μ' => ∃ p, μ p = none ∧ R = .r p ∧ μ' = updM μ p (cntO l)) (ea_cons (ew_var rfl) ea_nil) ⟨l, rfl, hz, fun p hp0 => ⟨p, hp0, rfl, rfl⟩⟩ ?_)
    rintro R μ' ⟨p, hp0, rfl, rfl⟩
    have lc := ew_lcM (K := K) (ρ := [some (.d (.tuple (labD l))), some (.d (.tuple (labD g))), some (.r p), none]) (μ := updM μ p (cntO l)) (μ1 := updM μ p (cntO l)) (g := gName 3) (te := tOrV (tOp rEq (tOp (rIxT K) (tVar 3) (tC (.int 0))) (tC (.str sLit))) (tDIn (tVar 3) (tVar 2))) (vs := [3]) g (fun x => .d x.d) (fun x => .bool (x.free || decide (x ∈ l)))
      (it_map (it_t (tl := tVar 1) (ew_var rfl)) (by unfold labD; rw [List.map_map]; rfl)) (fun x hx => ⟨_, gc_name (by simp), ?_⟩) (by omega)
    · have e : g.map (fun x => PyData.bool (x.free || decide (x ∈ l))) = (g.map fun x => (x.free || decide (x ∈ l))).map PyData.bool := by rw [List.map_map]; rfl
      rw [e] at lc
      refine s_ret (ew_is (R2 := .b (okT Lab.free g l.reverse 0)) (ew_cb (ea_cons lc ea_nil) n_all) ?_) ⟨_, hp, Sub.upd hp0⟩
      unfold okT
      rw [List.all_map, List.drop_zero]
      congr 2
      congr 1
      funext x
      show (x.free || decide (x ∈ l)) = _
      congr 1
      exact decide_eq_decide.mpr (List.mem_reverse).symm
    · have h1 : EvW K (tOp rEq (tOp (rIxT K) (tVar 3) (tC (.int 0))) (tC (.str sLit))) [some (.d (.tuple (labD l))), some (.d (.tuple (labD g))), some (.r p), some (.d x.d)] (updM μ p (cntO l)) (.b x.free) (updM μ p (cntO l)) := by
        refine ew_is (ew_op (ew_op (R := .s (tagS x.free)) (ew_var rfl) ew_int (o_ixTz (ds := [.str (tagS x.free), keyD x.b]) rfl)) ew_str o_eqS) ?_
        have e : decide (tagS x.free = sLit) = x.free := by
          cases x.free with
          | true => exact decide_eq_true rfl
          | false => exact decide_eq_false (show ¬ sIn = sLit by decide +kernel)
        rw [e]
      refine ew_or h1 (fun _ => ew_is (ew_dinH (ew_var rfl) (ew_var rfl) (.inl updM_same) (rep_has l _ _ x)) ?_)
      congr 2
      by_cases q : x ∈ l
      · rw [if_pos ((dist_mem l).mpr q), decide_eq_true q]; rfl
      · rw [if_neg (fun m => q ((dist_mem l).mp m)), decide_eq_false q]; rfl
end
end K15

set_option Elab.async false
set_option linter.all false
set_option maxRecDepth 100000
set_option maxHeartbeats 4000000
/-! standing_cells, best_plan -/
namespace K15
open PySem PySem.Spec PyProof.Rows L2 Lw
theorem mkD_snoc (g : List Lab) (l : List Lab) (x : Lab) : mkD (mkr g (l ++ [x]).reverse).reverse = mkD (mkr g l.reverse).reverse ++ [.tuple [x.d, .bool (decide (g[str g l.reverse]? = some x))]] := by
  rw [List.reverse_append]
  show mkD (mkr g (x :: l.reverse)).reverse = _
  rw [mkr_cons, List.reverse_cons]
  unfold mkD
  rw [List.map_append]
  rfl
section
variable {P : Program} {w : World} {K : Fr} {mg : Str → Option Value} {base : Heap} {ad : Ad}
theorem ok_standing_cells (T : Txt K mg ad) : FnOk P w K mg base CX0 1 ad.f_standing_cells ad.fd_standing_cells ["cells", "goal"] (spP K SStanding) := by
  have nd := sc_standing_cells.nd
  refine fn_ok T.F_standing_cells sc_standing_cells (fun As μ Post h => ?_) (fun cdv A outer s H E hr => ?_)
  · obtain ⟨l, g, rfl, _⟩ := h
    rfl
  · have hu := hr.un
    have hu64 : A.units + 3 + 64 < cLine := by
      have : A.units + 3 + 200 < cLine := by simpa using hu
      omega
    refine ⟨_, (pss_cons (ps_set (i := 2) nd rfl (Or.inl rfl) (pe_lst pa_nil))
 (pss_cons (ps_set (i := 3) nd rfl (Or.inl rfl) pe_int)
 (pss_cons (ps_for PassesOwn.never rfl (pi_tup (pv 0)) (pg_name (i := 4) nd rfl (Or.inl rfl))
 (pss_cons (ps_set (i := 5) nd rfl (Or.inl rfl) (pe_and (pe_cmpR op_lt (pv 3) (pe_callB call_len_seq (by rfl) T.z_len PySem.boot_len (pa_cons (pv 1) pa_nil)) (nomark _)) (pe_one (pe_cmpR (op_eqD hu64) (pv 4) (pe_ix ix_tup (pv 1) (pv 3) (fun _ _ => rfl)) (nomark _)))))
 (pss_cons (ps_expr (pe_bm PySem.F.plainAttrs_list PySem.F.slot_list_append PySem.F.type_list_append mt_append (pv 2) (pa_cons (pe_tup (pa_cons (pv 4) (pa_cons (pv 5) pa_nil))) pa_nil)))
 (pss_one (ps_if (pt_val (pv 5))
 (pss_one (ps_set (i := 3) nd rfl (Or.inl rfl) (pe_op op_add (pv 3) pe_int)))
 pss_nil)))))
 (pss_one (ps_ret (pv 2)))))), ?_⟩
    rintro As μ Post ⟨l, g, rfl, hz, hz2, hl, hg, hp⟩
    refine s_seq (s_own ea_nil (by simp) (fun p hp0 => ?_))
    refine s_seq (s_asg ew_int ?_)
    refine s_seqM (fun ρ' μ' => ∃ v3 v4 v5, ρ' = [some (.d (.tuple (labD l))), some (.d (.tuple (labD g))), some (.r p), v3, v4, v5] ∧ μ' = updM μ p (.lst ((mkD (mkr g l.reverse).reverse).map .d)))
      (s_for (it_t (tl := tVar 0) (ew_var rfl)) (fun i ρ' μ' => ∃ v4 v5, ρ' = [some (.d (.tuple (labD l))), some (.d (.tuple (labD g))), some (.r p), some (.i (str g (l.take i).reverse : Int)), v4, v5] ∧ μ' = updM μ p (.lst ((mkD (mkr g (l.take i).reverse).reverse).map .d))) ⟨_, _, rfl, rfl⟩ ?_ ?_) ?_
    · rintro i a ρ' μ' ha ⟨v4, v5, rfl, rfl⟩
      unfold labD at ha
      rw [List.map_map, List.getElem?_map] at ha
      cases hx : l[i]? with
      | none => rw [hx] at ha; cases ha
      | some x =>
        rw [hx] at ha
        have ea := (Option.some.inj ha).symm
        subst ea
        refine ⟨_, gw_name, ?_⟩
        have hil := (List.getElem?_eq_some_iff.mp hx).1
        have e1 : l.take (i + 1) = l.take i ++ [x] := by rw [List.take_add_one, hx]; rfl
        have hlen : ∀ {ρ : AS} {μ : AM}, ρ[1]? = some (some (.d (.tuple (labD g)))) → EvW K (tCB (fun xs H Q => ∃ p ys, xs = [.ref p] ∧ (SqL K H p ys ∨ SqT K H p ys) ∧ Q (.int ys.length) H) (tCons (tVar 1) tNil)) ρ μ (.i (g.length : Int)) μ := fun h => ew_isI (ew_cb (ea_cons (ew_var h) ea_nil) n_len) (by rw [labD_len])
        generalize hs : str g (l.take i).reverse = st
        have hst : st ≤ g.length := by rw [← hs]; exact str_le _ _
        -- whether it stands
        refine s_seq (s_asg (R := .b (decide (g[st]? = some x))) (ew_isB (ew_and (a := decide ((st : Int) < (g.length : Int))) (b := decide (g[st]? = some x)) (ew_op (ew_var rfl) (hlen rfl) o_B0) (fun h => ?_)) ?_) ?_)
        · have h := of_decide_eq_true h
          have h' : st < g.length := by omega
          refine ew_isB (ew_op (ew_var rfl) (ew_op (ew_var rfl) (ew_var rfl) (o_ixT (k := st) (d := (g[st]).d) (labD_get (List.getElem?_eq_getElem h')))) (o_eqD (shaped_lab (hl x (List.mem_of_getElem? hx))) (shaped_lab (hg _ (List.getElem_mem h'))))) ?_
          rw [eqv_lab, List.getElem?_eq_getElem h']
          exact decide_eq_decide.mpr ⟨fun e => by rw [e], fun e => (Option.some.inj e).symm⟩
        · by_cases h : (st : Int) < (g.length : Int)
          · rw [decide_eq_true h, Bool.true_and]
          · rw [decide_eq_false h, Bool.false_and]
            exact (decide_eq_false (by rw [List.getElem?_eq_none (by omega)]; simp)).symm
        refine s_seq (s_app (l := p) (R := .d (.tuple [x.d, .bool (decide (g[st]? = some x))])) (ew_var rfl) (ew_tup (ds := [x.d, .bool (decide (g[st]? = some x))]) (ea_cons (ew_var rfl) (ea_cons (ew_var rfl) ea_nil)) (by simp)) ⟨_, updM_same⟩ updM_same ?_ ?_)
        · rw [List.length_map]
          unfold mkD
          rw [List.length_map, List.length_reverse, mkr_len, List.length_reverse, List.length_take]
          omega
        rw [updM_updM]
        have e2 : (mkD (mkr g (l.take i).reverse).reverse).map AV.d ++ [.d (.tuple [x.d, .bool (decide (g[st]? = some x))])] = (mkD (mkr g (l.take (i + 1)).reverse).reverse).map AV.d := by
          rw [e1, mkD_snoc, hs, List.map_append]
          rfl
        rw [e2]
        have e3 : str g (l.take (i + 1)).reverse = st + (if g[st]? = some x then 1 else 0) := by
          rw [e1, List.reverse_append]
          show str g (x :: (l.take i).reverse) = _
          rw [str_cons, hs]
        rw [e3]
        refine s_if (b := decide (g[st]? = some x)) (et_B (ew_var rfl)) (fun h => ?_) (fun h => s_next ?_)
        · have h := of_decide_eq_true h
          rw [if_pos h]
          exact s_asg (ew_isI (ew_op (ew_var rfl) ew_int o_I0) (j := ((st + 1 : Nat) : Int)) (by push_cast; rfl)) ⟨_, _, rfl, rfl⟩
        · have h := of_decide_eq_false h
          rw [if_neg h]
          exact ⟨_, _, rfl, rfl⟩
    · rintro ρ' μ' ⟨v4, v5, rfl, rfl⟩
      have e : l.take ((labD l).map AV.d).length = l := by rw [List.length_map, labD_len, List.take_length]
      rw [e]
      exact ⟨_, _, _, rfl, rfl⟩
    · rintro ρ' μ' ⟨v3, v4, v5, rfl, rfl⟩
      refine s_freeze (i := 2) (l := p) (ds := mkD (mkr g l.reverse).reverse) rfl updM_same ?_
      rw [delM_upd hp0]
      exact s_ret (ew_var rfl) ⟨_, hp, Sub.refl _⟩
end
end K15

set_option Elab.async false
set_option linter.all false
set_option maxRecDepth 100000
set_option maxHeartbeats 4000000
/-! best_plan -/
namespace K15
open PySem PySem.Spec PyProof.Rows L2 Lw
theorem wideN {i j : Int} (h1 : -(10 ^ 90) ≤ i ∧ i ≤ 10 ^ 90) (h2 : -(10 ^ 90) ≤ j ∧ j ≤ 10 ^ 90) : CMulW i j := by
  have e : (10 ^ 90 : Int).natAbs < 2 ^ 400 := by decide +kernel
  exact wide_mul (a := 400) (b := 400) (by omega) (by omega) (by decide) (by decide) (by decide)
abbrev bpD (b : Int × Nat) : PyData := .tuple [.int b.1, .int (b.2 : Int)]
abbrev repO (ks : List Lab) (c : Lab → Int) : AO := .o (.dT (rep Lab.key ks c))
theorem spr_cons {α : Type} [DecidableEq α] (u : α → Int) (x : α) (r : List α) : spr u (x :: r) = spr u r + (if u x ≤ cnt x r then 1 else 0) := rfl
section
variable {P : Program} {w : World} {K : Fr} {mg : Str → Option Value} {base : Heap} {ad : Ad}
theorem ok_best_plan (T : Txt K mg ad) : FnOk P w K mg base CX0 3 ad.f_best_plan ad.fd_best_plan ["cells", "goal"] (spP K SBest) := by
  have nd := sc_best_plan.nd
  refine fn_ok T.F_best_plan sc_best_plan (fun As μ Post h => ?_) (fun cdv A outer s H E hr => ?_)
  · obtain ⟨l, g, rfl, _⟩ := h
    rfl
  · have hu := hr.un
    have hu1 : A.units + 3 + 1 < cLine := by
      have : A.units + 3 + 32 + 200 < cLine := by simpa using hu
      omega
    have hu65 : A.units + 3 + 1 + 64 < cLine := by
      have : A.units + 3 + 32 + 200 < cLine := by simpa using hu
      omega
    refine ⟨_, (pss_cons (ps_if (pt_not (pt_val (pe_call (ok_is_reachable T) (hr.mono (by decide)) rfl T.mg_is_reachable T.k_is_reachable T.b_is_reachable .nil pass0 (pa_cons (pv 0) (pa_cons (pv 1) pa_nil)))))
 (pss_one (ps_ret pe_non))
 pss_nil)
 (pss_cons (ps_set (i := 2) nd rfl (Or.inl rfl) (pe_call (ok_counts_of T) (hr.mono (by decide)) rfl T.mg_counts_of T.k_counts_of T.b_counts_of .nil pass0 (pa_cons (pv 0) pa_nil)))
 (pss_cons (ps_set (i := 3) nd rfl (Or.inr rfl) (pe_call (ok_counts_of T) (hr.mono (by decide)) rfl T.mg_counts_of T.k_counts_of T.b_counts_of .nil pass0 (pa_cons (pv 1) pa_nil)))
 (pss_cons (ps_set (i := 4) nd rfl (Or.inl rfl) (pe_call (ok_standing_cells T) (hr.mono (by decide)) rfl T.mg_standing_cells T.k_standing_cells T.b_standing_cells .nil pass0 (pa_cons (pv 0) (pa_cons (pv 1) pa_nil))))
 (pss_cons (ps_set (i := 5) nd rfl (Or.inl rfl) (pe_op op_sub (pe_callB call_len_seq (by rfl) T.z_len PySem.boot_len (pa_cons (pv 1) pa_nil)) (pe_callB call_len_seq (by rfl) T.z_len PySem.boot_len (pa_cons (pe_lc (own := [("label", 9), ("stands", 10)]) (by rfl) nd (pi_list (pv 4)) (blkOk_by (N := ["cells", "goal", "there", "wanted", "marked", "pushed", "over", "best", "drops", "label", "stands", "count"]) (sc := defScope s_best_plan) (by decide +kernel)) (fun _ _ _ _ _ => (pg_tupK (K := K) (n := 2) rfl rfl (pgs_cons (pg_name (i := 9) nd rfl (Or.inl rfl)) (pgs_cons (pg_name (i := 10) nd rfl (Or.inl rfl)) pgs_nil)))) (fun _ _ _ _ _ => (pts_one (pt_val (pv 10)))) (fun _ _ _ _ _ => (pv 9))) pa_nil))))
 (pss_cons (ps_set (i := 6) nd rfl (Or.inl rfl) (pe_callB (cr_sum rfl) (by rfl) T.z_sum (by decide +kernel) (pa_cons (pe_lock (pe_lc (own := [("label", 9), ("count", 11)]) (by rfl) nd (pi_itemsT (pv 2)) (blkOk_by (N := ["cells", "goal", "there", "wanted", "marked", "pushed", "over", "best", "drops", "label", "stands", "count"]) (sc := defScope s_best_plan) (by decide +kernel)) (fun _ _ _ _ _ => (pg_tupK (K := K) (n := 2) rfl rfl (pgs_cons (pg_name (i := 9) nd rfl (Or.inl rfl)) (pgs_cons (pg_name (i := 11) nd rfl (Or.inl rfl)) pgs_nil)))) (fun _ _ _ _ _ => pts_nil) (fun _ _ _ _ _ => (pe_callB (call_max2 rfl) (by rfl) T.z_max (by decide +kernel) (pa_cons pe_int (pa_cons (pe_op op_sub (pv 11) (pe_dget2 hu1 (pv 3) (pv 9) pe_int ⟨rfl, rfl, rfl, rfl⟩)) pa_nil)))))) pa_nil)))
 (pss_cons (ps_set (i := 7) nd rfl (Or.inl rfl) (pe_tup (pa_cons (pe_op op_add (pe_op op_mulW pe_int (pv 6)) (pv 5)) (pa_cons pe_int pa_nil))))
 (pss_cons (ps_for PassesOwn.never rfl (pi_enr rfl T.z_enumerate rfl T.z_reversed (pv 4)) (pg_tup rfl (pgs_cons (pg_name (i := 8) nd rfl (Or.inl rfl)) (pgs_cons (pg_tup rfl (pgs_cons (pg_name (i := 9) nd rfl (Or.inl rfl)) (pgs_cons (pg_name (i := 10) nd rfl (Or.inl rfl)) pgs_nil))) pgs_nil)))
 (pss_cons (ps_if (pt_cmpR op_gt (pe_dget hu1 (pv 2) (pv 9) (fun _ _ => rfl)) (pe_dget2 hu1 (pv 3) (pv 9) pe_int ⟨rfl, rfl, rfl, rfl⟩) (nomark _))
 (pss_one (ps_set (i := 6) nd rfl (Or.inl rfl) (pe_op op_sub (pv 6) pe_int)))
 pss_nil)
 (pss_cons (ps_dput hu1 (pv 2) (pv 9) (pe_op op_sub (pe_dget hu1 (pv 2) (pv 9) (fun _ _ => rfl)) pe_int) rfl)
 (pss_cons (ps_if (PW.pt (pw_and (pt_cmpR op_eq (pe_dget hu1 (pv 2) (pv 9) (fun _ _ => rfl)) pe_int (nomark _)) (pw_and (pt_cmpR op_eq (pe_ix ix_tup (pv 9) pe_int (fun _ _ => rfl)) pe_str (nomark _)) (pw_and1 (pt_cmp (pc_din hu1 (pv 9) (pv 3)) rfl)))))
 (pss_one (ps_ret (pv 7)))
 pss_nil)
 (pss_cons (ps_if (pt_val (pv 10))
 (pss_one (ps_set (i := 5) nd rfl (Or.inl rfl) (pe_op op_add (pv 5) pe_int)))
 pss_nil)
 (pss_one (ps_set (i := 7) nd rfl (Or.inl rfl) (pe_callB (call_min2D hu65 rfl) (by rfl) T.z_min (by decide +kernel) (pa_cons (pv 7) (pa_cons (pe_tup (pa_cons (pe_op op_add (pe_op op_add (pv 8) (pe_op op_mulW pe_int (pv 6))) (pv 5)) (pa_cons (pv 8) pa_nil))) pa_nil))))))))))
 (pss_one (ps_ret (pv 7))))))))))), ?_⟩
    rintro As μ Post ⟨l, g, rfl, hz, hz2, hl, hg, hno, hyes⟩
    refine s_seq (s_if (b := !okT Lab.free g l.reverse 0) (et_not (et_B (ew_fn (S := SReachable) (ea_cons (ew_var rfl) (ea_cons (ew_var rfl) ea_nil)) ⟨l, g, rfl, hz, hz2, rfl, rfl⟩))) (fun h => ?_) (fun h => s_next ?_))
    · exact s_ret ew_non ⟨_, hno (by simpa using h), Sub.refl _⟩
    have hok : okT Lab.free g l.reverse 0 = true := by simpa using h
    obtain ⟨T0, hT⟩ := last_ex hok
    have hp := hyes T0 hT
    refine s_seq (s_asgC (S := SCounts) (Post := fun R μ' => ∃ p, μ p = none ∧ R = .r p ∧ μ' = updM μ p (cntO l)) (ea_cons (ew_var rfl) ea_nil) ⟨l, rfl, hz, fun p hp0 => ⟨p, hp0, rfl, rfl⟩⟩ ?_)
    rintro R μ' ⟨p2, hp2, rfl, rfl⟩
    refine s_seq (s_asgC (S := SCounts) (Post := fun R μ' => ∃ p, updM μ p2 (cntO l) p = none ∧ R = .r p ∧ μ' = updM (updM μ p2 (cntO l)) p (cntO g)) (ea_cons (ew_var rfl) ea_nil) ⟨g, rfl, hz2, fun p hp0 => ⟨p, hp0, rfl, rfl⟩⟩ ?_)
    rintro R μ' ⟨p3, hp3, rfl, rfl⟩
    have hne : p3 ≠ p2 := fun e => by rw [e, updM_same] at hp3; cases hp3
    have hp30 : μ p3 = none := by rw [updM_ne hne] at hp3; exact hp3
    have at2 : ∀ X Y : AO, (updM (updM μ p2 X) p3 Y) p2 = some X := fun X Y => by rw [updM_ne hne.symm, updM_same]
    have set2 : ∀ X Y Z : AO, updM (updM (updM μ p2 X) p3 Y) p2 Z = updM (updM μ p2 Z) p3 Y := fun X Y Z => by rw [updM_comm hne, updM_updM, updM_comm hne.symm]
    have sub : ∀ X Y : AO, Sub μ (updM (updM μ p2 X) p3 Y) := fun X Y => (Sub.upd hp2).trans (Sub.upd (by rw [updM_ne hne]; exact hp30))
    generalize hr0 : l.reverse = r at *
    have hrl : r.length = l.length := by rw [← hr0, List.length_reverse]
    refine s_seq (s_asg (R := .d (.list (mkD (mkr g r).reverse))) (ew_fn (S := SStanding) (ea_cons (ew_var rfl) (ea_cons (ew_var rfl) ea_nil)) ⟨l, g, rfl, hz, hz2, hl, hg, by rw [hr0], rfl⟩) ?_)
    have hlen : ∀ {ρ : AS} {μ : AM}, ρ[1]? = some (some (.d (.tuple (labD g)))) → EvW K (tCB (fun xs H Q => ∃ p ys, xs = [.ref p] ∧ (SqL K H p ys ∨ SqT K H p ys) ∧ Q (.int ys.length) H) (tCons (tVar 1) tNil)) ρ μ (.i (g.length : Int)) μ := fun h => ew_isI (ew_cb (ea_cons (ew_var h) ea_nil) n_len) (by rw [labD_len])
    -- pushed
    have lc1 := ew_lcF (K := K) (ρ := [some (.d (.tuple (labD l))), some (.d (.tuple (labD g))), some (.r p2), some (.r p3), some (.d (.list (mkD (mkr g r).reverse))), none, none, none, none, none, none, none]) (μ := updM (updM μ p2 (cntO l)) p3 (cntO g)) (μ1 := updM (updM μ p2 (cntO l)) p3 (cntO g)) (g := gTup K 2 (gCons (gName 9) (gCons (gName 10) gNil))) (te := tVar 9) (tt := tB (tVar 10)) (vs := [9, 10]) (mkr g r).reverse (fun p => .d (.tuple [p.1.d, .bool p.2])) (fun p => p.2) (fun p => p.1.d)
      (it_map (it_l (tl := tVar 4) (ew_var rfl)) (by unfold mkD; rw [List.map_map]; rfl)) (fun x hx => ⟨_, gc_pair (by simp) (by simp), et_B (ew_var rfl), fun _ => ew_var rfl⟩) (by rw [List.length_reverse, mkr_len]; omega)
    refine s_seq (s_asg (R := .i ((g.length : Int) - (str g r : Int))) (ew_op (hlen rfl) (ew_isI (ew_cb (ea_cons lc1 ea_nil) n_lenL) ?_) o_I0) ?_)
    · rw [List.length_map, ← mkr_count g r, List.filter_reverse, List.length_reverse]
    -- over
    have hmax : ∀ (od : Obj) (x : Lab), x ∈ dist l → EvW K (tCB (fun xs H Q => ∃ i j, xs = [.int i, .int j] ∧ Q (.int (if j > i then j else i)) H) (tCons (tC (.int 0)) (tCons (tOp (rI0 fun i j => .int (i - j)) (tVar 11) (tDGet2 (tVar 3) (tVar 9) (tC (.int 0)))) tNil)))
        [some (.d (.tuple (labD l))), some (.d (.tuple (labD g))), some (.r p2), some (.r p3), some (.d (.list (mkD (mkr g r).reverse))), some (.i ((g.length : Int) - (str g r : Int))), none, none, none, some (.d x.d), none, some (.i (cnt x l))] (updM (updM (updM μ p2 (cntO l)) p3 (cntO g)) p2 (.o (.frz od (.dT (rep Lab.key (dist l) fun x => cnt x l))))) (.i (max 0 (cnt x l - cnt x g))) (updM (updM (updM μ p2 (cntO l)) p3 (cntO g)) p2 (.o (.frz od (.dT (rep Lab.key (dist l) fun x => cnt x l))))) := fun od x hx => by
      refine ew_cb (ea_cons ew_int (ea_cons (ew_op (ew_var rfl) (ew_dget2H (i := 0) (r := cnt x g) (ew_var rfl) (.inl (by rw [updM_ne hne, updM_same])) (ew_var rfl) ew_int (rep_has g _ _ x) ?_) o_I0) ea_nil)) n_max2
      by_cases q : x ∈ dist g
      · rw [if_pos q]; rfl
      · rw [if_neg q, cnt_zero.mpr (fun m => q ((dist_mem g).mpr m))]; rfl
    refine s_seq (s_asg (R := .i (spr (fun x => cnt x g) r)) (ew_isI (ew_cb (ea_cons (ew_is (R2 := .d (.list (intsD ((dist l).map fun x => max 0 (cnt x l - cnt x g))))) (ew_lockO (at2 _ _) trivial (fun od => ew_lcD (M := fun μ' => μ' p2 = some (.o (.frz od (.dT (rep Lab.key (dist l) fun x => cnt x l))))) (dist l) (fun x => .d (.tuple [x.d, .int (cnt x l)])) (fun _ => true) (fun x => .int (max 0 (cnt x l - cnt x g))) (it_itemsL (ew_var rfl) updM_same) updM_same (fun x hx => ⟨_, gc_pair (by simp) (by simp), et_nil, fun _ => hmax od x hx⟩) (by have := dist_len l; omega))) ?_) ea_nil) n_sumI) ?_) ?_)
    · rw [List.filter_eq_self.mpr (fun _ _ => rfl)]
      unfold intsD
      rw [List.map_map]
      rfl
    · rw [← hr0]
      exact spr_sum (fun x => cnt_nn x g) l
    have spb : ∀ i, 0 ≤ spr (fun x => cnt x g) (r.drop i) ∧ spr (fun x => cnt x g) (r.drop i) ≤ 5000 := fun i => by
      have := spr_nn (fun x => cnt x g) (r.drop i)
      rw [List.length_drop] at this
      omega
    have sp0 := spb 0
    rw [List.drop_zero] at sp0
    refine s_seq (s_asg (R := .d (bpD (bestP (fun x => cnt x g) g r 0))) (ew_tup (ds := [.int (bestP (fun x => cnt x g) g r 0).1, .int 0]) (ea_cons (ew_isI (ew_op (ew_op ew_int (ew_var rfl) (o_mul (wideN (by decide) (by omega)))) (ew_var rfl) o_I0) ?_) (ea_cons ew_int ea_nil)) (by simp)) ?_)
    · show _ = need _ g r 0
      unfold need
      rw [List.drop_zero]
      omega
    refine s_seqM (fun ρ' μ' => ∃ v5 v6 v8 v9 v10 v11 Y, ρ' = [some (.d (.tuple (labD l))), some (.d (.tuple (labD g))), some (.r p2), some (.r p3), some (.d (.list (mkD (mkr g r).reverse))), v5, v6, some (.d (bpD (bestP (fun x => cnt x g) g r T0))), v8, v9, v10, v11] ∧ μ' = updM (updM μ p2 Y) p3 (cntO g))
      (s_for (it_enr (k := 1) (ew_var rfl)) (fun i ρ' μ' => i ≤ T0 ∧ ∃ v8 v9 v10 v11, ρ' = [some (.d (.tuple (labD l))), some (.d (.tuple (labD g))), some (.r p2), some (.r p3), some (.d (.list (mkD (mkr g r).reverse))), some (.i ((g.length : Int) - (str g (r.drop i) : Int))), some (.i (spr (fun x => cnt x g) (r.drop i))), some (.d (bpD (bestP (fun x => cnt x g) g r i))), v8, v9, v10, v11] ∧ μ' = updM (updM μ p2 (repO (dist l) fun x => cnt x (r.drop i))) p3 (cntO g))
        ⟨Nat.zero_le _, none, none, none, none, by rw [List.drop_zero]; rfl, ?_⟩ ?_ ?_) ?_
    · have e : (fun x => cnt x (r.drop 0)) = fun x => cnt x l := by
        funext x
        rw [List.drop_zero, ← hr0, cnt_rev]
      rw [e]
    · rintro i a ρ' μ' ha ⟨hiT, v8, v9, v10, v11, rfl, rfl⟩
      obtain ⟨hi, rfl⟩ := numbered_of ha
      have erv : (mkD (mkr g r).reverse).reverse = mkD (mkr g r) := by unfold mkD; rw [List.map_reverse, List.reverse_reverse]
      have hil : i < r.length := by
        rw [erv] at hi
        unfold mkD at hi
        rw [List.length_map, mkr_len] at hi
        exact hi
      obtain ⟨x, hx⟩ : ∃ x, r[i]? = some x := ⟨_, List.getElem?_eq_getElem hil⟩
      have hd : r.drop i = x :: r.drop (i + 1) := by
        rw [List.drop_eq_getElem_cons hil]
        congr 1
        exact (List.getElem?_eq_some_iff.mp hx).2
      have hit : ((mkD (mkr g r).reverse).reverse)[i] = .tuple [x.d, .bool (decide (g[str g (r.drop (i + 1))]? = some x))] := by
        have : ((mkD (mkr g r).reverse).reverse)[i]? = some (.tuple [x.d, .bool (decide (g[str g (r.drop (i + 1))]? = some x))]) := by
          rw [erv]
          unfold mkD
          rw [List.getElem?_map, mkr_get g r i x hx]
          rfl
        exact (List.getElem?_eq_some_iff.mp this).2
      rw [hit]
      have hxl : x ∈ l := by rw [← List.mem_reverse, hr0]; exact List.mem_of_getElem? hx
      generalize hr' : r.drop (i + 1) = r' at hd
      refine ⟨_, gw_tup rfl (gs_cons gw_name (gs_cons (gw_tup rfl (gs_cons gw_name (gs_cons gw_name gs_nil))) gs_nil)), ?_⟩
      have hcx : cnt x (r.drop i) = cnt x r' + 1 := by rw [hd, cnt_cons, if_pos rfl]
      have hh : ∀ c : Lab → Int, Has (.dT (rep Lab.key (dist l) c)) x.d (some (.int (c x))) := fun c => by
        have := rep_has l (dist l) c x
        rwa [if_pos ((dist_mem l).mpr hxl)] at this
      have hw : ∀ {ρ : AS} (X : AO), ρ[3]? = some (some (.r p3)) → ρ[9]? = some (some (.d x.d)) → EvW K (tDGet2 (tVar 3) (tVar 9) (tC (.int 0))) ρ (updM (updM μ p2 X) p3 (cntO g)) (.i (cnt x g)) (updM (updM μ p2 X) p3 (cntO g)) := fun X h3 h9 => by
        refine ew_dget2H (i := 0) (r := cnt x g) (ew_var h3) (.inl updM_same) (ew_var h9) ew_int (rep_has g _ _ x) ?_
        by_cases q : x ∈ dist g
        · rw [if_pos q]; rfl
        · rw [if_neg q, cnt_zero.mpr (fun m => q ((dist_mem g).mpr m))]; rfl
      -- over
      refine s_seqM (fun ρ' μ' => ρ' = [some (.d (.tuple (labD l))), some (.d (.tuple (labD g))), some (.r p2), some (.r p3), some (.d (.list (mkD (mkr g r).reverse))), some (.i ((g.length : Int) - (str g (r.drop i) : Int))), some (.i (spr (fun x => cnt x g) r')), some (.d (bpD (bestP (fun x => cnt x g) g r i))), some (.i (1 + (i : Int))), some (.d x.d), some (.b (decide (g[str g r']? = some x))), v11] ∧ μ' = updM (updM μ p2 (repO (dist l) fun x => cnt x (r.drop i))) p3 (cntO g))
        (s_if (b := decide (cnt x (r.drop i) > cnt x g)) (et_test (ew_op (ew_dgetH (ew_var rfl) (ew_var rfl) (.inl (at2 _ _)) (hh _)) (hw _ rfl rfl) (o_B0 (g := fun i j => decide (i > j))))) (fun h => ?_) (fun h => s_next ?_)) ?_
      · have h := of_decide_eq_true h
        refine s_asg (ew_isI (ew_op (ew_var rfl) ew_int o_I0) (j := spr (fun x => cnt x g) r') ?_) ⟨rfl, rfl⟩
        rw [hd]
        rw [spr_cons, if_pos (by omega)]
        omega
      · have h := of_decide_eq_false h
        have e : spr (fun x => cnt x g) (r.drop i) = spr (fun x => cnt x g) r' := by
          rw [hd]
          rw [spr_cons, if_neg (by omega)]
          omega
        rw [e]
        exact ⟨rfl, rfl⟩
      rintro ρ' μ' ⟨rfl, rfl⟩
      -- one copy less
      have ek : kadd (dist l) x = dist l := by unfold kadd; rw [if_pos ((dist_mem l).mpr hxl)]
      have ef : fup (fun y => cnt y (r.drop i)) x (cnt x r') = fun y => cnt y r' := by
        funext y
        show (if y = x then cnt x r' else cnt y (r.drop i)) = cnt y r'
        rw [hd, cnt_cons]
        by_cases e : y = x
        · rw [if_pos e, e]
        · rw [if_neg e, if_neg (fun q : x = y => e q.symm)]
          omega
      refine s_seq (s_dputH (u := .dT (rep Lab.key (dist l) fun y => cnt y (r.drop i))) (d := x.d) (r := cnt x r') (ew_isI (ew_op (ew_dgetH (ew_var rfl) (ew_var rfl) (.inl (at2 _ _)) (hh _)) ew_int o_I0) (by omega)) (ew_var rfl) (ew_var rfl) (at2 _ _) (.t _ x _ (by rw [rep_len]; have := dist_len l; omega)) ?_)
      rw [set2, rep_put Lab.key_inj, ek, ef]
      -- is it lost?
      have hin : ∀ {ρ : AS} (X : AO), ρ[3]? = some (some (.r p3)) → ρ[9]? = some (some (.d x.d)) → EvT K (tB (tDIn (tVar 9) (tVar 3))) ρ (updM (updM μ p2 X) p3 (cntO g)) (decide (x ∈ g)) (updM (updM μ p2 X) p3 (cntO g)) := fun X h3 h9 => by
        refine et_is (et_dinH (ew_var h9) (ew_var h3) (.inl updM_same) (rep_has g _ _ x)) ?_
        by_cases q : x ∈ g
        · rw [if_pos ((dist_mem g).mpr q), decide_eq_true q]; rfl
        · rw [if_neg (fun m => q ((dist_mem g).mp m)), decide_eq_false q]; rfl
      have htag : ∀ {ρ : AS} {μ : AM}, ρ[9]? = some (some (.d x.d)) → EvW K (tOp rEq (tOp (rIxT K) (tVar 9) (tC (.int 0))) (tC (.str sIn))) ρ μ (.b (!x.free)) μ := fun h9 => by
        refine ew_isB (ew_op (ew_op (R := .s (tagS x.free)) (ew_var h9) ew_int (o_ixTz (ds := [.str (tagS x.free), keyD x.b]) rfl)) ew_str o_eqS) ?_
        cases x.free with
        | true => exact decide_eq_false (show ¬ sLit = sIn by decide +kernel)
        | false => exact decide_eq_true rfl
      have hlost : okT Lab.free g r (i + 1) = !(decide (cnt x r' = 0) && (!x.free && decide (x ∈ g))) := by
        have ok1 : okT Lab.free g r i = true := okT_mono hT.2.1 hiT
        unfold okT at ok1 ⊢
        rw [hr']
        rw [hd, List.all_eq_true] at ok1
        by_cases c : cnt x r' = 0 ∧ x.free = false ∧ x ∈ g
        · rw [decide_eq_true c.1, c.2.1, decide_eq_true c.2.2]
          show _ = false
          rw [← Bool.not_eq_true, List.all_eq_true]
          intro q
          have := q x c.2.2
          rw [c.2.1, decide_eq_false (cnt_zero.mp c.1)] at this
          cases this
        · have : (decide (cnt x r' = 0) && (!x.free && decide (x ∈ g))) = false := by
            rw [Bool.eq_false_iff]
            intro q
            simp only [Bool.and_eq_true, decide_eq_true_eq, Bool.not_eq_true'] at q
            exact c ⟨q.1, q.2.1, q.2.2⟩
          rw [this]
          show _ = true
          rw [List.all_eq_true]
          intro y hy
          have h1 := ok1 y hy
          simp only [Bool.or_eq_true, decide_eq_true_eq, List.mem_cons] at h1 ⊢
          rcases h1 with h1 | h1 | h1
          · exact .inl h1
          · subst h1
            cases hf : y.free with
            | true => exact .inl rfl
            | false =>
              refine .inr (cnt_pos.mp ?_)
              have := cnt_nn y r'
              have : cnt y r' ≠ 0 := fun q => c ⟨q, hf, hy⟩
              omega
          · exact .inr h1
      refine s_seq (s_if (b := decide (cnt x r' = 0) && (!x.free && decide (x ∈ g))) (et_and (et_test (ew_op (ew_dgetH (ew_var rfl) (ew_var rfl) (.inl (at2 _ _)) (hh _)) ew_int o_eqI)) (fun _ => et_and (et_B (htag rfl)) (fun _ => hin _ rfl rfl))) (fun h => ?_) (fun h => s_next ?_))
      · rw [h] at hlost
        have eT : T0 = i := by
          have : ¬ i + 1 ≤ T0 := fun q => by
            have := okT_mono hT.2.1 q
            rw [hlost] at this
            cases this
          omega
        rw [eT] at hp
        exact s_ret (ew_var rfl) ⟨_, hp, sub _ _⟩
      rw [h] at hlost
      have hi1 : i + 1 ≤ T0 := by
        have := hT.iff (t := i + 1) (by omega)
        rw [hlost] at this
        exact of_decide_eq_true this.symm
      -- pushed
      have est : str g (r.drop i) = str g r' + (if g[str g r']? = some x then 1 else 0) := by rw [hd]; rfl
      refine s_seqM (fun ρ' μ' => ρ' = [some (.d (.tuple (labD l))), some (.d (.tuple (labD g))), some (.r p2), some (.r p3), some (.d (.list (mkD (mkr g r).reverse))), some (.i ((g.length : Int) - (str g r' : Int))), some (.i (spr (fun x => cnt x g) r')), some (.d (bpD (bestP (fun x => cnt x g) g r i))), some (.i (1 + (i : Int))), some (.d x.d), some (.b (decide (g[str g r']? = some x))), v11] ∧ μ' = updM (updM μ p2 (repO (dist l) fun x => cnt x r')) p3 (cntO g))
        (s_if (b := decide (g[str g r']? = some x)) (et_B (ew_var rfl)) (fun h => ?_) (fun h => s_next ?_)) ?_
      · have h := of_decide_eq_true h
        rw [if_pos h] at est
        exact s_asg (ew_isI (ew_op (ew_var rfl) ew_int o_I0) (j := (g.length : Int) - (str g r' : Int)) (by omega)) ⟨rfl, rfl⟩
      · have h := of_decide_eq_false h
        rw [if_neg h] at est
        have e : (g.length : Int) - (str g (r.drop i) : Int) = (g.length : Int) - (str g r' : Int) := by omega
        rw [e]
        exact ⟨rfl, rfl⟩
      rintro ρ' μ' ⟨rfl, rfl⟩
      have spr' := spb (i + 1)
      rw [hr'] at spr'
      have en : 1 + (i : Int) + 2 * spr (fun x => cnt x g) r' + ((g.length : Int) - (str g r' : Int)) = need (fun x => cnt x g) g r (i + 1) := by
        unfold need
        rw [hr']
        push_cast
        omega
      have hb2 := bestP_le (fun x => cnt x g) g r i
      refine s_asg (R := .d (bpD (bestP (fun x => cnt x g) g r (i + 1)))) (ew_is (ew_cb (ea_cons (ew_var rfl) (ea_cons (ew_tup (ds := [.int (need (fun x => cnt x g) g r (i + 1)), .int (1 + (i : Int))]) (ea_cons (ew_isI (ew_op (ew_op (ew_var rfl) (ew_op ew_int (ew_var rfl) (o_mul (wideN (by decide) (by omega)))) o_I0) (ew_var rfl) o_I0) en) (ea_cons (ew_var rfl) ea_nil)) (by simp)) ea_nil)) (n_min2D (alike_pair _ _ _ _) (by simp [PyData.depthAll, PyData.depth]))) ?_) ⟨hi1, _, _, _, _, rfl, rfl⟩
      congr 1
      rw [dataLt_pair]
      have e2 : bestP (fun x => cnt x g) g r (i + 1) = if need (fun x => cnt x g) g r (i + 1) < (bestP (fun x => cnt x g) g r i).1 then (need (fun x => cnt x g) g r (i + 1), i + 1) else bestP (fun x => cnt x g) g r i := rfl
      rw [e2]
      by_cases c : need (fun x => cnt x g) g r (i + 1) < (bestP (fun x => cnt x g) g r i).1
      · rw [if_pos c, decide_eq_true c, if_pos (by simp)]
        show PyData.tuple _ = PyData.tuple _
        have : (1 : Int) + (i : Int) = ((i + 1 : Nat) : Int) := by push_cast; omega
        rw [this]
      · rw [if_neg c, decide_eq_false c, decide_eq_false (show ¬ (1 + (i : Int) < ((bestP (fun x => cnt x g) g r i).2 : Int)) by omega), if_neg (by simp)]
    · rintro ρ' μ' ⟨hiT, v8, v9, v10, v11, rfl, rfl⟩
      have e : ((numbered 1 (mkD (mkr g r).reverse).reverse).map AV.d).length = r.length := by
        rw [List.length_map, numbered_len]
        unfold mkD
        rw [List.length_reverse, List.length_map, List.length_reverse, mkr_len]
      rw [e] at hiT ⊢
      have : T0 = r.length := Nat.le_antisymm hT.1 hiT
      rw [← this]
      exact ⟨_, _, _, _, _, _, _, rfl, rfl⟩
    · rintro ρ' μ' ⟨v5, v6, v8, v9, v10, v11, Y, rfl, rfl⟩
      exact s_ret (ew_var rfl) ⟨_, hp, sub _ _⟩
end
end K15

set_option Elab.async false
set_option linter.all false
set_option maxRecDepth 100000
set_option maxHeartbeats 4000000
/-! is_constant, is_name, check_pile, labels_of, fewest: of labels -/
namespace K15
open PySem PySem.Spec PyProof.Rows L2 Lw
def nameOk (s : Str) : Prop := 1 ≤ s.length ∧ s.length ≤ 8 ∧ ∀ c ∈ s.cps.toList, 97 ≤ c ∧ c ≤ 122
def kOk : Key → Prop
  | .inl i => -(10 ^ 30) ≤ i ∧ i ≤ 10 ^ 30
  | .inr s => nameOk s
def isFree : Key → Bool
  | .inl _ => true
  | .inr _ => false
def toLab (k : Key) : Lab := ⟨isFree k, k⟩
theorem toLab_inj (a b : Key) (h : toLab a = toLab b) : a = b := congrArg Lab.b h
theorem lt_one {c d : Nat} : ([c] < [d]) ↔ c < d := by
  rw [List.cons_lt_cons_iff]
  simp
theorem strOk_of {s : Str} (h : ∀ c ∈ s.cps.toList, c < 1000) : PyData.strOk s = true := by
  unfold PyData.strOk
  rw [Array.all_eq_true']
  intro c hc
  have := h c (Array.mem_toList_iff.mpr hc)
  exact decide_eq_true (by omega)
theorem kOk_ok {k : Key} (h : kOk k) : keyOk k = true := by
  cases k with
  | inl i => rfl
  | inr s => exact strOk_of (fun c hc => by have := h.2.2 c hc; omega)
def pileD (p : List Key) : PyData := .tuple (keysD p)
def SConstK : Spc := fun As μ Post => ∃ k : Key, As = [.d (keyD k)] ∧ kOk k ∧ Post (.b (isFree k)) μ
def SNameK : Spc := fun As μ Post => ∃ s : Str, As = [.s s, .i 1, .i 8] ∧ nameOk s ∧ Post (.b true) μ
def SChkPile : Spc := fun As μ Post => ∃ p : List Key, As = [.d (pileD p)] ∧ p.length ≤ 60 ∧ (∀ k ∈ p, kOk k) ∧ Post (.d .none) μ
def SLabels : Spc := fun As μ Post => ∃ p : List Key, As = [.d (pileD p)] ∧ p.length ≤ 60 ∧ Post (.d (.tuple (labD (p.map toLab)))) μ
def dueK (p g : List Key) : Option Int := due (fun x => cnt x g) isFree g p.reverse
def SFewest : Spc := fun As μ Post => ∃ p g : List Key, As = [.d (pileD p), .d (pileD g)] ∧ p.length ≤ 60 ∧ g.length ≤ 60 ∧ (∀ k ∈ p, kOk k) ∧ (∀ k ∈ g, kOk k) ∧ Post (.d (optD (dueK p g))) μ
theorem ty_key {K : Fr} (k : Key) : TyA K (.d (keyD k)) (.type (match k with | .inl _ => "int" | .inr _ => "str")) := by
  cases k with
  | inl i => exact ty_int
  | inr s => exact ty_str
section
variable {P : Program} {w : World} {K : Fr} {mg : Str → Option Value} {base : Heap} {ad : Ad}
theorem ok_is_constant (T : Txt K mg ad) : FnOk P w K mg base CX0 1 ad.f_is_constant ad.fd_is_constant ["value"] (spP K SConstK) := by
  have nd := sc_is_constant.nd
  refine fn_ok T.F_is_constant sc_is_constant (fun As μ Post h => ?_) (fun cdv A outer s H E hr => ?_)
  · obtain ⟨i, rfl, _⟩ := h
    rfl
  · refine ⟨_, (pss_one (ps_ret (pe_and (pe_callB call_isi (by rfl) T.z_isinstance (by decide +kernel) (pa_cons (pv 0) (pa_cons (pe_bltn (v := .ty "int") rfl T.z_int (by decide +kernel) rfl) pa_nil))) (pe_and (pe_chain op_le op_le (pe_un un_neg (pe_glob (v := .int _) rfl T.v_LARGEST ⟨_, rfl⟩)) (pv 0) (pe_glob (v := .int _) rfl T.v_LARGEST ⟨_, rfl⟩)) (pe_one (pe_not (pe_callB call_isi (by rfl) T.z_isinstance (by decide +kernel) (pa_cons (pv 0) (pa_cons (pe_bltn (v := .ty "bool") rfl T.z_bool (by decide +kernel) rfl) pa_nil))))))))), ?_⟩
    rintro As μ Post ⟨k, rfl, hk, hp⟩
    cases k with
    | inl i =>
      have hk' : -(10 ^ 30) ≤ i ∧ i ≤ 10 ^ 30 := hk
      refine s_ret (ew_isB (ew_and (a := true) (b := (decide (-(10 ^ 30) ≤ i) && decide (i ≤ 10 ^ 30)) && true) (ew_cb (ea_cons (ew_var rfl) (ea_cons ew_ty ea_nil)) (n_isi ty_int (kit_ty (by decide +kernel)))) (fun _ => ew_and (ew_chain (ew_un ew_int o_neg) (ew_var rfl) o_B0 (fun _ => ew_int) o_B0 rfl) (fun _ => ew_not (a := false) (ew_cb (ea_cons (ew_var rfl) (ea_cons ew_ty ea_nil)) (n_isi ty_int (kit_ty (by decide +kernel))))))) ?_) ⟨_, hp, Sub.refl _⟩
      rw [decide_eq_true hk'.1, decide_eq_true hk'.2]
      rfl
    | inr z =>
      exact s_ret (ew_isB (ew_and (a := false) (b := false) (ew_cb (ea_cons (ew_var rfl) (ea_cons ew_ty ea_nil)) (n_isi ty_str (kit_ty (by decide +kernel)))) nofun) rfl) ⟨_, hp, Sub.refl _⟩
theorem ok_is_name (T : Txt K mg ad) : FnOk P w K mg base CX0 1 ad.f_is_name ad.fd_is_name ["value", "least", "most"] (spP K SNameK) := by
  have nd := sc_is_name.nd
  refine fn_ok T.F_is_name sc_is_name (fun As μ Post h => ?_) (fun cdv A outer s H E hr => ?_)
  · obtain ⟨i, rfl, _⟩ := h
    rfl
  · refine ⟨_, (pss_cons (ps_if (PW.pt (pw_or (pt_not (pt_val (pe_callB call_isi (by rfl) T.z_isinstance (by decide +kernel) (pa_cons (pv 0) (pa_cons (pe_bltn (v := .ty "str") rfl T.z_str (by decide +kernel) rfl) pa_nil))))) (pw_or1 (pt_not (pt_chain op_le op_le (pv 1) (pe_callB call_len_str (by rfl) T.z_len PySem.boot_len (pa_cons (pv 0) pa_nil)) (pv 2))))))
 (pss_one (ps_ret pe_bl))
 pss_nil)
 (pss_one (ps_ret (pe_callB (cr_all rfl) (by rfl) T.z_all (by decide +kernel) (pa_cons (pe_lc (own := [("letter", 3)]) (by rfl) nd (pi_str (pv 0)) (blkOk_by (N := ["value", "least", "most", "letter"]) (sc := defScope s_is_name) (by decide +kernel)) (fun _ _ _ _ _ => (pg_name (i := 3) nd rfl (Or.inl rfl))) (fun _ _ _ _ _ => pts_nil) (fun _ _ _ _ _ => (pe_chain op_le_str op_le_str pe_str (pv 3) pe_str))) pa_nil))))), ?_⟩
    rintro As μ Post ⟨z, rfl, ⟨h1, h2, h3⟩, hp⟩
    refine s_seq (s_if (b := false) (et_orF (et_is (et_not (b := true) (et_B (ew_cb (ea_cons (ew_var rfl) (ea_cons ew_ty ea_nil)) (n_isi ty_str (kit_ty (by decide +kernel)))))) rfl) (et_is (et_not (b := true) (et_is (et_B (ew_chain (ew_var rfl) (ew_cb (ea_cons (ew_var rfl) ea_nil) (n_lenS (by omega))) o_B0 (fun _ => ew_var rfl) o_B0 rfl)) ?_)) rfl)) nofun (fun _ => s_next ?_))
    · rw [decide_eq_true (show (1 : Int) ≤ (z.length : Int) by omega), decide_eq_true (show (z.length : Int) ≤ 8 by omega)]
      rfl
    have lc := ew_lcM (K := K) (ρ := [some (.s z), some (.i 1), some (.i 8), none]) (μ := μ) (μ1 := μ) (g := gName 3) (te := tChain (fun x y H Q => ∃ i j, x = .str i ∧ y = .str j ∧ Q (.bl (!decide (j.cps.toList < i.cps.toList))) H) (fun x y H Q => ∃ i j, x = .str i ∧ y = .str j ∧ Q (.bl (!decide (j.cps.toList < i.cps.toList))) H) (tC (.str "a")) (tVar 3) (tC (.str "z"))) (vs := [3]) z.cps.toList (fun c => .s ⟨#[c]⟩) (fun _ => .bool true) (it_str (te := tVar 0) (ew_var rfl)) (fun c hc => ⟨_, gc_name (by simp), ew_isB (ew_chain ew_str (ew_var rfl) o_leS (fun _ => ew_str) o_leS rfl) ?_⟩) (by rw [Array.length_toList]; have : z.cps.size = z.length := rfl; omega)
    · have e : z.cps.toList.map (fun _ => PyData.bool true) = (z.cps.toList.map fun _ => true).map PyData.bool := by rw [List.map_map]; rfl
      rw [e] at lc
      exact s_ret (ew_isB (ew_cb (ea_cons lc ea_nil) n_all) (by simp)) ⟨_, hp, Sub.refl _⟩
    · have h4 := h3 c hc
      have e1 : decide (([c] : List Nat) < (("a" : Str)).cps.toList) = false := decide_eq_false (fun q => by have := lt_one.mp (show [c] < [97] from q); omega)
      have e2 : decide ((("z" : Str)).cps.toList < ([c] : List Nat)) = false := decide_eq_false (fun q => by have := lt_one.mp (show [122] < [c] from q); omega)
      show ((!decide (([c] : List Nat) < (("a" : Str)).cps.toList)) && (!decide ((("z" : Str)).cps.toList < ([c] : List Nat)))) = true
      rw [e1, e2]
      rfl
theorem ok_check_pile (T : Txt K mg ad) : FnOk P w K mg base CX0 2 ad.f_check_pile ad.fd_check_pile ["pile"] (spP K SChkPile) := by
  have nd := sc_check_pile.nd
  refine fn_ok T.F_check_pile sc_check_pile (fun As μ Post h => ?_) (fun cdv A outer s H E hr => ?_)
  · obtain ⟨i, rfl, _⟩ := h
    rfl
  · refine ⟨_, (pss_cons (ps_if (PW.pt (pw_or (pt_not (pt_val (pe_callB call_isi (by rfl) T.z_isinstance (by decide +kernel) (pa_cons (pv 0) (pa_cons (pe_bltn (v := .ty "tuple") rfl T.z_tuple (by decide +kernel) rfl) pa_nil))))) (pw_or1 (pt_cmpR op_gt (pe_callB call_len_seq (by rfl) T.z_len PySem.boot_len (pa_cons (pv 0) pa_nil)) (pe_glob (v := .int _) rfl T.v_MOST_LABELS ⟨_, rfl⟩) (nomark _)))))
 (pss_one ps_never)
 pss_nil)
 (pss_one (ps_if (pt_not (pt_val (pe_callB (cr_all rfl) (by rfl) T.z_all (by decide +kernel) (pa_cons (pe_lc (own := [("label", 1)]) (by rfl) nd (pi_tup (pv 0)) (blkOk_by (N := ["pile", "label"]) (sc := defScope s_check_pile) (by decide +kernel)) (fun _ _ _ _ _ => (pg_name (i := 1) nd rfl (Or.inl rfl))) (fun _ _ _ _ _ => pts_nil) (fun _ _ _ _ _ => (pe_or (pe_call (ok_is_constant T) (hr.mono (by decide)) rfl T.mg_is_constant T.k_is_constant T.b_is_constant .nil pass0 (pa_cons (pv 1) pa_nil)) (pe_one (pe_call (ok_is_name T) (hr.mono (by decide)) rfl T.mg_is_name T.k_is_name T.b_is_name .nil pass0 (pa_cons (pv 1) (pa_cons pe_int (pa_cons (pe_glob (v := .int _) rfl T.v_MOST_LETTERS ⟨_, rfl⟩) pa_nil)))))))) pa_nil))))
 (pss_one ps_never)
 pss_nil))), ?_⟩
    rintro As μ Post ⟨p, rfl, hz, hk, hp⟩
    refine s_seq (s_if (b := false) (et_orF (et_is (et_not (b := true) (et_B (ew_cb (ea_cons (ew_var rfl) (ea_cons ew_ty ea_nil)) (n_isi ty_tup (kit_ty (by decide +kernel)))))) rfl) (et_is (et_test (ew_op (ew_cb (ea_cons (ew_var rfl) ea_nil) n_len) ew_int (o_B0 (g := fun i j => decide (i > j))))) (decide_eq_false (by rw [keysD_len]; omega)))) nofun (fun _ => s_next ?_))
    have lc := ew_lcM (K := K) (ρ := [some (.d (pileD p)), none]) (μ := μ) (μ1 := μ) (g := gName 1) (te := tOrV (tCall (spP K SConstK) [] E0 (tCons (tVar 1) tNil)) (tCall (spP K SNameK) [] E0 (tCons (tVar 1) (tCons (tC (.int 1)) (tCons (tC (.int 8)) tNil))))) (vs := [1]) p (fun k => .d (keyD k)) (fun _ => .bool true) (it_map (it_t (tl := tVar 0) (ew_var rfl)) (by unfold keysD; rw [List.map_map]; rfl)) (fun k hk' => ⟨_, gc_name (by simp), ?_⟩) (by omega)
    · have e : p.map (fun _ => PyData.bool true) = (p.map fun _ => true).map PyData.bool := by rw [List.map_map]; rfl
      rw [e] at lc
      exact s_if (b := false) (et_is (et_not (b := true) (et_B (ew_isB (ew_cb (ea_cons lc ea_nil) n_all) (by simp)))) rfl) nofun (fun _ => s_next ⟨_, hp, Sub.refl _⟩)
    · have hk2 := hk k hk'
      refine ew_isB (ew_or (a := isFree k) (b := true) (ew_fn (S := SConstK) (ea_cons (ew_var rfl) ea_nil) ⟨k, rfl, hk2, rfl, rfl⟩) (fun h => ?_)) (by simp)
      cases k with
      | inl i => cases h
      | inr z => exact ew_fn (S := SNameK) (ea_cons (ew_var rfl) (ea_cons ew_int (ea_cons ew_int ea_nil))) ⟨z, rfl, hk2, rfl, rfl⟩
theorem ok_labels_of (T : Txt K mg ad) : FnOk P w K mg base CX0 1 ad.f_labels_of ad.fd_labels_of ["pile"] (spP K SLabels) := by
  have nd := sc_labels_of.nd
  refine fn_ok T.F_labels_of sc_labels_of (fun As μ Post h => ?_) (fun cdv A outer s H E hr => ?_)
  · obtain ⟨i, rfl, _⟩ := h
    rfl
  · refine ⟨_, (pss_one (ps_ret (pe_callTy call_tuple_of (by rfl) T.z_tuple (by decide +kernel) (pa_cons (pe_lc (own := [("label", 1)]) (by rfl) nd (pi_tup (pv 0)) (blkOk_by (N := ["pile", "label"]) (sc := defScope s_labels_of) (by decide +kernel)) (fun _ _ _ _ _ => (pg_name (i := 1) nd rfl (Or.inl rfl))) (fun _ _ _ _ _ => pts_nil) (fun _ _ _ _ _ => (pe_tup (pa_cons (pe_ifExp (pt_val (pe_callB (call_isiI (K := K) rfl) (by rfl) T.z_isinstance (by decide +kernel) (pa_cons (pv 1) (pa_cons (pe_bltn (v := .ty "str") rfl T.z_str (by decide +kernel) rfl) pa_nil)))) pe_str pe_str) (pa_cons (pv 1) pa_nil))))) pa_nil)))), ?_⟩
    rintro As μ Post ⟨p, rfl, hz, hp⟩
    refine s_ret (ew_cb (ea_cons (ew_is (R2 := .d (.list (labD (p.map toLab)))) (ew_lcM (μ1 := μ) p (fun k => .d (keyD k)) (fun k => (toLab k).d) (it_map (it_t (tl := tVar 0) (ew_var rfl)) (by unfold keysD; rw [List.map_map]; rfl)) (fun k hk => ⟨_, gc_name (by simp), ?_⟩) (by omega)) ?_) ea_nil) n_tupL) ⟨_, hp, Sub.refl _⟩
    · refine ew_tup (ds := [.str (tagS (isFree k)), keyD k]) (ea_cons ?_ (ea_cons (ew_var rfl) ea_nil)) (by simp)
      cases k with
      | inl i => exact ew_if (b := false) (et_B (ew_cb (ea_cons (ew_var rfl) (ea_cons ew_ty ea_nil)) (n_isi ty_int (kit_ty (by decide +kernel))))) nofun (fun _ => ew_str)
      | inr z => exact ew_if (b := true) (et_B (ew_cb (ea_cons (ew_var rfl) (ea_cons ew_ty ea_nil)) (n_isi ty_str (kit_ty (by decide +kernel))))) (fun _ => ew_str) nofun
    · unfold labD
      rw [List.map_map]
      rfl
theorem ok_fewest (T : Txt K mg ad) : FnOk P w K mg base CX0 4 ad.f_fewest ad.fd_fewest ["pile", "goal"] (spP K SFewest) := by
  have nd := sc_fewest.nd
  refine fn_ok T.F_fewest sc_fewest (fun As μ Post h => ?_) (fun cdv A outer s H E hr => ?_)
  · obtain ⟨p, g, rfl, _⟩ := h
    rfl
  · refine ⟨_, (pss_cons (ps_expr (pe_call (ok_check_pile T) (hr.mono (by decide)) rfl T.mg_check_pile T.k_check_pile T.b_check_pile .nil pass0 (pa_cons (pv 0) pa_nil)))
 (pss_cons (ps_expr (pe_call (ok_check_pile T) (hr.mono (by decide)) rfl T.mg_check_pile T.k_check_pile T.b_check_pile .nil pass0 (pa_cons (pv 1) pa_nil)))
 (pss_cons (ps_set (i := 2) nd rfl (Or.inl rfl) (pe_call (ok_best_plan T) (hr.mono (by decide)) rfl T.mg_best_plan T.k_best_plan T.b_best_plan .nil pass0 (pa_cons (pe_call (ok_labels_of T) (hr.mono (by decide)) rfl T.mg_labels_of T.k_labels_of T.b_labels_of .nil pass0 (pa_cons (pv 0) pa_nil)) (pa_cons (pe_call (ok_labels_of T) (hr.mono (by decide)) rfl T.mg_labels_of T.k_labels_of T.b_labels_of .nil pass0 (pa_cons (pv 1) pa_nil)) pa_nil))))
 (pss_one (ps_ret (pe_ifExp (pt_cmpR op_isN1 (pv 2) pe_non (nomark _)) pe_non (pe_ix ix_tup (pv 2) pe_int (fun _ _ => rfl)))))))), ?_⟩
    rintro As μ Post ⟨p, g, rfl, hz, hz2, hk, hk2, hp⟩
    refine s_seq (s_drop (ew_fn (S := SChkPile) (ea_cons (ew_var rfl) ea_nil) ⟨p, rfl, hz, hk, rfl, rfl⟩) ?_)
    refine s_seq (s_drop (ew_fn (S := SChkPile) (ea_cons (ew_var rfl) ea_nil) ⟨g, rfl, hz2, hk2, rfl, rfl⟩) ?_)
    have ok1 : ∀ (q : List Key), (∀ k ∈ q, kOk k) → ∀ x ∈ q.map toLab, keyOk x.b = true := fun q hq x hx => by
      obtain ⟨k, hk, rfl⟩ := List.mem_map.mp hx
      exact kOk_ok (hq k hk)
    have hd := due_mapL toLab_inj (fr := isFree) (fr' := Lab.free) (fun _ => rfl) g p
    have args : EvA K (tCons (tCall (spP K SLabels) [] E (tCons (tVar 0) tNil)) (tCons (tCall (spP K SLabels) [] E (tCons (tVar 1) tNil)) tNil)) [some (.d (pileD p)), some (.d (pileD g)), none] μ [.d (.tuple (labD (p.map toLab))), .d (.tuple (labD (g.map toLab)))] μ :=
      ea_cons (ew_fn (S := SLabels) (ea_cons (ew_var rfl) ea_nil) ⟨p, rfl, hz, rfl, rfl⟩) (ea_cons (ew_fn (S := SLabels) (ea_cons (ew_var rfl) ea_nil) ⟨g, rfl, hz2, rfl, rfl⟩) ea_nil)
    cases hok : okT Lab.free (g.map toLab) (p.map toLab).reverse 0 with
    | false =>
      refine s_seq (s_asg (μ1 := μ) (R := .d .none) (ew_fn (S := SBest) args ⟨p.map toLab, g.map toLab, rfl, by rw [List.length_map]; omega, by rw [List.length_map]; omega, ok1 p hk, ok1 g hk2, fun _ => ⟨rfl, rfl⟩, fun T hT => ?_⟩) ?_)
      · rw [okT_mono hT.2.1 (Nat.zero_le _)] at hok
        cases hok
      · have e : dueK p g = none := by
          show due (fun x => cnt x g) isFree g p.reverse = none
          rw [← hd]
          exact bestL_no hok _
        rw [e] at hp
        exact s_ret (R := .d .none) (ew_if (b := true) (et_test (ew_op (ew_var rfl) ew_non o_isN)) (fun _ => ew_non) nofun) ⟨_, hp, Sub.refl _⟩
    | true =>
      obtain ⟨T0, hT⟩ := last_ex hok
      have hl := bestL_at (u := fun x => cnt x (g.map toLab)) hT _ (Nat.le_refl _)
      have e0 : min (p.map toLab).reverse.length T0 = T0 := by have := hT.1; omega
      rw [e0] at hl
      have e : dueK p g = some (bestP (fun x => cnt x (g.map toLab)) (g.map toLab) (p.map toLab).reverse T0).1 := by
        show due (fun x => cnt x g) isFree g p.reverse = _
        rw [← hd]
        exact hl
      rw [e] at hp
      refine s_seq (s_asg (μ1 := μ) (R := .d (bpD (bestP (fun x => cnt x (g.map toLab)) (g.map toLab) (p.map toLab).reverse T0))) (ew_fn (S := SBest) args ⟨p.map toLab, g.map toLab, rfl, by rw [List.length_map]; omega, by rw [List.length_map]; omega, ok1 p hk, ok1 g hk2, fun h => ?_, fun T hT' => ?_⟩) ?_)
      · rw [h] at hok; cases hok
      · have : T = T0 := by
          have h1 := hT.iff (t := T) hT'.1
          have h2 := hT'.iff (t := T0) hT.1
          rw [hT'.2.1] at h1
          rw [hT.2.1] at h2
          have := of_decide_eq_true h1.symm
          have := of_decide_eq_true h2.symm
          omega
        rw [this]
        exact ⟨rfl, rfl⟩
      · exact s_ret (ew_if (b := false) (et_test (ew_op (ew_var rfl) ew_non o_isN)) nofun (fun _ => ew_op (ew_var rfl) ew_int (o_ixTz (ds := [.int _, .int _]) rfl))) ⟨_, hp, Sub.refl _⟩
end
end K15

set_option Elab.async false
set_option linter.all false
set_option maxRecDepth 100000
set_option maxHeartbeats 2000000
/-! the draws of a law out of a jar -/
namespace K15
open PySem PySem.Spec PyProof.Rows L2 Lw
def SLadle : Spc := fun As μ Post => ∃ (l : Addr) (s : Kl) (n : Int), As = [.r l, .i n] ∧ μ l = some (kO s) ∧ 0 < n ∧ n ≤ 10 ^ 100 ∧ jok s ∧ s.c < 10 ^ 20 ∧ Post (.i (jd s n)) (updM μ l (kO (after s n)))
def SJar : Spc := fun As μ Post => ∃ (ns : List Int) (k : Nat), As = [.d (.list (ns.map .int)), .i (k : Int)] ∧ ns.length ≤ 63 ∧ k ≤ 100 ∧ ∀ l, μ l = none → Post (.r l) (updM μ l (kO (jil ns k)))
section
variable {P : Program} {w : World} {K : Fr} {mg : Str → Option Value} {base : Heap} {ad : Ad}
theorem ok__law_ladle (T : Txt K mg ad) : FnOk P w K mg base CX0 1 ad.f__law_ladle ad.fd__law_ladle ["jar", "many"] (spP K SLadle) := by
  have nd := sc__law_ladle.nd
  refine fn_ok T.F__law_ladle sc__law_ladle (fun As μ Post h => ?_) (fun cdv A outer s H E hr => ?_)
  · obtain ⟨l, s, n, rfl, _⟩ := h
    rfl
  · refine ⟨_, (pss_cons (ps_if (pt_cmpR op_gt (pe_ix ix_list (pv 0) pe_int (fun _ _ => rfl)) pe_int (nomark _))
 (pss_cons (ps_set (i := 2) nd rfl (Or.inl rfl) (pe_op op_mod (pe_ix ix_list (pv 0) pe_int (fun _ _ => rfl)) (pv 1)))
 (pss_cons (ps_asg (pe_op op_fdivW (pe_ix ix_list (pv 0) pe_int (fun _ _ => rfl)) (pv 1)) (pg_sub (pv 0) pe_int set_list))
 (pss_one (ps_ret (pv 2)))))
 pss_nil)
 (pss_cons (ps_asg (pe_op op_add (pe_ix ix_list (pv 0) pe_int (fun _ _ => rfl)) pe_int) (pg_sub (pv 0) pe_int set_list))
 (pss_cons (ps_set (i := 3) nd rfl (Or.inl rfl) (pe_op op_mod (pe_op op_powX (pe_op op_add (pe_ix ix_list (pv 0) pe_int (fun _ _ => rfl)) (pe_op op_mulW pe_int (pe_ix ix_list (pv 0) pe_int (fun _ _ => rfl)))) pe_int) (pe_op op_add (pe_op op_powX pe_int pe_int) pe_int)))
 (pss_cons (ps_set (i := 3) nd rfl (Or.inl rfl) (pe_op op_mod (pe_op op_powX (pe_op op_add (pv 3) (pe_op op_mulW pe_int (pe_ix ix_list (pv 0) pe_int (fun _ _ => rfl)))) pe_int) (pe_op op_add (pe_op op_powX pe_int pe_int) pe_int)))
 (pss_one (ps_ret (pe_op op_mod (pe_op op_fdivW (pv 3) pe_int) (pv 1)))))))), ?_⟩
    rintro As μ Post ⟨l, s, n, rfl, hl, hn, hn2, hok, hc, hp⟩
    have z3 : ∀ (x y z : AV) (j : Int), 0 ≤ j → j.toNat < 3 → 0 ≤ j ∧ j.toNat < [x, y, z].length := fun _ _ _ _ h1 h2 => ⟨h1, h2⟩
    refine s_seq (s_if (b := decide (0 < s.a)) (et_test (ew_op (ew_op (ew_var rfl) ew_int (o_ixOz hl rfl)) ew_int o_B0)) (fun hb => ?_) (fun hb => ?_))
    · have ha : 0 < s.a := of_decide_eq_true hb
      refine s_seq (s_asg (ew_op (ew_op (ew_var rfl) ew_int (o_ixOz hl rfl)) (ew_var rfl) (o_mod hn)) ?_)
      refine s_seq (s_setLz (ew_op (ew_op (ew_var rfl) ew_int (o_ixOz hl rfl)) (ew_var rfl) (o_div ?_)) (ew_var rfl) ew_int hl (z3 _ _ _ _ (by decide) (by decide)) ?_)
      · exact wide_div hn (wide_le (by omega) hn2 (by decide +kernel : (10 ^ 100 : Int).natAbs < 2 ^ 400)) (by decide) (by decide)
      · refine s_ret (ew_var rfl) ⟨_, ?_, Sub.refl _⟩
        have e1 : jd s n = s.a % n := by unfold jd; rw [if_pos ha]
        have e2 : after s n = ⟨s.a / n, s.b, s.c⟩ := by unfold after; rw [if_pos ha]
        rw [e1, e2] at hp
        exact hp
    · have ha : ¬ 0 < s.a := of_decide_eq_false hb
      obtain ⟨b0, b1, c0, a0⟩ := hok
      have m1 : 0 ≤ jm1 s ∧ jm1 s ≤ 10 ^ 48 := by
        unfold jm1
        have h0 := Int.emod_nonneg ((s.b + 198491317 * (s.c + 1)) ^ 3) (show (10 ^ 47 + 63 : Int) ≠ 0 by decide)
        have h1 := Int.emod_lt_of_pos ((s.b + 198491317 * (s.c + 1)) ^ 3) (show (0 : Int) < 10 ^ 47 + 63 by decide)
        omega
      refine s_next ?_
      refine s_seq (s_setLz (ew_op (ew_op (ew_var rfl) ew_int (o_ixOz hl rfl)) ew_int o_I0) (ew_var rfl) ew_int hl (z3 _ _ _ _ (by decide) (by decide)) ?_)
      refine s_seq (s_asg (R := .i (jm1 s)) (ew_op (ew_op (ew_op (ew_op (ew_var rfl) ew_int (o_ixOz updM_same rfl)) (ew_op ew_int (ew_op (ew_var rfl) ew_int (o_ixOz updM_same rfl)) (o_mul ?_)) o_I0) ew_int (o_powz ?_)) (ew_op (ew_op ew_int ew_int (o_powz ?_)) ew_int o_I0) (o_mod ?_)) ?_)
      · exact wide_mul (a := 30) (b := 80) (by decide +kernel) (wide_le (by omega) (by omega : s.c + 1 ≤ 10 ^ 20) (by decide +kernel)) (by decide) (by decide) (by decide)
      · exact pow_ok (b := 200) (n := 3) (wide_le (by omega) (by omega : s.b + 198491317 * (s.c + 1) ≤ 10 ^ 45) (by decide +kernel)) (by decide) (by decide)
      · exact pow_ok (b := 4) (n := 47) (by decide +kernel) (by decide) (by decide)
      · decide +kernel
      · refine s_seq (s_asg (R := .i (jm2 s)) (ew_op (ew_op (ew_op (ew_var rfl) (ew_op ew_int (ew_op (ew_var rfl) ew_int (o_ixOz updM_same rfl)) (o_mul ?_)) o_I0) ew_int (o_powz ?_)) (ew_op (ew_op ew_int ew_int (o_powz ?_)) ew_int o_I0) (o_mod ?_)) ?_)
        · exact wide_mul (a := 30) (b := 80) (by decide +kernel) (wide_le (by omega) (by omega : s.c + 1 ≤ 10 ^ 20) (by decide +kernel)) (by decide) (by decide) (by decide)
        · exact pow_ok (b := 200) (n := 3) (wide_le (by omega) (by omega : jm1 s + 71425349 * (s.c + 1) ≤ 10 ^ 49) (by decide +kernel)) (by decide) (by decide)
        · exact pow_ok (b := 4) (n := 44) (by decide +kernel) (by decide) (by decide)
        · decide +kernel
        · refine s_ret (ew_op (ew_op (ew_var rfl) ew_int (o_div ?_)) (ew_var rfl) (o_mod hn)) ⟨_, ?_, Sub.refl _⟩
          · exact wide_div (b := 20) (by decide) (by decide +kernel) (by decide) (by decide)
          · have e1 : jd s n = jm2 s / 524287 % n := by unfold jd; rw [if_neg ha]
            have e2 : after s n = ⟨s.a, s.b, s.c + 1⟩ := by unfold after; rw [if_neg ha]
            rw [e1, e2] at hp
            exact hp

theorem ok__law_jar (T : Txt K mg ad) : FnOk P w K mg base CX0 1 ad.f__law_jar ad.fd__law_jar ["script", "k"] (spP K SJar) := by
  have nd := sc__law_jar.nd
  refine fn_ok T.F__law_jar sc__law_jar (fun As μ Post h => ?_) (fun cdv A outer s H E hr => ?_)
  · obtain ⟨ns, k, rfl, _⟩ := h
    rfl
  · refine ⟨_, (pss_cons (ps_set (i := 2) nd rfl (Or.inl rfl) (pe_ifExp (pt_cmpR op_lt (pv 1) (pe_callB call_len_seq (by rfl) T.z_len PySem.boot_len (pa_cons (pv 0) pa_nil)) (nomark _)) (pe_ix ix_list (pv 0) (pv 1) (fun _ _ => rfl)) pe_int))
 (pss_one (ps_ret (pe_lst (pa_cons (pe_callB (call_max2 rfl) (by rfl) T.z_max (by decide +kernel) (pa_cons pe_int (pa_cons (pe_op op_sub (pv 2) (pe_op op_powX pe_int pe_int)) pa_nil))) (pa_cons (pe_op op_add (pe_op op_mulW (pe_op op_mod (pv 2) (pe_op op_add (pe_op op_powX pe_int pe_int) pe_int)) pe_int) (pv 1)) (pa_cons pe_int pa_nil))))))), ?_⟩
    rintro As μ Post ⟨ns, k, rfl, hn, hk, hp⟩
    have pw : ∀ n : Nat, n ≤ 100 → CPowX 10 (n : Int) := fun n h => pow_ok (b := 4) (by decide +kernel) (by decide) (by omega)
    refine s_seq (s_asg (μ1 := μ) (R := .i (ns.getD k 0)) (ew_if (μ1 := μ) (b := decide ((k : Int) < (ns.map PyData.int).length)) (et_test (ew_op (ew_var rfl) (ew_cb (ea_cons (ew_var rfl) ea_nil) n_lenL) o_B0)) (fun hb => ?_) (fun hb => ?_)) ?_)
    · have h := of_decide_eq_true hb
      rw [List.length_map] at h
      have h2 : k < ns.length := by omega
      refine ew_op (ew_var rfl) (ew_var rfl) (o_ixL (d := .int (ns.getD k 0)) ?_)
      rw [List.getElem?_map, List.getElem?_eq_getElem h2]
      simp [h2]
    · have h := of_decide_eq_false hb
      rw [List.length_map] at h
      refine ew_isI ew_int ?_
      rw [List.getD_eq_getElem?_getD, List.getElem?_eq_none (by omega)]
      rfl
    · refine s_retOwn (Rs := [.i (jil ns k).a, .i (jil ns k).b, .i (jil ns k).c]) (ea_cons (ew_isI (ew_cb (ea_cons ew_int (ea_cons (ew_op (ew_var rfl) (ew_op ew_int ew_int (o_powz (pw 18 (by decide)))) o_I0) ea_nil)) n_max2) rfl) (ea_cons (ew_isI (ew_op (ew_op (ew_op (ew_var rfl) (ew_op (ew_op ew_int ew_int (o_powz (pw 41 (by decide)))) ew_int o_I0) (o_mod (by decide +kernel))) ew_int (o_mul ?_)) (ew_var rfl) o_I0) rfl) (ea_cons ew_int ea_nil))) (Nat.le_of_ble_eq_true rfl) (fun l hl => ⟨_, hp l hl, Sub.refl _⟩)
      have h0 := Int.emod_nonneg (ns.getD k 0) (show (10 ^ 41 + 109 : Int) ≠ 0 by decide)
      have h1 := Int.emod_lt_of_pos (ns.getD k 0) (show (0 : Int) < 10 ^ 41 + 109 by decide)
      exact wide_mul (a := 200) (b := 10) (wide_le h0 (by omega : ns.getD k 0 % (10 ^ 41 + 109) ≤ 10 ^ 42) (by decide +kernel)) (by decide +kernel) (by decide) (by decide) (by decide)
theorem ew_ladle {ρ : AS} {μ : AM} {E : XK} {l : Addr} {s : Kl} {n : Int} {tj tn : TE} (h1 : EvW K tj ρ μ (.r l) μ) (h2 : EvW K tn ρ μ (.i n) μ) (hl : μ l = some (kO s)) (hn : 0 < n) (hn2 : n ≤ 10 ^ 100) (hs : jok s) (hc : s.c < 10 ^ 20) :
    EvW K (tCall (spP K SLadle) [] E (tCons tj (tCons tn tNil))) ρ μ (.i (jd s n)) (updM μ l (kO (after s n))) :=
  ew_fn (S := SLadle) (ea_cons h1 (ea_cons h2 ea_nil)) ⟨l, s, n, rfl, hl, hn, hn2, hs, hc, rfl, rfl⟩
end
end K15

set_option Elab.async false
set_option linter.all false
set_option maxRecDepth 100000
set_option maxHeartbeats 4000000
/-! the piles behind one instruction; can_reach -/
namespace K15
open PySem PySem.Spec PyProof.Rows L2 Lw
def rollL (p : List Key) (i : Nat) : List Key := p.take i ++ p.drop (i + 1) ++ [p.getD i (.inl 0)]
def nearL (p cs : List Key) : List (List Key) := ((p ++ cs).map fun l => p ++ [l]) ++ (List.range (p.length - 1)).map (rollL p) ++ (if p = [] then [] else [p.dropLast])
theorem near_iff {cs p q : List Key} : Near cs p q ↔ q ∈ nearL p cs := by
  unfold nearL
  rw [List.mem_append, List.mem_append]
  constructor
  · intro h
    cases h with
    | push p l hl => exact .inl (.inl (List.mem_map.mpr ⟨l, List.mem_append.mpr hl, rfl⟩))
    | roll A l B hB =>
      refine .inl (.inr (List.mem_map.mpr ⟨A.length, List.mem_range.mpr ?_, ?_⟩))
      · have := List.length_pos_iff.mpr hB
        rw [List.length_append, List.length_cons]
        omega
      · unfold rollL
        rw [List.take_left, show A ++ l :: B = (A ++ [l]) ++ B by simp, show A.length + 1 = (A ++ [l]).length by simp, List.drop_left, List.getD_eq_getElem?_getD]
        simp
    | drop p l =>
      refine .inr ?_
      rw [if_neg (by simp)]
      simp
  · rintro ((h | h) | h)
    · obtain ⟨l, hl, rfl⟩ := List.mem_map.mp h
      exact .push p l (List.mem_append.mp hl)
    · obtain ⟨i, hi, rfl⟩ := List.mem_map.mp h
      have hi := List.mem_range.mp hi
      have e : p = p.take i ++ p.getD i (.inl 0) :: p.drop (i + 1) := by
        rw [List.getD_eq_getElem?_getD, List.getElem?_eq_getElem (show i < p.length by omega)]
        exact (List.take_append_drop i p).symm.trans (by rw [List.drop_eq_getElem_cons (by omega)]; rfl)
      have := Near.roll (cs := cs) (p.take i) (p.getD i (.inl 0)) (p.drop (i + 1)) (fun z => by
        have := congrArg List.length z
        rw [List.length_drop] at this
        simp at this
        omega)
      rw [← e] at this
      exact this
    · by_cases c : p = []
      · rw [if_pos c] at h
        simp at h
      · rw [if_neg c] at h
        have e := List.mem_singleton.mp h
        subst e
        have := Near.drop (cs := cs) p.dropLast (p.getLast c)
        rw [List.dropLast_concat_getLast] at this
        exact this
theorem near_len (p cs : List Key) : (nearL p cs).length ≤ 2 * p.length + cs.length + 1 := by
  unfold nearL
  rw [List.length_append, List.length_append, List.length_map, List.length_map, List.length_range, List.length_append]
  have : (if p = [] then ([] : List (List Key)) else [p.dropLast]).length ≤ 1 := by split <;> simp
  omega
def SNear : Spc := fun As μ Post => ∃ p cs : List Key, As = [.d (pileD p), .d (pileD cs)] ∧ p.length ≤ 100 ∧ cs.length ≤ 100 ∧ (∀ k ∈ p, keyOk k = true) ∧ Post (.d (.list ((nearL p cs).map pileD))) μ
def SCan : Spc := fun As μ Post => ∃ p g : List Key, As = [.d (pileD p), .d (pileD g)] ∧ p.length ≤ 60 ∧ g.length ≤ 60 ∧ (∀ k ∈ p, kOk k) ∧ (∀ k ∈ g, kOk k) ∧ Post (.b (okT isFree g p.reverse 0)) μ
theorem keysD_drop (l : List Key) (n : Nat) : (keysD l).drop n = keysD (l.drop n) := by unfold keysD; rw [List.map_drop]
theorem keysD_dl (l : List Key) : (keysD l).dropLast = keysD l.dropLast := by unfold keysD; rw [List.map_dropLast]
theorem keysD_app (l m : List Key) : keysD l ++ keysD m = keysD (l ++ m) := by unfold keysD; rw [List.map_append]
theorem keysD_take2 (l : List Key) (n : Nat) : (keysD l).take n = keysD (l.take n) := by unfold keysD; rw [List.map_take]
theorem cut_last (ds : List PyData) : Lw.cutD ds none (some (-1)) = ds.dropLast := by
  have e : HT.sIx ds.length ds.length (some (-1)) = ds.length - 1 := by
    show (if (-1 : Int) < 0 then ((-1 : Int) + (ds.length : Int)).toNat else min (-1 : Int).toNat ds.length) = _
    rw [if_pos (by decide)]
    omega
  unfold Lw.cutD
  rw [e, HT.sIx_none, List.dropLast_eq_take]
  simp
section
variable {P : Program} {w : World} {K : Fr} {mg : Str → Option Value} {base : Heap} {ad : Ad}
theorem ok_can_reach (T : Txt K mg ad) : FnOk P w K mg base CX0 3 ad.f_can_reach ad.fd_can_reach ["pile", "goal"] (spP K SCan) := by
  have nd := sc_can_reach.nd
  refine fn_ok T.F_can_reach sc_can_reach (fun As μ Post h => ?_) (fun cdv A outer s H E hr => ?_)
  · obtain ⟨p, g, rfl, _⟩ := h
    rfl
  · refine ⟨_, (pss_cons (ps_expr (pe_call (ok_check_pile T) (hr.mono (by decide)) rfl T.mg_check_pile T.k_check_pile T.b_check_pile .nil pass0 (pa_cons (pv 0) pa_nil)))
 (pss_cons (ps_expr (pe_call (ok_check_pile T) (hr.mono (by decide)) rfl T.mg_check_pile T.k_check_pile T.b_check_pile .nil pass0 (pa_cons (pv 1) pa_nil)))
 (pss_one (ps_ret (pe_call (ok_is_reachable T) (hr.mono (by decide)) rfl T.mg_is_reachable T.k_is_reachable T.b_is_reachable .nil pass0 (pa_cons (pe_call (ok_labels_of T) (hr.mono (by decide)) rfl T.mg_labels_of T.k_labels_of T.b_labels_of .nil pass0 (pa_cons (pv 0) pa_nil)) (pa_cons (pe_call (ok_labels_of T) (hr.mono (by decide)) rfl T.mg_labels_of T.k_labels_of T.b_labels_of .nil pass0 (pa_cons (pv 1) pa_nil)) pa_nil))))))), ?_⟩
    rintro As μ Post ⟨p, g, rfl, hz, hz2, hk, hk2, hp⟩
    refine s_seq (s_drop (ew_fn (S := SChkPile) (ea_cons (ew_var rfl) ea_nil) ⟨p, rfl, hz, hk, rfl, rfl⟩) ?_)
    refine s_seq (s_drop (ew_fn (S := SChkPile) (ea_cons (ew_var rfl) ea_nil) ⟨g, rfl, hz2, hk2, rfl, rfl⟩) ?_)
    have e : okT Lab.free (g.map toLab) (p.map toLab).reverse 0 = okT isFree g p.reverse 0 := by
      rw [← List.map_reverse]
      exact okT_mapL toLab_inj (fr := isFree) (fr' := Lab.free) (fun _ => rfl) g p.reverse 0
    refine s_ret (ew_isB (ew_fn (S := SReachable) (ea_cons (ew_fn (S := SLabels) (ea_cons (ew_var rfl) ea_nil) ⟨p, rfl, hz, rfl, rfl⟩) (ea_cons (ew_fn (S := SLabels) (ea_cons (ew_var rfl) ea_nil) ⟨g, rfl, hz2, rfl, rfl⟩) ea_nil)) ⟨p.map toLab, g.map toLab, rfl, by rw [List.length_map]; omega, by rw [List.length_map]; omega, rfl, rfl⟩) e) ⟨_, hp, Sub.refl _⟩
theorem ok__law_near (T : Txt K mg ad) : FnOk P w K mg base CX0 1 ad.f__law_near ad.fd__law_near ["cells", "constants"] (spP K SNear) := by
  have nd := sc__law_near.nd
  refine fn_ok T.F__law_near sc__law_near (fun As μ Post h => ?_) (fun cdv A outer s H E hr => ?_)
  · obtain ⟨p, g, rfl, _⟩ := h
    rfl
  · have hu := hr.un
    have hu64 : A.units + 3 + 64 < cLine := by
      have : A.units + 3 + 200 < cLine := by simpa using hu
      omega
    refine ⟨_, (pss_cons (ps_setLc (i := 2) (own := [("label", 4)]) (by rfl) nd rfl rfl (sw_true rfl rfl rfl (by decide +kernel)) (pi_tup (pe_op op_catA (pv 0) (pv 1))) (blkOk_by (N := ["cells", "constants", "found", "spot", "label"]) (sc := defScope s__law_near) (by decide +kernel)) (fun _ _ _ _ _ => (pg_name (i := 4) nd rfl (Or.inl rfl))) (fun _ _ _ _ _ => pts_nil) (fun _ _ _ _ _ => (pe_op (op_catK (K := K) rfl) (pv 0) (pe_tup (pa_cons (pv 4) pa_nil)))))
 (pss_cons (ps_for PassesOwn.never rfl (pi_range1 rfl T.z_range (pa_cons (pe_op op_sub (pe_callB call_len_seq (by rfl) T.z_len PySem.boot_len (pa_cons (pv 0) pa_nil)) pe_int) pa_nil)) (pg_name (i := 3) nd rfl (Or.inl rfl))
 (pss_one (ps_expr (pe_bm PySem.F.plainAttrs_list PySem.F.slot_list_append PySem.F.type_list_append mt_append (pv 2) (pa_cons (pe_op op_catA (pe_op op_catA (pe_slice sl_tupA (pv 0) po_none (po_some (pv 3))) (pe_slice sl_tupA (pv 0) (po_some (pe_op op_add (pv 3) pe_int)) po_none)) (pe_tup (pa_cons (pe_ix ix_tup (pv 0) (pv 3) (fun _ _ => rfl)) pa_nil))) pa_nil)))))
 (pss_one (ps_ret (pe_op op_cat (pv 2) (pe_op op_rep (pe_lst (pa_cons (pe_slice sl_tupA (pv 0) po_none (po_some (pe_un un_neg pe_int))) pa_nil)) (pe_callTy call_int1 (by rfl) T.z_int (by decide +kernel) (pa_cons (pe_cmpR (op_neD hu64) (pv 0) (pe_tup pa_nil) (nomark _)) pa_nil)))))))), ?_⟩
    rintro As μ Post ⟨p, cs, rfl, hz, hz2, hk, hp⟩
    have cat : ∀ {ρ : AS} {μ : AM} {ta tb : TE} {a b : List Key}, EvW K ta ρ μ (.d (pileD a)) μ → EvW K tb ρ μ (.d (pileD b)) μ → a.length + b.length ≤ 1000 → EvW K (tOp (rCatA K) ta tb) ρ μ (.d (pileD (a ++ b))) μ := fun {ρ μ ta tb a b} h1 h2 h3 => by
      refine ew_is (ew_op h1 h2 (o_catU (ds := keysD a) (es := keysD b) (by rw [keysD_len, keysD_len]; omega))) ?_
      rw [keysD_app]
      rfl
    have one : ∀ {ρ : AS} {μ : AM} {ta : TE} {k : Key}, EvW K ta ρ μ (.d (keyD k)) μ → EvW K (tTup (tCons ta tNil)) ρ μ (.d (pileD [k])) μ := fun h => ew_tup (ds := [keyD _]) (ea_cons h ea_nil) (by simp)
    refine s_seq (s_lcM (p ++ cs) (fun k => .d (keyD k)) (fun k => pileD (p ++ [k])) (it_map (it_t (ds := keysD (p ++ cs)) (cat (ew_var rfl) (ew_var rfl) (by omega))) (by unfold keysD; rw [List.map_map]; rfl)) (fun k hk' => ⟨_, gc_name (by simp), cat (ew_var rfl) (one (ew_var rfl)) (by simp; omega)⟩) (by rw [List.length_append]; omega) (fun l hl => ?_))
    have rlen : ((List.range ((p.length : Int) - 1).toNat).map fun (i : Nat) => AV.i (0 + (i : Int))).length = p.length - 1 := by rw [List.length_map, List.length_range]; omega
    refine s_seqM (fun ρ' μ' => ∃ v3, ρ' = [some (.d (pileD p)), some (.d (pileD cs)), some (.r l), v3, none] ∧ μ' = updM μ l (.lst (((((p ++ cs).map fun l => p ++ [l]) ++ (List.range (p.length - 1)).map (rollL p)).map pileD).map .d)))
      (s_for (it_r1 (n := (p.length : Int) - 1) (ea_cons (ew_op (ew_isI (ew_cb (ea_cons (ew_var rfl) ea_nil) n_len) (by rw [keysD_len])) ew_int o_I0) ea_nil) (by omega) (by omega)) (fun i ρ' μ' => ∃ v3, ρ' = [some (.d (pileD p)), some (.d (pileD cs)), some (.r l), v3, none] ∧ μ' = updM μ l (.lst (((((p ++ cs).map fun l => p ++ [l]) ++ (List.range i).map (rollL p)).map pileD).map .d)))
        ⟨none, rfl, ?_⟩ ?_ (fun ρ' μ' h => by rw [rlen] at h; exact h)) ?_
    · show updM μ l _ = _
      rw [List.range_zero, List.map_nil, List.append_nil, List.map_map (f := fun l => p ++ [l])]
      rfl
    · rintro i a ρ' μ' ha ⟨v3, rfl, rfl⟩
      have hi : i < p.length - 1 := by
        have := (List.getElem?_eq_some_iff.mp ha).1
        rwa [rlen] at this
      rw [List.getElem?_map, List.getElem?_range (by omega)] at ha
      have ea : a = .i (i : Int) := by
        rw [← Option.some.inj ha]
        show AV.i (0 + (i : Int)) = _
        rw [Int.zero_add]
      subst ea
      refine ⟨_, gw_name, ?_⟩
      refine s_app (l := l) (R := .d (pileD (rollL p i))) (ew_var rfl) (cat (a := p.take i ++ p.drop (i + 1)) (cat (ew_is (ew_slT (ew_var rfl) eo_none (eo_some (ew_var rfl))) (by rw [cut_to _ (by rw [keysD_len]; omega), keysD_take2]; rfl)) (ew_is (ew_slT (ew_var rfl) (eo_some (ew_isI (ew_op (ew_var rfl) ew_int o_I0) (j := ((i + 1 : Nat) : Int)) (by push_cast; rfl))) eo_none) (by rw [cut_from _ (by rw [keysD_len]; omega), keysD_drop]; rfl)) (by rw [List.length_take, List.length_drop]; omega)) (one (ew_op (ew_var rfl) (ew_var rfl) (o_ixT (k := i) (keysD_get ?_)))) (by rw [List.length_append, List.length_take, List.length_drop]; simp; omega)) ⟨_, updM_same⟩ updM_same ?_ ?_
      · rw [List.getD_eq_getElem?_getD, List.getElem?_eq_getElem (show i < p.length by omega)]
        rfl
      · rw [List.length_map, List.length_map, List.length_append, List.length_map, List.length_map, List.length_range, List.length_append]
        omega
      · refine ⟨_, rfl, ?_⟩
        rw [updM_updM, List.range_succ]
        simp only [List.map_append, List.append_assoc, List.map_cons, List.map_nil]
    rintro ρ' μ' ⟨v3, rfl, rfl⟩
    have hls : (((p ++ cs).map fun l => p ++ [l]) ++ (List.range (p.length - 1)).map (rollL p)).length ≤ 400 := by
      rw [List.length_append, List.length_map, List.length_map, List.length_range, List.length_append]
      omega
    have e0 : nearL p cs = (((p ++ cs).map fun l => p ++ [l]) ++ (List.range (p.length - 1)).map (rollL p)) ++ (if p = [] then [] else [p.dropLast]) := rfl
    generalize ((p ++ cs).map fun l => p ++ [l]) ++ (List.range (p.length - 1)).map (rollL p) = ls at hls e0
    have lay := shaped_keys hk
    have ne : ∀ {ρ : AS} {μ : AM}, ρ[0]? = some (some (.d (pileD p))) → EvW K (tOp (rNeD K) (tVar 0) (tTup tNil)) ρ μ (.b (!decide (p = []))) μ := fun h => ew_isB (ew_op (ew_var h) (ew_tup (ds := keysD []) ea_nil (by simp [keysD])) (o_neD lay.1 (by decide))) (by show (!PyData.eqv (.tuple (keysD p)) (.tuple (keysD []))) = _; rw [eqv_keys])
    have last : ∀ {ρ : AS} {μ : AM}, ρ[0]? = some (some (.d (pileD p))) → EvW K (tSl (rSlA K) (tVar 0) tNoPart (tPart (tUn (rU fun i => .int (-i)) (tC (.int 1))))) ρ μ (.d (pileD p.dropLast)) μ := fun h => ew_is (ew_slT (ew_var h) eo_none (eo_some (ew_un ew_int o_neg))) (by rw [cut_last, keysD_dl]; rfl)
    refine s_ret (R := .d (.list ((nearL p cs).map pileD))) (ew_trk (ew_is (ew_op (ew_var rfl) (ew_op (ew_lstT (ds := [pileD p.dropLast]) (ea_cons (last rfl) ea_nil) (by simp)) (ew_cb (ea_cons (ne rfl) ea_nil) n_intB) (o_rep (by split <;> decide) (by simp))) (o_catO (ds := ls.map pileD) updM_same (by
      rw [List.length_map]
      by_cases c : p = [] <;> simp [c] <;> omega))) ?_)) ⟨_, hp, Sub.upd hl⟩
    rw [e0, List.map_append]
    by_cases c : p = [] <;> simp [c]
end
end K15

set_option Elab.async false
set_option linter.all false
set_option maxRecDepth 100000
set_option maxHeartbeats 4000000
/-! the search of the law -/
namespace K15
open PySem PySem.Spec PyProof.Rows L2 Lw
abbrev repQ (ls : List (List Key)) (f : List Key → Int) : HO := .dT (rep (fun p : List Key => p) ls f)
theorem repQ_in {ls : List (List Key)} (f : List Key → Int) {x : List Key} (h : x ∈ ls) : valV (rep (fun p : List Key => p) ls f) x = some (.int (f x)) := by
  rw [rep_val (f := fun p : List Key => p) (fun _ _ h => h) f x ls, if_pos h]
theorem repQ_no {ls : List (List Key)} (f : List Key → Int) {x : List Key} (h : x ∉ ls) : valV (rep (fun p : List Key => p) ls f) x = none := by
  rw [rep_val (f := fun p : List Key => p) (fun _ _ h => h) f x ls, if_neg h]
theorem near_lab {cs y x : List Key} (h : Near cs y x) : ∀ l ∈ x, l ∈ y ∨ l ∈ cs := by
  intro z hz
  cases h with
  | push p l hl =>
    rcases List.mem_append.mp hz with q | q
    · exact .inl q
    · rw [List.mem_singleton.mp q]; exact hl
  | roll A l B hB =>
    refine .inl ?_
    rw [mem_mid]
    rcases List.mem_append.mp hz with q | q
    · exact .inr q
    · exact .inl (List.mem_singleton.mp q)
  | drop p l => exact .inl (List.mem_append_left _ hz)
theorem Under.imp {fr : Key → Bool} {cs start S : List Key} {high i : Nat} {ls : List (List Key)} {f : List Key → Int} {Q Q' : List Key → Prop} (h : Under fr cs start high S i Q ls f) (hq : ∀ z, Q' z → Q z) : Under fr cs start high S i Q' ls f :=
  { h with now := fun y hy => ⟨fun x hx => (h.now y hy).1 x (hq x hx), (h.now y hy).2⟩ }
theorem upTo5_len {S : List Key} (h : S.length ≤ 4) : (upTo S 5).length ≤ 1365 := by
  have e : (upTo S 5).length = 1 + S.length ^ 1 + S.length ^ 2 + S.length ^ 3 + S.length ^ 4 + S.length ^ 5 := by
    simp only [upTo, List.length_append, level_len, List.length_singleton]
  have := Nat.pow_le_pow_left h 1
  have := Nat.pow_le_pow_left h 2
  have := Nat.pow_le_pow_left h 3
  have := Nat.pow_le_pow_left h 4
  have := Nat.pow_le_pow_left h 5
  omega
theorem Under.many {fr : Key → Bool} {cs start S : List Key} {high i : Nat} {ls : List (List Key)} {f : List Key → Int} {Q : List Key → Prop} (h : Under fr cs start high S i Q ls f) (h5 : high ≤ 5) (h4 : S.length ≤ 4) : ls.length ≤ 1365 :=
  Nat.le_trans (nodup_len h.nd fun x hx => upTo_mem (n := 5) (by have := (h.small x hx).1; omega) (h.small x hx).2) (upTo5_len h4)
def SDist : Spc := fun As μ Post => ∃ (start cs S : List Key) (high : Nat), As = [.d (pileD start), .d (pileD cs), .i (high : Int)] ∧ start.length ≤ high ∧ high ≤ 5 ∧ (∀ l ∈ start, l ∈ S) ∧ (∀ l ∈ cs, l ∈ S) ∧ S.length ≤ 4 ∧ (∀ l ∈ cs, isFree l = true) ∧ cs.length ≤ 4 ∧ (∀ k ∈ S, keyOk k = true) ∧
  ∀ (ls : List (List Key)) (f : List Key → Int) (a : Addr), μ a = none → Whole isFree cs start high ls f → (∀ x ∈ ls, 0 ≤ f x ∧ f x ≤ 2000) → Post (.r a) (updM μ a (.o (repQ ls f)))
section
variable {P : Program} {w : World} {K : Fr} {mg : Str → Option Value} {base : Heap} {ad : Ad}
theorem ok__law_distances (T : Txt K mg ad) : FnOk P w K mg base CX0 2 ad.f__law_distances ad.fd__law_distances ["start", "constants", "high"] (spP K SDist) := by
  have nd := sc__law_distances.nd
  refine fn_ok T.F__law_distances sc__law_distances (fun As μ Post h => ?_) (fun cdv A outer s H E hr => ?_)
  · obtain ⟨p, g, S, n, rfl, _⟩ := h
    rfl
  · have hu := hr.un
    have hu1 : A.units + 3 + 1 < cLine := by
      have : A.units + 3 + 200 < cLine := by simp at hu; omega
      omega
    refine ⟨_, (pss_cons (ps_par3 (i := 3) (j := 4) (l := 5) rfl nd rfl rfl rfl (by decide) (by decide) (by decide) rfl rfl rfl (pa_cons (pe_disp1T hu1 (pv 0) pe_int) (pa_cons (pe_lst (pa_cons (pv 0) pa_nil)) (pa_cons pe_int pa_nil))) rfl)
 (pss_cons (ps_while PassesOwn.never (pt_cmpR op_lt (pv 5) (pe_callB call_len_seq (by rfl) T.z_len PySem.boot_len (pa_cons (pv 4) pa_nil)) (nomark _))
 (pss_cons (ps_set (i := 6) nd rfl (Or.inl rfl) (pe_ix ix_list (pv 4) (pv 5) (fun _ _ => rfl)))
 (pss_cons (ps_for PassesOwn.never rfl (pi_list (pe_call (ok__law_near T) (hr.mono (by decide)) rfl T.mg__law_near T.k__law_near T.b__law_near .nil pass0 (pa_cons (pv 6) (pa_cons (pv 1) pa_nil)))) (pg_name (i := 7) nd rfl (Or.inl rfl))
 (pss_one (ps_if (PW.pt (pw_and (pt_cmpR op_le (pe_callB call_len_seq (by rfl) T.z_len PySem.boot_len (pa_cons (pv 7) pa_nil)) (pv 2) (nomark _)) (pw_and1 (pt_cmp (pc_dnotin hu1 (pv 7) (pv 3)) rfl))))
 (pss_cons (ps_dput hu1 (pv 3) (pv 7) (pe_op op_add (pe_dget hu1 (pv 3) (pv 6) (fun _ _ => rfl)) pe_int) rfl)
 (pss_one (ps_expr (pe_bm PySem.F.plainAttrs_list PySem.F.slot_list_append PySem.F.type_list_append mt_append (pv 4) (pa_cons (pv 7) pa_nil)))))
 pss_nil)))
 (pss_one (ps_set (i := 5) nd rfl (Or.inl rfl) (pe_op op_add (pv 5) pe_int))))))
 (pss_one (ps_ret (pv 3))))), ?_⟩
    rintro As μ Post ⟨start, cs, S, high, rfl, hs, h5, hsS, hcS, h4, hfr, hc4, hkS, hp⟩
    refine s_seq (s_par3X (RelA := fun Rs μ1 => ∃ a b, μ a = none ∧ μ b = none ∧ a ≠ b ∧ Rs = [.r a, .r b, .i 0] ∧ μ1 = updM (updM μ a (.o (repQ [start] fun _ => 0))) b (.lst ([start].map fun x => .d (pileD x)))) (ax_cons (ex_disp1T (p := start) (r := 0) (fun a ha => ew_var rfl) (fun a ha => ew_int)) (fun R μ1 h => by
      obtain ⟨a, ha, rfl, rfl⟩ := h
      exact ax_cons (ex_lstO (Rs := [.d (pileD start)]) (ea_cons (ew_var rfl) ea_nil) (by simp)) (fun R μ1 h => by
        obtain ⟨b, hb, rfl, rfl⟩ := h
        exact ax_cons (ex_of ew_int) (fun R μ1 h => by
          obtain ⟨rfl, rfl⟩ := h
          have hab : a ≠ b := fun e => by rw [e, updM_same] at hb; cases hb
          exact ax_nilR ⟨a, b, ha, by rw [updM_ne (fun e => hab e.symm)] at hb; exact hb, hab, rfl, rfl⟩)))) (fun R μ1 h => ?_))
    obtain ⟨fa, la, hfa, hla, hfl, rfl, rfl⟩ := h
    refine ⟨_, _, _, rfl, ?_⟩
    generalize hM : (fun (ls : List (List Key)) (f : List Key → Int) => updM (updM μ fa (.o (repQ ls f))) la (.lst (ls.map fun x => .d (pileD x)))) = M
    have mf : ∀ ls f, (M ls f) fa = some (.o (repQ ls f)) := fun ls f => by rw [← hM]; show (updM _ la _) fa = _; rw [updM_ne hfl, updM_same]
    have ml : ∀ ls f, (M ls f) la = some (.lst (ls.map fun x => .d (pileD x))) := fun ls f => by rw [← hM]; exact updM_same
    have mu : ∀ ls f ls' f', updM (updM (M ls f) fa (.o (repQ ls' f'))) la (.lst (ls'.map fun x => .d (pileD x))) = M ls' f' := fun ls f ls' f' => by
      rw [← hM]
      show updM (updM (updM (updM μ fa _) la _) fa _) la _ = _
      rw [updM_comm (fun e => hfl e.symm), updM_updM, updM_updM]
    have hM0 : updM (updM μ fa (.o (repQ [start] fun _ => 0))) la (.lst ([start].map fun x => .d (pileD x))) = M [start] fun _ => 0 := by rw [← hM]
    rw [hM0]
    refine s_seqM (fun ρ' μ' => ∃ (i : Nat) (ls : List (List Key)) (f : List Key → Int) (v6 v7 : Option AV), ρ' = [some (.d (pileD start)), some (.d (pileD cs)), some (.i (high : Int)), some (.r fa), some (.r la), some (.i (i : Int)), v6, v7] ∧ μ' = M ls f ∧ Under isFree cs start high S i (fun _ => False) ls f ∧ ls.length ≤ i)
      (s_while (fun m ρ' μ' => ∃ (i : Nat) (ls : List (List Key)) (f : List Key → Int) (v6 v7 : Option AV), m = 1365 - i ∧ ρ' = [some (.d (pileD start)), some (.d (pileD cs)), some (.i (high : Int)), some (.r fa), some (.r la), some (.i (i : Int)), v6, v7] ∧ μ' = M ls f ∧ Under isFree cs start high S i (fun _ => False) ls f) 1365
        ⟨0, [start], fun _ => 0, none, none, rfl, rfl, rfl, Under.begin hs hsS rfl⟩ ?_) ?_
    rotate_left
    · rintro ρ' μ' ⟨i, ls, f, v6, v7, rfl, rfl, hU, hi⟩
      refine s_ret (ew_var rfl) ⟨_, hp ls f fa hfa (hU.whole hi) (fun x hx => ?_), ?_⟩
      · have := hU.nn x hx
        have := hU.many h5 h4
        omega
      · rw [← hM]
        exact Sub.upd (by rw [updM_ne (fun e => hfl e.symm)]; exact hla)
    rintro m ρ' μ' ⟨i, ls, f, v6, v7, rfl, rfl, rfl, hU⟩
    have hmany := hU.many h5 h4
    refine ⟨decide (i < ls.length), _, et_is (et_test (ew_op (ew_var rfl) (ew_cb (ea_cons (ew_var rfl) ea_nil) (n_lenO (ml ls f))) (o_B0 (g := fun i j => decide (i < j))))) (decide_eq_decide.mpr (by rw [List.length_map]; omega)), fun hb => ?_, fun hb => ?_⟩
    rotate_left
    · have := of_decide_eq_false hb
      exact ⟨i, ls, f, v6, v7, rfl, rfl, hU, by omega⟩
    have hi : i < ls.length := of_decide_eq_true hb
    have hy : ls[i]? = some ls[i] := List.getElem?_eq_getElem hi
    generalize ls[i] = y at hy
    have hyl := hU.small y (List.mem_of_getElem? hy)
    refine s_seq (s_asg (R := .d (pileD y)) (ew_op (ew_var rfl) (ew_var rfl) (o_ixO (k := i) (ml ls f) (by rw [List.getElem?_map, hy]; rfl))) ?_)
    refine s_seqM (fun ρ' μ' => ∃ (ls : List (List Key)) (f : List Key → Int) (v7 : Option AV), ρ' = [some (.d (pileD start)), some (.d (pileD cs)), some (.i (high : Int)), some (.r fa), some (.r la), some (.i (i : Int)), some (.d (pileD y)), v7] ∧ μ' = M ls f ∧ Under isFree cs start high S i (fun z => z ∈ nearL y cs) ls f ∧ ls[i]? = some y)
      (s_for (it_l (ds := (nearL y cs).map pileD) (ew_fn (S := SNear) (ea_cons (ew_var rfl) (ea_cons (ew_var rfl) ea_nil)) ⟨y, cs, rfl, by omega, by omega, fun k hk => hkS k (hyl.2 k hk), rfl, rfl⟩)) (fun j ρ' μ' => ∃ (ls : List (List Key)) (f : List Key → Int) (v7 : Option AV), ρ' = [some (.d (pileD start)), some (.d (pileD cs)), some (.i (high : Int)), some (.r fa), some (.r la), some (.i (i : Int)), some (.d (pileD y)), v7] ∧ μ' = M ls f ∧ Under isFree cs start high S i (fun z => z ∈ (nearL y cs).take j) ls f ∧ ls[i]? = some y)
        ⟨ls, f, v7, rfl, rfl, hU.imp (fun z hz => by simp at hz), hy⟩ ?_ ?_) ?_
    · rintro j a ρ' μ' ha ⟨ls, f, v7, rfl, rfl, hU, hy⟩
      rw [List.map_map, List.getElem?_map] at ha
      cases hx : (nearL y cs)[j]? with
      | none => rw [hx] at ha; cases ha
      | some x =>
        rw [hx] at ha
        have ea := (Option.some.inj ha).symm
        subst ea
        have hn : Near cs y x := near_iff.mpr (List.mem_of_getElem? hx)
        have htk : ∀ z, z ∈ (nearL y cs).take (j + 1) → z ∈ (nearL y cs).take j ∨ z = x := fun z hz => by
          rw [List.take_add_one, hx] at hz
          exact (List.mem_append.mp hz).imp id (fun q => List.mem_singleton.mp q)
        have hmany := hU.many h5 h4
        have hym : y ∈ ls := List.mem_of_getElem? hy
        refine ⟨_, gw_name, s_if (b := decide ((x.length : Int) ≤ (high : Int)) && !memB x ls) (et_and (et_test (ew_op (ew_isI (ew_cb (ea_cons (ew_var rfl) ea_nil) n_len) (by rw [keysD_len])) (ew_var rfl) o_B0)) (fun _ => et_is (et_dnotinP (p := x) (ew_var rfl) (ew_var rfl) (mf ls f)) ?_)) (fun h => ?_) (fun h => s_next ?_)⟩
        · by_cases c : x ∈ ls
          · rw [repQ_in f c, memB_iff.mpr c]; rfl
          · rw [repQ_no f c, show memB x ls = false from Bool.eq_false_iff.mpr (fun z => c (memB_iff.mp z))]; rfl
        · rw [Bool.and_eq_true, Bool.not_eq_true'] at h
          have hl : x.length ≤ high := by have := of_decide_eq_true h.1; omega
          have hx2 : x ∉ ls := fun z => by rw [memB_iff.mpr z] at h; exact absurd h.2 (by simp)
          have hU2 := hU.new hy hfr hn hx2 hl (fun l hl => (near_lab hn l hl).elim (fun q => (hU.small y hym).2 l q) (hcS l))
          have er : putK (rep (fun p : List Key => p) ls f) x (.int (f y + 1)) = rep (fun p : List Key => p) (ls ++ [x]) (fup f x (f y + 1)) := by
            rw [rep_put (f := fun p : List Key => p) (fun _ _ h => h) f x (f y + 1) ls]
            unfold kadd
            rw [if_neg hx2]
          refine s_seq (s_dputP (p := x) (r := f y + 1) (ew_op (ew_dgetP (p := y) (ew_var rfl) (ew_var rfl) (mf ls f) (repQ_in f hym)) ew_int o_I0) (ew_var rfl) (ew_var rfl) (mf ls f) (by rw [rep_len]; omega) ?_)
          rw [er]
          refine s_app (l := la) (R := .d (pileD x)) (ew_var rfl) (ew_var rfl) ⟨_, by rw [updM_ne (fun e => hfl e.symm)]; exact ml ls f⟩ (by rw [updM_ne (fun e => hfl e.symm)]; exact ml ls f) (by rw [List.length_map]; omega) ?_
          have e2 := mu ls f (ls ++ [x]) (fup f x (f y + 1))
          rw [List.map_append] at e2
          refine ⟨ls ++ [x], _, _, rfl, e2, hU2.imp htk, ?_⟩
          rw [List.getElem?_append_left (List.getElem?_eq_some_iff.mp hy).1]
          exact hy
        · refine ⟨ls, f, _, rfl, rfl, (hU.old hy (x := x) (fun hl => ?_)).imp htk, hy⟩
          apply Classical.byContradiction
          intro hx2
          rw [decide_eq_true (show (x.length : Int) ≤ (high : Int) by omega), show memB x ls = false from Bool.eq_false_iff.mpr (fun z => hx2 (memB_iff.mp z))] at h
          cases h
    · rintro ρ' μ' ⟨ls, f, v7, rfl, rfl, hU, hy⟩
      refine ⟨ls, f, v7, rfl, rfl, hU.imp (fun z hz => ?_), hy⟩
      rw [List.length_map, List.length_map, List.take_length]
      exact hz
    rintro ρ' μ' ⟨ls, f, v7, rfl, rfl, hU, hy⟩
    refine s_asg (R := .i ((i + 1 : Nat) : Int)) (ew_isI (ew_op (ew_var rfl) ew_int o_I0) (by push_cast; rfl)) ⟨1365 - (i + 1), by omega, i + 1, ls, f, some (.d (pileD y)), v7, rfl, rfl, rfl, hU.next hy (fun z hz => near_iff.mp hz)⟩
end
end K15

set_option Elab.async false
set_option linter.all false
set_option maxRecDepth 100000
set_option maxHeartbeats 4000000
namespace K15
open PySem PySem.Spec PyProof.Rows L2 Lw
def labK : List Key := [.inr "a", .inr "b", .inl 1, .inl 2]
def moreL (c : List Key) : List (List Key) := labK.map fun l => c ++ [l]
def ofLen (n : Nat) (l : List (List Key)) : List (List Key) := l.filter fun c => decide ((c.length : Int) = (n : Int))
def goalsL : Nat → List (List Key)
  | 0 => [[]]
  | n + 1 => goalsL n ++ (ofLen n (goalsL n)).flatMap moreL
theorem goals_in : ∀ n, ∀ g ∈ goalsL n, g.length ≤ n ∧ ∀ l ∈ g, l ∈ labK
  | 0, g, h => by
    have : g = [] := List.mem_singleton.mp h
    subst this
    exact ⟨Nat.le_refl _, fun l hl => by simp at hl⟩
  | n + 1, g, h => by
    rcases List.mem_append.mp h with q | q
    · have := goals_in n g q
      exact ⟨by omega, this.2⟩
    · obtain ⟨c, hc, hg⟩ := List.mem_flatMap.mp q
      obtain ⟨l, hl, rfl⟩ := List.mem_map.mp hg
      have := goals_in n c (List.mem_filter.mp hc).1
      refine ⟨by rw [List.length_append]; simp; omega, fun z hz => ?_⟩
      rcases List.mem_append.mp hz with q | q
      · exact this.2 z q
      · rw [List.mem_singleton.mp q]; exact hl
theorem goals_len : ∀ n, n ≤ 3 → (goalsL n).length ≤ 85 ∧ (goalsL n).length + 4 * (ofLen n (goalsL n)).length ≤ 400
  | 0, _ => by decide +kernel
  | 1, _ => by decide +kernel
  | 2, _ => by decide +kernel
  | 3, _ => by decide +kernel
  | n + 4, h => absurd h (by omega)
theorem lab_ok : ∀ k ∈ labK, kOk k := by
  intro k hk
  unfold labK at hk
  simp only [List.mem_cons, List.not_mem_nil, or_false] at hk
  have nm : ∀ z : Str, (decide (1 ≤ z.length) && decide (z.length ≤ 8) && z.cps.toList.all fun c => decide (97 ≤ c) && decide (c ≤ 122)) = true → nameOk z := fun z h => by
    simp only [Bool.and_eq_true, decide_eq_true_eq, List.all_eq_true] at h
    exact ⟨h.1.1, h.1.2, h.2⟩
  rcases hk with rfl | rfl | rfl | rfl
  · exact nm _ (by decide +kernel)
  · exact nm _ (by decide +kernel)
  · exact (show -(10 ^ 30) ≤ (1 : Int) ∧ (1 : Int) ≤ 10 ^ 30 by decide)
  · exact (show -(10 ^ 30) ≤ (2 : Int) ∧ (2 : Int) ≤ 10 ^ 30 by decide)
def startJ : Nat → Kl → List Key × Kl
  | 0, s => ([], s)
  | n + 1, s => ((startJ n s).1 ++ [labK.getD (jd (startJ n s).2 4).toNat (.inl 0)], after (startJ n s).2 4)
theorem start_ok {s : Kl} (h : jok s) : ∀ n, (startJ n s).1.length = n ∧ JG s (startJ n s).2 n ∧ ∀ c ∈ (startJ n s).1, c ∈ labK
  | 0 => ⟨rfl, JG.refl h, fun c hc => by simp [startJ] at hc⟩
  | n + 1 => by
    obtain ⟨h1, h2, h3⟩ := start_ok h n
    refine ⟨by simp [startJ, h1], h2.step (by decide), fun c hc => ?_⟩
    unfold startJ at hc
    rcases List.mem_append.mp hc with q | q
    · exact h3 c q
    · have e := List.mem_singleton.mp q
      have := jd_lo (startJ n s).2 (n := 4) (by decide)
      have hl : (jd (startJ n s).2 4).toNat < labK.length := by show _ < 4; omega
      rw [e, List.getD_eq_getElem?_getD, List.getElem?_eq_getElem hl]
      exact List.getElem_mem hl
theorem can_due {g p : List Key} : okT isFree g p.reverse 0 = (dueK p g).isSome := by
  unfold dueK
  cases h : okT isFree g p.reverse 0 with
  | false =>
    unfold due
    rw [bestL_no h]
    rfl
  | true =>
    obtain ⟨d, h1, _⟩ := best_le (u := fun x => cnt x g) (T := p.reverse.length + 1) (by omega) h
    unfold due
    rw [h1]
    rfl
section
variable {P : Program} {w : World} {K : Fr} {mg : Str → Option Value} {base : Heap} {ad : Ad}
theorem ok_law (T : Txt K mg ad) : FnG P w K mg base 6 ad.f_law ad.fd_law ["script"] (spP K (SLaw 63)) := by
  have nd := sc_law.nd
  refine fnG_ok (k := 5) T.F_law sc_law (fun As μ Post h => ?_) (fun cdv A outer s H E hg hr => ?_)
  · obtain ⟨ns, rfl, _⟩ := h
    rfl
  · have hu := hr.un
    have hu1 : A.units + 3 + 1 < cLine := by
      have : A.units + 3 + 200 < cLine := by simp at hu; omega
      omega
    have hu64 : A.units + 3 + 64 < cLine := by
      have : A.units + 3 + 200 < cLine := by simp at hu; omega
      omega
    refine ⟨_, (pss_cons (ps_set (i := 1) nd rfl (Or.inr rfl) (pe_tup (pa_cons pe_str (pa_cons pe_str (pa_cons pe_int (pa_cons pe_int pa_nil))))))
 (pss_cons (ps_set (i := 2) nd rfl (Or.inl rfl) (pe_lst (pa_cons (pe_tup pa_nil) pa_nil)))
 (pss_cons (ps_for PassesOwn.never rfl (pi_range1 rfl T.z_range (pa_cons pe_int pa_nil)) (pg_name (i := 3) nd rfl (Or.inr rfl))
 (pss_cons (ps_set (i := 4) nd rfl (Or.inl rfl) (pe_lst pa_nil))
 (pss_cons (ps_for PassesOwn.never rfl (pi_list (pe_lc (own := [("cells", 5)]) (by rfl) nd (pi_list (pv 2)) (blkOk_by (N := ["script", "labels", "goals", "turn", "longer", "cells", "k", "jar", "start", "found", "goal", "due", "label", "again"]) (sc := defScope s_law) (by decide +kernel)) (fun _ _ _ _ _ => (pg_name (i := 5) nd rfl (Or.inl rfl))) (fun _ _ _ _ _ => (pts_one (pt_cmpR op_eq (pe_callB (call_lenK (K := K) rfl) (by rfl) T.z_len PySem.boot_len (pa_cons (pv 5) pa_nil)) (pv 3) (nomark _)))) (fun _ _ _ _ _ => (pv 5)))) (pg_name (i := 5) nd rfl (Or.inr rfl))
 (pss_one (ps_expr (pe_bm PySem.F.plainAttrs_list PySem.F.slot_list_extend PySem.F.type_list_extend mt_extend (pv 4) (pa_cons (pe_lc (own := [("label", 12)]) (by rfl) nd (pi_tup (pv 1)) (blkOk_by (N := ["script", "labels", "goals", "turn", "longer", "cells", "k", "jar", "start", "found", "goal", "due", "label", "again"]) (sc := defScope s_law) (by decide +kernel)) (fun _ _ _ _ _ => (pg_name (i := 12) nd rfl (Or.inl rfl))) (fun _ _ _ _ _ => pts_nil) (fun _ _ _ _ _ => (pe_op (op_catK (K := K) rfl) (pv 5) (pe_tup (pa_cons (pv 12) pa_nil))))) pa_nil)))))
 (pss_one (ps_set (i := 2) nd rfl (Or.inl rfl) (pe_op op_cat (pv 2) (pv 4)))))))
 (pss_cons (ps_for PassesOwn.never rfl (pi_range1 rfl T.z_range (pa_cons (pe_callB (call_max2 rfl) (by rfl) T.z_max (by decide +kernel) (pa_cons pe_int (pa_cons (pe_callB (call_min2 rfl) (by rfl) T.z_min (by decide +kernel) (pa_cons pe_int (pa_cons (pe_callB call_len_seq (by rfl) T.z_len PySem.boot_len (pa_cons (pv 0) pa_nil)) pa_nil))) pa_nil))) pa_nil)) (pg_name (i := 6) nd rfl (Or.inl rfl))
 (pss_cons (ps_set (i := 7) nd rfl (Or.inr rfl) (pe_call (ok__law_jar T) (hr.mono (by decide)) rfl T.mg__law_jar T.k__law_jar T.b__law_jar .nil pass0 (pa_cons (pv 0) (pa_cons (pv 6) pa_nil))))
 (pss_one (ps_for PassesOwn.never rfl (pi_range1 rfl T.z_range (pa_cons pe_int pa_nil)) (pg_name (i := 3) nd rfl (Or.inr rfl))
 (pss_cons (ps_set (i := 8) nd rfl (Or.inl rfl) (pe_callTy call_tuple_of (by rfl) T.z_tuple (by decide +kernel) (pa_cons (pe_lc (own := [("again", 13)]) (by rfl) nd (pi_range1 rfl T.z_range (pa_cons (pe_call (ok__law_ladle T) (hr.mono (by decide)) rfl T.mg__law_ladle T.k__law_ladle T.b__law_ladle .nil pass0 (pa_cons (pv 7) (pa_cons pe_int pa_nil))) pa_nil)) (blkOk_by (N := ["script", "labels", "goals", "turn", "longer", "cells", "k", "jar", "start", "found", "goal", "due", "label", "again"]) (sc := defScope s_law) (by decide +kernel)) (fun _ _ _ _ _ => (pg_name (i := 13) nd rfl (Or.inl rfl))) (fun _ _ _ _ _ => pts_nil) (fun _ _ _ _ _ => (pe_ix (ix_tupK (K := K) rfl) (pv 1) (pe_call (ok__law_ladle T) (hr.mono (by decide)) rfl T.mg__law_ladle T.k__law_ladle T.b__law_ladle .nil pass0 (pa_cons (pv 7) (pa_cons pe_int pa_nil))) (fun _ _ => rfl)))) pa_nil)))
 (pss_cons (ps_set (i := 9) nd rfl (Or.inl rfl) (pe_call (ok__law_distances T) (hr.mono (by decide)) rfl T.mg__law_distances T.k__law_distances T.b__law_distances .nil pass0 (pa_cons (pv 8) (pa_cons (pe_tup (pa_cons pe_int (pa_cons pe_int pa_nil))) (pa_cons (pe_ix ix_list (pe_lst (pa_cons pe_int (pa_cons pe_int pa_nil))) (pe_callTy call_int1 (by rfl) T.z_int (by decide +kernel) (pa_cons (pe_cmpR op_gt (pv 3) pe_int (nomark _)) pa_nil)) (fun _ _ => rfl)) pa_nil)))))
 (pss_one (ps_for PassesOwn.never rfl (pi_list (pv 2)) (pg_name (i := 10) nd rfl (Or.inl rfl))
 (pss_cons (ps_set (i := 11) nd rfl (Or.inl rfl) (pe_dget1 hu1 (pv 9) (pv 10) ⟨rfl, rfl, rfl, rfl⟩))
 (pss_one (ps_if (PW.pt (pw_or (pt_cmpR op_ne (pe_callB call_reprO (by rfl) T.z_repr (by decide +kernel) (pa_cons (pe_call (ok_fewest T) (hr.mono (by decide)) rfl T.mg_fewest T.k_fewest T.b_fewest .nil pass0 (pa_cons (pv 8) (pa_cons (pv 10) pa_nil))) pa_nil)) (pe_callB call_reprO (by rfl) T.z_repr (by decide +kernel) (pa_cons (pv 11) pa_nil)) (nomark _)) (pw_or1 (pt_cmpR op_ne (pe_call (ok_can_reach T) (hr.mono (by decide)) rfl T.mg_can_reach T.k_can_reach T.b_can_reach .nil pass0 (pa_cons (pv 8) (pa_cons (pv 10) pa_nil))) (pe_cmpR op_notN1 (pv 11) pe_non (nomark _)) (nomark _)))))
 (pss_one (ps_ret pe_bl))
 pss_nil)))))))))))
 (pss_one (ps_ret pe_bl)))))), ?_⟩
    rintro As μ Post ⟨ns, rfl, hn, hp⟩
    have lshp : ∀ q : List Key, (∀ k ∈ q, k ∈ labK) → ∀ k ∈ q, kOk k := fun q h k hk => lab_ok k (h k hk)
    refine s_seq (s_asg (R := .d (pileD labK)) (ew_tup (ds := [.str "a", .str "b", .int 1, .int 2]) (ea_cons ew_str (ea_cons ew_str (ea_cons ew_int (ea_cons ew_int ea_nil)))) (by simp)) ?_)
    refine s_seq (s_asg (R := .t ((goalsL 0).map pileD)) (ew_lstT (ds := [pileD []]) (ea_cons (ew_tup (ds := []) ea_nil (by simp)) ea_nil) (by simp)) ?_)
    refine s_seqM (fun ρ' μ' => ∃ v3 v4 v5, ρ' = [some (.d (.list (ns.map .int))), some (.d (pileD labK)), some (.t ((goalsL 3).map pileD)), v3, v4, v5, none, none, none, none, none, none, none, none] ∧ Sub μ μ')
      (s_for (it_r1 (n := 3) (ea_cons ew_int ea_nil) (by omega) (by omega)) (fun i ρ' μ' => ∃ v3 v4 v5, ρ' = [some (.d (.list (ns.map .int))), some (.d (pileD labK)), some (.t ((goalsL i).map pileD)), v3, v4, v5, none, none, none, none, none, none, none, none] ∧ Sub μ μ') ⟨none, none, none, rfl, Sub.refl _⟩ ?_ (fun ρ' μ' h => h)) ?_
    · rintro i x ρ' μ' hx ⟨v3, v4, v5, rfl, hsub⟩
      have hlt : i < 3 := by
        have := (List.getElem?_eq_some_iff.mp hx).1
        simpa using this
      rw [List.getElem?_map, List.getElem?_range (by omega)] at hx
      have ex : x = .i (0 + (i : Int)) := (Option.some.inj hx).symm
      rw [Int.zero_add] at ex
      subst ex
      have hgl := goals_len i (by omega)
      refine ⟨_, gw_name, s_seq (s_asgX (ex_lstO (Rs := []) ea_nil (by simp)) (fun R μ2 h => ?_))⟩
      obtain ⟨l, hl, rfl, rfl⟩ := h
      refine ⟨_, gw_name, ?_⟩
      have lc := ew_lcF (K := K) (ρ := [some (.d (.list (ns.map .int))), some (.d (pileD labK)), some (.t ((goalsL i).map pileD)), some (.i (i : Int)), some (.r l), v5, none, none, none, none, none, none, none, none]) (μ := updM μ' l (.lst [])) (μ1 := updM μ' l (.lst [])) (g := gName 5) (te := tVar 5) (vs := [5]) (goalsL i) (fun c => .d (pileD c)) (fun c => decide ((c.length : Int) = (i : Int))) pileD (it_map (it_l (tl := tVar 2) (ew_trk (ew_var rfl))) (by rw [List.map_map]; rfl)) (fun c hc => ⟨_, gc_name (by simp), et_test (ew_op (ew_isI (ew_cb (ea_cons (ew_var (i := 5) rfl) ea_nil) n_len) (by rw [keysD_len])) (ew_var (i := 3) rfl) o_eqI), fun _ => ew_var rfl⟩) (by omega)
      have e1 : (goalsL i).filter (fun c => decide ((c.length : Int) = (i : Int))) = ofLen i (goalsL i) := rfl
      rw [e1] at lc
      have egs : goalsL (i + 1) = goalsL i ++ (ofLen i (goalsL i)).flatMap moreL := rfl
      have hgo : ∀ c ∈ ofLen i (goalsL i), c.length ≤ 3 := fun c hc => by
        have := (goals_in i c (List.mem_filter.mp hc).1).1
        omega
      generalize ofLen i (goalsL i) = os at lc hgl egs hgo
      have fl : ∀ n, ((os.take n).flatMap moreL).length ≤ 4 * os.length := fun n => by
        have e : ((os.take n).flatMap moreL).length = 4 * (os.take n).length := by
          generalize os.take n = qs
          induction qs with
          | nil => rfl
          | cons q qs ih =>
            rw [List.flatMap_cons, List.length_append, ih, List.length_cons]
            show 4 + _ = _
            omega
        rw [e, List.length_take]
        omega
      refine s_seqM (fun ρ' μ2 => ∃ v5, ρ' = [some (.d (.list (ns.map .int))), some (.d (pileD labK)), some (.t ((goalsL i).map pileD)), some (.i (i : Int)), some (.r l), v5, none, none, none, none, none, none, none, none] ∧ μ2 = updM μ' l (.lst (((os.flatMap moreL).map pileD).map .d)))
        (s_for (it_l lc) (fun j ρ' μ2 => ∃ v5, ρ' = [some (.d (.list (ns.map .int))), some (.d (pileD labK)), some (.t ((goalsL i).map pileD)), some (.i (i : Int)), some (.r l), v5, none, none, none, none, none, none, none, none] ∧ μ2 = updM μ' l (.lst ((((os.take j).flatMap moreL).map pileD).map .d))) ⟨v5, rfl, rfl⟩ ?_ (fun ρ' μ2 h => ?_)) ?_
      · rintro j y ρ' μ2 hy ⟨v5, rfl, rfl⟩
        rw [List.map_map, List.getElem?_map] at hy
        cases hc : os[j]? with
        | none => rw [hc] at hy; cases hy
        | some c =>
          rw [hc] at hy
          have ey := (Option.some.inj hy).symm
          subst ey
          have hcl := hgo c (List.mem_of_getElem? hc)
          refine ⟨_, gw_name, ?_⟩
          have fj := fl j
          refine s_ext (l := l) (zs := labK.map fun k => pileD (c ++ [k])) (ew_var rfl) (ew_lcT labK (fun k => .d (keyD k)) (fun k => pileD (c ++ [k])) (it_map (it_t (ds := keysD labK) (ew_var rfl)) (by unfold keysD; rw [List.map_map]; rfl)) (fun k hk => ⟨_, gc_name (by simp), ?_⟩) (by decide)) ⟨_, updM_same⟩ updM_same (by
            rw [List.length_map, List.length_map, List.length_map]
            have : labK.length = 4 := rfl
            omega) ?_
          · refine ew_is (ew_op (ew_var rfl) (ew_tup (ds := [keyD k]) (ea_cons (ew_var rfl) ea_nil) (by simp)) (o_catU (ds := keysD c) (es := keysD [k]) (by rw [keysD_len, keysD_len]; simp; omega))) ?_
            rw [keysD_app]
            rfl
          · refine ⟨_, rfl, ?_⟩
            rw [updM_updM, List.take_add_one, hc, List.flatMap_append, List.map_append, List.map_append]
            (congr 3) <;> (show _ = (((moreL c ++ []).map pileD).map AV.d); rw [List.append_nil]; unfold moreL; rw [List.map_map, List.map_map, List.map_map]; rfl)
      · rw [List.length_map, List.length_map, List.take_length] at h
        exact h
      rintro ρ' μ2 ⟨v5, rfl, rfl⟩
      have fj := fl os.length
      rw [List.take_length] at fj
      refine s_asg (R := .t ((goalsL (i + 1)).map pileD)) (ew_is (ew_op (ew_var rfl) (ew_var rfl) (o_catR (ds := (goalsL i).map pileD) updM_same (by rw [List.length_map, List.length_map]; omega))) ?_) ⟨_, _, _, rfl, hsub.trans (Sub.upd hl)⟩
      rw [egs, List.map_append]
    rintro ρ' μ' ⟨v3, v4, v5, rfl, hsub⟩
    refine s_seqM (fun ρ' μ' => Sub μ μ')
      (s_for (it_r1 (n := max 1 (min 4 (ns.length : Int))) (ea_cons (ew_cb (ea_cons ew_int (ea_cons (ew_cb (ea_cons ew_int (ea_cons (ew_isI (ew_cb (ea_cons (ew_var rfl) ea_nil) n_lenL) (by rw [List.length_map])) ea_nil)) n_min2) ea_nil)) n_max2) ea_nil) (by omega) (by omega))
        (fun _ ρ' μ' => ∃ v3 v4 v5 v6 v7 v8 v9 v10 v11, ρ' = [some (.d (.list (ns.map .int))), some (.d (pileD labK)), some (.t ((goalsL 3).map pileD)), v3, v4, v5, v6, v7, v8, v9, v10, v11, none, none] ∧ Sub μ μ') ⟨_, _, _, _, _, _, _, _, _, rfl, hsub⟩ ?_ (fun ρ' μ' h => ?_)) ?_
    rotate_left
    · obtain ⟨_, _, _, _, _, _, _, _, _, _, h⟩ := h
      exact h
    · rintro ρ' μ' hs
      exact s_ret ew_bl ⟨μ, hp, hs⟩
    rintro i x ρ' μ' hx ⟨v3, v4, v5, v6, v7, v8, v9, v10, v11, rfl, hsub⟩
    have hlt : i < (max 1 (min 4 (ns.length : Int))).toNat := by
      have := (List.getElem?_eq_some_iff.mp hx).1
      simpa using this
    rw [List.getElem?_map, List.getElem?_range hlt] at hx
    have ex : x = .i (0 + (i : Int)) := (Option.some.inj hx).symm
    rw [Int.zero_add] at ex
    subst ex
    refine ⟨_, gw_name, s_seq (s_asgC (Post := fun R μ2 => ∃ l, μ' l = none ∧ R = .r l ∧ μ2 = updM μ' l (kO (jil ns i))) (ea_cons (ew_var rfl) (ea_cons (ew_var rfl) ea_nil)) ⟨ns, i, rfl, hn, by omega, fun l hl => ⟨l, hl, rfl, rfl⟩⟩ ?_)⟩
    rintro R μ2 ⟨l, hl, rfl, rfl⟩
    have k0 := jil_ok ns (k := i) (by omega)
    refine s_for (it_r1 (n := 3) (ea_cons ew_int ea_nil) (by omega) (by omega))
      (fun j ρ' μ3 => ∃ v3 v8 v9 v10 v11 s3, ρ' = [some (.d (.list (ns.map .int))), some (.d (pileD labK)), some (.t ((goalsL 3).map pileD)), v3, v4, v5, some (.i (i : Int)), some (.r l), v8, v9, v10, v11, none, none] ∧ Sub (updM μ' l (kO s3)) μ3 ∧ jok s3 ∧ s3.c ≤ 10 * j) ⟨v3, v8, v9, v10, v11, _, rfl, Sub.refl _, k0, by simp [jil]⟩ ?_ ?_
    rotate_left
    · rintro ρ' μ3 ⟨v3, v8, v9, v10, v11, s3, rfl, h3, _, _⟩
      exact ⟨_, _, _, _, _, _, _, _, _, rfl, (hsub.trans (Sub.upd hl)).trans h3⟩
    rintro j x ρ' μ3 hx ⟨v3, v8, v9, v10, v11, s3, rfl, hs3, s3_ok, s3_c⟩
    have hj : j < 3 := by
      have := (List.getElem?_eq_some_iff.mp hx).1
      simpa using this
    rw [List.getElem?_map, List.getElem?_range (by omega)] at hx
    have ex : x = .i (0 + (j : Int)) := (Option.some.inj hx).symm
    rw [Int.zero_add] at ex
    subst ex
    have hml : μ3 l = some (kO s3) := hs3 _ _ updM_same
    refine ⟨_, gw_name, ?_⟩
    -- the pile
    have d4 := jd_lo s3 (n := 4) (by decide)
    have g1 := jg1 (n := 4) s3_ok (by decide)
    have c1 := g1.c
    obtain ⟨many, hmany⟩ := Int.eq_ofNat_of_zero_le d4.1
    have len : ((List.range ((many : Int)).toNat).map fun (i : Nat) => AV.i (0 + (i : Int))).length = many := by rw [List.length_map, List.length_range]; omega
    have lc := ew_lc (K := K) (ρ := [some (.d (.list (ns.map .int))), some (.d (pileD labK)), some (.t ((goalsL 3).map pileD)), some (.i (j : Int)), v4, v5, some (.i (i : Int)), some (.r l), v8, v9, v10, v11, none, none]) (μ := μ3) (g := gName 13) (te := tOp (rIxT K) (tVar 1) (tCall (spP K SLadle) [] E0 (tCons (tVar 7) (tCons (tC (.int 4)) tNil)))) (tt := fun _ H Q => Q true H) (vs := [13]) (μ1 := updM μ3 l (kO (startJ many (after s3 4)).2))
      (fun i => updM μ3 l (kO (startJ i (after s3 4)).2)) (fun i => keysD (startJ i (after s3 4)).1) (it_r1 (n := (many : Int)) (ta := tCons (tCall (spP K SLadle) [] E0 (tCons (tVar 7) (tCons (tC (.int 4)) tNil))) tNil) (ea_cons (ew_isI (ew_ladle (s := s3) (ew_var rfl) ew_int hml (by decide) (by decide) s3_ok (by omega)) hmany) ea_nil) (by omega) (by omega)) rfl (fun i' a ha => ?_) (by rw [len]; omega) (by rw [len])
    rotate_left
    · have hi : i' < many := by
        have := (List.getElem?_eq_some_iff.mp ha).1
        rwa [len] at this
      obtain ⟨q1, q2, q3⟩ := start_ok g1.ok i'
      have qc := q2.c
      have dd := jd_lo (startJ i' (after s3 4)).2 (n := 4) (by decide)
      have hL := ew_ladle (K := K) (E := E0) (ρ := (wipeA [some (.d (.list (ns.map .int))), some (.d (pileD labK)), some (.t ((goalsL 3).map pileD)), some (.i (j : Int)), v4, v5, some (.i (i : Int)), some (.r l), v8, v9, v10, v11, none, none] [13]).set 13 (some a)) (μ := updM μ3 l (kO (startJ i' (after s3 4)).2)) (l := l) (s := (startJ i' (after s3 4)).2) (n := 4) (tj := tVar 7) (tn := tC (.int 4)) (ew_var rfl) ew_int updM_same (by decide) (by decide) q2.ok (by omega)
      rw [updM_updM] at hL
      have hlk : (jd (startJ i' (after s3 4)).2 4).toNat < labK.length := by show _ < 4; omega
      refine ⟨_, true, _, gc_name (by simp), et_nil, fun _ => ⟨keyD (labK.getD (jd (startJ i' (after s3 4)).2 4).toNat (.inl 0)), ew_op (ew_var rfl) hL (o_ixTz (ds := keysD labK) (keysD_get ?_) dd.1), by simp [startJ, keysD]⟩, nofun⟩
      rw [List.getD_eq_getElem?_getD, List.getElem?_eq_getElem hlk]
      rfl
    obtain ⟨st1, st2, st3⟩ := start_ok g1.ok many
    have stc := st2.c
    rw [len] at lc
    generalize hL : startJ many (after s3 4) = L at lc st1 st2 st3 stc
    obtain ⟨start, s4⟩ := L
    simp only at lc st1 st2 st3 stc
    refine s_seq (s_asg (R := .d (pileD start)) (ew_cb (ea_cons lc ea_nil) n_tupL) ?_)
    -- the search
    obtain ⟨high, hhigh, h45⟩ : ∃ high : Nat, (high : Int) = (if (j : Int) > 0 then 4 else 5) ∧ 4 ≤ high ∧ high ≤ 5 := by
      by_cases h : (j : Int) > 0
      · exact ⟨4, by rw [if_pos h]; rfl, by omega⟩
      · exact ⟨5, by rw [if_neg h]; rfl, by omega⟩
    have hfree : ∀ l ∈ labK, isFree l = true → l ∈ ([.inl 1, .inl 2] : List Key) := by
      intro l hl hf
      unfold labK at hl
      simp only [List.mem_cons, List.not_mem_nil, or_false] at hl ⊢
      rcases hl with rfl | rfl | rfl | rfl
      · cases hf
      · cases hf
      · exact .inl rfl
      · exact .inr rfl
    refine s_seq (s_asgC (Post := fun R μ5 => ∃ (a : Addr) (ls : List (List Key)) (f : List Key → Int), (updM μ3 l (kO s4)) a = none ∧ R = .r a ∧ Whole isFree [.inl 1, .inl 2] start high ls f ∧ (∀ x ∈ ls, 0 ≤ f x ∧ f x ≤ 2000) ∧ μ5 = updM (updM μ3 l (kO s4)) a (.o (repQ ls f)))
      (ea_cons (ew_var rfl) (ea_cons (R := .d (pileD [.inl 1, .inl 2])) (ew_tup (ds := [.int 1, .int 2]) (ea_cons ew_int (ea_cons ew_int ea_nil)) (by simp)) (ea_cons (R := .i (high : Int)) (ew_isI (ew_op (ew_lst (ds := [.int 5, .int 4]) (ea_cons ew_int (ea_cons ew_int ea_nil)) (by simp)) (ew_cb (ea_cons (ew_op (ew_var rfl) ew_int (o_B0 (g := fun i j => decide (i > j)))) ea_nil) n_intB) (o_ixLz (d := .int (if (j : Int) > 0 then 4 else 5)) (by
        by_cases h : (j : Int) > 0
        · rw [decide_eq_true h, if_pos h, if_pos rfl]; rfl
        · rw [decide_eq_false h, if_neg h, if_neg (by simp)]; rfl) (by split <;> decide))) hhigh.symm) ea_nil)))
      ⟨start, [.inl 1, .inl 2], labK, high, rfl, by omega, h45.2, st3, (fun l hl => by simp only [List.mem_cons, List.not_mem_nil, or_false] at hl; rcases hl with rfl | rfl <;> simp [labK]), by decide, (fun l hl => by simp only [List.mem_cons, List.not_mem_nil, or_false] at hl; rcases hl with rfl | rfl <;> rfl), by decide, fun k hk => kOk_ok (lab_ok k hk), fun ls f a ha hW hb => ⟨a, ls, f, ha, rfl, hW, hb, rfl⟩⟩ ?_)
    rintro R μ5 ⟨fa, ls, f, hfa, rfl, hW, hb, rfl⟩
    have hfl : fa ≠ l := fun e => by rw [e, updM_same] at hfa; cases hfa
    refine s_for (it_l (ds := (goalsL 3).map pileD) (ew_trk (ew_var rfl))) (fun _ ρ' μ6 => ∃ v10 v11, ρ' = [some (.d (.list (ns.map .int))), some (.d (pileD labK)), some (.t ((goalsL 3).map pileD)), some (.i (j : Int)), v4, v5, some (.i (i : Int)), some (.r l), some (.d (pileD start)), some (.r fa), v10, v11, none, none] ∧ μ6 = updM (updM μ3 l (kO s4)) fa (.o (repQ ls f))) ⟨_, _, rfl, rfl⟩ ?_ ?_
    · rintro n y ρ' μ6 hy ⟨v10, v11, rfl, rfl⟩
      rw [List.map_map, List.getElem?_map] at hy
      cases hg : (goalsL 3)[n]? with
      | none => rw [hg] at hy; cases hy
      | some g =>
        rw [hg] at hy
        have ey := (Option.some.inj hy).symm
        subst ey
        obtain ⟨gl, gk⟩ := goals_in 3 g (List.mem_of_getElem? hg)
        have hv := hW.val (g := g) (fun l hl hf => hfree l (gk l hl) hf) (by omega) (by omega)
        have hdue : valV (rep (fun p : List Key => p) ls f) g = (dueK start g).map V.int ∧ ∀ d, dueK start g = some d → 0 ≤ d ∧ d ≤ 10 ^ 6 := by
          by_cases c : g ∈ ls
          · rw [if_pos c] at hv
            have e : dueK start g = some (f g) := hv.symm
            rw [repQ_in f c, e]
            refine ⟨rfl, fun d hd => ?_⟩
            have := hb g c
            have := Option.some.inj hd
            omega
          · rw [if_neg c] at hv
            have e : dueK start g = none := hv.symm
            rw [repQ_no f c, e]
            exact ⟨rfl, fun d hd => by cases hd⟩
        refine ⟨_, gw_name, s_seq (s_asg (R := .d (optD (dueK start g))) (ew_dget1P (p := g) (ew_var rfl) updM_same (ew_var rfl) updM_same hdue.1) ?_)⟩
        have hcan := can_due (g := g) (p := start)
        refine s_if (b := false) (et_orF (et_is (et_test (ew_op (ew_cb (ea_cons (ew_fn (S := SFewest) (ea_cons (ew_var rfl) (ea_cons (ew_var rfl) ea_nil)) ⟨start, g, rfl, by omega, by omega, lshp start st3, lshp g gk, rfl, rfl⟩) ea_nil) (n_reprO1 hdue.2)) (ew_cb (ea_cons (ew_var rfl) ea_nil) (n_reprO1 hdue.2)) o_neS)) (by simp)) (et_is (et_test (ew_op (ew_fn (S := SCan) (ea_cons (ew_var rfl) (ea_cons (ew_var rfl) ea_nil)) ⟨start, g, rfl, by omega, by omega, lshp start st3, lshp g gk, rfl, rfl⟩) (ew_op (ew_var rfl) ew_non o_notN) o_neB)) ?_)) nofun (fun _ => s_next ⟨_, _, rfl, rfl⟩)
        rw [hcan]
        cases dueK start g <;> rfl
    · rintro ρ' μ6 ⟨v10, v11, rfl, rfl⟩
      refine ⟨_, _, _, _, _, s4, rfl, fun a o q => ?_, st2.ok, by push_cast at *; omega⟩
      by_cases e1 : a = l
      · subst e1
        rw [updM_same] at q
        rw [updM_ne (fun e => hfl e.symm), updM_same]
        exact q
      · rw [updM_ne e1] at q
        have h3 := hs3 a o (by rw [updM_ne e1]; exact q)
        have hm3 : μ3 fa = none := by
          have h := hfa
          rw [updM_ne hfl] at h
          exact h
        rw [updM_ne (fun e : a = fa => by rw [e, hm3] at h3; cases h3), updM_ne e1]
        exact h3
end
end K15

set_option Elab.async false
set_option linter.all false
set_option maxRecDepth 100000
set_option maxHeartbeats 4000000
namespace K15
open PySem PySem.Spec PyProof.Rows L2 Lw

theorem kit_no {K : PySem.W.Frag} {U : String} {C : Addr} {b : Bool} (h1 : PySem.W.isClsIn K C = true) (h2 : PySem.W.typeIn K (.ref C) = some (.type "type")) (h3 : PySem.W.subIn K (.type U) (.ref C) = some b) : PySem.W.kitOne K (.type U) (.ref C) = some b := by
  unfold PySem.W.isClsIn at h1
  have e : (Value.type U == Value.ref C) = false := rfl
  unfold PySem.W.kitOne PySem.W.kitCls
  simp [e, h1, h2, h3]
theorem all_mk {l : PySem.W.OpenLaw} {w : World} {K : PySem.W.Frag} {h : Heap} {mg : Str → Option Value} {fa f0 f1 f2 f3 f4 f5 f6 f7 f8 f9 f10 f11 f12 f13 f14 : Addr} {od0 an0 od1 an1 od2 an2 od3 an3 od4 an4 od5 an5 od6 an6 od7 an7 od8 an8 od9 an9 od10 an10 od11 an11 od12 an12 od13 an13 od14 an14 : Option Addr} {sl0 sl1 sl2 sl3 sl4 sl5 sl6 sl7 sl8 sl9 sl10 sl11 sl12 sl13 sl14 : Array (Option Value)} {oc0 kV0 dc0 pm0 cd0 ct0 oc1 kV1 dc1 pm1 cd1 ct1 oc2 kV2 dc2 pm2 cd2 ct2 oc3 kV3 dc3 pm3 cd3 ct3 oc4 kV4 dc4 pm4 cd4 ct4 oc5 kV5 dc5 pm5 cd5 ct5 oc6 kV6 dc6 pm6 cd6 ct6 oc7 kV7 dc7 pm7 cd7 ct7 oc8 kV8 dc8 pm8 cd8 ct8 oc9 kV9 dc9 pm9 cd9 ct9 oc10 kV10 dc10 pm10 cd10 ct10 oc11 kV11 dc11 pm11 cd11 ct11 oc12 kV12 dc12 pm12 cd12 ct12 oc13 kV13 dc13 pm13 cd13 ct13 oc14 kV14 dc14 pm14 cd14 ct14 : Value} {t_LARGEST t_MOST_LABELS t_MOST_LETTERS : Tok} (X : K.In h) (G : h.Ns mainGlobals mg) (hfa : mg "law" = some (.ref fa))
    (a0 : PySem.W.nsIn K mainGlobals "is_constant" = some (some (.ref f0)))
    (l0 : K.lookup f0 = some ⟨oc0, od0, .func (PySem.W.fnOf "is_constant" "is_constant" (defArgs s_is_constant) (defBody s_is_constant) (defScope s_is_constant) .none kV0 dc0 pm0 an0 cd0 ct0), sl0⟩)
    (c0 : PySem.W.codeIn K cd0 "is_constant" = true)
    (k0 : PySem.W.keepIn K (.ref f0) = true)
    (a1 : PySem.W.nsIn K mainGlobals "is_name" = some (some (.ref f1)))
    (l1 : K.lookup f1 = some ⟨oc1, od1, .func (PySem.W.fnOf "is_name" "is_name" (defArgs s_is_name) (defBody s_is_name) (defScope s_is_name) .none kV1 dc1 pm1 an1 cd1 ct1), sl1⟩)
    (c1 : PySem.W.codeIn K cd1 "is_name" = true)
    (k1 : PySem.W.keepIn K (.ref f1) = true)
    (a2 : PySem.W.nsIn K mainGlobals "counts_of" = some (some (.ref f2)))
    (l2 : K.lookup f2 = some ⟨oc2, od2, .func (PySem.W.fnOf "counts_of" "counts_of" (defArgs s_counts_of) (defBody s_counts_of) (defScope s_counts_of) .none kV2 dc2 pm2 an2 cd2 ct2), sl2⟩)
    (c2 : PySem.W.codeIn K cd2 "counts_of" = true)
    (k2 : PySem.W.keepIn K (.ref f2) = true)
    (a3 : PySem.W.nsIn K mainGlobals "is_reachable" = some (some (.ref f3)))
    (l3 : K.lookup f3 = some ⟨oc3, od3, .func (PySem.W.fnOf "is_reachable" "is_reachable" (defArgs s_is_reachable) (defBody s_is_reachable) (defScope s_is_reachable) .none kV3 dc3 pm3 an3 cd3 ct3), sl3⟩)
    (c3 : PySem.W.codeIn K cd3 "is_reachable" = true)
    (k3 : PySem.W.keepIn K (.ref f3) = true)
    (a4 : PySem.W.nsIn K mainGlobals "standing_cells" = some (some (.ref f4)))
    (l4 : K.lookup f4 = some ⟨oc4, od4, .func (PySem.W.fnOf "standing_cells" "standing_cells" (defArgs s_standing_cells) (defBody s_standing_cells) (defScope s_standing_cells) .none kV4 dc4 pm4 an4 cd4 ct4), sl4⟩)
    (c4 : PySem.W.codeIn K cd4 "standing_cells" = true)
    (k4 : PySem.W.keepIn K (.ref f4) = true)
    (a5 : PySem.W.nsIn K mainGlobals "best_plan" = some (some (.ref f5)))
    (l5 : K.lookup f5 = some ⟨oc5, od5, .func (PySem.W.fnOf "best_plan" "best_plan" (defArgs s_best_plan) (defBody s_best_plan) (defScope s_best_plan) .none kV5 dc5 pm5 an5 cd5 ct5), sl5⟩)
    (c5 : PySem.W.codeIn K cd5 "best_plan" = true)
    (k5 : PySem.W.keepIn K (.ref f5) = true)
    (a6 : PySem.W.nsIn K mainGlobals "check_pile" = some (some (.ref f6)))
    (l6 : K.lookup f6 = some ⟨oc6, od6, .func (PySem.W.fnOf "check_pile" "check_pile" (defArgs s_check_pile) (defBody s_check_pile) (defScope s_check_pile) .none kV6 dc6 pm6 an6 cd6 ct6), sl6⟩)
    (c6 : PySem.W.codeIn K cd6 "check_pile" = true)
    (k6 : PySem.W.keepIn K (.ref f6) = true)
    (a7 : PySem.W.nsIn K mainGlobals "labels_of" = some (some (.ref f7)))
    (l7 : K.lookup f7 = some ⟨oc7, od7, .func (PySem.W.fnOf "labels_of" "labels_of" (defArgs s_labels_of) (defBody s_labels_of) (defScope s_labels_of) .none kV7 dc7 pm7 an7 cd7 ct7), sl7⟩)
    (c7 : PySem.W.codeIn K cd7 "labels_of" = true)
    (k7 : PySem.W.keepIn K (.ref f7) = true)
    (a8 : PySem.W.nsIn K mainGlobals "can_reach" = some (some (.ref f8)))
    (l8 : K.lookup f8 = some ⟨oc8, od8, .func (PySem.W.fnOf "can_reach" "can_reach" (defArgs s_can_reach) (defBody s_can_reach) (defScope s_can_reach) .none kV8 dc8 pm8 an8 cd8 ct8), sl8⟩)
    (c8 : PySem.W.codeIn K cd8 "can_reach" = true)
    (k8 : PySem.W.keepIn K (.ref f8) = true)
    (a9 : PySem.W.nsIn K mainGlobals "fewest" = some (some (.ref f9)))
    (l9 : K.lookup f9 = some ⟨oc9, od9, .func (PySem.W.fnOf "fewest" "fewest" (defArgs s_fewest) (defBody s_fewest) (defScope s_fewest) .none kV9 dc9 pm9 an9 cd9 ct9), sl9⟩)
    (c9 : PySem.W.codeIn K cd9 "fewest" = true)
    (k9 : PySem.W.keepIn K (.ref f9) = true)
    (a10 : PySem.W.nsIn K mainGlobals "_law_jar" = some (some (.ref f10)))
    (l10 : K.lookup f10 = some ⟨oc10, od10, .func (PySem.W.fnOf "_law_jar" "_law_jar" (defArgs s__law_jar) (defBody s__law_jar) (defScope s__law_jar) .none kV10 dc10 pm10 an10 cd10 ct10), sl10⟩)
    (c10 : PySem.W.codeIn K cd10 "_law_jar" = true)
    (k10 : PySem.W.keepIn K (.ref f10) = true)
    (a11 : PySem.W.nsIn K mainGlobals "_law_ladle" = some (some (.ref f11)))
    (l11 : K.lookup f11 = some ⟨oc11, od11, .func (PySem.W.fnOf "_law_ladle" "_law_ladle" (defArgs s__law_ladle) (defBody s__law_ladle) (defScope s__law_ladle) .none kV11 dc11 pm11 an11 cd11 ct11), sl11⟩)
    (c11 : PySem.W.codeIn K cd11 "_law_ladle" = true)
    (k11 : PySem.W.keepIn K (.ref f11) = true)
    (a12 : PySem.W.nsIn K mainGlobals "_law_near" = some (some (.ref f12)))
    (l12 : K.lookup f12 = some ⟨oc12, od12, .func (PySem.W.fnOf "_law_near" "_law_near" (defArgs s__law_near) (defBody s__law_near) (defScope s__law_near) .none kV12 dc12 pm12 an12 cd12 ct12), sl12⟩)
    (c12 : PySem.W.codeIn K cd12 "_law_near" = true)
    (k12 : PySem.W.keepIn K (.ref f12) = true)
    (a13 : PySem.W.nsIn K mainGlobals "_law_distances" = some (some (.ref f13)))
    (l13 : K.lookup f13 = some ⟨oc13, od13, .func (PySem.W.fnOf "_law_distances" "_law_distances" (defArgs s__law_distances) (defBody s__law_distances) (defScope s__law_distances) .none kV13 dc13 pm13 an13 cd13 ct13), sl13⟩)
    (c13 : PySem.W.codeIn K cd13 "_law_distances" = true)
    (k13 : PySem.W.keepIn K (.ref f13) = true)
    (a14 : PySem.W.nsIn K mainGlobals "law" = some (some (.ref f14)))
    (l14 : K.lookup f14 = some ⟨oc14, od14, .func (PySem.W.fnOf "law" "law" (defArgs s_law) (defBody s_law) (defScope s_law) .none kV14 dc14 pm14 an14 cd14 ct14), sl14⟩)
    (c14 : PySem.W.codeIn K cd14 "law" = true)
    (k14 : PySem.W.keepIn K (.ref f14) = true)
    (v_LARGEST : PySem.W.nsIn K mainGlobals "LARGEST" = some (some (.int 1000000000000000000000000000000 t_LARGEST)))
    (v_MOST_LABELS : PySem.W.nsIn K mainGlobals "MOST_LABELS" = some (some (.int 60 t_MOST_LABELS)))
    (v_MOST_LETTERS : PySem.W.nsIn K mainGlobals "MOST_LETTERS" = some (some (.int 8 t_MOST_LETTERS)))
    (z_isinstance : PySem.W.nsIn K mainGlobals "isinstance" = some none)
    (z_int : PySem.W.nsIn K mainGlobals "int" = some none)
    (z_bool : PySem.W.nsIn K mainGlobals "bool" = some none)
    (z_str : PySem.W.nsIn K mainGlobals "str" = some none)
    (z_tuple : PySem.W.nsIn K mainGlobals "tuple" = some none)
    (z_len : PySem.W.nsIn K mainGlobals "len" = some none)
    (z_all : PySem.W.nsIn K mainGlobals "all" = some none)
    (z_max : PySem.W.nsIn K mainGlobals "max" = some none)
    (z_min : PySem.W.nsIn K mainGlobals "min" = some none)
    (z_range : PySem.W.nsIn K mainGlobals "range" = some none)
    (z_repr : PySem.W.nsIn K mainGlobals "repr" = some none)
    (z_sum : PySem.W.nsIn K mainGlobals "sum" = some none)
    (z_enumerate : PySem.W.nsIn K mainGlobals "enumerate" = some none)
    (z_reversed : PySem.W.nsIn K mainGlobals "reversed" = some none)
    (z_ValueError : PySem.W.nsIn K mainGlobals "ValueError" = some none) :
    ∃ fd : FuncData, (∀ (s : Shared) (v : Value), BindsTo s fd ⟨[v], []⟩ [("script", v)]) ∧ ∀ base : Heap, K.In base → base.Ns mainGlobals mg → FnG l.prog w K mg base 6 fa fd ["script"] (spP K (SLaw 63)) := by
  have e : f14 = fa := by
    have q := (PySem.W.mg_of X G a14).symm.trans hfa
    injection q with q
    injection q
  subst e
  let A : Ad := { f_is_constant := f0, fd_is_constant := (PySem.W.fnOf "is_constant" "is_constant" (defArgs s_is_constant) (defBody s_is_constant) (defScope s_is_constant) .none kV0 dc0 pm0 an0 cd0 ct0), f_is_name := f1, fd_is_name := (PySem.W.fnOf "is_name" "is_name" (defArgs s_is_name) (defBody s_is_name) (defScope s_is_name) .none kV1 dc1 pm1 an1 cd1 ct1), f_counts_of := f2, fd_counts_of := (PySem.W.fnOf "counts_of" "counts_of" (defArgs s_counts_of) (defBody s_counts_of) (defScope s_counts_of) .none kV2 dc2 pm2 an2 cd2 ct2), f_is_reachable := f3, fd_is_reachable := (PySem.W.fnOf "is_reachable" "is_reachable" (defArgs s_is_reachable) (defBody s_is_reachable) (defScope s_is_reachable) .none kV3 dc3 pm3 an3 cd3 ct3), f_standing_cells := f4, fd_standing_cells := (PySem.W.fnOf "standing_cells" "standing_cells" (defArgs s_standing_cells) (defBody s_standing_cells) (defScope s_standing_cells) .none kV4 dc4 pm4 an4 cd4 ct4), f_best_plan := f5, fd_best_plan := (PySem.W.fnOf "best_plan" "best_plan" (defArgs s_best_plan) (defBody s_best_plan) (defScope s_best_plan) .none kV5 dc5 pm5 an5 cd5 ct5), f_check_pile := f6, fd_check_pile := (PySem.W.fnOf "check_pile" "check_pile" (defArgs s_check_pile) (defBody s_check_pile) (defScope s_check_pile) .none kV6 dc6 pm6 an6 cd6 ct6), f_labels_of := f7, fd_labels_of := (PySem.W.fnOf "labels_of" "labels_of" (defArgs s_labels_of) (defBody s_labels_of) (defScope s_labels_of) .none kV7 dc7 pm7 an7 cd7 ct7), f_can_reach := f8, fd_can_reach := (PySem.W.fnOf "can_reach" "can_reach" (defArgs s_can_reach) (defBody s_can_reach) (defScope s_can_reach) .none kV8 dc8 pm8 an8 cd8 ct8), f_fewest := f9, fd_fewest := (PySem.W.fnOf "fewest" "fewest" (defArgs s_fewest) (defBody s_fewest) (defScope s_fewest) .none kV9 dc9 pm9 an9 cd9 ct9), f__law_jar := f10, fd__law_jar := (PySem.W.fnOf "_law_jar" "_law_jar" (defArgs s__law_jar) (defBody s__law_jar) (defScope s__law_jar) .none kV10 dc10 pm10 an10 cd10 ct10), f__law_ladle := f11, fd__law_ladle := (PySem.W.fnOf "_law_ladle" "_law_ladle" (defArgs s__law_ladle) (defBody s__law_ladle) (defScope s__law_ladle) .none kV11 dc11 pm11 an11 cd11 ct11), f__law_near := f12, fd__law_near := (PySem.W.fnOf "_law_near" "_law_near" (defArgs s__law_near) (defBody s__law_near) (defScope s__law_near) .none kV12 dc12 pm12 an12 cd12 ct12), f__law_distances := f13, fd__law_distances := (PySem.W.fnOf "_law_distances" "_law_distances" (defArgs s__law_distances) (defBody s__law_distances) (defScope s__law_distances) .none kV13 dc13 pm13 an13 cd13 ct13), f_law := f14, fd_law := (PySem.W.fnOf "law" "law" (defArgs s_law) (defBody s_law) (defScope s_law) .none kV14 dc14 pm14 an14 cd14 ct14), t_LARGEST := t_LARGEST, t_MOST_LABELS := t_MOST_LABELS, t_MOST_LETTERS := t_MOST_LETTERS }
  have T : Txt K mg A := {
    F_is_constant := fun_mk (st := s_is_constant) l0 c0 k0
    b_is_constant := (fun_mk (st := s_is_constant) l0 c0 k0).binds (ps := ["value"]) fun _ _ _ _ _ _ us hl => match us, hl with | [_], _ => rfl
    k_is_constant := k0
    mg_is_constant := PySem.W.mg_of X G a0
    F_is_name := fun_mk (st := s_is_name) l1 c1 k1
    b_is_name := (fun_mk (st := s_is_name) l1 c1 k1).binds (ps := ["value", "least", "most"]) fun _ _ _ _ _ _ us hl => match us, hl with | [_, _, _], _ => rfl
    k_is_name := k1
    mg_is_name := PySem.W.mg_of X G a1
    F_counts_of := fun_mk (st := s_counts_of) l2 c2 k2
    b_counts_of := (fun_mk (st := s_counts_of) l2 c2 k2).binds (ps := ["labels"]) fun _ _ _ _ _ _ us hl => match us, hl with | [_], _ => rfl
    k_counts_of := k2
    mg_counts_of := PySem.W.mg_of X G a2
    F_is_reachable := fun_mk (st := s_is_reachable) l3 c3 k3
    b_is_reachable := (fun_mk (st := s_is_reachable) l3 c3 k3).binds (ps := ["cells", "goal"]) fun _ _ _ _ _ _ us hl => match us, hl with | [_, _], _ => rfl
    k_is_reachable := k3
    mg_is_reachable := PySem.W.mg_of X G a3
    F_standing_cells := fun_mk (st := s_standing_cells) l4 c4 k4
    b_standing_cells := (fun_mk (st := s_standing_cells) l4 c4 k4).binds (ps := ["cells", "goal"]) fun _ _ _ _ _ _ us hl => match us, hl with | [_, _], _ => rfl
    k_standing_cells := k4
    mg_standing_cells := PySem.W.mg_of X G a4
    F_best_plan := fun_mk (st := s_best_plan) l5 c5 k5
    b_best_plan := (fun_mk (st := s_best_plan) l5 c5 k5).binds (ps := ["cells", "goal"]) fun _ _ _ _ _ _ us hl => match us, hl with | [_, _], _ => rfl
    k_best_plan := k5
    mg_best_plan := PySem.W.mg_of X G a5
    F_check_pile := fun_mk (st := s_check_pile) l6 c6 k6
    b_check_pile := (fun_mk (st := s_check_pile) l6 c6 k6).binds (ps := ["pile"]) fun _ _ _ _ _ _ us hl => match us, hl with | [_], _ => rfl
    k_check_pile := k6
    mg_check_pile := PySem.W.mg_of X G a6
    F_labels_of := fun_mk (st := s_labels_of) l7 c7 k7
    b_labels_of := (fun_mk (st := s_labels_of) l7 c7 k7).binds (ps := ["pile"]) fun _ _ _ _ _ _ us hl => match us, hl with | [_], _ => rfl
    k_labels_of := k7
    mg_labels_of := PySem.W.mg_of X G a7
    F_can_reach := fun_mk (st := s_can_reach) l8 c8 k8
    b_can_reach := (fun_mk (st := s_can_reach) l8 c8 k8).binds (ps := ["pile", "goal"]) fun _ _ _ _ _ _ us hl => match us, hl with | [_, _], _ => rfl
    k_can_reach := k8
    mg_can_reach := PySem.W.mg_of X G a8
    F_fewest := fun_mk (st := s_fewest) l9 c9 k9
    b_fewest := (fun_mk (st := s_fewest) l9 c9 k9).binds (ps := ["pile", "goal"]) fun _ _ _ _ _ _ us hl => match us, hl with | [_, _], _ => rfl
    k_fewest := k9
    mg_fewest := PySem.W.mg_of X G a9
    F__law_jar := fun_mk (st := s__law_jar) l10 c10 k10
    b__law_jar := (fun_mk (st := s__law_jar) l10 c10 k10).binds (ps := ["script", "k"]) fun _ _ _ _ _ _ us hl => match us, hl with | [_, _], _ => rfl
    k__law_jar := k10
    mg__law_jar := PySem.W.mg_of X G a10
    F__law_ladle := fun_mk (st := s__law_ladle) l11 c11 k11
    b__law_ladle := (fun_mk (st := s__law_ladle) l11 c11 k11).binds (ps := ["jar", "many"]) fun _ _ _ _ _ _ us hl => match us, hl with | [_, _], _ => rfl
    k__law_ladle := k11
    mg__law_ladle := PySem.W.mg_of X G a11
    F__law_near := fun_mk (st := s__law_near) l12 c12 k12
    b__law_near := (fun_mk (st := s__law_near) l12 c12 k12).binds (ps := ["cells", "constants"]) fun _ _ _ _ _ _ us hl => match us, hl with | [_, _], _ => rfl
    k__law_near := k12
    mg__law_near := PySem.W.mg_of X G a12
    F__law_distances := fun_mk (st := s__law_distances) l13 c13 k13
    b__law_distances := (fun_mk (st := s__law_distances) l13 c13 k13).binds (ps := ["start", "constants", "high"]) fun _ _ _ _ _ _ us hl => match us, hl with | [_, _, _], _ => rfl
    k__law_distances := k13
    mg__law_distances := PySem.W.mg_of X G a13
    F_law := fun_mk (st := s_law) l14 c14 k14
    b_law := (fun_mk (st := s_law) l14 c14 k14).binds (ps := ["script"]) fun _ _ _ _ _ _ us hl => match us, hl with | [_], _ => rfl
    k_law := k14
    mg_law := PySem.W.mg_of X G a14
    z_isinstance := PySem.W.mg_none_of X G z_isinstance
    z_int := PySem.W.mg_none_of X G z_int
    z_bool := PySem.W.mg_none_of X G z_bool
    z_str := PySem.W.mg_none_of X G z_str
    z_tuple := PySem.W.mg_none_of X G z_tuple
    z_len := PySem.W.mg_none_of X G z_len
    z_all := PySem.W.mg_none_of X G z_all
    z_max := PySem.W.mg_none_of X G z_max
    z_min := PySem.W.mg_none_of X G z_min
    z_range := PySem.W.mg_none_of X G z_range
    z_repr := PySem.W.mg_none_of X G z_repr
    z_sum := PySem.W.mg_none_of X G z_sum
    z_enumerate := PySem.W.mg_none_of X G z_enumerate
    z_reversed := PySem.W.mg_none_of X G z_reversed
    z_ValueError := PySem.W.mg_none_of X G z_ValueError
    v_LARGEST := PySem.W.mg_of X G v_LARGEST
    v_MOST_LABELS := PySem.W.mg_of X G v_MOST_LABELS
    v_MOST_LETTERS := PySem.W.mg_of X G v_MOST_LETTERS }
  exact ⟨(PySem.W.fnOf "law" "law" (defArgs s_law) (defBody s_law) (defScope s_law) .none kV14 dc14 pm14 an14 cd14 ct14), fun s v => .of_eq rfl, fun base _ _ => ok_law (P := l.prog) (w := w) (base := base) T⟩
end K15
open PySem PySem.W PyProof.Rows in
set_option maxRecDepth 100000 in
set_option maxHeartbeats 0 in
theorem PySem.Challenge.cw_stackworks_k39_fewest_instructions_by_se_holds : PySem.Challenge.rw_stackworks_k39_fewest_instructions_by_se.Holds := by
  w_on; o_law; k_head; (case hw => w_witness2)
  k_fill
  refine Lw.walkG (l := PySem.Challenge.rw_stackworks_k39_fewest_instructions_by_se) (n := 63) (k := 6) (x := "script") rfl (by decide) rfl ⟨rfl, by decide, by decide⟩ (fun w h Y => PySem.W.kIn_of Y) ?F
  case F =>
    intro w mg fa h KX G hmg
    refine' K15.all_mk KX G hmg ?a0 ?l0 ?c0 ?k0 ?a1 ?l1 ?c1 ?k1 ?a2 ?l2 ?c2 ?k2 ?a3 ?l3 ?c3 ?k3 ?a4 ?l4 ?c4 ?k4 ?a5 ?l5 ?c5 ?k5 ?a6 ?l6 ?c6 ?k6 ?a7 ?l7 ?c7 ?k7 ?a8 ?l8 ?c8 ?k8 ?a9 ?l9 ?c9 ?k9 ?a10 ?l10 ?c10 ?k10 ?a11 ?l11 ?c11 ?k11 ?a12 ?l12 ?c12 ?k12 ?a13 ?l13 ?c13 ?k13 ?a14 ?l14 ?c14 ?k14 ?v_LARGEST ?v_MOST_LABELS ?v_MOST_LETTERS ?z_isinstance ?z_int ?z_bool ?z_str ?z_tuple ?z_len ?z_all ?z_max ?z_min ?z_range ?z_repr ?z_sum ?z_enumerate ?z_reversed ?z_ValueError
    (case a0 => k_is)
    (case l0 => k_is)
    (case c0 => k_is)
    (case k0 => k_is)
    (case a1 => k_is)
    (case l1 => k_is)
    (case c1 => k_is)
    (case k1 => k_is)
    (case a2 => k_is)
    (case l2 => k_is)
    (case c2 => k_is)
    (case k2 => k_is)
    (case a3 => k_is)
    (case l3 => k_is)
    (case c3 => k_is)
    (case k3 => k_is)
    (case a4 => k_is)
    (case l4 => k_is)
    (case c4 => k_is)
    (case k4 => k_is)
    (case a5 => k_is)
    (case l5 => k_is)
    (case c5 => k_is)
    (case k5 => k_is)
    (case a6 => k_is)
    (case l6 => k_is)
    (case c6 => k_is)
    (case k6 => k_is)
    (case a7 => k_is)
    (case l7 => k_is)
    (case c7 => k_is)
    (case k7 => k_is)
    (case a8 => k_is)
    (case l8 => k_is)
    (case c8 => k_is)
    (case k8 => k_is)
    (case a9 => k_is)
    (case l9 => k_is)
    (case c9 => k_is)
    (case k9 => k_is)
    (case a10 => k_is)
    (case l10 => k_is)
    (case c10 => k_is)
    (case k10 => k_is)
    (case a11 => k_is)
    (case l11 => k_is)
    (case c11 => k_is)
    (case k11 => k_is)
    (case a12 => k_is)
    (case l12 => k_is)
    (case c12 => k_is)
    (case k12 => k_is)
    (case a13 => k_is)
    (case l13 => k_is)
    (case c13 => k_is)
    (case k13 => k_is)
    (case a14 => k_is)
    (case l14 => k_is)
    (case c14 => k_is)
    (case k14 => k_is)
    (case v_LARGEST => k_is)
    (case v_MOST_LABELS => k_is)
    (case v_MOST_LETTERS => k_is)
    (case z_isinstance => k_is)
    (case z_int => k_is)
    (case z_bool => k_is)
    (case z_str => k_is)
    (case z_tuple => k_is)
    (case z_len => k_is)
    (case z_all => k_is)
    (case z_max => k_is)
    (case z_min => k_is)
    (case z_range => k_is)
    (case z_repr => k_is)
    (case z_sum => k_is)
    (case z_enumerate => k_is)
    (case z_reversed => k_is)
    (case z_ValueError => k_is)

