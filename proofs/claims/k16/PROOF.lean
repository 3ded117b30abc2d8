import PyProof.Rows.All
import Wide.All
import OpenK.AllK
import Wide.FinOn
import HandS.ForMost
import HandS.Wide
import HandS.Deep
import HandS.TupAny
import HandS.Conv
import HandS.IsInst
import HandS.RaiseMore
import HandS.Style
import HandS.Property
import KE.KCallOwn
import HandS.TryOnly
import HandS.Steps
import PySem.Challenge.RW_stackworks_k16_effects_put_together
set_option Elab.async false
set_option linter.all false
set_option maxRecDepth 100000
set_option maxHeartbeats 2000000
/-! Lw: readings of the hand layer over abstract slots (what a slot holds, as data) and abstract owned objects; everything else of the heap only grows. -/
namespace Lw
open PySem PySem.Spec PyProof.Rows L2

abbrev Fr := PySem.W.Frag

/-! ### data, told so that it stays: a tuple that begins with a text is tracked itself (a dict may have it as a key) -/
mutual
inductive Dt (K : Fr) (H : Hp) : V → PyData → Prop
  | non : Dt K H .non .none
  | bl (b : Bool) : Dt K H (.bl b) (.bool b)
  | int (i : Int) : Dt K H (.int i) (.int i)
  | str (x : Str) : Dt K H (.str x) (.str x)
  | lst {a : Addr} {xs : List V} {ds : List PyData} : SqL K H a xs → DtAll K H xs ds → Dt K H (.ref a) (.list ds)
  | tup {a : Addr} {xs : List V} {ds : List PyData} : SqT K H a xs → (∀ z r, xs = .str z :: r → H a = some (.tup xs)) → DtAll K H xs ds → Dt K H (.ref a) (.tuple ds)
inductive DtAll (K : Fr) (H : Hp) : List V → List PyData → Prop
  | nil : DtAll K H [] []
  | cons {v : V} {vs : List V} {d : PyData} {ds : List PyData} : Dt K H v d → DtAll K H vs ds → DtAll K H (v :: vs) (d :: ds)
end
theorem seq_l {K : Fr} {H H' : Hp} {a : Addr} {xs : List V} (e : Same H H') (h : SqT K H a xs) : SqT K H' a xs := by
  rcases h with (h | ⟨o, h⟩) | h
  · exact .inl (.inl (e _ _ h))
  · exact .inl (.inr ⟨o, e _ _ h⟩)
  · exact .inr h
mutual
theorem dp_mono {K : Fr} {H H' : Hp} (e : Same H H') : ∀ {v : V} {d : PyData}, Dt K H v d → Dt K H' v d
  | _, _, .non => .non
  | _, _, .bl b => .bl b
  | _, _, .int i => .int i
  | _, _, .str x => .str x
  | _, _, .lst h1 h2 => .lst (e.seq h1) (dpa_mono e h2)
  | _, _, .tup h1 h0 h2 => .tup (seq_l e h1) (fun z r q => e _ _ (h0 z r q)) (dpa_mono e h2)
theorem dpa_mono {K : Fr} {H H' : Hp} (e : Same H H') : ∀ {vs : List V} {ds : List PyData}, DtAll K H vs ds → DtAll K H' vs ds
  | _, _, .nil => .nil
  | _, _, .cons h1 h2 => .cons (dp_mono e h1) (dpa_mono e h2)
end
mutual
theorem Dt.dp {K : Fr} {H : Hp} : ∀ {v : V} {d : PyData}, Dt K H v d → Dp K H v d
  | _, _, .non => .non
  | _, _, .bl b => .bl b
  | _, _, .int i => .int i
  | _, _, .str x => .str x
  | _, _, .lst h1 h2 => .lst h1 (DtAll.dp h2)
  | _, _, .tup h1 _ h2 => .tup h1 (DtAll.dp h2)
theorem DtAll.dp {K : Fr} {H : Hp} : ∀ {vs : List V} {ds : List PyData}, DtAll K H vs ds → DpAll K H vs ds
  | _, _, .nil => .nil
  | _, _, .cons h1 h2 => .cons (Dt.dp h1) (DtAll.dp h2)
end
theorem same_new {H : Hp} {p : Addr} {o : HO} (h : H p = none) : Same H (upd H p o) := fun b x e => by
  rw [upd_ne (ne_of_none e h)]
  exact e

/-! ### abstract values, abstract owned objects -/
structure Pr where
  p : Fr → V → Hp → Prop
  mono : ∀ {K v B B'}, Same B B' → p K v B → p K v B'
inductive AV where
  | d (x : PyData)
  | r (a : Addr)
  | x (P : Pr)
def AV.h (K : Fr) : AV → V → Hp → Prop
  | .d t, v, B => Dt K B v t
  | .r a, v, _ => v = .ref a
  | .x P, v, B => P.p K v B
abbrev AV.i (n : Int) : AV := .d (.int n)
abbrev AV.b (b : Bool) : AV := .d (.bool b)
abbrev AV.s (z : Str) : AV := .d (.str z)
theorem AV.mono {K : Fr} {B B' : Hp} (e : Same B B') : ∀ {R : AV} {v : V}, R.h K v B → R.h K v B'
  | .d _, _, h => dp_mono e h
  | .r _, _, h => h
  | .x P, _, h => P.mono e h
theorem h_i {K : Fr} {B : Hp} {v : V} {n : Int} (h : (AV.i n).h K v B) : v = .int n := by cases (show Dt K B v (.int n) from h); rfl
theorem h_b {K : Fr} {B : Hp} {v : V} {n : Bool} (h : (AV.b n).h K v B) : v = .bl n := by cases (show Dt K B v (.bool n) from h); rfl
theorem h_s {K : Fr} {B : Hp} {v : V} {n : Str} (h : (AV.s n).h K v B) : v = .str n := by cases (show Dt K B v (.str n) from h); rfl
theorem h_n {K : Fr} {B : Hp} {v : V} (h : (AV.d .none).h K v B) : v = .non := by cases (show Dt K B v .none from h); rfl

def AllH (K : Fr) (B : Hp) : List AV → List V → Prop
  | [], [] => True
  | a :: as, v :: vs => a.h K v B ∧ AllH K B as vs
  | _, _ => False
theorem AllH.mono {K : Fr} {B B' : Hp} (e : Same B B') : ∀ {as : List AV} {vs : List V}, AllH K B as vs → AllH K B' as vs
  | [], [], h => h
  | _ :: _, _ :: _, h => ⟨AV.mono e h.1, AllH.mono e h.2⟩
  | [], _ :: _, h => h.elim
  | _ :: _, [], h => h.elim
theorem AllH.length {K : Fr} {B : Hp} : ∀ {as : List AV} {vs : List V}, AllH K B as vs → as.length = vs.length
  | [], [], _ => rfl
  | _ :: _, _ :: _, h => congrArg (· + 1) (AllH.length h.2)
  | [], _ :: _, h => h.elim
  | _ :: _, [], h => h.elim
theorem AllH.get {K : Fr} {B : Hp} : ∀ {as : List AV} {vs : List V} {i : Nat} {a : AV}, AllH K B as vs → as[i]? = some a → ∃ v, vs[i]? = some v ∧ a.h K v B
  | a :: as, v :: vs, 0, _, h, e => ⟨v, rfl, by cases e; exact h.1⟩
  | a :: as, v :: vs, i + 1, _, h, e => AllH.get (as := as) (vs := vs) (i := i) h.2 e
  | [], _, i, _, _, e => by simp at e
  | _ :: _, [], _, _, h, _ => h.elim
theorem AllH.set {K : Fr} {B : Hp} {a : AV} {v : V} (ha : a.h K v B) : ∀ {as : List AV} {vs : List V} (i : Nat), AllH K B as vs → AllH K B (as.set i a) (vs.set i v)
  | [], [], _, h => h
  | _ :: _, _ :: _, 0, h => ⟨ha, h.2⟩
  | _ :: _, _ :: _, i + 1, h => ⟨h.1, AllH.set ha i h.2⟩
  | [], _ :: _, _, h => h.elim
  | _ :: _, [], _, h => h.elim
theorem AllH.app {K : Fr} {B : Hp} : ∀ {as bs : List AV} {vs ws : List V}, AllH K B as vs → AllH K B bs ws → AllH K B (as ++ bs) (vs ++ ws)
  | [], _, [], _, _, h => h
  | _ :: _, _, _ :: _, _, h, k => ⟨h.1, AllH.app h.2 k⟩
  | [], _, _ :: _, _, h, _ => h.elim
  | _ :: _, _, [], _, h, _ => h.elim
theorem AllH.data {K : Fr} {B : Hp} : ∀ {ds : List PyData} {vs : List V}, AllH K B (ds.map .d) vs → DtAll K B vs ds
  | [], [], _ => .nil
  | _ :: _, _ :: _, h => .cons h.1 (AllH.data h.2)
  | [], _ :: _, h => h.elim
  | _ :: _, [], h => h.elim
theorem AllH.of {K : Fr} {B : Hp} : ∀ {ds : List PyData} {vs : List V}, DtAll K B vs ds → AllH K B (ds.map .d) vs
  | _, _, .nil => trivial
  | _, _, .cons h1 h2 => ⟨h1, AllH.of h2⟩

/-- attributes by name, in order -/
def FsH (K : Fr) (B : Hp) : List (Str × AV) → List (Str × V) → Prop
  | [], [] => True
  | a :: as, v :: vs => a.1 = v.1 ∧ a.2.h K v.2 B ∧ FsH K B as vs
  | _, _ => False
theorem FsH.mono {K : Fr} {B B' : Hp} (e : Same B B') : ∀ {as : List (Str × AV)} {vs : List (Str × V)}, FsH K B as vs → FsH K B' as vs
  | [], [], h => h
  | _ :: _, _ :: _, h => ⟨h.1, AV.mono e h.2.1, FsH.mono e h.2.2⟩
  | [], _ :: _, h => h.elim
  | _ :: _, [], h => h.elim
theorem FsH.length {K : Fr} {B : Hp} : ∀ {as : List (Str × AV)} {vs : List (Str × V)}, FsH K B as vs → as.length = vs.length
  | [], [], _ => rfl
  | _ :: _, _ :: _, h => congrArg (· + 1) (FsH.length h.2.2)
  | [], _ :: _, h => h.elim
  | _ :: _, [], h => h.elim
def putA (f : Str) (R : AV) : List (Str × AV) → List (Str × AV)
  | [] => [(f, R)]
  | (g, x) :: r => if g = f then (g, R) :: r else (g, x) :: putA f R r
theorem FsH.put {K : Fr} {B : Hp} {f : Str} {R : AV} {v : V} (hv : R.h K v B) : ∀ {as : List (Str × AV)} {vs : List (Str × V)}, FsH K B as vs → FsH K B (putA f R as) (putF f v vs)
  | [], [], _ => ⟨rfl, hv, trivial⟩
  | (g, a) :: as, (g', x) :: vs, h => by
    have e : g = g' := h.1
    subst e
    unfold putA putF
    by_cases q : g = f
    · rw [if_pos q, if_pos q]
      exact ⟨rfl, hv, h.2.2⟩
    · rw [if_neg q, if_neg q]
      exact ⟨rfl, h.2.1, FsH.put hv h.2.2⟩
  | [], _ :: _, h => h.elim
  | _ :: _, [], h => h.elim
theorem FsH.get {K : Fr} {B : Hp} {f : Str} {R : AV} : ∀ {as : List (Str × AV)} {vs : List (Str × V)}, FsH K B as vs → as.lookup f = some R → ∃ v, vs.lookup f = some v ∧ R.h K v B
  | [], [], _, e => nomatch e
  | (g, a) :: as, (g', x) :: vs, h, e => by
    have eg : g = g' := h.1
    subst eg
    by_cases q : (f == g) = true
    · simp only [List.lookup, q] at e ⊢
      cases e
      exact ⟨x, rfl, h.2.1⟩
    · have q' : (f == g) = false := by simpa using q
      simp only [List.lookup, q'] at e ⊢
      exact FsH.get h.2.2 e
  | [], _ :: _, h, _ => h.elim
  | _ :: _, [], h, _ => h.elim
theorem FsH.none {K : Fr} {B : Hp} {f : Str} : ∀ {as : List (Str × AV)} {vs : List (Str × V)}, FsH K B as vs → as.lookup f = Option.none → vs.lookup f = Option.none
  | [], [], _, _ => rfl
  | (g, a) :: as, (g', x) :: vs, h, e => by
    have eg : g = g' := h.1
    subst eg
    by_cases q : (f == g) = true
    · simp only [List.lookup, q] at e
      cases e
    · have q' : (f == g) = false := by simpa using q
      simp only [List.lookup, q'] at e ⊢
      exact FsH.none h.2.2 e
  | [], _ :: _, h, _ => h.elim
  | _ :: _, [], h, _ => h.elim
inductive AO where
  | lst (xs : List AV)
  | ins (C dx : Addr) (fs : List (Str × AV))
  | o (u : HO)
  | dF (f : List Key → Option PyData) (n : Nat)
  | dG (f : Key → Option PyData) (n : Nat)
/-- a dict (of tuples, or of ints and texts), its values data -/
def DfH {κ : Type} [DecidableEq κ] (K : Fr) (B : Hp) (f : κ → Option PyData) (n : Nat) (ws : List (κ × V)) : Prop :=
  ws.length ≤ n ∧ (∀ k d, f k = some d → ∃ v, valV ws k = some v ∧ Dt K B v d) ∧ (∀ k, f k = none → valV ws k = none) ∧ ∀ kv ∈ ws, valV ws kv.1 = some kv.2
theorem DfH.mono {κ : Type} [DecidableEq κ] {K : Fr} {B B' : Hp} {f : κ → Option PyData} {n : Nat} {ws : List (κ × V)} (e : Same B B') (h : DfH K B f n ws) : DfH K B' f n ws :=
  ⟨h.1, fun k d q => let ⟨v, h1, h2⟩ := h.2.1 k d q; ⟨v, h1, dp_mono e h2⟩, h.2.2⟩
def AO.h (K : Fr) : AO → HO → Hp → Prop
  | .lst xs, u, B => ∃ vs, u = .lst vs ∧ AllH K B xs vs
  | .ins C dx fs, u, B => ∃ ws : List (Str × V), u = .ins C dx ws ∧ FsH K B fs ws
  | .o w, u, _ => u = w
  | .dF f n, u, B => ∃ ws, u = .dT ws ∧ DfH K B f n ws
  | .dG f n, u, B => ∃ ws, u = .dK ws ∧ DfH K B f n ws
theorem AO.mono {K : Fr} {B B' : Hp} (e : Same B B') : ∀ {o : AO} {u : HO}, o.h K u B → o.h K u B'
  | .lst _, _, ⟨vs, h1, h2⟩ => ⟨vs, h1, h2.mono e⟩
  | .ins _ _ _, _, ⟨vs, h1, h2⟩ => ⟨vs, h1, h2.mono e⟩
  | .o _, _, h => h
  | .dF _ _, _, ⟨ws, h1, h2⟩ => ⟨ws, h1, h2.mono e⟩
  | .dG _ _, _, ⟨ws, h1, h2⟩ => ⟨ws, h1, h2.mono e⟩
abbrev AM := Addr → Option AO
def updM (μ : AM) (a : Addr) (o : AO) : AM := fun b => if b = a then some o else μ b
def delM (μ : AM) (a : Addr) : AM := fun b => if b = a then none else μ b
theorem updM_same {μ : AM} {a : Addr} {o : AO} : updM μ a o a = some o := by unfold updM; rw [if_pos rfl]
theorem updM_ne {μ : AM} {a b : Addr} {o : AO} (h : b ≠ a) : updM μ a o b = μ b := by unfold updM; rw [if_neg h]
theorem updM_updM {μ : AM} {a : Addr} {o u : AO} : updM (updM μ a o) a u = updM μ a u := by
  funext b
  unfold updM
  by_cases h : b = a
  · rw [if_pos h, if_pos h]
  · rw [if_neg h, if_neg h, if_neg h]
abbrev M0 : AM := fun _ => none

/-- the world: what stands as it is (F: others' owned objects), what only grows (B), what is owned (μ), the heap -/
def Wd (K : Fr) (F B : Hp) (μ : AM) (H : Hp) : Prop := Same B H ∧ (∀ a o, μ a = some o → B a = none ∧ F a = none ∧ ∃ u, H a = some u ∧ o.h K u B) ∧ ∀ a u, F a = some u → B a = none ∧ H a = some u
section
variable {K : Fr} {F B H : Hp} {μ : AM} {p l : Addr} {o u : HO} {ao ao0 : AO}
theorem Wd.freeB (w : Wd K F B μ H) (hp : H p = none) : B p = none := w.1.free hp
theorem Wd.new (w : Wd K F B μ H) (hp : H p = none) : Wd K F (upd B p o) μ (upd H p o) ∧ Same B (upd B p o) ∧ upd B p o p = some o := by
  have hb : B p = none := w.1.free hp
  refine ⟨⟨fun b u e => ?_, fun a ao e => ?_, fun a u e => ?_⟩, same_new hb, upd_same⟩
  · by_cases h : b = p
    · subst h
      rw [upd_same] at e ⊢
      exact e
    · rw [upd_ne h] at e ⊢
      exact w.1 _ _ e
  · obtain ⟨e1, e0, u, e2, e3⟩ := w.2.1 a ao e
    have hne : a ≠ p := ne_of_none e2 hp
    exact ⟨by rw [upd_ne hne]; exact e1, e0, u, by rw [upd_ne hne]; exact e2, AO.mono (same_new hb) e3⟩
  · obtain ⟨e1, e2⟩ := w.2.2 a u e
    have hne : a ≠ p := ne_of_none e2 hp
    exact ⟨by rw [upd_ne hne]; exact e1, by rw [upd_ne hne]; exact e2⟩
theorem Wd.newM (w : Wd K F B μ H) (hp : H p = none) (ho : ao.h K o B) : Wd K F B (updM μ p ao) (upd H p o) := by
  have hb : B p = none := w.1.free hp
  refine ⟨w.1.trans (same_new hp), fun a ao' e => ?_, fun a u e => ?_⟩
  · by_cases h : a = p
    · subst h
      rw [updM_same] at e
      cases e
      refine ⟨hb, ?_, o, upd_same, ho⟩
      cases hF : F a with
      | none => rfl
      | some u => rw [(w.2.2 a u hF).2] at hp; cases hp
    · rw [updM_ne h] at e
      obtain ⟨e1, e0, u, e2, e3⟩ := w.2.1 a ao' e
      exact ⟨e1, e0, u, by rw [upd_ne h]; exact e2, e3⟩
  · obtain ⟨e1, e2⟩ := w.2.2 a u e
    exact ⟨e1, by rw [upd_ne (ne_of_none e2 hp)]; exact e2⟩
theorem Wd.newF (w : Wd K F B μ H) (hp : H p = none) : Wd K (upd F p o) B μ (upd H p o) := by
  have hb : B p = none := w.1.free hp
  refine ⟨w.1.trans (same_new hp), fun a ao' e => ?_, fun a u e => ?_⟩
  · obtain ⟨e1, e0, u, e2, e3⟩ := w.2.1 a ao' e
    have h : a ≠ p := ne_of_none e2 hp
    exact ⟨e1, by rw [upd_ne h]; exact e0, u, by rw [upd_ne h]; exact e2, e3⟩
  · by_cases h : a = p
    · subst h
      rw [upd_same] at e ⊢
      exact ⟨hb, e⟩
    · rw [upd_ne h] at e ⊢
      exact w.2.2 a u e
theorem Wd.set (w : Wd K F B μ H) (hl : μ l = some ao0) (ho : ao.h K o B) : Wd K F B (updM μ l ao) (upd H l o) := by
  obtain ⟨hb, hf, _⟩ := w.2.1 l ao0 hl
  refine ⟨fun b u e => ?_, fun a ao' e => ?_, fun a u e => ?_⟩
  · have : b ≠ l := fun q => by rw [q, hb] at e; cases e
    rw [upd_ne this]
    exact w.1 _ _ e
  · by_cases h : a = l
    · subst h
      rw [updM_same] at e
      cases e
      exact ⟨hb, hf, o, upd_same, ho⟩
    · rw [updM_ne h] at e
      obtain ⟨e1, e0, u, e2, e3⟩ := w.2.1 a ao' e
      exact ⟨e1, e0, u, by rw [upd_ne h]; exact e2, e3⟩
  · obtain ⟨e1, e2⟩ := w.2.2 a u e
    have : a ≠ l := fun q => by rw [q, hf] at e; cases e
    exact ⟨e1, by rw [upd_ne this]; exact e2⟩
theorem Wd.setF (w : Wd K F B μ H) (hl : F l = some u) : Wd K (upd F l o) B μ (upd H l o) := by
  obtain ⟨hb, hh⟩ := w.2.2 l u hl
  refine ⟨fun b u e => ?_, fun a ao' e => ?_, fun a u e => ?_⟩
  · have : b ≠ l := fun q => by rw [q, hb] at e; cases e
    rw [upd_ne this]
    exact w.1 _ _ e
  · obtain ⟨e1, e0, u', e2, e3⟩ := w.2.1 a ao' e
    have h : a ≠ l := fun q => by rw [q, hl] at e0; cases e0
    exact ⟨e1, by rw [upd_ne h]; exact e0, u', by rw [upd_ne h]; exact e2, e3⟩
  · by_cases h : a = l
    · subst h
      rw [upd_same] at e ⊢
      exact ⟨hb, e⟩
    · rw [upd_ne h] at e ⊢
      exact w.2.2 a u e
theorem Wd.drop {μ' : AM} (w : Wd K F B μ H) (h : ∀ a o, μ' a = some o → μ a = some o) : Wd K F B μ' H := ⟨w.1, fun a o e => w.2.1 a o (h a o e), w.2.2⟩
/-- an object of the frame that is not changed any more: the frame is F0 again -/
theorem Wd.freezeF {F0 : Hp} (w : Wd K (upd F0 l u) B μ H) (h0 : F0 l = none) : Wd K F0 (upd B l u) μ H ∧ Same B (upd B l u) ∧ upd B l u l = some u := by
  obtain ⟨hb, hh⟩ := w.2.2 l u upd_same
  refine ⟨⟨fun b x e => ?_, fun a ao' e => ?_, fun a x e => ?_⟩, same_new hb, upd_same⟩
  · by_cases h : b = l
    · subst h
      rw [upd_same] at e
      rw [← e]
      exact hh
    · rw [upd_ne h] at e
      exact w.1 _ _ e
  · obtain ⟨q1, q0, u', q2, q3⟩ := w.2.1 a ao' e
    have h : a ≠ l := fun q => by rw [q, upd_same] at q0; cases q0
    rw [upd_ne h] at q0
    exact ⟨by rw [upd_ne h]; exact q1, q0, u', q2, AO.mono (same_new hb) q3⟩
  · have h : a ≠ l := fun q => by rw [q, h0] at e; cases e
    obtain ⟨e1, e2⟩ := w.2.2 a x (by rw [upd_ne h]; exact e)
    exact ⟨by rw [upd_ne h]; exact e1, e2⟩
/-- an owned object that is not changed any more -/
theorem Wd.freeze (w : Wd K F B μ H) (hl : μ l = some ao) : ∃ u, Wd K F (upd B l u) (delM μ l) H ∧ Same B (upd B l u) ∧ upd B l u l = some u ∧ ao.h K u B := by
  obtain ⟨hb, hf, u, e2, e3⟩ := w.2.1 l ao hl
  refine ⟨u, ⟨fun b x e => ?_, fun a ao' e => ?_, fun a x e => ?_⟩, same_new hb, upd_same, e3⟩
  · by_cases h : b = l
    · subst h
      rw [upd_same] at e
      rw [← e]
      exact e2
    · rw [upd_ne h] at e
      exact w.1 _ _ e
  · unfold delM at e
    by_cases h : a = l
    · rw [if_pos h] at e
      cases e
    · rw [if_neg h] at e
      obtain ⟨q1, q0, u', q2, q3⟩ := w.2.1 a ao' e
      exact ⟨by rw [upd_ne h]; exact q1, q0, u', q2, AO.mono (same_new hb) q3⟩
  · have h : a ≠ l := fun q => by rw [q, hf] at e; cases e
    obtain ⟨e1, e2⟩ := w.2.2 a x e
    exact ⟨by rw [upd_ne h]; exact e1, e2⟩
end

/-! ### abstract slots -/
abbrev AS := List (Option AV)
def Sl (K : Fr) (B : Hp) : L2.St → AS → Prop
  | [], [] => True
  | s :: σ, r :: ρ => (∀ R, r = some R → ∃ v, s = some v ∧ R.h K v B) ∧ Sl K B σ ρ
  | _, _ => False
theorem Sl.mono {K : Fr} {B B' : Hp} (e : Same B B') : ∀ {σ : L2.St} {ρ : AS}, Sl K B σ ρ → Sl K B' σ ρ
  | [], [], h => h
  | _ :: _, _ :: _, h => ⟨fun R hr => let ⟨v, h1, h2⟩ := h.1 R hr; ⟨v, h1, AV.mono e h2⟩, Sl.mono e h.2⟩
  | [], _ :: _, h => h.elim
  | _ :: _, [], h => h.elim
theorem Sl.get {K : Fr} {B : Hp} : ∀ {σ : L2.St} {ρ : AS} {i : Nat} {R : AV}, Sl K B σ ρ → ρ[i]? = some (some R) → ∃ v, σ[i]? = some (some v) ∧ R.h K v B
  | s :: σ, r :: ρ, 0, R, h, e => by
    have e' : r = some R := Option.some.inj e
    obtain ⟨v, h1, h2⟩ := h.1 R e'
    exact ⟨v, by rw [h1]; rfl, h2⟩
  | s :: σ, r :: ρ, i + 1, R, h, e => Sl.get (σ := σ) (ρ := ρ) (i := i) h.2 e
  | [], [], i, _, _, e => by simp at e
  | _ :: _, [], _, _, h, _ => h.elim
  | [], _ :: _, _, _, h, _ => h.elim
theorem Sl.set {K : Fr} {B : Hp} {R : AV} {v : V} (hv : R.h K v B) : ∀ {σ : L2.St} {ρ : AS} (i : Nat), Sl K B σ ρ → Sl K B (σ.set i (some v)) (ρ.set i (some R))
  | [], [], _, h => h
  | _ :: _, _ :: _, 0, h => ⟨fun R' e => ⟨v, rfl, by cases e; exact hv⟩, h.2⟩
  | _ :: _, _ :: _, i + 1, h => ⟨h.1, Sl.set hv i h.2⟩
  | _ :: _, [], _, h => h.elim
  | [], _ :: _, _, h => h.elim
/-- ρ' tells no more than ρ -/
def Le : AS → AS → Prop
  | [], [] => True
  | r :: ρ, r' :: ρ' => (r' = none ∨ r' = r) ∧ Le ρ ρ'
  | _, _ => False
theorem Le.refl : ∀ {ρ : AS}, Le ρ ρ
  | [] => trivial
  | _ :: _ => ⟨.inr rfl, Le.refl⟩
theorem Sl.le {K : Fr} {B : Hp} : ∀ {σ : L2.St} {ρ ρ' : AS}, Le ρ ρ' → Sl K B σ ρ → Sl K B σ ρ'
  | [], [], [], _, h => h
  | s :: σ, r :: ρ, r' :: ρ', l, h => ⟨fun R e => by
      rcases l.1 with q | q
      · rw [q] at e; cases e
      · exact h.1 R (by rw [← q]; exact e), Sl.le l.2 h.2⟩
  | _, [], _ :: _, l, _ => l.elim
  | _, _ :: _, [], l, _ => l.elim
  | _ :: _, [], [], _, h => h.elim
  | [], _ :: _, _ :: _, _, h => h.elim
def wipeA (ρ : AS) : List Nat → AS
  | [] => ρ
  | v :: vs => (wipeA ρ vs).set v none
theorem Sl.setNone {K : Fr} {B : Hp} {s : Option V} : ∀ {σ : L2.St} {ρ : AS} (i : Nat), Sl K B σ ρ → Sl K B (σ.set i s) (ρ.set i none)
  | [], [], _, h => h
  | _ :: _, _ :: _, 0, h => ⟨fun R' e => (nomatch e), h.2⟩
  | _ :: _, _ :: _, i + 1, h => ⟨h.1, Sl.setNone i h.2⟩
  | _ :: _, [], _, h => h.elim
  | [], _ :: _, _, h => h.elim
theorem Sl.wipe {K : Fr} {B : Hp} {σ : L2.St} {ρ : AS} (h : Sl K B σ ρ) : ∀ vs, Sl K B (L2.wipe σ vs) (wipeA ρ vs)
  | [] => h
  | v :: vs => Sl.setNone v (Sl.wipe h vs)
theorem Sl.length {K : Fr} {B : Hp} : ∀ {σ : L2.St} {ρ : AS}, Sl K B σ ρ → σ.length = ρ.length
  | [], [], _ => rfl
  | _ :: _, _ :: _, h => congrArg (· + 1) (Sl.length h.2)
  | _ :: _, [], h => h.elim
  | [], _ :: _, h => h.elim

/-! ### judgements -/
def EvW (K : Fr) (te : TE) (ρ : AS) (μ : AM) (R : AV) (μ' : AM) : Prop := ∀ F B H σ, Wd K F B μ H → Sl K B σ ρ → ∀ Q : VK, (∀ v B2 H2, Same B B2 → Wd K F B2 μ' H2 → R.h K v B2 → Q v H2) → te σ H Q
def EvT (K : Fr) (tt : TT) (ρ : AS) (μ : AM) (b : Bool) (μ' : AM) : Prop := ∀ F B H σ, Wd K F B μ H → Sl K B σ ρ → ∀ Q : Bool → Hp → Prop, (∀ B2 H2, Same B B2 → Wd K F B2 μ' H2 → Q b H2) → tt σ H Q
def EvA (K : Fr) (ta : TA) (ρ : AS) (μ : AM) (Rs : List AV) (μ' : AM) : Prop := ∀ F B H σ, Wd K F B μ H → Sl K B σ ρ → ∀ Q : List V → Hp → Prop, (∀ vs B2 H2, Same B B2 → Wd K F B2 μ' H2 → AllH K B2 Rs vs → Q vs H2) → ta σ H Q
/-- an operation on two values, on one, on a list of values -/
def Op2 (K : Fr) (r : V → V → Hp → VK → Prop) (R1 R2 : AV) (μ : AM) (R : AV) (μ' : AM) : Prop := ∀ F B H x y, Wd K F B μ H → R1.h K x B → R2.h K y B → ∀ Q : VK, (∀ v B2 H2, Same B B2 → Wd K F B2 μ' H2 → R.h K v B2 → Q v H2) → r x y H Q
def Op1 (K : Fr) (r : V → Hp → VK → Prop) (R1 : AV) (μ : AM) (R : AV) (μ' : AM) : Prop := ∀ F B H x, Wd K F B μ H → R1.h K x B → ∀ Q : VK, (∀ v B2 H2, Same B B2 → Wd K F B2 μ' H2 → R.h K v B2 → Q v H2) → r x H Q
def OpN (K : Fr) (r : List V → Hp → VK → Prop) (Rs : List AV) (μ : AM) (R : AV) (μ' : AM) : Prop := ∀ F B H xs, Wd K F B μ H → AllH K B Rs xs → ∀ Q : VK, (∀ v B2 H2, Same B B2 → Wd K F B2 μ' H2 → R.h K v B2 → Q v H2) → r xs H Q

section
variable {K : Fr} {ρ : AS} {μ μ1 μ2 μ3 : AM} {ta tb tc te : TE} {t u : TT} {R R1 R2 R3 : AV}
theorem ew_var {i : Nat} (h : ρ[i]? = some (some R)) : EvW K (tVar i) ρ μ R μ := fun F B H σ w s Q q => by
  obtain ⟨v, h1, h2⟩ := s.get h
  exact ⟨v, h1, q v B H (Same.refl _) w h2⟩
theorem ew_int {i : Int} : EvW K (tC (.int i)) ρ μ (.i i) μ := fun F B H σ w s Q q => q _ B H (Same.refl _) w (.int i)
theorem ew_bl {i : Bool} : EvW K (tC (.bl i)) ρ μ (.b i) μ := fun F B H σ w s Q q => q _ B H (Same.refl _) w (.bl i)
theorem ew_str {i : Str} : EvW K (tC (.str i)) ρ μ (.s i) μ := fun F B H σ w s Q q => q _ B H (Same.refl _) w (.str i)
theorem ew_non : EvW K (tC .non) ρ μ (.d .none) μ := fun F B H σ w s Q q => q _ B H (Same.refl _) w .non
theorem ew_op {r : V → V → Hp → VK → Prop} (ha : EvW K ta ρ μ R1 μ1) (hb : EvW K tb ρ μ1 R2 μ2) (hr : Op2 K r R1 R2 μ2 R μ3) : EvW K (tOp r ta tb) ρ μ R μ3 := fun F B H σ w s Q q =>
  ha F B H σ w s _ fun x B1 H1 e1 w1 h1 => hb F B1 H1 σ w1 (s.mono e1) _ fun y B2 H2 e2 w2 h2 => hr F B2 H2 x y w2 (AV.mono e2 h1) h2 Q fun v B3 H3 e3 w3 h3 => q v B3 H3 ((e1.trans e2).trans e3) w3 h3
theorem ew_un {r : V → Hp → VK → Prop} (ha : EvW K ta ρ μ R1 μ1) (hr : Op1 K r R1 μ1 R μ2) : EvW K (tUn r ta) ρ μ R μ2 := fun F B H σ w s Q q =>
  ha F B H σ w s _ fun x B1 H1 e1 w1 h1 => hr F B1 H1 x w1 h1 Q fun v B3 H3 e3 w3 h3 => q v B3 H3 (e1.trans e3) w3 h3
theorem ew_is (h : EvW K te ρ μ R μ1) (e : R = R2) : EvW K te ρ μ R2 μ1 := e ▸ h
theorem ew_isI {i j : Int} (h : EvW K te ρ μ (.i i) μ1) (e : i = j) : EvW K te ρ μ (.i j) μ1 := e ▸ h
theorem ew_isD {i j : PyData} (h : EvW K te ρ μ (.d i) μ1) (e : i = j) : EvW K te ρ μ (.d j) μ1 := e ▸ h
theorem ea_nil : EvA K tNil ρ μ [] μ := fun F B H σ w s Q q => q [] B H (Same.refl _) w trivial
theorem ea_cons {tr : TA} {Rs : List AV} (h : EvW K te ρ μ R μ1) (hr : EvA K tr ρ μ1 Rs μ2) : EvA K (tCons te tr) ρ μ (R :: Rs) μ2 := fun F B H σ w s Q q =>
  h F B H σ w s _ fun x B1 H1 e1 w1 h1 => hr F B1 H1 σ w1 (s.mono e1) _ fun ys B2 H2 e2 w2 h2 => q _ B2 H2 (e1.trans e2) w2 ⟨AV.mono e2 h1, h2⟩
theorem ew_cb {r : List V → Hp → VK → Prop} {ta : TA} {Rs : List AV} (h : EvA K ta ρ μ Rs μ1) (hr : OpN K r Rs μ1 R μ2) : EvW K (tCB r ta) ρ μ R μ2 := fun F B H σ w s Q q =>
  h F B H σ w s _ fun xs B1 H1 e1 w1 h1 => hr F B1 H1 xs w1 h1 Q fun v B3 H3 e3 w3 h3 => q v B3 H3 (e1.trans e3) w3 h3
theorem ew_call {sp : Sp} {E : XK} {ta : TA} {Rs : List AV} (h : EvA K ta ρ μ Rs μ1) (hr : OpN K (fun xs H Q => sp (xs ++ []) H Q E) Rs μ1 R μ2) : EvW K (tCall sp [] E ta) ρ μ R μ2 := fun F B H σ w s Q q =>
  h F B H σ w s _ fun xs B1 H1 e1 w1 h1 => hr F B1 H1 xs w1 h1 Q fun v B3 H3 e3 w3 h3 => q v B3 H3 (e1.trans e3) w3 h3

/-! ### tests -/
theorem et_test {b : Bool} (h : EvW K te ρ μ (.b b) μ1) : EvT K (tTest te) ρ μ b μ1 := fun F B H σ w s Q q => h F B H σ w s _ fun v B2 H2 e2 w2 h2 => ⟨b, h_b h2, q B2 H2 e2 w2⟩
theorem et_B {b : Bool} (h : EvW K te ρ μ (.b b) μ1) : EvT K (tB te) ρ μ b μ1 := fun F B H σ w s Q q => h F B H σ w s _ fun v B2 H2 e2 w2 h2 => ⟨b, h_b h2, q B2 H2 e2 w2⟩
theorem et_not {b : Bool} (h : EvT K t ρ μ b μ1) : EvT K (tNot t) ρ μ (!b) μ1 := fun F B H σ w s Q q => h F B H σ w s _ fun B2 H2 e2 w2 => q B2 H2 e2 w2
theorem et_is {a b : Bool} (h : EvT K t ρ μ a μ1) (e : a = b) : EvT K t ρ μ b μ1 := e ▸ h
theorem et_and {a b : Bool} (h1 : EvT K t ρ μ a μ1) (h2 : a = true → EvT K u ρ μ1 b μ1) : EvT K (tAnd t u) ρ μ (a && b) μ1 := fun F B H σ w s Q q => h1 F B H σ w s _ fun B1 H1 e1 w1 => by
  cases a with
  | true =>
    show u σ H1 Q
    exact h2 rfl F B1 H1 σ w1 (s.mono e1) Q fun B2 H2 e2 w2 => q B2 H2 (e1.trans e2) w2
  | false =>
    show Q false H1
    exact q B1 H1 e1 w1
theorem et_or {a b : Bool} (h1 : EvT K t ρ μ a μ1) (h2 : a = false → EvT K u ρ μ1 b μ1) : EvT K (tOr t u) ρ μ (a || b) μ1 := fun F B H σ w s Q q => h1 F B H σ w s _ fun B1 H1 e1 w1 => by
  cases a with
  | true =>
    show Q true H1
    exact q B1 H1 e1 w1
  | false =>
    show u σ H1 Q
    exact h2 rfl F B1 H1 σ w1 (s.mono e1) Q fun B2 H2 e2 w2 => q B2 H2 (e1.trans e2) w2
theorem ew_and {a b : Bool} (h1 : EvW K ta ρ μ (.b a) μ1) (h2 : a = true → EvW K tb ρ μ1 (.b b) μ1) : EvW K (tAndV ta tb) ρ μ (.b (a && b)) μ1 := fun F B H σ w s Q q => h1 F B H σ w s _ fun v B1 H1 e1 w1 hv => ⟨a, h_b hv, by
  cases a with
  | true =>
    show tb σ H1 Q
    exact h2 rfl F B1 H1 σ w1 (s.mono e1) Q fun v B2 H2 e2 w2 h2 => q v B2 H2 (e1.trans e2) w2 h2
  | false =>
    show Q (.bl false) H1
    exact q _ B1 H1 e1 w1 (.bl _)⟩
theorem ew_or {a b : Bool} (h1 : EvW K ta ρ μ (.b a) μ1) (h2 : a = false → EvW K tb ρ μ1 (.b b) μ1) : EvW K (tOrV ta tb) ρ μ (.b (a || b)) μ1 := fun F B H σ w s Q q => h1 F B H σ w s _ fun v B1 H1 e1 w1 hv => ⟨a, h_b hv, by
  cases a with
  | true =>
    show Q (.bl true) H1
    exact q _ B1 H1 e1 w1 (.bl _)
  | false =>
    show tb σ H1 Q
    exact h2 rfl F B1 H1 σ w1 (s.mono e1) Q fun v B2 H2 e2 w2 h2 => q v B2 H2 (e1.trans e2) w2 h2⟩
theorem ew_not {a : Bool} (h1 : EvW K ta ρ μ (.b a) μ1) : EvW K (tNotV ta) ρ μ (.b (!a)) μ1 := fun F B H σ w s Q q => h1 F B H σ w s _ fun v B1 H1 e1 w1 hv => ⟨a, h_b hv, q _ B1 H1 e1 w1 (.bl _)⟩
theorem ew_if {b : Bool} (h : EvT K t ρ μ b μ1) (h1 : b = true → EvW K ta ρ μ1 R μ2) (h2 : b = false → EvW K tb ρ μ1 R μ2) : EvW K (tIf t ta tb) ρ μ R μ2 := fun F B H σ w s Q q => h F B H σ w s _ fun B1 H1 e1 w1 => by
  cases b with
  | true =>
    show ta σ H1 Q
    exact h1 rfl F B1 H1 σ w1 (s.mono e1) Q fun v B2 H2 e2 w2 h2 => q v B2 H2 (e1.trans e2) w2 h2
  | false =>
    show tb σ H1 Q
    exact h2 rfl F B1 H1 σ w1 (s.mono e1) Q fun v B2 H2 e2 w2 h2 => q v B2 H2 (e1.trans e2) w2 h2

/-! ### operators -/
theorem o_I0 {g : Int → Int → Int} {i j : Int} : Op2 K (rI0 fun i j => .int (g i j)) (.i i) (.i j) μ (.i (g i j)) μ := fun F B H x y w h1 h2 Q q => ⟨i, j, h_i h1, h_i h2, q _ B H (Same.refl _) w (.int _)⟩
theorem o_I {C : Int → Int → Prop} {g : Int → Int → Int} {i j : Int} (hc : C i j) : Op2 K (rI C fun i j => .int (g i j)) (.i i) (.i j) μ (.i (g i j)) μ := fun F B H x y w h1 h2 Q q => ⟨i, j, h_i h1, h_i h2, hc, q _ B H (Same.refl _) w (.int _)⟩
theorem o_B0 {g : Int → Int → Bool} {i j : Int} : Op2 K (rI0 fun i j => .bl (g i j)) (.i i) (.i j) μ (.b (g i j)) μ := fun F B H x y w h1 h2 Q q => ⟨i, j, h_i h1, h_i h2, q _ B H (Same.refl _) w (.bl _)⟩
theorem o_eqI {i j : Int} : Op2 K rEq (.i i) (.i j) μ (.b (decide (i = j))) μ := fun F B H x y w h1 h2 Q q => by
  have e1 := h_i h1
  have e2 := h_i h2
  subst e1 e2
  refine ⟨rfl, ?_⟩
  have : decide (V.int i = V.int j) = decide (i = j) := decide_eq_decide.mpr ⟨fun h => by cases h; rfl, fun h => by rw [h]⟩
  rw [this]
  exact q _ B H (Same.refl _) w (.bl _)
theorem o_neI {i j : Int} : Op2 K rNe (.i i) (.i j) μ (.b (!decide (i = j))) μ := fun F B H x y w h1 h2 Q q => by
  have e1 := h_i h1
  have e2 := h_i h2
  subst e1 e2
  refine ⟨rfl, ?_⟩
  have : decide (V.int i = V.int j) = decide (i = j) := decide_eq_decide.mpr ⟨fun h => by cases h; rfl, fun h => by rw [h]⟩
  rw [this]
  exact q _ B H (Same.refl _) w (.bl _)
theorem o_eqS {i j : Str} : Op2 K rEq (.s i) (.s j) μ (.b (decide (i = j))) μ := fun F B H x y w h1 h2 Q q => by
  have e1 := h_s h1
  have e2 := h_s h2
  subst e1 e2
  refine ⟨rfl, ?_⟩
  have : decide (V.str i = V.str j) = decide (i = j) := decide_eq_decide.mpr ⟨fun h => by cases h; rfl, fun h => by rw [h]⟩
  rw [this]
  exact q _ B H (Same.refl _) w (.bl _)
theorem o_eqD {d e : PyData} (h1 : SeqAt.shaped d = true) (h2 : SeqAt.shaped e = true) : Op2 K (rEqD K) (.d d) (.d e) μ (.b (PyData.eqv d e)) μ := fun F B H x y w r1 r2 Q q => ⟨d, e, (dp_mono w.1 r1).dp, (dp_mono w.1 r2).dp, h1, h2, q _ B H (Same.refl _) w (.bl _)⟩
theorem o_neD {d e : PyData} (h1 : SeqAt.shaped d = true) (h2 : SeqAt.shaped e = true) : Op2 K (rNeD K) (.d d) (.d e) μ (.b (!PyData.eqv d e)) μ := fun F B H x y w r1 r2 Q q => ⟨d, e, (dp_mono w.1 r1).dp, (dp_mono w.1 r2).dp, h1, h2, q _ B H (Same.refl _) w (.bl _)⟩
theorem o_neg {i : Int} : Op1 K (rU fun i => .int (-i)) (.i i) μ (.i (-i)) μ := fun F B H x w h1 Q q => ⟨i, h_i h1, q _ B H (Same.refl _) w (.int _)⟩
end
end Lw

set_option Elab.async false
set_option linter.all false
set_option maxRecDepth 100000
set_option maxHeartbeats 2000000
namespace Lw
open PySem PySem.Spec PyProof.Rows L2

/-! ### statements: what is wanted behind them, of abstract slots and owned objects -/
structure Po where
  nx : AS → AM → Prop
  rt : AV → AM → Prop
  bk : AS → AM → Prop := fun _ _ => False
  ct : AS → AM → Prop := fun _ _ => False
structure Rea (K : Fr) (F B : Hp) (D : Ends) (P : Po) : Prop where
  nx : ∀ ρ μ B2 H2 σ2, P.nx ρ μ → Same B B2 → Wd K F B2 μ H2 → Sl K B2 σ2 ρ → D.nx σ2 H2
  rt : ∀ R μ v B2 H2, P.rt R μ → Same B B2 → Wd K F B2 μ H2 → R.h K v B2 → D.rt v H2
  bk : ∀ ρ μ B2 H2 σ2, P.bk ρ μ → Same B B2 → Wd K F B2 μ H2 → Sl K B2 σ2 ρ → D.bk σ2 H2
  ct : ∀ ρ μ B2 H2 σ2, P.ct ρ μ → Same B B2 → Wd K F B2 μ H2 → Sl K B2 σ2 ρ → D.ct σ2 H2
theorem Rea.mono {K : Fr} {F B B' : Hp} {D : Ends} {P : Po} (r : Rea K F B D P) (e : Same B B') : Rea K F B' D P :=
  ⟨fun ρ μ B2 H2 σ2 p e2 => r.nx ρ μ B2 H2 σ2 p (e.trans e2), fun R μ v B2 H2 p e2 => r.rt R μ v B2 H2 p (e.trans e2), fun ρ μ B2 H2 σ2 p e2 => r.bk ρ μ B2 H2 σ2 p (e.trans e2), fun ρ μ B2 H2 σ2 p e2 => r.ct ρ μ B2 H2 σ2 p (e.trans e2)⟩
def StW (K : Fr) (t : TS) (ρ : AS) (μ : AM) (P : Po) : Prop := ∀ F D B H σ, Wd K F B μ H → Sl K B σ ρ → Rea K F B D P → t D σ H

section
variable {K : Fr} {ρ : AS} {μ μ1 μ2 μ3 : AM} {ta tb te tl : TE} {t u : TT} {s s1 s2 : TS} {R R1 R2 : AV} {P : Po} {g : TG}
theorem s_next (p : P.nx ρ μ) : StW K tNext ρ μ P := fun F D B H σ w sl r => r.nx ρ μ B H σ p (Same.refl _) w sl
theorem s_brk (p : P.bk ρ μ) : StW K tBreak ρ μ P := fun F D B H σ w sl r => r.bk ρ μ B H σ p (Same.refl _) w sl
theorem s_cont (p : P.ct ρ μ) : StW K tCont ρ μ P := fun F D B H σ w sl r => r.ct ρ μ B H σ p (Same.refl _) w sl
theorem s_seq (h : StW K s1 ρ μ { P with nx := fun ρ' μ' => StW K s2 ρ' μ' P }) : StW K (tSeq s1 s2) ρ μ P := fun F D B H σ w sl r =>
  h F { D with nx := s2 D } B H σ w sl ⟨fun ρ' μ' B2 H2 σ2 p e w2 sl2 => p F D B2 H2 σ2 w2 sl2 (r.mono e), r.rt, r.bk, r.ct⟩
theorem s_asg {i : Nat} (h : EvW K te ρ μ R μ1) (p : P.nx (ρ.set i (some R)) μ1) : StW K (tAsg te (gName i)) ρ μ P := fun F D B H σ w sl r =>
  h F B H σ w sl _ fun v B2 H2 e w2 hv => r.nx _ _ B2 H2 _ p e w2 (Sl.set hv i (sl.mono e))
theorem s_ret (h : EvW K te ρ μ R μ1) (p : P.rt R μ1) : StW K (tRet te) ρ μ P := fun F D B H σ w sl r =>
  h F B H σ w sl _ fun v B2 H2 e w2 hv => r.rt R μ1 v B2 H2 p e w2 hv
theorem s_retN (p : P.rt (.d .none) μ) : StW K tRetN ρ μ P := fun F D B H σ w sl r => r.rt (.d .none) μ .non B H p (Same.refl _) w .non
theorem s_drop (h : EvW K te ρ μ R μ1) (p : P.nx ρ μ1) : StW K (tDrop te) ρ μ P := fun F D B H σ w sl r =>
  h F B H σ w sl _ fun v B2 H2 e w2 hv => r.nx _ _ B2 H2 _ p e w2 (sl.mono e)
theorem s_if {b : Bool} (h : EvT K t ρ μ b μ1) (h1 : b = true → StW K s1 ρ μ1 P) (h2 : b = false → StW K s2 ρ μ1 P) : StW K (tIfS t s1 s2) ρ μ P := fun F D B H σ w sl r =>
  h F B H σ w sl _ fun B2 H2 e w2 => by
    cases b with
    | true =>
      show s1 D σ H2
      exact h1 rfl F D B2 H2 σ w2 (sl.mono e) (r.mono e)
    | false =>
      show s2 D σ H2
      exact h2 rfl F D B2 H2 σ w2 (sl.mono e) (r.mono e)
theorem s_le {ρ' : AS} (l : Le ρ ρ') (h : StW K s ρ' μ P) : StW K s ρ μ P := fun F D B H σ w sl r => h F D B H σ w (sl.le l) r
theorem s_imp {P' : Po} (h : StW K s ρ μ P') (h1 : ∀ ρ μ, P'.nx ρ μ → P.nx ρ μ) (h2 : ∀ R μ, P'.rt R μ → P.rt R μ) (h3 : ∀ ρ μ, P'.bk ρ μ → P.bk ρ μ) (h4 : ∀ ρ μ, P'.ct ρ μ → P.ct ρ μ) : StW K s ρ μ P := fun F D B H σ w sl r =>
  h F D B H σ w sl ⟨fun ρ μ B2 H2 σ2 p => r.nx ρ μ B2 H2 σ2 (h1 _ _ p), fun R μ v B2 H2 p => r.rt R μ v B2 H2 (h2 _ _ p), fun ρ μ B2 H2 σ2 p => r.bk ρ μ B2 H2 σ2 (h3 _ _ p), fun ρ μ B2 H2 σ2 p => r.ct ρ μ B2 H2 σ2 (h4 _ _ p)⟩

/-! ### targets -/
def GtW (K : Fr) (g : TG) (a : AV) (ρ ρ2 : AS) : Prop := ∀ B H σ v, Same B H → a.h K v B → Sl K B σ ρ → ∀ Q : L2.St → Hp → Prop, (∀ σ2, Sl K B σ2 ρ2 → Q σ2 H) → g v σ H Q
theorem gw_name {i : Nat} : GtW K (gName i) R ρ (ρ.set i (some R)) := fun B H σ v e h sl Q q => q _ (Sl.set h i sl)
def GsW (K : Fr) (g : TGs) (ds : List PyData) (ρ ρ2 : AS) : Prop := ∀ B H σ vs, Same B H → DtAll K B vs ds → Sl K B σ ρ → ∀ Q : L2.St → Hp → Prop, (∀ σ2, Sl K B σ2 ρ2 → Q σ2 H) → g vs σ H Q
theorem gs_nil : GsW K gNil [] ρ ρ := fun B H σ vs e h sl Q q => by
  cases h
  exact ⟨rfl, q _ sl⟩
theorem gs_cons {gs : TGs} {d : PyData} {ds : List PyData} {ρ1 ρ2 : AS} (h1 : GtW K g (.d d) ρ ρ1) (h2 : GsW K gs ds ρ1 ρ2) : GsW K (gCons g gs) (d :: ds) ρ ρ2 := fun B H σ vs e h sl Q q => by
  cases h with
  | cons a b => exact ⟨_, _, rfl, h1 B H σ _ e a sl _ fun σ1 sl1 => h2 B H σ1 _ e b sl1 Q q⟩
theorem gw_tup {gs : TGs} {ds : List PyData} {n : Nat} {ρ2 : AS} (hn : ds.length = n) (h : GsW K gs ds ρ ρ2) : GtW K (gTup K n gs) (.d (.tuple ds)) ρ ρ2 := fun B H σ v e hv sl Q q => by
  cases (show Dt K B v (.tuple ds) from hv) with
  | tup h1 h0 h2 =>
    have hl : ∀ {vs : List V} {ds : List PyData}, DtAll K B vs ds → vs.length = ds.length := by
      intro vs ds h
      exact (AllH.of h).length.symm.trans (by simp)
    refine ⟨_, _, rfl, ?_, (hl h2).trans hn, h B H σ _ e h2 sl Q q⟩
    rcases h1 with (h | ⟨o, h⟩) | h
    · exact .inl (.inl (e _ _ h))
    · exact .inl (.inr ⟨o, e _ _ h⟩)
    · exact .inr h
theorem s_asgG {ρ2 : AS} (h : EvW K te ρ μ R μ1) (hg : GtW K g R ρ ρ2) (p : P.nx ρ2 μ1) : StW K (tAsg te g) ρ μ P := fun F D B H σ w sl r =>
  h F B H σ w sl _ fun v B2 H2 e w2 hv => hg B2 H2 σ v w2.1 hv (sl.mono e) _ fun σ2 sl2 => r.nx _ _ B2 H2 _ p e w2 sl2
/-- x, y = a, b -/
theorem s_par {i j : Nat} {ta : TA} (h : EvA K ta ρ μ [R1, R2] μ1) (p : P.nx ((ρ.set i (some R1)).set j (some R2)) μ1) : StW K (tPar i j ta) ρ μ P := fun F D B H σ w sl r =>
  h F B H σ w sl _ fun vs B2 H2 e w2 hv => by
    match vs, hv with
    | [v, x], hv => exact ⟨v, x, rfl, r.nx _ _ B2 H2 _ p e w2 (Sl.set hv.2.1 j (Sl.set hv.1 i (sl.mono e)))⟩
/-- an owned list's item is stored -/
theorem s_setL {l : Addr} {xs : List AV} {j : Nat} (h : EvW K te ρ μ R μ1) (ho : EvW K ta ρ μ1 (.r l) μ2) (hi : EvW K tb ρ μ2 (.i (j : Int)) μ3) (hl : μ3 l = some (.lst xs)) (hj : j < xs.length) (p : P.nx ρ (updM μ3 l (.lst (xs.set j R)))) :
    StW K (tAsg te (gSub ta tb rSetL)) ρ μ P := fun F D B H σ w sl r => h F B H σ w sl _ fun v B1 H1 e1 w1 h1 => ho F B1 H1 σ w1 (sl.mono e1) _ fun a B2 H2 e2 w2 h2 => hi F B2 H2 σ w2 (sl.mono (e1.trans e2)) _ fun iv B3 H3 e3 w3 h3 => by
  have ea : a = .ref l := h2
  have ei := h_i h3
  subst ea ei
  obtain ⟨_, _, u, hu, hx⟩ := w3.2.1 l _ hl
  obtain ⟨vs, rfl, hA⟩ := hx
  have hn : ixN vs.length (j : Int) = some j := by
    unfold ixN
    rw [if_pos (by omega), if_pos (by rw [← hA.length]; omega)]
    simp
  refine ⟨l, vs, (j : Int), j, rfl, rfl, hu, hn, ?_⟩
  have w4 : Wd K F B3 (updM μ3 l (.lst (xs.set j R))) (upd H3 l (.lst (vs.set j v))) := w3.set hl ⟨_, rfl, AllH.set (AV.mono (e2.trans e3) h1) j hA⟩
  exact r.nx _ _ B3 _ _ p ((e1.trans e2).trans e3) w4 (sl.mono ((e1.trans e2).trans e3))
/-- l.append(e), l owned -/
theorem s_app {l : Addr} {xs : List AV} (ha : EvW K ta ρ μ (.r l) μ1) (h : EvW K te ρ μ1 R μ2) (hl1 : ∃ xs1, μ1 l = some (.lst xs1)) (hl : μ2 l = some (.lst xs)) (hz : xs.length < 100000) (p : P.nx ρ (updM μ2 l (.lst (xs ++ [R])))) :
    StW K (tDrop (tBM K "list" rAppend ta (tCons te tNil))) ρ μ P := fun F D B H σ w sl r => ha F B H σ w sl _ fun a B1 H1 e1 w1 h1 => by
  have ea : a = .ref l := h1
  subst ea
  obtain ⟨xs1, q1⟩ := hl1
  obtain ⟨_, _, u1, hu1, vs1, rfl, hA1⟩ := w1.2.1 l _ q1
  refine ⟨.inl ⟨rfl, vs1, SqL.of hu1⟩, h F B1 H1 σ w1 (sl.mono e1) _ fun v B2 H2 e2 w2 h2 => ?_⟩
  obtain ⟨_, _, u, hu, vs, rfl, hA⟩ := w2.2.1 l _ hl
  refine ⟨l, vs, v, rfl, rfl, hu, Nat.lt_of_lt_of_le (by rw [← hA.length]; exact hz) (by decide : 100000 ≤ sizeLine), ?_⟩
  have w4 : Wd K F B2 (updM μ2 l (.lst (xs ++ [R]))) (upd H2 l (.lst (vs ++ [v]))) := w2.set hl ⟨_, rfl, AllH.app hA ⟨h2, trivial⟩⟩
  exact r.nx _ _ B2 _ _ p (e1.trans e2) w4 (sl.mono (e1.trans e2))

/-! ### displays -/
theorem ew_tup {ta : TA} {ds : List PyData} (h : EvA K ta ρ μ (ds.map .d) μ1) (hz : ds.length ≤ 100000) : EvW K (tTup ta) ρ μ (.d (.tuple ds)) μ1 := fun F B H σ w sl Q q =>
  h F B H σ w sl _ fun vs B2 H2 e w2 hv => ⟨by rw [← hv.length, List.length_map]; exact Nat.le_trans hz (by decide), fun p hp => by
    obtain ⟨w3, e3, e4⟩ := w2.new (o := .tup vs) hp
    exact q _ _ _ (e.trans e3) w3 (.tup (SqT.of e4) (fun _ _ _ => e4) (dpa_mono e3 (AllH.data hv)))⟩
theorem ew_lst {ta : TA} {ds : List PyData} (h : EvA K ta ρ μ (ds.map .d) μ1) (hz : ds.length ≤ 100000) : EvW K (tLst ta) ρ μ (.d (.list ds)) μ1 := fun F B H σ w sl Q q =>
  h F B H σ w sl _ fun vs B2 H2 e w2 hv => ⟨by rw [← hv.length, List.length_map]; exact Nat.le_trans hz (by decide), fun p hp => by
    obtain ⟨w3, e3, e4⟩ := w2.new (o := .lst vs) hp
    exact q _ _ _ (e.trans e3) w3 (.lst (SqL.of e4) (dpa_mono e3 (AllH.data hv)))⟩
/-- a new list that is owned -/
theorem s_own {i : Nat} {ta : TA} {Rs : List AV} (h : EvA K ta ρ μ Rs μ1) (hz : Rs.length ≤ 100000) (p : ∀ l, μ1 l = none → P.nx (ρ.set i (some (.r l))) (updM μ1 l (.lst Rs))) : StW K (tAsg (tLst ta) (gName i)) ρ μ P := fun F D B H σ w sl r =>
  h F B H σ w sl _ fun vs B2 H2 e w2 hv => ⟨by rw [← hv.length]; exact Nat.le_trans hz (by decide), fun l hp => by
    have hm : μ1 l = none := by
      cases q : μ1 l with
      | none => rfl
      | some o => obtain ⟨_, _, u, hu, _⟩ := w2.2.1 l o q; rw [hu] at hp; cases hp
    exact r.nx _ _ B2 _ _ (p l hm) e (w2.newM hp ⟨_, rfl, hv⟩) (Sl.set (R := .r l) (v := .ref l) (show V.ref l = V.ref l from rfl) i (sl.mono e))⟩
/-- a list handed back, owned from then on -/
theorem ew_lstR {ta : TA} {Rs : List AV} (h : EvA K ta ρ μ Rs μ1) (hz : Rs.length ≤ 100000) : ∀ F B H σ, Wd K F B μ H → Sl K B σ ρ → ∀ Q : VK, (∀ l B2 H2, Same B B2 → μ1 l = none → Wd K F B2 (updM μ1 l (.lst Rs)) H2 → Q (.ref l) H2) → tLst ta σ H Q := fun F B H σ w sl Q q =>
  h F B H σ w sl _ fun vs B2 H2 e w2 hv => ⟨by rw [← hv.length]; exact Nat.le_trans hz (by decide), fun l hp => by
    have hm : μ1 l = none := by
      cases q : μ1 l with
      | none => rfl
      | some o => obtain ⟨_, _, u, hu, _⟩ := w2.2.1 l o q; rw [hu] at hp; cases hp
    exact q l B2 _ e hm (w2.newM hp ⟨_, rfl, hv⟩)⟩

/-! ### loops -/
theorem s_while (Iv : Nat → AS → AM → Prop) (m : Nat) (h0 : Iv m ρ μ)
    (hs : ∀ m ρ' μ', Iv m ρ' μ' → ∃ b μ1, EvT K t ρ' μ' b μ1 ∧ (b = true → StW K s ρ' μ1 { P with nx := fun ρ2 μ2 => ∃ m', m' < m ∧ Iv m' ρ2 μ2, ct := fun ρ2 μ2 => ∃ m', m' < m ∧ Iv m' ρ2 μ2, bk := P.nx }) ∧ (b = false → P.nx ρ' μ1)) : StW K (tWhile t s) ρ μ P := fun F D B H σ w sl r => by
  refine ⟨fun m σ H => ∃ ρ' μ' B', Iv m ρ' μ' ∧ Same B B' ∧ Wd K F B' μ' H ∧ Sl K B' σ ρ', ⟨m, ρ, μ, B, h0, Same.refl _, w, sl⟩, ?_⟩
  rintro m σ H ⟨ρ', μ', B', iv, e, w, sl⟩
  obtain ⟨b, μ1, ht, h1, h2⟩ := hs m ρ' μ' iv
  refine ht F B' H σ w sl _ fun B2 H2 e2 w2 => ?_
  cases b with
  | true =>
    show ∃ N : L2.St → Hp → Prop, _
    refine ⟨fun σ' H' => ∃ m', m' < m ∧ ∃ ρ' μ' B', Iv m' ρ' μ' ∧ Same B B' ∧ Wd K F B' μ' H' ∧ Sl K B' σ' ρ', fun σ' H' q => q, ?_⟩
    refine h1 rfl F _ B2 H2 σ w2 (sl.mono e2) ⟨fun ρ3 μ3 B3 H3 σ3 ⟨m', l, iv'⟩ e3 w3 sl3 => ⟨m', l, ρ3, μ3, B3, iv', (e.trans e2).trans e3, w3, sl3⟩, fun R μ v B3 H3 p e3 => r.rt R μ v B3 H3 p ((e.trans e2).trans e3), fun ρ3 μ3 B3 H3 σ3 p e3 => r.nx ρ3 μ3 B3 H3 σ3 p ((e.trans e2).trans e3), fun ρ3 μ3 B3 H3 σ3 ⟨m', l, iv'⟩ e3 w3 sl3 => ⟨m', l, ρ3, μ3, B3, iv', (e.trans e2).trans e3, w3, sl3⟩⟩
  | false =>
    show D.nx σ H2
    exact r.nx ρ' μ1 B2 H2 σ (h2 rfl) (e.trans e2) w2 (sl.mono e2)
/-- what a for walks: xs, one after the other; each may come as a new object -/
structure JOk (K : Fr) (J : It) (xs : List AV) (B : Hp) : Prop where
  go : ∀ B2 H i, Same B B2 → Same B2 H → i < xs.length → J.go i H
  stop : ∀ B2 H, Same B B2 → Same B2 H → J.stop xs.length H
  yld : ∀ F B2 H μ i a x H', Same B B2 → Wd K F B2 μ H → xs[i]? = some a → J.yld i H x H' → ∃ B3, Same B2 B3 ∧ Wd K F B3 μ H' ∧ a.h K x B3
def ItW (K : Fr) (wi : TI) (ρ : AS) (μ : AM) (xs : List AV) (μ1 : AM) : Prop := ∀ F B H σ, Wd K F B μ H → Sl K B σ ρ → ∀ Rk : It → Hp → Prop, (∀ J B2 H2, Same B B2 → Wd K F B2 μ1 H2 → JOk K J xs B2 → Rk J H2) → wi σ H Rk
theorem s_for {wi : TI} {xs : List AV} (hi : ItW K wi ρ μ xs μ1) (Iv : Nat → AS → AM → Prop) (h0 : Iv 0 ρ μ1)
    (hs : ∀ i a ρ' μ', xs[i]? = some a → Iv i ρ' μ' → ∃ ρ2, GtW K g a ρ' ρ2 ∧ StW K s ρ2 μ' { P with nx := Iv (i + 1), ct := Iv (i + 1), bk := P.nx }) (hd : ∀ ρ' μ', Iv xs.length ρ' μ' → P.nx ρ' μ') : StW K (tFor wi g s) ρ μ P := fun F D B H σ w sl r =>
  hi F B H σ w sl _ fun J B1 H1 e1 w1 j => by
    refine ⟨fun i m σ H => m = xs.length - i ∧ i ≤ xs.length ∧ ∃ ρ' μ' B', Iv i ρ' μ' ∧ Same B1 B' ∧ Wd K F B' μ' H ∧ Sl K B' σ ρ', ⟨xs.length, by simp, Nat.zero_le _, ρ, μ1, B1, h0, Same.refl _, w1, sl.mono e1⟩, ?_⟩
    rintro i m σ H ⟨rfl, hil, ρ', μ', B', iv, e, w, sl'⟩
    by_cases hlt : i < xs.length
    · refine .inr ⟨j.go B' H i e w.1 hlt, fun σ' H' => ∃ ρ' μ' B', Iv (i + 1) ρ' μ' ∧ Same B1 B' ∧ Wd K F B' μ' H' ∧ Sl K B' σ' ρ', fun σ' H' q => ⟨xs.length - (i + 1), by omega, rfl, hlt, q⟩, fun x H' y => ?_⟩
      obtain ⟨B3, e3, w3, hx⟩ := j.yld F B' H μ' i xs[i] x H' e w (by simp [hlt]) y
      obtain ⟨ρ2, hg, hst⟩ := hs i xs[i] ρ' μ' (by simp [hlt]) iv
      refine hg B3 H' σ x w3.1 hx (sl'.mono e3) _ fun σ2 sl2 => ?_
      refine hst F _ B3 H' σ2 w3 sl2 ⟨fun ρ3 μ3 B4 H4 σ4 p e4 w4 sl4 => ⟨ρ3, μ3, B4, p, (e.trans e3).trans e4, w4, sl4⟩, fun R μ v B4 H4 p e4 => r.rt R μ v B4 H4 p (((e1.trans e).trans e3).trans e4), fun ρ3 μ3 B4 H4 σ4 p e4 => r.nx ρ3 μ3 B4 H4 σ4 p (((e1.trans e).trans e3).trans e4), fun ρ3 μ3 B4 H4 σ4 p e4 w4 sl4 => ⟨ρ3, μ3, B4, p, (e.trans e3).trans e4, w4, sl4⟩⟩
    · have ei : i = xs.length := by omega
      subst ei
      exact .inl ⟨j.stop B' H e w.1, r.nx ρ' μ' B' H σ (hd ρ' μ' iv) (e1.trans e) w sl'⟩
theorem jo_rng {lo : Int} {n : Nat} {B : Hp} : JOk K (Itr lo n) ((List.range n).map fun i => .i (lo + (i : Nat))) B where
  go _ _ i _ _ h := by
    show i < n
    simpa using h
  stop _ _ _ _ := by show n ≤ _; simp
  yld F B2 H μ i a x H' e w ha y := by
    obtain ⟨e1, e2⟩ := y
    subst e1 e2
    have hlt : i < n := by
      have := (List.getElem?_eq_some_iff.mp ha).1
      simpa using this
    rw [List.getElem?_map, List.getElem?_range hlt] at ha
    have ea : a = .i (lo + (i : Nat)) := (Option.some.inj ha).symm
    subst ea
    exact ⟨B2, Same.refl _, w, .int _⟩
theorem it_r1 {ta : TA} {n : Int} (h : EvA K ta ρ μ [.i n] μ1) (h1 : -(2 ^ 62) ≤ n) (h2 : n < 2 ^ 62) : ItW K (iRng1 ta) ρ μ ((List.range n.toNat).map fun (i : Nat) => .i (0 + (i : Int))) μ1 := fun F B H σ w sl Rk q =>
  h F B H σ w sl _ fun vs B2 H2 e w2 hv => by
    match vs, hv with
    | [v], hv =>
      have := h_i hv.1
      subst this
      exact ⟨n, rfl, h1, h2, q _ B2 H2 e w2 jo_rng⟩
theorem it_r2 {ta : TA} {m n : Int} (h : EvA K ta ρ μ [.i m, .i n] μ1) (h1 : -(2 ^ 62) ≤ m ∧ m < 2 ^ 62 ∧ -(2 ^ 62) ≤ n ∧ n < 2 ^ 62) : ItW K (iRng2 ta) ρ μ ((List.range (n - m).toNat).map fun (i : Nat) => .i (m + (i : Int))) μ1 := fun F B H σ w sl Rk q =>
  h F B H σ w sl _ fun vs B2 H2 e w2 hv => by
    match vs, hv with
    | [v, x], hv =>
      have := h_i hv.1
      have := h_i hv.2.1
      subst_vars
      exact ⟨m, n, rfl, h1, q _ B2 H2 e w2 jo_rng⟩
theorem it_l {ds : List PyData} (h : EvW K tl ρ μ (.d (.list ds)) μ1) : ItW K (iList K tl) ρ μ (ds.map .d) μ1 := fun F B H σ w sl Rk q =>
  h F B H σ w sl _ fun v B2 H2 e w2 hv => by
    cases (show Dt K B2 v (.list ds) from hv) with
    | @lst a vs _ h1 h2 =>
      refine ⟨a, rfl, ⟨vs, w2.1.seq h1⟩, q _ B2 H2 e w2 ⟨fun B3 H3 i e3 e4 hi => ?_, fun B3 H3 e3 e4 => ⟨vs, (e3.trans e4).seq h1, ?_⟩, fun F B3 H3 μ i b x H' e3 w3 hb y => ?_⟩⟩
      · rw [(AllH.of h2).length] at hi
        exact ⟨vs, vs[i], (e3.trans e4).seq h1, by simp [hi]⟩
      · rw [(AllH.of h2).length]
        exact Nat.le_refl _
      · obtain ⟨e5, y⟩ := y
        subst e5
        obtain ⟨v, hv1, hv2⟩ := (AllH.of h2).get hb
        have := y vs ((e3.trans w3.1).seq h1)
        rw [hv1] at this
        cases this
        exact ⟨B3, Same.refl _, w3, AV.mono e3 hv2⟩
theorem it_t {ds : List PyData} (h : EvW K tl ρ μ (.d (.tuple ds)) μ1) : ItW K (iTup K tl) ρ μ (ds.map .d) μ1 := fun F B H σ w sl Rk q =>
  h F B H σ w sl _ fun v B2 H2 e w2 hv => by
    cases (show Dt K B2 v (.tuple ds) from hv) with
    | @tup a vs _ h1 h0a h2 =>
      refine ⟨a, rfl, ⟨vs, seq_l w2.1 h1⟩, q _ B2 H2 e w2 ⟨fun B3 H3 i e3 e4 hi => ?_, fun B3 H3 e3 e4 => ⟨vs, seq_l (e3.trans e4) h1, ?_⟩, fun F B3 H3 μ i b x H' e3 w3 hb y => ?_⟩⟩
      · rw [(AllH.of h2).length] at hi
        exact ⟨vs, vs[i], seq_l (e3.trans e4) h1, by simp [hi]⟩
      · rw [(AllH.of h2).length]
        exact Nat.le_refl _
      · obtain ⟨e5, y⟩ := y
        subst e5
        obtain ⟨v, hv1, hv2⟩ := (AllH.of h2).get hb
        have := y vs (seq_l (e3.trans w3.1) h1)
        rw [hv1] at this
        cases this
        exact ⟨B3, Same.refl _, w3, AV.mono e3 hv2⟩

/-! ### comprehensions -/
theorem wipe_get {σ : L2.St} : ∀ (vs : List Nat) (i : Nat), (L2.wipe σ vs)[i]? = if i ∈ vs then (σ[i]?).map (fun _ => none) else σ[i]?
  | [], i => by simp [L2.wipe]
  | v :: vs, i => by
    unfold L2.wipe
    by_cases h : v = i
    · subst h
      rw [if_pos List.mem_cons_self]
      by_cases hl : v < (L2.wipe σ vs).length
      · rw [List.getElem?_set_self hl]
        rw [L2.wipe_length] at hl
        simp [hl]
      · rw [List.getElem?_eq_none (by simpa using hl)]
        rw [L2.wipe_length] at hl
        rw [List.getElem?_eq_none (by omega)]
        rfl
    · rw [List.getElem?_set_ne h, wipe_get vs i]
      by_cases hm : i ∈ vs
      · rw [if_pos hm, if_pos (List.mem_cons_of_mem _ hm)]
      · rw [if_neg hm, if_neg (by simp only [List.mem_cons, not_or]; exact ⟨fun e => h e.symm, hm⟩)]
theorem wipe_set {σ : L2.St} {vs : List Nat} {j : Nat} {s : Option V} (hj : j ∈ vs) : L2.wipe ((L2.wipe σ vs).set j s) vs = L2.wipe σ vs := by
  apply List.ext_getElem?
  intro i
  rw [wipe_get, wipe_get]
  by_cases hi : i ∈ vs
  · rw [if_pos hi, if_pos hi]
    by_cases e : j = i
    · subst e
      by_cases hl : j < (L2.wipe σ vs).length
      · rw [List.getElem?_set_self hl]
        rw [L2.wipe_length] at hl
        simp [hl]
      · rw [List.getElem?_eq_none (by simpa using hl)]
        rw [L2.wipe_length] at hl
        rw [List.getElem?_eq_none (by omega)]
    · rw [List.getElem?_set_ne e, wipe_get, if_pos hi, Option.map_map]
      rfl
  · rw [if_neg hi, if_neg hi, List.getElem?_set_ne (fun e : j = i => hi (by rw [← e]; exact hj)), wipe_get, if_neg hi]
/-- a target within a comprehension: names of vs alone are stored -/
def GcW (K : Fr) (g : TG) (vs : List Nat) (a : AV) (ρ ρ2 : AS) : Prop := ∀ B H σ v, Same B H → a.h K v B → Sl K B (L2.wipe σ vs) ρ → ∀ Q : L2.St → Hp → Prop, (∀ σ2, L2.wipe σ2 vs = L2.wipe σ vs → Sl K B σ2 ρ2 → Q σ2 H) → g v (L2.wipe σ vs) H Q
theorem gc_name {i : Nat} {vs : List Nat} (hi : i ∈ vs) : GcW K (gName i) vs R ρ (ρ.set i (some R)) := fun B H σ v e h sl Q q => q _ (wipe_set hi) (Sl.set h i sl)
theorem lc_run {wi : TI} {tt : TT} {vs : List Nat} {xs : List AV} (Mu : Nat → AM) (Ac : Nat → List PyData) (hi : ItW K wi ρ μ xs (Mu 0)) (hA : Ac 0 = [])
    (hs : ∀ i a, xs[i]? = some a → ∃ ρ2 b μ', GcW K g vs a (wipeA ρ vs) ρ2 ∧ EvT K tt ρ2 (Mu i) b μ' ∧ (b = true → ∃ d, EvW K te ρ2 μ' (.d d) (Mu (i + 1)) ∧ Ac (i + 1) = Ac i ++ [d]) ∧ (b = false → μ' = Mu (i + 1) ∧ Ac (i + 1) = Ac i)) (hz : xs.length ≤ 90000) :
    ∀ F B H σ, Wd K F B μ H → Sl K B σ ρ → ∀ Q : VK, (∀ Dl B2 H2 ys, Same B B2 → F Dl = none → Wd K (upd F Dl (.lst ys)) B2 (Mu xs.length) H2 → DtAll K B2 ys (Ac xs.length) → Q (.ref Dl) H2) → tLc wi g tt te vs σ H Q := fun F B H σ w sl Q q =>
  hi F B H σ w sl _ fun J B1 H1 e1 w1 j => fun Dl hD => by
    have hF0 : F Dl = none := by
      cases hF : F Dl with
      | none => rfl
      | some u => rw [(w1.2.2 Dl u hF).2] at hD; cases hD
    have hlen : ∀ i, i ≤ xs.length → (Ac i).length ≤ i := by
      intro i
      induction i with
      | zero => intro _; rw [hA]; exact Nat.le_refl _
      | succ i ih =>
        intro h
        obtain ⟨ρ2, b, μ', _, _, h1, h2⟩ := hs i xs[i] (by simp)
        cases b with
        | true =>
          obtain ⟨d, _, e⟩ := h1 rfl
          rw [e, List.length_append]
          have := ih (by omega)
          simp
          omega
        | false =>
          rw [(h2 rfl).2]
          have := ih (by omega)
          omega
    refine ⟨fun i m H => m = xs.length - i ∧ i ≤ xs.length ∧ ∃ B' ys, Same B1 B' ∧ Wd K (upd F Dl (.lst ys)) B' (Mu i) H ∧ DtAll K B' ys (Ac i), ⟨xs.length, by simp, Nat.zero_le _, B1, [], Same.refl _, w1.newF hD, by rw [hA]; exact .nil⟩, ?_⟩
    rintro i m H ⟨rfl, hil, B', ys, e, w, hys⟩
    by_cases hlt : i < xs.length
    · refine .inr ⟨j.go B' H i e w.1 hlt, fun H' => ∃ B' ys, Same B1 B' ∧ Wd K (upd F Dl (.lst ys)) B' (Mu (i + 1)) H' ∧ DtAll K B' ys (Ac (i + 1)), fun H' q => ⟨xs.length - (i + 1), by omega, rfl, hlt, q⟩, fun x H' y => ?_⟩
      obtain ⟨B3, e3, w3, hx⟩ := j.yld _ B' H (Mu i) i xs[i] x H' e w (by simp [hlt]) y
      obtain ⟨ρ2, b, μ', hg, ht, h1, h2⟩ := hs i xs[i] (by simp [hlt])
      refine hg B3 H' σ x w3.1 hx ((sl.wipe vs).mono ((e1.trans e).trans e3)) _ fun σ2 hw sl2 => ⟨hw, ?_⟩
      refine ht _ B3 H' σ2 w3 sl2 _ fun B4 H4 e4 w4 => ?_
      cases b with
      | true =>
        show te σ2 H4 _
        obtain ⟨d, hd, hac⟩ := h1 rfl
        refine hd _ B4 H4 σ2 w4 (sl2.mono e4) _ fun v B5 H5 e5 w5 h5 => ⟨ys, (w5.2.2 Dl _ upd_same).2, ?_, B5, ys ++ [v], ((((e.trans e3).trans e4).trans e5)), ?_, ?_⟩
        · have l1 := (AllH.of hys).length
          rw [List.length_map] at l1
          have l2 := hlen i (by omega)
          exact Nat.lt_of_lt_of_le (by omega : ys.length < 100000) (by decide : 100000 ≤ sizeLine)
        · have := w5.setF (o := .lst (ys ++ [v])) upd_same
          rw [upd_upd] at this
          exact this
        · rw [hac]
          have a1 : AllH K B5 ((Ac i).map .d) ys := AllH.of (dpa_mono ((e3.trans e4).trans e5) hys)
          have a2 : AllH K B5 ([d].map .d) [v] := ⟨h5, trivial⟩
          have := a1.app a2
          rw [← List.map_append] at this
          exact AllH.data this
      | false =>
        obtain ⟨hm', hac⟩ := h2 rfl
        show ∃ B' ys, _
        rw [← hm', hac]
        exact ⟨B4, ys, (e.trans e3).trans e4, w4, dpa_mono (e3.trans e4) hys⟩
    · have ei : i = xs.length := by omega
      subst ei
      exact .inl ⟨j.stop B' H e w.1, q _ _ H ys (e1.trans e) hF0 w hys⟩
theorem ew_lc {wi : TI} {tt : TT} {vs : List Nat} {xs : List AV} (Mu : Nat → AM) (Ac : Nat → List PyData) (hi : ItW K wi ρ μ xs (Mu 0)) (hA : Ac 0 = [])
    (hs : ∀ i a, xs[i]? = some a → ∃ ρ2 b μ', GcW K g vs a (wipeA ρ vs) ρ2 ∧ EvT K tt ρ2 (Mu i) b μ' ∧ (b = true → ∃ d, EvW K te ρ2 μ' (.d d) (Mu (i + 1)) ∧ Ac (i + 1) = Ac i ++ [d]) ∧ (b = false → μ' = Mu (i + 1) ∧ Ac (i + 1) = Ac i)) (hz : xs.length ≤ 90000) (hm : Mu xs.length = μ1) :
    EvW K (tLc wi g tt te vs) ρ μ (.d (.list (Ac xs.length))) μ1 := fun F B H σ w sl Q q => lc_run Mu Ac hi hA hs hz F B H σ w sl Q fun Dl B2 H2 ys e hF w2 hys => by
  obtain ⟨w5, e5, e6⟩ := w2.freezeF hF
  rw [hm] at w5
  exact q _ _ H2 (e.trans e5) w5 (.lst (SqL.of e6) (dpa_mono e5 hys))
theorem Wd.unF {F0 F B H : Hp} {l : Addr} {u : HO} {ao : AO} (w : Wd K (upd F l u) B μ H) (h0 : F l = none) (ho : ao.h K u B) : μ l = none ∧ Wd K F B (updM μ l ao) H := by
  have hm : μ l = none := by
    cases q : μ l with
    | none => rfl
    | some o =>
      have := (w.2.1 l o q).2.1
      rw [upd_same] at this
      cases this
  obtain ⟨hb, hh⟩ := w.2.2 l u upd_same
  refine ⟨hm, w.1, fun a o e => ?_, fun a x e => ?_⟩
  · by_cases h : a = l
    · subst h
      rw [updM_same] at e
      cases e
      exact ⟨hb, h0, u, hh, ho⟩
    · rw [updM_ne h] at e
      obtain ⟨q1, q0, u', q2, q3⟩ := w.2.1 a o e
      rw [upd_ne h] at q0
      exact ⟨q1, q0, u', q2, q3⟩
  · have h : a ≠ l := fun q => by rw [q, h0] at e; cases e
    obtain ⟨e1, e2⟩ := w.2.2 a x (by rw [upd_ne h]; exact e)
    exact ⟨e1, e2⟩
/-- x = [..], the new list owned -/
theorem s_lcOwn {P : Po} {j : Nat} {wi : TI} {tt : TT} {vs : List Nat} {xs : List AV} (Mu : Nat → AM) (Ac : Nat → List PyData) (hi : ItW K wi ρ μ xs (Mu 0)) (hA : Ac 0 = [])
    (hs : ∀ i a, xs[i]? = some a → ∃ ρ2 b μ', GcW K g vs a (wipeA ρ vs) ρ2 ∧ EvT K tt ρ2 (Mu i) b μ' ∧ (b = true → ∃ d, EvW K te ρ2 μ' (.d d) (Mu (i + 1)) ∧ Ac (i + 1) = Ac i ++ [d]) ∧ (b = false → μ' = Mu (i + 1) ∧ Ac (i + 1) = Ac i)) (hz : xs.length ≤ 90000)
    (p : ∀ l, Mu xs.length l = none → P.nx (ρ.set j (some (.r l))) (updM (Mu xs.length) l (.lst ((Ac xs.length).map .d)))) : StW K (tAsg (tLc wi g tt te vs) (gName j)) ρ μ P := fun F D B H σ w sl r =>
  lc_run Mu Ac hi hA hs hz F B H σ w sl _ fun Dl B2 H2 ys e hF w2 hys => by
    obtain ⟨hm, w5⟩ := Wd.unF (F0 := F) (ao := .lst ((Ac xs.length).map .d)) w2 hF ⟨ys, rfl, AllH.of hys⟩
    exact r.nx _ _ B2 H2 _ (p Dl hm) e w5 (Sl.set (R := .r Dl) (v := .ref Dl) (show V.ref Dl = V.ref Dl from rfl) j (sl.mono e))
end
end Lw

set_option Elab.async false
set_option linter.all false
set_option maxRecDepth 100000
set_option maxHeartbeats 2000000
namespace Lw
open PySem PySem.Spec PyProof.Rows L2

/-! ### more operators of the layer -/
section
variable {X : Cx}
def CPowX (i j : Int) : Prop := 0 ≤ j ∧ (Builtin.Int.intBits i : Int) * j ≤ 2 ^ 27
theorem op_powX : OpR X (binaryOp .Pow) (rI CPowX fun i j => .int (i ^ j.toNat)) := opI fun _ _ _ _ _ _ _ hc q => pow_int hc.1 hc.2 q
def rInU (K : Fr) : R2 := fun x y H Q => ∃ d ds, Dp K H x d ∧ Dp K H y (.tuple ds) ∧ SeqAt.shaped d = true ∧ SeqAt.shaped (.tuple ds) = true ∧ Q (.bl (ds.any fun z => PyData.eqv z d)) H
def rNotInU (K : Fr) : R2 := fun x y H Q => ∃ d ds, Dp K H x d ∧ Dp K H y (.tuple ds) ∧ SeqAt.shaped d = true ∧ SeqAt.shaped (.tuple ds) = true ∧ Q (.bl (!ds.any fun z => PyData.eqv z d)) H
theorem lay_tup {ds : List PyData} (h : SeqAt.shaped (.tuple ds) = true) : PyData.canLayAll0 ds = true := by
  have := SeqAt.canLay_of_shaped h
  simpa [PyData.canLay0] using this
theorem op_inU (hu : X.A.units + 65 < cLine) : OpR X (compareOp .In) (rInU X.K) := fun pins s σ H x y v u Q I rx ry h => by
  obtain ⟨d, ds, hd, he, sd, se, q⟩ := h
  obtain ⟨as, r1⟩ := Dp.reads I d x v hd rx
  obtain ⟨bs, r2⟩ := Dp.reads I (.tuple ds) y u he ry
  exact SeqAt.in_tuple_reads r2 r1 (lay_tup se) (SeqAt.canLay_of_shaped sd) (room_in_shaped sd hu) ⟨.bl _, H, I, rfl, q⟩
theorem op_notInU (hu : X.A.units + 65 < cLine) : OpR X (compareOp .NotIn) (rNotInU X.K) := fun pins s σ H x y v u Q I rx ry h => by
  obtain ⟨d, ds, hd, he, sd, se, q⟩ := h
  obtain ⟨as, r1⟩ := Dp.reads I d x v hd rx
  obtain ⟨bs, r2⟩ := Dp.reads I (.tuple ds) y u he ry
  exact SeqAt.notIn_tuple_reads r2 r1 (lay_tup se) (SeqAt.canLay_of_shaped sd) (room_in_shaped sd hu) ⟨.bl _, H, I, rfl, q⟩
/-- repr of data -/
def rRepr (K : Fr) : List V → Hp → VK → Prop := fun xs H Q => ∃ a d, xs = [.ref a] ∧ Dp K H (.ref a) d ∧ SeqAt.shaped d = true ∧ d.showable = true ∧ d.shown.length ≤ sizeLine ∧ Q (.str d.shown) H
theorem call_reprD (hu : X.A.units + 66 < cLine) (hg : X.A.guards = some []) : CallR X (.builtin "repr") (rRepr X.K) := fun pins s σ H xs us Q I r h => by
  obtain ⟨a, d, rfl, hd, sd, sh, hz, q⟩ := h
  obtain ⟨u, rfl, ru⟩ := vals1 r
  obtain ⟨as, r1⟩ := Dp.reads I d (.ref a) u hd ru
  have eu : u = .ref a := ru
  subst eu
  have nd : d.hasDict = false := PyData.hasDict_of_canLay d (SeqAt.canLay_of_shaped sd)
  have dd := SeqAt.depth_of_shaped sd
  exact repr_of_reads' r1 sh (PyData.noDict_hsm nd) hg (by omega) (fun _ _ e => e) (fun h' u tk k => ⟨.str _, H, I.kept k, ⟨_, rfl⟩, q⟩) hz
end

/-! ### the same, over data -/
section
variable {K : Fr} {ρ : AS} {μ μ1 μ2 μ3 : AM} {ta tb te tl : TE} {t u : TT} {R R1 R2 : AV} {d e : PyData} {ds es : List PyData} {i j : Int}
theorem dpa_length {B : Hp} {vs : List V} {ds : List PyData} (h : DtAll K B vs ds) : vs.length = ds.length := (AllH.of h).length.symm.trans (by simp)
theorem dpa_get {B : Hp} : ∀ {vs : List V} {ds : List PyData} {i : Nat} {d : PyData}, DtAll K B vs ds → ds[i]? = some d → ∃ v, vs[i]? = some v ∧ Dt K B v d
  | _, _, 0, _, .cons h _, e => ⟨_, rfl, by cases e; exact h⟩
  | _, _, i + 1, _, .cons _ h, e => dpa_get (i := i) h e
  | _, _, _, _, .nil, e => by simp at e
theorem dpa_take {B : Hp} : ∀ {vs : List V} {ds : List PyData} (n : Nat), DtAll K B vs ds → DtAll K B (vs.take n) (ds.take n)
  | _, _, 0, _ => .nil
  | _, _, _ + 1, .nil => .nil
  | _, _, n + 1, .cons h h2 => .cons h (dpa_take n h2)
theorem dpa_drop {B : Hp} : ∀ {vs : List V} {ds : List PyData} (n : Nat), DtAll K B vs ds → DtAll K B (vs.drop n) (ds.drop n)
  | _, _, 0, h => h
  | _, _, _ + 1, .nil => .nil
  | _, _, n + 1, .cons _ h2 => dpa_drop n h2
theorem dpa_app {B : Hp} : ∀ {vs ws : List V} {ds es : List PyData}, DtAll K B vs ds → DtAll K B ws es → DtAll K B (vs ++ ws) (ds ++ es)
  | _, _, _, _, .nil, k => k
  | _, _, _, _, .cons h h2, k => .cons h (dpa_app h2 k)
theorem dpa_rev {B : Hp} : ∀ {vs : List V} {ds : List PyData}, DtAll K B vs ds → DtAll K B vs.reverse ds.reverse
  | _, _, .nil => .nil
  | _, _, .cons h h2 => by
    rw [List.reverse_cons, List.reverse_cons]
    exact dpa_app (dpa_rev h2) (.cons h .nil)
theorem o_mod (h : 0 < j) : Op2 K (rI (fun _ j => 0 < j) fun i j => .int (i % j)) (.i i) (.i j) μ (.i (i % j)) μ := o_I h
theorem o_div (h : CDivW i j) : Op2 K (rI CDivW fun i j => .int (i / j)) (.i i) (.i j) μ (.i (i / j)) μ := o_I h
theorem o_mul (h : CMulW i j) : Op2 K (rI CMulW fun i j => .int (i * j)) (.i i) (.i j) μ (.i (i * j)) μ := o_I h
theorem o_pow {n : Nat} (h : CPowX i (n : Int)) : Op2 K (rI CPowX fun i j => .int (i ^ j.toNat)) (.i i) (.i (n : Int)) μ (.i (i ^ n)) μ := o_I (g := fun i j => i ^ j.toNat) h
theorem o_inU (h1 : SeqAt.shaped d = true) (h2 : SeqAt.shaped (.tuple ds) = true) : Op2 K (rInU K) (.d d) (.d (.tuple ds)) μ (.b (ds.any fun z => PyData.eqv z d)) μ := fun F B H x y w r1 r2 Q q =>
  ⟨d, ds, (dp_mono w.1 r1).dp, (dp_mono w.1 r2).dp, h1, h2, q _ B H (Same.refl _) w (.bl _)⟩
theorem o_notInU (h1 : SeqAt.shaped d = true) (h2 : SeqAt.shaped (.tuple ds) = true) : Op2 K (rNotInU K) (.d d) (.d (.tuple ds)) μ (.b (!ds.any fun z => PyData.eqv z d)) μ := fun F B H x y w r1 r2 Q q =>
  ⟨d, ds, (dp_mono w.1 r1).dp, (dp_mono w.1 r2).dp, h1, h2, q _ B H (Same.refl _) w (.bl _)⟩
theorem n_repr (hd : d = .list ds ∨ d = .tuple ds) (h1 : SeqAt.shaped d = true) (h2 : d.showable = true) (h3 : d.shown.length ≤ sizeLine) : OpN K (rRepr K) [.d d] μ (.s d.shown) μ := fun F B H xs w hx Q q => by
  match xs, hx with
  | [v], hx =>
    have hv : Dt K B v d := hx.1
    have : ∃ a, v = .ref a := by
      rcases hd with rfl | rfl <;> cases hv <;> exact ⟨_, rfl⟩
    obtain ⟨a, rfl⟩ := this
    exact ⟨a, d, rfl, (dp_mono w.1 hv).dp, h1, h2, h3, q _ B H (Same.refl _) w (.str _)⟩
theorem ixN_at {n k : Nat} (hk : k < n) : ixN n (k : Int) = some k := by
  unfold ixN
  rw [if_pos (by omega), if_pos (by omega)]
  simp
/-- an item of a tuple, of a list: data -/
theorem o_ixT {k : Nat} (h : ds[k]? = some d) : Op2 K (rIxT K) (.d (.tuple ds)) (.i (k : Int)) μ (.d d) μ := fun F B H x y w r1 r2 Q q => by
  have := h_i r2
  subst this
  cases (show Dt K B x (.tuple ds) from r1) with
  | @tup a vs _ h1 h0a h2 =>
    obtain ⟨v, hv, hd⟩ := dpa_get h2 h
    refine ⟨a, vs, (k : Int), v, rfl, rfl, seq_l w.1 h1, ?_, q _ B H (Same.refl _) w hd⟩
    unfold atI
    rw [ixN_at (List.getElem?_eq_some_iff.mp hv).1]
    exact hv
theorem o_ixL {k : Nat} (h : ds[k]? = some d) : Op2 K (rIxL K) (.d (.list ds)) (.i (k : Int)) μ (.d d) μ := fun F B H x y w r1 r2 Q q => by
  have := h_i r2
  subst this
  cases (show Dt K B x (.list ds) from r1) with
  | @lst a vs _ h1 h2 =>
    obtain ⟨v, hv, hd⟩ := dpa_get h2 h
    refine ⟨a, vs, (k : Int), v, rfl, rfl, w.1.seq h1, ?_, q _ B H (Same.refl _) w hd⟩
    unfold atI
    rw [ixN_at (List.getElem?_eq_some_iff.mp hv).1]
    exact hv
/-- an item of an owned list -/
theorem o_ixO {k : Nat} {l : Addr} {xs : List AV} (hl : μ l = some (.lst xs)) (h : xs[k]? = some R) : Op2 K (rIxL K) (.r l) (.i (k : Int)) μ R μ := fun F B H x y w r1 r2 Q q => by
  have := h_i r2
  have e1 : x = .ref l := r1
  subst this e1
  obtain ⟨_, _, u, hu, vs, rfl, hA⟩ := w.2.1 l _ hl
  obtain ⟨v, hv, hd⟩ := hA.get h
  refine ⟨l, vs, (k : Int), v, rfl, rfl, SqL.of hu, ?_, q _ B H (Same.refl _) w hd⟩
  unfold atI
  rw [ixN_at (List.getElem?_eq_some_iff.mp hv).1]
  exact hv
/-- tuple + tuple -/
theorem o_catU (hz : ds.length + es.length ≤ 100000) : Op2 K (rCatA K) (.d (.tuple ds)) (.d (.tuple es)) μ (.d (.tuple (ds ++ es))) μ := fun F B H x y w r1 r2 Q q => by
  cases (show Dt K B x (.tuple ds) from r1) with
  | @tup a vs _ h1 h0a h2 =>
    cases (show Dt K B y (.tuple es) from r2) with
    | @tup b ws _ k1 h0b k2 =>
      refine ⟨a, b, vs, ws, rfl, rfl, seq_l w.1 h1, seq_l w.1 k1, ?_, fun e => ?_, fun _ e => ?_, fun _ _ p hp => ?_⟩
      · rw [dpa_length h2, dpa_length k2]
        exact Nat.le_trans hz (by decide)
      · subst e
        cases h2
        exact q _ B H (Same.refl _) w (.tup k1 h0b k2)
      · subst e
        cases k2
        refine q _ B H (Same.refl _) w ?_
        rw [List.append_nil]
        exact .tup h1 h0a h2
      · obtain ⟨w3, e3, e4⟩ := w.new (o := .tup (vs ++ ws)) hp
        exact q _ _ _ e3 w3 (.tup (SqT.of e4) (fun _ _ _ => e4) (dpa_mono e3 (dpa_app h2 k2)))
end
/-- a list of one's own: tracked, so that + of lists takes it -/
def trkP (ds : List PyData) : Pr := ⟨fun K v B => ∃ a vs, v = .ref a ∧ B a = some (.lst vs) ∧ DtAll K B vs ds, fun e ⟨a, vs, h1, h2, h3⟩ => ⟨a, vs, h1, e _ _ h2, dpa_mono e h3⟩⟩
abbrev AV.t (ds : List PyData) : AV := .x (trkP ds)
section
variable {K : Fr} {ρ : AS} {μ μ1 μ2 μ3 : AM} {ta tb te tl : TE} {t u : TT} {R R1 R2 : AV} {d e : PyData} {ds es : List PyData} {i j : Int}
theorem ew_trk (h : EvW K te ρ μ (.t ds) μ1) : EvW K te ρ μ (.d (.list ds)) μ1 := fun F B H σ w sl Q q => h F B H σ w sl Q fun v B2 H2 e w2 hv => by
  obtain ⟨a, vs, rfl, h2, h3⟩ := hv
  exact q _ B2 H2 e w2 (.lst (SqL.of h2) h3)
theorem ew_lstT {ta : TA} (h : EvA K ta ρ μ (ds.map .d) μ1) (hz : ds.length ≤ 100000) : EvW K (tLst ta) ρ μ (.t ds) μ1 := fun F B H σ w sl Q q =>
  h F B H σ w sl _ fun vs B2 H2 e w2 hv => ⟨by rw [← hv.length, List.length_map]; exact Nat.le_trans hz (by decide), fun p hp => by
    obtain ⟨w3, e3, e4⟩ := w2.new (o := .lst vs) hp
    exact q _ _ _ (e.trans e3) w3 ⟨p, vs, rfl, e4, dpa_mono e3 (AllH.data hv)⟩⟩
theorem o_cat (hz : ds.length + es.length ≤ 100000) : Op2 K rCat (.t ds) (.t es) μ (.t (ds ++ es)) μ := fun F B H x y w r1 r2 Q q => by
  obtain ⟨a, vs, rfl, h2, h3⟩ := r1
  obtain ⟨b, ws, rfl, k2, k3⟩ := r2
  refine ⟨a, b, vs, ws, rfl, rfl, w.1 _ _ h2, w.1 _ _ k2, ?_, fun p hp => ?_⟩
  · rw [dpa_length h3, dpa_length k3]
    exact Nat.le_trans hz (by decide)
  · obtain ⟨w3, e3, e4⟩ := w.new (o := .lst (vs ++ ws)) hp
    exact q _ _ _ e3 w3 ⟨p, _, rfl, e4, dpa_mono e3 (dpa_app h3 k3)⟩

/-! ### built-in functions -/
theorem n_len : OpN K (fun xs H Q => ∃ p ys, xs = [.ref p] ∧ (SqL K H p ys ∨ SqT K H p ys) ∧ Q (.int ys.length) H) [.d (.tuple ds)] μ (.i ds.length) μ := fun F B H xs w hx Q q => by
  match xs, hx with
  | [v], hx =>
    cases (show Dt K B v (.tuple ds) from hx.1) with
    | @tup a vs _ h1 h0a h2 => exact ⟨a, vs, rfl, .inr (seq_l w.1 h1), q _ B H (Same.refl _) w (by rw [dpa_length h2]; exact .int _)⟩
theorem n_lenL : OpN K (fun xs H Q => ∃ p ys, xs = [.ref p] ∧ (SqL K H p ys ∨ SqT K H p ys) ∧ Q (.int ys.length) H) [.d (.list ds)] μ (.i ds.length) μ := fun F B H xs w hx Q q => by
  match xs, hx with
  | [v], hx =>
    cases (show Dt K B v (.list ds) from hx.1) with
    | @lst a vs _ h1 h2 => exact ⟨a, vs, rfl, .inl (w.1.seq h1), q _ B H (Same.refl _) w (by rw [dpa_length h2]; exact .int _)⟩
theorem n_lenO {l : Addr} {ys : List AV} (hl : μ l = some (.lst ys)) : OpN K (fun xs H Q => ∃ p ys, xs = [.ref p] ∧ (SqL K H p ys ∨ SqT K H p ys) ∧ Q (.int ys.length) H) [.r l] μ (.i ys.length) μ := fun F B H xs w hx Q q => by
  match xs, hx with
  | [v], hx =>
    have e1 : v = .ref l := hx.1
    subst e1
    obtain ⟨_, _, u, hu, vs, rfl, hA⟩ := w.2.1 l _ hl
    exact ⟨l, vs, rfl, .inl (SqL.of hu), q _ B H (Same.refl _) w (by rw [hA.length]; exact .int _)⟩
theorem n_max2 : OpN K (fun xs H Q => ∃ i j, xs = [.int i, .int j] ∧ Q (.int (if j > i then j else i)) H) [.i i, .i j] μ (.i (max i j)) μ := fun F B H xs w hx Q q => by
  match xs, hx with
  | [v, x], hx =>
    have e1 := h_i hx.1
    have e2 := h_i hx.2.1
    subst e1 e2
    refine ⟨i, j, rfl, ?_⟩
    have : (if j > i then j else i) = max i j := by split <;> omega
    rw [this]
    exact q _ B H (Same.refl _) w (.int _)
theorem n_min2 : OpN K (fun xs H Q => ∃ i j, xs = [.int i, .int j] ∧ Q (.int (if j < i then j else i)) H) [.i i, .i j] μ (.i (min i j)) μ := fun F B H xs w hx Q q => by
  match xs, hx with
  | [v, x], hx =>
    have e1 := h_i hx.1
    have e2 := h_i hx.2.1
    subst e1 e2
    refine ⟨i, j, rfl, ?_⟩
    have : (if j < i then j else i) = min i j := by split <;> omega
    rw [this]
    exact q _ B H (Same.refl _) w (.int _)
theorem n_intB {b : Bool} : OpN K (fun xs H Q => (∃ i, xs = [.int i] ∧ Q (.int i) H) ∨ ∃ k, xs = [.bl k] ∧ Q (.int (if k then 1 else 0)) H) [.b b] μ (.i (if b then 1 else 0)) μ := fun F B H xs w hx Q q => by
  match xs, hx with
  | [v], hx =>
    have e1 := h_b hx.1
    subst e1
    exact .inr ⟨b, rfl, q _ B H (Same.refl _) w (.int _)⟩
theorem n_tupL : OpN K (fun xs H Q => ∃ p ys, xs = [.ref p] ∧ ((SqL K H p ys ∧ ∀ l, H l = none → Q (.ref l) (upd H l (.tup ys))) ∨ (SqT K H p ys ∧ Q (.ref p) H))) [.d (.list ds)] μ (.d (.tuple ds)) μ := fun F B H xs w hx Q q => by
  match xs, hx with
  | [v], hx =>
    cases (show Dt K B v (.list ds) from hx.1) with
    | @lst a vs _ h1 h2 =>
      refine ⟨a, vs, rfl, .inl ⟨w.1.seq h1, fun p hp => ?_⟩⟩
      obtain ⟨w3, e3, e4⟩ := w.new (o := .tup vs) hp
      exact q _ _ _ e3 w3 (.tup (SqT.of e4) (fun _ _ _ => e4) (dpa_mono e3 h2))
/-- tuple(l), l owned -/
theorem n_tupO {l : Addr} (hl : μ l = some (.lst (ds.map .d))) : OpN K (fun xs H Q => ∃ p ys, xs = [.ref p] ∧ ((SqL K H p ys ∧ ∀ l, H l = none → Q (.ref l) (upd H l (.tup ys))) ∨ (SqT K H p ys ∧ Q (.ref p) H))) [.r l] μ (.d (.tuple ds)) μ := fun F B H xs w hx Q q => by
  match xs, hx with
  | [v], hx =>
    have e1 : v = .ref l := hx.1
    subst e1
    obtain ⟨_, _, u, hu, vs, rfl, hA⟩ := w.2.1 l _ hl
    refine ⟨l, vs, rfl, .inl ⟨SqL.of hu, fun p hp => ?_⟩⟩
    obtain ⟨w3, e3, e4⟩ := w.new (o := .tup vs) hp
    exact q _ _ _ e3 w3 (.tup (SqT.of e4) (fun _ _ _ => e4) (dpa_mono e3 (AllH.data hA)))
theorem n_all {bs : List Bool} : OpN K (rAll K) [.d (.list (bs.map .bool))] μ (.b (bs.all id)) μ := fun F B H xs w hx Q q => by
  match xs, hx with
  | [v], hx =>
    cases (show Dt K B v (.list (bs.map .bool)) from hx.1) with
    | @lst a vs _ h1 h2 =>
      have : ∀ (bs : List Bool) (vs : List V), DtAll K B vs (bs.map .bool) → vs = bs.map V.bl := by
        intro bs
        induction bs with
        | nil => intro vs h; cases h; rfl
        | cons b bs ih =>
          intro vs h
          cases h with
          | cons h1 h2 =>
            cases h1
            rw [ih _ h2]
            rfl
      have e := this bs vs h2
      subst e
      exact ⟨a, bs, rfl, w.1.seq h1, q _ B H (Same.refl _) w (.bl _)⟩

/-! ### slices -/
def EvO (K : Fr) (to : TO) (ρ : AS) (μ : AM) (o : Option Int) (μ' : AM) : Prop := ∀ F B H σ, Wd K F B μ H → Sl K B σ ρ → ∀ Q : Option Int → Hp → Prop, (∀ B2 H2, Same B B2 → Wd K F B2 μ' H2 → Q o H2) → to σ H Q
theorem eo_none : EvO K tNoPart ρ μ none μ := fun F B H σ w s Q q => q B H (Same.refl _) w
theorem eo_some (h : EvW K te ρ μ (.i i) μ1) : EvO K (tPart te) ρ μ (some i) μ1 := fun F B H σ w s Q q => h F B H σ w s _ fun v B2 H2 e w2 hv => ⟨i, h_i hv, q B2 H2 e w2⟩
theorem dpa_cut {B : Hp} {vs : List V} {ds : List PyData} {lo hi : Option Int} (h : DtAll K B vs ds) : DtAll K B (cutV vs lo hi) ((ds.drop (HT.sIx ds.length 0 lo)).take (HT.sIx ds.length ds.length hi - HT.sIx ds.length 0 lo)) := by
  unfold cutV
  rw [dpa_length h]
  exact dpa_take _ (dpa_drop _ h)
abbrev cutD (ds : List PyData) (lo hi : Option Int) : List PyData := (ds.drop (HT.sIx ds.length 0 lo)).take (HT.sIx ds.length ds.length hi - HT.sIx ds.length 0 lo)
theorem ew_slT {tlo thi : TO} {lo hi : Option Int} (h : EvW K te ρ μ (.d (.tuple ds)) μ1) (h1 : EvO K tlo ρ μ1 lo μ2) (h2 : EvO K thi ρ μ2 hi μ3) : EvW K (tSl (rSlA K) te tlo thi) ρ μ (.d (.tuple (cutD ds lo hi))) μ3 := fun F B H σ w s Q q =>
  h F B H σ w s _ fun v B1 H1 e1 w1 hv => h1 F B1 H1 σ w1 (s.mono e1) _ fun B2 H2 e2 w2 => h2 F B2 H2 σ w2 (s.mono (e1.trans e2)) _ fun B3 H3 e3 w3 => by
    cases (show Dt K B1 v (.tuple ds) from hv) with
    | @tup a vs _ k1 h0a k2 =>
      have k2' := dpa_mono (e2.trans e3) k2
      refine ⟨a, vs, rfl, seq_l w3.1 (seq_l (e2.trans e3) k1), fun hc => ?_, fun _ p hp => ?_⟩
      · have hcut : cutD ds lo hi = ds := by
          have el := dpa_length k2
          rw [el] at hc
          unfold cutD
          rw [hc.1, hc.2]
          simp
        rw [hcut] at q
        exact q _ B3 H3 ((e1.trans e2).trans e3) w3 (.tup (seq_l (e2.trans e3) k1) (fun z r q => (e2.trans e3) _ _ (h0a z r q)) k2')
      · obtain ⟨w4, e4, e5⟩ := w3.new (o := .tup (cutV vs lo hi)) hp
        exact q _ _ _ (((e1.trans e2).trans e3).trans e4) w4 (.tup (SqT.of e5) (fun _ _ _ => e5) (dpa_mono e4 (dpa_cut k2')))
end
end Lw

set_option Elab.async false
set_option linter.all false
set_option maxRecDepth 100000
set_option maxHeartbeats 2000000
namespace Lw
open PySem PySem.Spec PyProof.Rows L2

/-! ### a def's promise: from abstract arguments and owned objects, to whatever Post says -/
abbrev Spc := List AV → AM → (AV → AM → Prop) → Prop
def spP (K : Fr) (S : Spc) : Sp := fun vs H Q _ => ∃ F B μ As Post, Wd K F B μ H ∧ AllH K B As vs ∧ S As μ Post ∧ ∀ R μ' v B2 H2, Post R μ' → Same B B2 → Wd K F B2 μ' H2 → R.h K v B2 → Q v H2
def Sub (μ μ' : AM) : Prop := ∀ a o, μ a = some o → μ' a = some o
theorem Sub.refl (μ : AM) : Sub μ μ := fun _ _ e => e
theorem Sub.upd {μ : AM} {l : Addr} {o : AO} (h : μ l = none) : Sub μ (updM μ l o) := fun a u e => by
  have : a ≠ l := fun q => by rw [q, h] at e; cases e
  rw [updM_ne this]
  exact e
theorem Sub.trans {a b c : AM} (h : Sub a b) (k : Sub b c) : Sub a c := fun x o e => k x o (h x o e)
/-- what a body has to reach -/
def goal (Post : AV → AM → Prop) : Po := ⟨fun _ μ' => ∃ μ2, Post (.d .none) μ2 ∧ Sub μ2 μ', fun R μ' => ∃ μ2, Post R μ2 ∧ Sub μ2 μ', fun _ _ => False, fun _ _ => False⟩
abbrev begin0 (N : List Str) (As : List AV) : AS := As.map some ++ List.replicate (N.length - As.length) none
theorem sl_begin {K : Fr} {B : Hp} {N : List Str} {As : List AV} {vs : List V} (h : AllH K B As vs) : Sl K B (L2.start N vs) (begin0 N As) := by
  unfold L2.start begin0
  rw [← h.length]
  generalize N.length - As.length = n
  induction As generalizing vs with
  | nil =>
    cases vs with
    | nil =>
      induction n with
      | zero => trivial
      | succ n ih => exact ⟨fun R e => (nomatch e), ih⟩
    | cons v vs => exact h.elim
  | cons a as ih =>
    cases vs with
    | nil => exact h.elim
    | cons v vs => exact ⟨fun R e => ⟨v, rfl, by cases e; exact h.1⟩, ih h.2⟩
section
variable {P : Program} {w : World} {K : Fr} {mg : Str → Option Value} {base : Heap}
theorem fn_ok {x qual : Str} {st : Stmt} {f : Addr} {fd : FuncData} {N ps : List Str} {k : Nat} {S : Spc} (Fn : Fun K x qual st f fd) (Sc : FnScope N ps (defScope st)) (len : ∀ As μ Post, S As μ Post → As.length = ps.length)
    (body : ∀ (cdv : Value) (A : Around) (outer : List Env) (s : Shared) (H : Hp) (E : XK), Room k (A.deeper (envOfC qual (defScope st) s.heap.objs.size f cdv)) →
      ∃ t, PSs (cxOf CX0 P w K mg base N qual (defScope st) f cdv A outer s H E).nox (defBody st) t ∧ ∀ As μ Post, S As μ Post → StW K t (begin0 N As) μ (goal Post)) : FnOk P w K mg base CX0 (k + 1) f fd ps (spP K S) := by
  refine Fn.ok Sc (fun vs H Q E h => ?_) (fun cdv A outer s H vs Q E hr h => ?_)
  · obtain ⟨F, B, μ, As, Post, _, hA, hS, _⟩ := h
    exact hA.length.symm.trans (len _ _ _ hS)
  · obtain ⟨t, ht, hb⟩ := body cdv A outer s H E hr
    obtain ⟨F, B, μ, As, Post, w, hA, hS, q⟩ := h
    refine ⟨t, ht, hb As μ Post hS F _ B H _ w (sl_begin hA) ⟨?_, ?_, ?_, ?_⟩⟩
    · rintro ρ μ1 B2 H2 σ2 ⟨μ2, p, sb⟩ e w2 _
      exact q _ μ2 _ B2 H2 p e (w2.drop sb) .non
    · rintro R μ1 v B2 H2 ⟨μ2, p, sb⟩ e w2 hv
      exact q _ μ2 _ B2 H2 p e (w2.drop sb) hv
    · rintro _ _ _ _ _ ⟨⟩
    · rintro _ _ _ _ _ ⟨⟩
theorem FnOk.lift {k j : Nat} {f : Addr} {fd : FuncData} {ps : List Str} {sp : Sp} (F : FnOk P w K mg base CX0 k f fd ps sp) (h : k ≤ j) : FnOk P w K mg base CX0 j f fd ps sp := F.mono h
end
section
variable {K : Fr} {ρ : AS} {μ μ1 μ2 : AM} {R : AV} {S : Spc} {Rs : List AV} {E : XK} {ta : TA}
theorem n_call (h : S Rs μ (fun R' μ' => R' = R ∧ μ' = μ1)) : OpN K (fun xs H Q => spP K S (xs ++ []) H Q E) Rs μ R μ1 := fun F B H xs w hx Q q => by
  show spP K S (xs ++ []) H Q E
  rw [List.append_nil]
  refine ⟨F, B, μ, Rs, _, w, hx, h, ?_⟩
  rintro R' μ' v B2 H2 ⟨rfl, rfl⟩ e w2 hv
  exact q v B2 H2 e w2 hv
theorem ew_fn (h : EvA K ta ρ μ Rs μ1) (hS : S Rs μ1 (fun R' μ' => R' = R ∧ μ' = μ2)) : EvW K (tCall (spP K S) [] E ta) ρ μ R μ2 := ew_call h (n_call hS)
/-- x = f(..), whatever Post says of it -/
theorem s_asgC {i : Nat} {P : Po} {Post : AV → AM → Prop} (h : EvA K ta ρ μ Rs μ1) (hS : S Rs μ1 Post) (p : ∀ R μ', Post R μ' → P.nx (ρ.set i (some R)) μ') : StW K (tAsg (tCall (spP K S) [] E ta) (gName i)) ρ μ P := fun F D B H σ w sl r =>
  h F B H σ w sl _ fun vs B2 H2 e w2 hv => by
    rw [List.append_nil]
    refine ⟨F, B2, μ1, Rs, Post, w2, hv, hS, ?_⟩
    intro R μ' v B3 H3 hp e3 w3 h3
    exact r.nx _ _ B3 H3 _ (p R μ' hp) (e.trans e3) w3 (Sl.set h3 i (sl.mono (e.trans e3)))
theorem s_retC {P : Po} {Post : AV → AM → Prop} (h : EvA K ta ρ μ Rs μ1) (hS : S Rs μ1 Post) (p : ∀ R μ', Post R μ' → P.rt R μ') : StW K (tRet (tCall (spP K S) [] E ta)) ρ μ P := fun F D B H σ w sl r =>
  h F B H σ w sl _ fun vs B2 H2 e w2 hv => by
    rw [List.append_nil]
    refine ⟨F, B2, μ1, Rs, Post, w2, hv, hS, ?_⟩
    intro R μ' v B3 H3 hp e3 w3 h3
    exact r.rt _ _ _ B3 H3 (p R μ' hp) (e.trans e3) w3 h3
/-- return [..], the new list owned by the caller -/
theorem s_retOwn {P : Po} (h : EvA K ta ρ μ Rs μ1) (hz : Rs.length ≤ 100000) (p : ∀ l, μ1 l = none → P.rt (.r l) (updM μ1 l (.lst Rs))) : StW K (tRet (tLst ta)) ρ μ P := fun F D B H σ w sl r =>
  ew_lstR h hz F B H σ w sl _ fun l B2 H2 e hm w2 => r.rt _ _ _ B2 H2 (p l hm) e w2 rfl
/-- with a word between -/
theorem s_seqM {P : Po} {s1 s2 : TS} (M : AS → AM → Prop) (h : StW K s1 ρ μ { P with nx := M }) (k : ∀ ρ' μ', M ρ' μ' → StW K s2 ρ' μ' P) : StW K (tSeq s1 s2) ρ μ P :=
  s_seq (s_imp h (fun ρ μ m => k ρ μ m) (fun _ _ p => p) (fun _ _ p => p) (fun _ _ p => p))
theorem et_andF {t u : TT} (h1 : EvT K t ρ μ false μ1) : EvT K (tAnd t u) ρ μ false μ1 := et_is (et_and (b := false) h1 nofun) rfl
theorem et_andT {t u : TT} {b : Bool} (h1 : EvT K t ρ μ true μ1) (h2 : EvT K u ρ μ1 b μ1) : EvT K (tAnd t u) ρ μ b μ1 := et_is (et_and h1 fun _ => h2) (Bool.true_and b)
theorem et_orT {t u : TT} (h1 : EvT K t ρ μ true μ1) : EvT K (tOr t u) ρ μ true μ1 := et_is (et_or (b := false) h1 nofun) rfl
theorem et_orF {t u : TT} {b : Bool} {μ2 : AM} (h1 : EvT K t ρ μ false μ1) (h2 : EvT K u ρ μ1 b μ2) : EvT K (tOr t u) ρ μ b μ2 := fun F B H σ w s Q q => h1 F B H σ w s _ fun B1 H1 e1 w1 => h2 F B1 H1 σ w1 (s.mono e1) Q fun B2 H2 e2 w2 => q B2 H2 (e1.trans e2) w2
/-! ### by ints: written places -/
theorem o_ixOz {l : Addr} {xs : List AV} {j : Int} (hl : μ l = some (.lst xs)) (h : xs[j.toNat]? = some R) (hj : 0 ≤ j := by omega) : Op2 K (rIxL K) (.r l) (.i j) μ R μ := by
  obtain ⟨n, rfl⟩ := Int.eq_ofNat_of_zero_le hj
  exact o_ixO hl h
theorem o_ixTz {ds : List PyData} {d : PyData} {j : Int} (h : ds[j.toNat]? = some d) (hj : 0 ≤ j := by omega) : Op2 K (rIxT K) (.d (.tuple ds)) (.i j) μ (.d d) μ := by
  obtain ⟨n, rfl⟩ := Int.eq_ofNat_of_zero_le hj
  exact o_ixT h
theorem o_ixLz {ds : List PyData} {d : PyData} {j : Int} (h : ds[j.toNat]? = some d) (hj : 0 ≤ j := by omega) : Op2 K (rIxL K) (.d (.list ds)) (.i j) μ (.d d) μ := by
  obtain ⟨n, rfl⟩ := Int.eq_ofNat_of_zero_le hj
  exact o_ixL h
theorem o_powz {i j : Int} (h : CPowX i j) : Op2 K (rI CPowX fun i j => .int (i ^ j.toNat)) (.i i) (.i j) μ (.i (i ^ j.toNat)) μ := o_I (g := fun i j => i ^ j.toNat) h
theorem s_setLz {P : Po} {te to ti : TE} {l : Addr} {xs : List AV} {j : Int} {μ3 : AM} (h : EvW K te ρ μ R μ1) (ho : EvW K to ρ μ1 (.r l) μ2) (hi : EvW K ti ρ μ2 (.i j) μ3) (hl : μ3 l = some (.lst xs)) (hj : 0 ≤ j ∧ j.toNat < xs.length) (p : P.nx ρ (updM μ3 l (.lst (xs.set j.toNat R)))) :
    StW K (tAsg te (gSub to ti rSetL)) ρ μ P := by
  obtain ⟨n, rfl⟩ := Int.eq_ofNat_of_zero_le hj.1
  exact s_setL h ho hi hl hj.2 p
end
end Lw

set_option Elab.async false
set_option linter.all false
set_option maxRecDepth 100000
set_option maxHeartbeats 2000000
/-! sources as data -/
namespace Lw
open PySem PySem.Spec PyProof.Rows L2

inductive Src where
  | inp (k : Int)
  | lit (c : Int)
deriving DecidableEq
abbrev sIn : Str := "in"
abbrev sLit : Str := "lit"
def Src.d : Src → PyData
  | .inp k => .tuple [.str sIn, .int k]
  | .lit c => .tuple [.str sLit, .int c]
def srcsD (l : List Src) : List PyData := l.map Src.d
theorem srcsD_len (l : List Src) : (srcsD l).length = l.length := by unfold srcsD; simp
theorem srcsD_get {l : List Src} {i : Nat} {s : Src} (h : l[i]? = some s) : (srcsD l)[i]? = some s.d := by
  unfold srcsD
  rw [List.getElem?_map, h]
  rfl
theorem strOk_in : PyData.strOk sIn = true := by decide +kernel
theorem strOk_lit : PyData.strOk sLit = true := by decide +kernel
theorem in_ne_lit : (sIn == sLit) = false := by decide +kernel
theorem lit_ne_in : (sLit == sIn) = false := by decide +kernel
theorem lay_src : ∀ s : Src, s.d.canLay0 = true
  | .inp k => by simp [Src.d, PyData.canLay0, PyData.canLayAll0, strOk_in]
  | .lit k => by simp [Src.d, PyData.canLay0, PyData.canLayAll0, strOk_lit]
theorem depth_src : ∀ s : Src, s.d.depth = 1
  | .inp k => by simp [Src.d, PyData.depth, PyData.depthAll]
  | .lit k => by simp [Src.d, PyData.depth, PyData.depthAll]
theorem layAll_srcs : ∀ l : List Src, PyData.canLayAll0 (srcsD l) = true
  | [] => by simp [srcsD, PyData.canLayAll0]
  | s :: l => by
    have ih := layAll_srcs l
    unfold srcsD at ih ⊢
    simp only [List.map_cons, PyData.canLayAll0, lay_src, ih, Bool.and_self]
theorem depthAll_srcs : ∀ l : List Src, PyData.depthAll (srcsD l) ≤ 1
  | [] => by simp [srcsD, PyData.depthAll]
  | s :: l => by
    have ih := depthAll_srcs l
    unfold srcsD at ih ⊢
    simp only [List.map_cons, PyData.depthAll, depth_src]
    omega
theorem shaped_src (s : Src) : SeqAt.shaped s.d = true := by
  unfold SeqAt.shaped
  rw [lay_src, depth_src]
  rfl
theorem shaped_srcs (l : List Src) : SeqAt.shaped (.tuple (srcsD l)) = true := by
  unfold SeqAt.shaped
  have h := depthAll_srcs l
  simp only [PyData.canLay0, PyData.depth, layAll_srcs, Bool.true_and]
  exact decide_eq_true (show PyData.depthAll (srcsD l) + 1 ≤ 64 by omega)
theorem shaped_srcsL (l : List Src) : SeqAt.shaped (.list (srcsD l)) = true := by
  unfold SeqAt.shaped
  have h := depthAll_srcs l
  simp only [PyData.canLay0, PyData.depth, layAll_srcs, Bool.true_and]
  exact decide_eq_true (show PyData.depthAll (srcsD l) + 1 ≤ 64 by omega)
theorem str_beq (a : Str) : (a == a) = true := by simp
theorem eqv_src : ∀ a b : Src, PyData.eqv a.d b.d = decide (a = b)
  | .inp i, .inp j => by
    simp only [Src.d, PyData.eqv, PyData.eqvAll, str_beq, Bool.true_and, Bool.and_true, Src.inp.injEq]
    by_cases h : i = j <;> simp [h]
  | .lit i, .lit j => by
    simp only [Src.d, PyData.eqv, PyData.eqvAll, str_beq, Bool.true_and, Bool.and_true, Src.lit.injEq]
    by_cases h : i = j <;> simp [h]
  | .inp i, .lit j => by
    simp only [Src.d, PyData.eqv, PyData.eqvAll, in_ne_lit, Bool.false_and]
    rfl
  | .lit i, .inp j => by
    simp only [Src.d, PyData.eqv, PyData.eqvAll, lit_ne_in, Bool.false_and]
    rfl
theorem eqv_srcsAll : ∀ a b : List Src, PyData.eqvAll (srcsD a) (srcsD b) = decide (a = b)
  | [], [] => by simp [srcsD, PyData.eqvAll]
  | [], _ :: _ => by simp [srcsD, PyData.eqvAll]
  | _ :: _, [] => by simp [srcsD, PyData.eqvAll]
  | x :: a, y :: b => by
    have ih := eqv_srcsAll a b
    unfold srcsD at ih ⊢
    simp only [List.map_cons, PyData.eqvAll, eqv_src, ih, List.cons.injEq]
    by_cases h1 : x = y <;> by_cases h2 : a = b <;> simp [h1, h2]
theorem eqv_srcs (a b : List Src) : PyData.eqv (.tuple (srcsD a)) (.tuple (srcsD b)) = decide (a = b) := by
  simp only [PyData.eqv]
  exact eqv_srcsAll a b
theorem any_src (l : List Src) (s : Src) : ((srcsD l).any fun z => PyData.eqv z s.d) = decide (s ∈ l) := by
  induction l with
  | nil => simp [srcsD]
  | cons x l ih =>
    unfold srcsD at ih ⊢
    rw [List.map_cons, List.any_cons, ih, eqv_src]
    by_cases h1 : x = s <;> by_cases h2 : s ∈ l <;> simp [h1, h2, eq_comm]
    · exact fun h => h1 h.symm
theorem cut_from (ds : List PyData) {n : Nat} (h : n ≤ ds.length) : cutD ds (some (n : Int)) none = ds.drop n := by
  unfold cutD
  rw [HT.sIx_nat, HT.sIx_none, Nat.min_eq_left h]
  exact List.take_of_length_le (by simp)
theorem cut_to (ds : List PyData) {n : Nat} (h : n ≤ ds.length) : cutD ds none (some (n : Int)) = ds.take n := by
  unfold cutD
  rw [HT.sIx_nat, HT.sIx_none, Nat.min_eq_left h]
  simp
/-- the cut of taken and left -/
def cut : Int → List Src → Int × List Src
  | t, [] => (t, [])
  | t, s :: r => if s = .inp (t - 1) ∧ s ∉ r then cut (t - 1) r else (t, s :: r)
theorem cut_len : ∀ (t : Int) (l : List Src), (cut t l).2.length ≤ l.length
  | t, [] => Nat.le_refl _
  | t, s :: r => by
    unfold cut
    split
    · exact Nat.le_succ_of_le (cut_len (t - 1) r)
    · exact Nat.le_refl _
end Lw

set_option Elab.async false
set_option linter.all false
set_option maxRecDepth 100000
set_option maxHeartbeats 2000000
namespace Lw
open PySem PySem.Spec PyProof.Rows L2
section
variable {K : Fr} {ρ : AS} {μ μ1 μ2 μ3 : AM} {ta tb te tl : TE} {t u : TT} {R R1 R2 : AV} {d e : PyData} {ds es : List PyData} {i j : Int} {P : Po}
theorem jo_rngC {lo c : Int} {n : Nat} {B : Hp} : JOk K (Itc lo c n) ((List.range n).map fun (i : Nat) => .i (lo + (i : Int) * c)) B where
  go _ _ i _ _ h := by
    show i < n
    simpa using h
  stop _ _ _ _ := by show n ≤ _; simp
  yld F B2 H μ i a x H' e w ha y := by
    obtain ⟨e1, e2⟩ := y
    subst e1 e2
    have hlt : i < n := by
      have := (List.getElem?_eq_some_iff.mp ha).1
      simpa using this
    rw [List.getElem?_map, List.getElem?_range hlt] at ha
    have ea : a = .i (lo + (i : Nat) * c) := (Option.some.inj ha).symm
    subst ea
    exact ⟨B2, Same.refl _, w, .int _⟩
/-- range(a, b, -1) -/
theorem it_down {ta : TA} {m n : Int} (h : EvA K ta ρ μ [.i m, .i n, .i (-1)] μ1) (h1 : -(2 ^ 62) ≤ m ∧ m < 2 ^ 62 ∧ -(2 ^ 62) ≤ n ∧ n < 2 ^ 62) : ItW K (iRng3 ta) ρ μ ((List.range (m - n).toNat).map fun (i : Nat) => .i (m + (i : Int) * (-1))) μ1 := fun F B H σ w sl Rk q =>
  h F B H σ w sl _ fun vs B2 H2 e w2 hv => by
    match vs, hv with
    | [v, x, y], hv =>
      have := h_i hv.1
      have := h_i hv.2.1
      have := h_i hv.2.2.1
      subst_vars
      exact ⟨m, n, -1, (m - n).toNat, rfl, RgC.neg h1.1 h1.2.1 h1.2.2.1 h1.2.2.2, q _ B2 H2 e w2 jo_rngC⟩
/-- x, y = [], e : the new list owned -/
theorem s_parOwn {i j : Nat} {tr : TE} (h : ∀ l, μ l = none → EvW K tr ρ (updM μ l (.lst [])) R (updM μ1 l (.lst []))) (p : ∀ l, μ l = none → P.nx ((ρ.set i (some (.r l))).set j (some R)) (updM μ1 l (.lst []))) :
    StW K (tPar i j (tCons (tLst tNil) (tCons tr tNil))) ρ μ P := fun F D B H σ w sl r => by
  refine ⟨Nat.zero_le _, fun l hp => ?_⟩
  have hm : μ l = none := by
    cases q : μ l with
    | none => rfl
    | some o => obtain ⟨_, _, u, hu, _⟩ := w.2.1 l o q; rw [hu] at hp; cases hp
  have w2 : Wd K F B (updM μ l (.lst [])) (upd H l (.lst [])) := w.newM hp ⟨[], rfl, trivial⟩
  refine h l hm F B _ σ w2 sl _ fun v B3 H3 e3 w3 hv => ⟨_, _, rfl, ?_⟩
  exact r.nx _ _ B3 _ _ (p l hm) e3 w3 (Sl.set hv j (Sl.set (R := .r l) (v := .ref l) (show V.ref l = V.ref l from rfl) i (sl.mono e3)))
/-- x = y[::-1], both owned -/
theorem s_revOwn {i : Nat} {l : Addr} {xs : List AV} (h : EvW K te ρ μ (.r l) μ1) (hl : μ1 l = some (.lst xs)) (p : ∀ l2, μ1 l2 = none → P.nx (ρ.set i (some (.r l2))) (updM μ1 l2 (.lst xs.reverse))) : StW K (tAsg (tRevL K te) (gName i)) ρ μ P := fun F D B H σ w sl r =>
  h F B H σ w sl _ fun v B2 H2 e w2 hv => by
    have ev : v = .ref l := hv
    subst ev
    obtain ⟨_, _, u, hu, vs, rfl, hA⟩ := w2.2.1 l _ hl
    refine ⟨l, vs, rfl, SqL.of hu, fun p2 hp => ?_⟩
    have hm : μ1 p2 = none := by
      cases q : μ1 p2 with
      | none => rfl
      | some o => obtain ⟨_, _, u, hu, _⟩ := w2.2.1 p2 o q; rw [hu] at hp; cases hp
    have hr : ∀ {as : List AV} {vs : List V}, AllH K B2 as vs → AllH K B2 as.reverse vs.reverse := by
      intro as
      induction as with
      | nil => intro vs h; cases vs with
        | nil => trivial
        | cons _ _ => exact h.elim
      | cons a as ih => intro vs h; cases vs with
        | nil => exact h.elim
        | cons v vs =>
          rw [List.reverse_cons, List.reverse_cons]
          exact AllH.app (ih h.2) ⟨h.1, trivial⟩
    exact r.nx _ _ B2 _ _ (p p2 hm) e (w2.newM hp ⟨_, rfl, hr hA⟩) (Sl.set (R := .r p2) (v := .ref p2) (show V.ref p2 = V.ref p2 from rfl) i (sl.mono e))
theorem o_neg1 {i : Int} : Op1 K (rU fun i => .int (-i)) (.i i) μ (.i (-i)) μ := o_neg
theorem et_nil : EvT K (fun _ H Q => Q true H) ρ μ true μ := fun F B H σ w s Q q => q B H (Same.refl _) w
end
end Lw

set_option Elab.async false
set_option linter.all false
set_option maxRecDepth 100000
set_option maxHeartbeats 2000000
/-! the same promises where it is known that no repr is under way (A.guards = some []): what calls repr of lists wants it -/
namespace Lw
open PySem PySem.Spec PyProof.Rows L2
/-- a def's promise, called where no repr is under way -/
structure FnG (P : Program) (w : World) (K : Fr) (mg : Str → Option Value) (base : Heap) (k : Nat) (f : Addr) (fd : FuncData) (ps : List Str) (sp : Sp) : Prop where
  len : ∀ vs H Q E, sp vs H Q E → vs.length = ps.length
  run : ∀ (A : Around) (around : List Env) (st : Shared) (H : Hp) (args : Args) (us : List Value) (vs : List V) (Q : VK) (E : XK), A.guards = some [] → Room k A → Env0 P w K mg base A around st H → BindsTo st fd args (ps.zip us) → Vals vs us → sp vs H Q E →
    codeAny (model P w) A (.call (.ref f) args) (CR CX0 around P w H st Q E) st
section
variable {P : Program} {w : World} {K : Fr} {mg : Str → Option Value} {base : Heap}
theorem FnG.of {k : Nat} {f : Addr} {fd : FuncData} {ps : List Str} {sp : Sp} (F : FnOk P w K mg base CX0 k f fd ps sp) : FnG P w K mg base k f fd ps sp :=
  ⟨F.len, fun A around st H args us vs Q E _ hr e0 hb r h => F.run A around st H args us vs Q E hr e0 hb r h⟩
/-- a body that may use repr -/
theorem fnG_ok {x qual : Str} {stm : Stmt} {f : Addr} {fd : FuncData} {N ps : List Str} {k : Nat} {S : Spc} (Fn : Fun K x qual stm f fd) (Sc : FnScope N ps (defScope stm)) (len : ∀ As μ Post, S As μ Post → As.length = ps.length)
    (body : ∀ (cdv : Value) (A : Around) (outer : List Env) (s : Shared) (H : Hp) (E : XK), A.guards = some [] → Room k (A.deeper (envOfC qual (defScope stm) s.heap.objs.size f cdv)) →
      ∃ t, PSs (cxOf CX0 P w K mg base N qual (defScope stm) f cdv A outer s H E).nox (defBody stm) t ∧ ∀ As μ Post, S As μ Post → StW K t (begin0 N As) μ (goal Post)) : FnG P w K mg base (k + 1) f fd ps (spP K S) := by
  obtain ⟨oc, od, kV, doc, pm, an, cdv, ct, osl, rfl, lk, hcd⟩ := Fn.ex
  have L : ∀ vs H Q E, spP K S vs H Q E → vs.length = ps.length := by
    rintro vs H Q E ⟨F, B, μ, As, Post, _, hA, hS, _⟩
    exact hA.length.symm.trans (len _ _ _ hS)
  refine ⟨L, fun A around st H args us vs Q E hg room e0 bnd rv want => ?_⟩
  have inK : K.In st.heap := e0.mod.kin.keeps (fun b o e => (e0.bs b o e).1)
  have free : st.heap.NoLimit := e0.mod.nolimit.keeps (fun b o e => (e0.bs b o e).1)
  have kinds : ∀ y ∈ ps.zip us, (defScope stm).names.lookup y.1 = some .local ∨ ((defScope stm).names.lookup y.1 = some .cell ∧ ((cellsFrom (st.heap.objs.size + 1) (defScope stm).names []).lookup y.1).isSome = true) := by
    rintro ⟨n, v⟩ hy
    cases Sc.par n (List.of_mem_zip hy).1 with
    | inl q => exact .inl q
    | inr q => exact .inr ⟨q, PySem.W.cellsFrom_some _ _ _ (.inl q)⟩
  obtain ⟨t, ht, hb⟩ := body cdv A around st H E hg (room.deeper _)
  obtain ⟨F, B, μ, As, Post, wd, hA, hS, q⟩ := want
  have want' : t { nx := fun _ H' => Q .non H', rt := Q } (L2.start N vs) H := by
    refine hb As μ Post hS F _ B H _ wd (sl_begin hA) ⟨?_, ?_, ?_, ?_⟩
    · rintro ρ μ1 B2 H2 σ2 ⟨μ2, p, sb⟩ e w2 _
      exact q _ μ2 _ B2 H2 p e (w2.drop sb) .non
    · rintro R μ1 v B2 H2 ⟨μ2, p, sb⟩ e w2 hv
      exact q _ μ2 _ B2 H2 p e (w2.drop sb) hv
    · rintro _ _ _ _ _ ⟨⟩
    · rintro _ _ _ _ _ ⟨⟩
  have hl : vs.length = ps.length := hA.length.symm.trans (len _ _ _ hS)
  refine codeAny_call_function room.depth (inK _ _ lk) rfl Sc.co Sc.gen rfl (PySem.W.codeRec_of inK hcd) (bnd _ _ _ _ (wpAny_newFunctionEnv_cells Sc.kind kinds ?_))
  intro env he s1 entry
  subst he
  refine ⟨free.keeps entry.toInCall.keep, codeAny_func ?_⟩
  have I := inv_start (CX := CX0) (P := P) (w := w) (E := E) (N := N) Sc room.hd e0 hl rv entry
  refine wpAny_mono (ht.nox.run [] s1 (L2.start N vs) H _ I want') ?_ (fun e s' hs => hs)
  rintro fl s' hs
  cases fl with
  | ret u => exact let ⟨v, σ', H', J, rv', q'⟩ := hs; ⟨v, H', J.os, J.bare, J.base, J.hok, rv', q'⟩
  | next => exact let ⟨σ', H', J, q'⟩ := hs; ⟨.non, H', J.os, J.bare, J.base, J.hok, rfl, q'⟩
  | brk => exact (let ⟨_, _, _, q'⟩ := hs; q' : False).elim
  | cont => exact (let ⟨_, _, _, q'⟩ := hs; q' : False).elim
end
section
variable {X : Cx} {k : Nat} {f : Addr} {fd : FuncData} {ps : List Str} {sp : Sp} {E : XK} {x : Str} {p pos : Pos} {e : Expr} {es : List Expr} {t : TA}
/-- f(e, ..) of such a def -/
theorem pe_callG (F : FnG X.prog X.w X.K X.mg X.base k f fd ps sp) (hg : X.A.guards = some []) (hr : Room k X.A) (gl : Gl X x) (hm : X.mg x = some (.ref f)) (hk : PySem.W.keepIn X.K (.ref f) = true) (hb : L2.Binds X.K fd ps []) (hx : Passes CX0 X E)
    (ha : PA X (e :: es) t) (hdb : (x == ("__debug__" : Str)) = false := by decide) (he : starEach (e :: es) X.env = (false, eval e X.env) :: starEach es X.env := by rfl) (hpl : (backTo pos (starEach es X.env)).any (·.1) = false := by rfl) :
    PE X (.Call (.Name x p) (e :: es) [] pos) (tCall sp [] E t) := by
  constructor
  intro pins s σ H Q I want
  refine wpAny_Call_Name_kw (ld_glob I gl hm ?_ hdb)
  refine PySem.W.callWith_K (h₀ := X.base) I.ok.mod.kin hk (thn (ha.run pos pins s σ H _ I want) ?_) he hpl
  rintro us s1 ⟨vs, H1, I1, r, q⟩
  refine ⟨I1.kIn, ?_⟩
  rw [List.append_nil] at q
  have hl : (us ++ []).length = ps.length := by
    rw [List.append_nil, ← r.length]
    exact F.len _ _ _ _ q
  have bnd := hb s1 us I1.kIn hl
  rw [List.append_nil] at bnd
  refine wpAny_call (codeAny_mono (F.run X.A X.stack s1 H1 ⟨us, []⟩ us vs Q E hg hr I1.env0 bnd r q) ?_)
  rintro res s' hq
  cases res with
  | error e => exact hx pins σ H1 s1 e s' I1 hq
  | ok fl =>
    cases fl with
    | ret u => exact I1.after hq
    | next => exact hq.elim
    | brk => exact hq.elim
    | cont => exact hq.elim
end
end Lw

set_option Elab.async false
set_option linter.all false
set_option maxRecDepth 100000
set_option maxHeartbeats 2000000
/-! the end: the law's own promise, at the heap behind the top -/
namespace Lw
open PySem PySem.Spec PyProof.Rows L2
/-- law(script) gives True -/
def SLaw (n : Nat) : Spc := fun As μ Post => ∃ ns : List Int, As = [.d (.list (ns.map .int))] ∧ ns.length ≤ n ∧ Post (.b true) μ
theorem dta_ints {K : Fr} {H : Hp} : ∀ ns : List Int, DtAll K H (ns.map V.int) (ns.map PyData.int)
  | [] => .nil
  | n :: ns => .cons (.int n) (dta_ints ns)
theorem sp_law {K : Fr} {H : Hp} {a : Addr} {ns : List Int} {n : Nat} (hs : SqL K H a (ns.map V.int)) (hn : ns.length ≤ n) : spP K (SLaw n) [.ref a] H (fun v _ => v = .bl true) E0 := by
  refine ⟨fun _ => none, H, M0, [.d (.list (ns.map .int))], fun R _ => R = .b true, ⟨Same.refl _, fun _ _ e => (nomatch e), fun _ _ e => (nomatch e)⟩, ⟨.lst hs (dta_ints ns), trivial⟩, ⟨ns, rfl, hn, rfl⟩, ?_⟩
  rintro R μ' v B2 H2 rfl _ _ hv
  exact h_b hv
theorem top_call {P : Program} {w : World} {K : Fr} {mg mb : Str → Option Value} {k n : Nat} {fa a : Addr} {fd : FuncData} {x : Str} {st : Shared} {items : List Value} {ns : List Int}
    (inK : K.In st.heap) (glob : st.heap.Ns mainGlobals mg) (blt : st.heap.Ns builtinsNs mb) (blt2 : ∀ y : Str, y ≠ "__name__" → mb y = bootBuiltins y) (lim : st.heap.NoLimit) (gens : st.gens = #[])
    (script : st.heap.get? a = some { cls := .type "list", data := .seq items.toArray }) (allInt : IntsAre items ns) (short : ns.length ≤ n) (small : n ≤ sizeLine) (room : Room k callerA)
    (F : ∀ base : Heap, K.In base → base.Ns mainGlobals mg → FnG P w K mg base k fa fd [x] (spP K (SLaw n))) (bnd : ∀ (s : Shared) (u : Value), BindsTo s fd ⟨[u], []⟩ [(x, u)]) :
    codeAny (model P w) callerA (.call (.ref fa) ⟨[.ref a], []⟩) (fun r s' => r = .ok (.ret (.bool true)) ∧ OldK st.heap s'.heap ∧ s'.os = st.os ∧ AllBare s'.gens) st := by
  have vals := vals_ints allInt
  have size := allInt.length
  have nil : ∀ (b : Addr), ¬ b ∈ ([] : List Addr) := fun b h => nomatch h
  -- H: what is tracked, at most the script; it is locked
  have main : ∀ H : Hp, (∀ b u, H b = some u → b = a ∧ ∃ o ys, u = .frz o (.lst ys)) → SqL K H a (ns.map V.int) → HOk P w H st.heap → (∀ o, K.lookup a = some o → H a = none) →
      codeAny (model P w) callerA (.call (.ref fa) ⟨[.ref a], []⟩) (fun r s' => r = .ok (.ret (.bool true)) ∧ OldK st.heap s'.heap ∧ s'.os = st.os ∧ AllBare s'.gens) st := by
    intro H only hS ok off
    have offK : ∀ b o, K.lookup b = some o → H b = none := fun b o e => by
      cases q : H b with
      | none => rfl
      | some u =>
        obtain ⟨rfl, _⟩ := only b u q
        rw [off o e] at q
        cases q
    have offD : ∀ b (o : Obj) es ep, st.heap.get? b = some o → o.data = .dict es ep → H b = none := fun b o es ep e d => by
      cases q : H b with
      | none => rfl
      | some u =>
        obtain ⟨rfl, _⟩ := only b u q
        rw [script] at e
        cases e
        cases (show Data.seq items.toArray _ = Data.dict es ep from d)
    have ns_of : ∀ {b : Addr} {m : Str → Option Value}, st.heap.Ns b m → (hidT st.heap H).Ns b m := by
      rintro b m ⟨o, es, ep, e, d, r⟩
      exact ⟨o, es, ep, hidT_get e (offD b o es ep e d), d, r⟩
    have inB : K.In (hidT st.heap H) := fun b o e => hidT_get (inK b o e) (offK b o e)
    obtain ⟨mc, l1, l2⟩ := lim
    have e0 : Env0 P w K mg (hidT st.heap H) callerA [] st H :=
      { frames := rfl, mod := ⟨inB, ns_of glob, ⟨mb, ns_of blt, blt2⟩, ⟨mc, ns_of l1, l2⟩⟩, bs := fun b o e => of_hidT e, bsz := Nat.le_of_eq (hidT_size _ _), funs := trivial, frf := fun b h => (nil b h).elim, hok := ok, bare := .of_eq gens }
    refine codeAny_mono ((F _ inB (ns_of glob)).run callerA [] st H ⟨[.ref a], []⟩ [.ref a] [.ref a] (fun v _ => v = .bl true) E0 rfl room e0 (bnd st (.ref a)) (.cons rfl .nil) (sp_law hS short)) ?_
    rintro r s' out
    cases r with
    | error e => exact (out : False).elim
    | ok fl =>
      cases fl with
      | next => exact (out : False).elim
      | brk => exact (out : False).elim
      | cont => exact (out : False).elim
      | ret u =>
        obtain ⟨v, H', os, bare, un, ok', rv, ev⟩ := out
        have ev' : v = .bl true := ev
        subst ev'
        have eu : u = .bool true := rv
        subst eu
        refine ⟨rfl, OldK.of_keep ?_, os, bare⟩
        intro b o e
        cases q : H b with
        | none => exact un.keep b o e q (fun z => (nil b z).elim) (fun z => (nil b z).elim)
        | some u =>
          obtain ⟨rfl, ob, ys, rfl⟩ := only b u q
          have o1 := (ok b _ q).1
          have o2 := (ok' b _ (un.frzs b ob _ q)).1
          rw [e] at o1
          cases o1
          exact o2
  cases hk : K.lookup a with
  | some o =>
    have e := inK a o hk
    rw [script] at e
    cases e
    exact main (fun _ => none) (fun b u e => (nomatch e)) (.inr ⟨_, items.toArray, _, hk, rfl, rfl, rfl, by rw [List.size_toArray, size]; exact Nat.le_trans short small, by simpa using vals⟩) (fun b u e => (nomatch e)) (fun _ _ => rfl)
  | none =>
    have at_a : ∀ b (u : HO), (fun b => if b = a then some (HO.frz { cls := .type "list", data := .seq items.toArray } (.lst (ns.map V.int))) else none) b = some u → b = a ∧ u = .frz { cls := .type "list", data := .seq items.toArray } (.lst (ns.map V.int)) := fun b u e => by
      by_cases h : b = a
      · have e' := (if_pos h).symm.trans e
        exact ⟨h, (Option.some.inj e').symm⟩
      · cases (if_neg h).symm.trans e
    refine main _ (fun b u e => ⟨(at_a b u e).1, _, _, (at_a b u e).2⟩) (.inl (.inr ⟨{ cls := .type "list", data := .seq items.toArray }, if_pos rfl⟩)) (fun b u e => ?_) (fun o e => by rw [hk] at e; cases e)
    obtain ⟨rfl, rfl⟩ := at_a b u e
    exact ⟨script, by rw [List.length_map]; exact Nat.le_trans short small, items, _, vals, script⟩
/-- the goal that the head leaves -/
theorem walkG {l : PySem.W.OpenLaw} {n k : Nat} {q : Program} {loose : List Str} {XP : (Str → Option Value) → Heap → Prop} {YP : World → Heap → Prop} {d : DefRec} {K : Params → Fr} {x : Str}
    (most : l.most = some n) (small : n ≤ sizeLine) (dflt : d.params.defaults = []) (room : Room k callerA) (inK : ∀ (w : World) (h : Heap), YP w h → (K w.params).In h)
    (F : ∀ (w : World) (mg : Str → Option Value) (fa : Addr) (h : Heap), (K w.params).In h → h.Ns mainGlobals mg → mg d.name = some (.ref fa) →
      ∃ fd : FuncData, (∀ (s : Shared) (u : Value), BindsTo s fd ⟨[u], []⟩ [(x, u)]) ∧ ∀ base : Heap, (K w.params).In base → base.Ns mainGlobals mg → FnG l.prog w (K w.params) mg base k fa fd [x] (spP (K w.params) (SLaw n))) :
    PySem.W.WalkO q loose XP YP l.row.toRowW d [] (fun f vs => PySem.call f vs) := by
  refine Att.attach_call most dflt ?_
  intro w s0 s1 mg mb fa o pm cd doc a vs ns G Y _ _ _ hmg obj allInt short gens
  obtain ⟨fd, bnd, hF⟩ := F w mg fa _ (inK w _ Y) G.T.g hmg
  exact top_call (inK w _ Y) G.T.g G.T.b G.T.builtins G.T.nolimit gens obj allInt short small room hF bnd
end Lw

set_option Elab.async false
set_option linter.all false
set_option maxRecDepth 100000
set_option maxHeartbeats 2000000
/-! own classes: ==, != and len of their instances, their attributes as targets -/
namespace Lw
open PySem PySem.Spec PyProof.Rows L2
section
variable {X : Cx} {C g : Addr} {n : Nat} {fd : FuncData} {ps : List Str} {sp : Sp}
theorem cmp_back {P : Value → Shared → Prop} {z : V} {v : Value} {s' : Shared} (r : RelV z v) (h : P v s') : PySem.W.CmpBack P v s' := by
  cases v <;> first | exact h | skip
  cases z with
  | bl b => cases (show Value.notImplemented = Value.bool b from r)
  | non => cases (show Value.notImplemented = Value.none from r)
  | int i => obtain ⟨t, q⟩ := (show ∃ t, Value.notImplemented = Value.int i t from r); cases q
  | str y => obtain ⟨t, q⟩ := (show ∃ t, Value.notImplemented = Value.str y t from r); cases q
  | byt y => obtain ⟨t, q⟩ := (show ∃ t, Value.notImplemented = Value.bytes y t from r); cases q
  | flt y => obtain ⟨t, q⟩ := (show ∃ t, Value.notImplemented = Value.float y t from r); cases q
  | ref a => cases (show Value.notImplemented = Value.ref a from r)
  | ty T => cases (show Value.notImplemented = Value.type T from r)
/-- x op y, x an instance of the class at C, whose def for op is at g; y of the kind tb, no class below C -/
def rOwnA (K : Fr) (C : Addr) (sp : Sp) : R2 := fun x y H Q => ∃ a dx fs tb, x = .ref a ∧ H a = some (.ins C dx fs) ∧ TyX K H y tb ∧ PySem.W.notFirst K C tb = true ∧ sp [x, y] H Q E0
theorem run_own {us : List Value} {vs : List V} {pins : List (Addr × Obj)} {σ : L2.St} {H : Hp} {s : Shared} {Q : VK} {A : Around} (F : FnOk X.prog X.w X.K X.mg X.base CX0 n g fd ps sp) (hb : L2.Binds X.K fd ps []) (hr : Room n A) (e0 : Env0 X.prog X.w X.K X.mg X.base A X.stack s H)
    (I : Inv X pins σ H s) (r : Vals vs us) (h : sp vs H Q E0) : codeAny (model X.prog X.w) A (.call (.ref g) ⟨us, []⟩) (fun r s' => match r with | .ok (.ret v) => EP X pins σ Q v s' | .ok _ => False | .error e => False) s := by
  have hl : (us ++ []).length = ps.length := by
    rw [List.append_nil, ← r.length]
    exact F.len _ _ _ _ h
  have bnd := hb s us I.kIn hl
  rw [List.append_nil] at bnd
  refine codeAny_mono (F.run A X.stack s H ⟨us, []⟩ us vs Q E0 hr e0 bnd r h) ?_
  rintro res s' hq
  cases res with
  | error e => exact hq
  | ok fl =>
    cases fl with
    | ret u => exact I.after hq
    | next => exact hq
    | brk => exact hq
    | cont => exact hq
theorem op_ownA {op : CmpOp} (hop : ∀ a b, compareOp op a b = richCompare op a b) (hs : PySem.W.findIn X.K (.ref C) (cmpInfo op).2.1 = some (some (.ref g))) (hf : PySem.W.isFn X.K (.ref g) = true)
    (F : FnOk X.prog X.w X.K X.mg X.base CX0 n g fd ps sp) (hb : L2.Binds X.K fd ps []) (hr : Room n X.A) : OpR X (compareOp op) (rOwnA X.K C sp) := fun pins s σ H x y v u Q I rx ry h => by
  obtain ⟨a, dx, fs, tb, rfl, ha, ty, hn, q⟩ := h
  cases (show v = Value.ref a from rx)
  obtain ⟨mA, O, _⟩ := ins_get I.hok ha
  obtain ⟨od, J, _⟩ := O.look
  obtain ⟨P, Z, p, _⟩ := kit_of I ry ty
  obtain ⟨m, hF⟩ := I.fr
  rw [hop]
  refine PySem.W.cmp_K (op := op) (tb := tb) hr.units0 hF I.ok.mod.kin J (Z.ty _ _ I.kIn p) hn hs hf ?_
  refine wpAny_call (codeAny_mono (run_own (vs := [.ref a, y]) F hb hr I.env0 I (.cons rfl (.cons ry .nil)) q) ?_)
  rintro res s' hq
  cases res with
  | error e => exact hq.elim
  | ok fl =>
    cases fl with
    | ret w =>
      obtain ⟨z', H', I', rz, qz⟩ := hq
      exact cmp_back rz ⟨z', H', I', rz, qz⟩
    | next => exact hq.elim
    | brk => exact hq.elim
    | cont => exact hq.elim
/-- len(x) of such an instance -/
theorem call_lenOwn (hs : PySem.W.findIn X.K (.ref C) "__len__" = some (some (.ref g))) (hf : PySem.W.isFn X.K (.ref g) = true) (F : FnOk X.prog X.w X.K X.mg X.base CX0 n g fd ps sp) (hb : L2.Binds X.K fd ps []) (hr : Room (n + 1) X.A) :
    CallR X (.builtin "len") (fun xs H Q => ∃ a dx fs, xs = [.ref a] ∧ H a = some (.ins C dx fs) ∧ sp [.ref a] H (fun v H' => ∃ i, v = .int i ∧ 0 ≤ i ∧ i < 2 ^ 63 ∧ Q v H') E0) := fun pins s σ H xs us Q I r h => by
  obtain ⟨a, dx, fs, rfl, ha, q⟩ := h
  obtain ⟨u, rfl, ru⟩ := vals1 r
  cases (show u = Value.ref a from ru)
  obtain ⟨mA, O, _⟩ := ins_get I.hok ha
  obtain ⟨od, J, _⟩ := O.look
  obtain ⟨m, hF⟩ := I.fr
  refine PySem.W.len_K hF I.ok.mod.kin J hs hf ?_
  refine wpAny_call (codeAny_mono (run_own (vs := [.ref a]) (A := X.A.in1) F hb hr.in1 I.env0.in1 I (.cons rfl .nil) q) ?_)
  rintro res s' hq
  cases res with
  | error e => exact hq.elim
  | ok fl =>
    cases fl with
    | ret w =>
      obtain ⟨z', H', I', rz, i, rfl, h0, h1, qz⟩ := hq
      obtain ⟨t, rfl⟩ := rz
      exact ⟨⟨h0, h1⟩, .int i, H', I'.tok _, ⟨_, rfl⟩, qz⟩
    | next => exact hq.elim
    | brk => exact hq.elim
    | cont => exact hq.elim
/-! x != y by __eq__: object.__ne__ -/
theorem if_bound {K : Fr} {M : Model} {A : Around} {E : Value → Shared → Prop} {s : Shared} {a D : Addr} {ox : Obj} {od : Option Obj} {name : Str} {id : String} {args : List Value} {Q : Option Value → Shared → Prop} (S : PySem.Slot "object" name id) (inK : K.In s.heap) (J : PySem.W.InstAt s.heap a ox D od)
    (hs : PySem.W.findIn K (.ref D) name = some (some (.builtin id))) (h : wpAny M A (call (.builtin id) (.ref a :: args)) (fun v => Q (some v)) E s) : wpAny M A (callSpecialIfBound? (.ref a) name args) Q E s := by
  simp only [callSpecialIfBound?, bindSpecialIfBound?]
  refine wpAny_holding (wpAny_bind (wpAny_bind (wpAny_bind (J.type.here ((PySem.W.looks_findIn inK hs).here ?_)))))
  simp only [S.bind]
  refine wpAny_bind (wpAny_askSetting (wpAny_ite ?_))
  have last : wpAny M A (call (.builtin id) ([.ref a] ++ args) >>= fun v => pure (some v)) Q E s := wpAny_bind (wpAny_mono h (fun v s' h' => wpAny_pure h') (fun _ _ h' => h'))
  split
  · exact wpAny_bind (wpAny_pure (wpAny_pure last))
  · exact wpAny_tryCatch (wpAny_bind (wpAny_pure (wpAny_pure last)))
/-- x != y, x an instance of the class at C with __eq__ at g and without __ne__; sp's answer is a truth -/
def rNeA (K : Fr) (C : Addr) (sp : Sp) : R2 := fun x y H Q => ∃ a dx fs tb, x = .ref a ∧ H a = some (.ins C dx fs) ∧ TyX K H y tb ∧ PySem.W.notFirst K C tb = true ∧ sp [x, y] H (fun v H' => ∃ b, v = .bl b ∧ Q (.bl (!b)) H') E0
theorem op_neOwn (hs : PySem.W.findIn X.K (.ref C) "__ne__" = some (some (.builtin "object.__ne__"))) (hobj : PySem.W.subIn X.K (.ref C) (.type "object") = some true) (he : PySem.W.findIn X.K (.ref C) "__eq__" = some (some (.ref g))) (hf : PySem.W.isFn X.K (.ref g) = true)
    (F : FnOk X.prog X.w X.K X.mg X.base CX0 n g fd ps sp) (hb : L2.Binds X.K fd ps []) (hr : Room (n + 1) X.A) : OpR X (compareOp .NotEq) (rNeA X.K C sp) := fun pins s σ H x y v u Q I rx ry h => by
  obtain ⟨a, dx, fs, tb, rfl, ha, ty, hn, q⟩ := h
  cases (show v = Value.ref a from rx)
  obtain ⟨mA, O, _⟩ := ins_get I.hok ha
  obtain ⟨od, J, _⟩ := O.look
  obtain ⟨P, Z, p, _⟩ := kit_of I ry ty
  have hu : X.A.units < cLine := hr.units0
  have one : wpAny (model X.prog X.w) X.A (tryCompare (.ref a) "__ne__" u) (fun r s' => ∃ v, r = some v ∧ EP X pins σ Q v s') X.xe s := by
    unfold tryCompare
    refine wpAny_bind (if_bound PySem.F.cmp_object.ne I.kIn J hs ?_)
    refine wpAny_call (codeAny_call_builtin PySem.F.cmp_object.ne.plain PySem.F.cmpEntry_ne (PySem.W.check_slot PySem.F.cmpKind_ne PySem.F.cmpSplit_ne (J.type.andThen (PySem.W.looks_subIn I.kIn hobj)) (PySem.F.cmpArgs_ne _ _) ?_))
    have asked : wpAny (model X.prog X.w) X.A.in1 (call (.ref g) [.ref a, u]) (fun r s' => ∃ b, r = .bool b ∧ EP X pins σ Q (.bool (!b)) s') X.xe s := by
      refine wpAny_call (codeAny_mono (run_own (vs := [.ref a, y]) (A := X.A.in1) F hb hr.in1 I.env0.in1 I (.cons rfl (.cons ry .nil)) q) ?_)
      rintro res s' hq
      cases res with
      | error e => exact hq.elim
      | ok fl =>
        cases fl with
        | ret w =>
          obtain ⟨z', H', I', rz, b, rfl, qz⟩ := hq
          cases (show w = Value.bool b from rz)
          exact ⟨b, rfl, .bl (!b), H', I', rfl, qz⟩
        | next => exact hq.elim
        | brk => exact hq.elim
        | cont => exact hq.elim
    have hu1 : X.A.in1.units < cLine := hr.in1.units0
    unfold Builtin.«object.__ne__»
    repeat (first
      | with_reducible refine wpAny_cRoomFor hu1 ?_
      | (refine wpAny_bind (m := callSpecialIfBound? (.ref a) (Str.ofString "__eq__") [u]) (PySem.W.ifBound_K I.kIn J he hf (wpAny_mono asked (fun r s' hr => by
          obtain ⟨b, rfl, hq⟩ := hr
          repeat (first | exact ⟨_, rfl, hq⟩ | exact wpAny_pure hq | exact wpAny_truthy_bool hq | (refine wpAny_bind (m := truthy (.bool _)) (wpAny_truthy_bool ?_)) | wp_step)) fun _ _ e => e)))
      | wp_step)
  show wpAny _ _ (richCompare .NotEq (.ref a) u) _ _ s
  unfold richCompare
  simp only [oneThing_ref]
  refine wpAny_holding (wpAny_bind (wpAny_cRoomFor hu ?_))
  rw [cmpInfo_NotEq]
  dsimp only
  refine wpAny_bind (J.type.here (wpAny_bind ((Z.ty _ _ I.kIn p).here ?_)))
  split
  · rename_i other
    have below : PySem.W.subIn X.K tb (.ref C) = some false := by
      cases Bool.or_eq_true_iff.mp hn with
      | inl e => rw [beq_iff_eq.mp e] at other; simp at other
      | inr e => exact beq_iff_eq.mp e
    refine wpAny_bind ((PySem.W.looks_subIn I.kIn below).here ?_)
    simp only [Bool.false_eq_true, if_false]
    refine wpAny_bind (wpAny_mono one ?_ (fun _ _ e => e))
    rintro r s' ⟨v, rfl, hq⟩
    exact wpAny_pure hq
  · refine wpAny_bind (wpAny_pure ?_)
    simp only [Bool.false_eq_true, if_false]
    refine wpAny_bind (wpAny_mono one ?_ (fun _ _ e => e))
    rintro r s' ⟨v, rfl, hq⟩
    exact wpAny_pure hq
/-- o.f = v, as a target -/
def gAttr (K : Fr) (to : TE) (f : Str) : TG := fun v σ H Q => to σ H fun x H1 => ∃ a C dx fs, x = .ref a ∧ H1 a = some (.ins C dx fs) ∧ Cls K C ∧ NoAttr K C f ∧ fs.length < 1000 ∧ Q σ (upd H1 a (.ins C dx (putF f v fs)))
theorem pg_attr {o : Expr} {to : TE} {f : Str} {pos : Pos} (ho : PE X o to) : PG X (.Attribute o f pos) (gAttr X.K to f) := by
  constructor
  intro pins s σ H v u Q I r h
  rw [assign_Attribute]
  refine wpAny_bind (wpAny_holding (thn (ho.run pins s σ H _ I h) ?_))
  rintro ov s1 ⟨x, H1, I1, rx, a, D, dx, fs, rfl, ha, c, nf, hl, q⟩
  cases (show ov = Value.ref a from rx)
  refine wpAny_bind (wpAny_standAt (wpAny_bind (wpAny_holding (setattr_ok I1 ha c nf hl r ?_))))
  intro s2 I2
  exact wpAny_release ⟨σ, _, I2, q⟩
end

/-! ### instances, over abstract values -/
def insP (C : Addr) (fs : List (Str × AV)) : Pr := ⟨fun K v B => ∃ p dx ws, v = .ref p ∧ B p = some (.ins C dx ws) ∧ FsH K B fs ws, fun e ⟨p, dx, ws, h1, h2, h3⟩ => ⟨p, dx, ws, h1, e _ _ h2, h3.mono e⟩⟩
/-- an instance that is not changed any more -/
abbrev AV.ob (C : Addr) (fs : List (Str × AV)) : AV := .x (insP C fs)
section
variable {K : Fr} {ρ : AS} {μ μ1 μ2 μ3 : AM} {ta te tv : TE} {R R1 : AV} {C : Addr} {fs : List (Str × AV)} {f : Str} {P : Po}
theorem ew_fld (h : EvW K ta ρ μ (.ob C fs) μ1) (hc : Cls K C) (hn : NoAttr K C f) (hl : fs.lookup f = some R) : EvW K (tFld K ta f) ρ μ R μ1 := fun F B H σ w sl Q q => h F B H σ w sl _ fun v B2 H2 e w2 hv => by
  obtain ⟨p, dx, ws, rfl, h2, h3⟩ := hv
  obtain ⟨v, g1, g2⟩ := h3.get hl
  exact ⟨p, C, dx, ws, v, rfl, w2.1 _ _ h2, hc, hn, g1, q v B2 H2 e w2 g2⟩
/-- of an instance that is still owned -/
theorem ew_fldO {p dx : Addr} (h : EvW K ta ρ μ (.r p) μ1) (ho : μ1 p = some (.ins C dx fs)) (hc : Cls K C) (hn : NoAttr K C f) (hl : fs.lookup f = some R) : EvW K (tFld K ta f) ρ μ R μ1 := fun F B H σ w sl Q q => h F B H σ w sl _ fun v B2 H2 e w2 hv => by
  have ev : v = .ref p := hv
  subst ev
  obtain ⟨_, _, u, hu, ws, rfl, hA⟩ := w2.2.1 p _ ho
  obtain ⟨v, g1, g2⟩ := hA.get hl
  exact ⟨p, C, dx, ws, v, rfl, hu, hc, hn, g1, q v B2 H2 e w2 g2⟩
theorem s_fld {p dx : Addr} (h : EvW K tv ρ μ R μ1) (ho : EvW K ta ρ μ1 (.r p) μ2) (hp : μ2 p = some (.ins C dx fs)) (hc : Cls K C) (hn : NoAttr K C f) (hl : fs.length < 1000) (k : P.nx ρ (updM μ2 p (.ins C dx (putA f R fs)))) : StW K (sFld K ta tv f) ρ μ P := fun F D B H σ w sl r =>
  h F B H σ w sl _ fun y B1 H1 e1 w1 hy => ho F B1 H1 σ w1 (sl.mono e1) _ fun v B2 H2 e2 w2 hv => by
    have ev : v = .ref p := hv
    subst ev
    obtain ⟨_, _, u, hu, ws, rfl, hA⟩ := w2.2.1 p _ hp
    refine ⟨p, C, dx, ws, rfl, hu, hc, hn, by rw [← hA.length]; exact hl, ?_⟩
    exact r.nx _ _ B2 _ σ k (e1.trans e2) (w2.set hp ⟨_, rfl, hA.put (AV.mono e2 hy)⟩) (sl.mono (e1.trans e2))
/-- self.f, self.g = a pair; self owned -/
theorem s_fld2 {p dx : Addr} {i : Nat} {f g : Str} {d e : PyData} (h : EvW K tv ρ μ (.d (.tuple [d, e])) μ1) (hi : ρ[i]? = some (some (.r p))) (hp : μ1 p = some (.ins C dx fs)) (hc : Cls K C) (hf : NoAttr K C f) (hg : NoAttr K C g) (hl : fs.length < 900) (hl2 : (putA f (.d d) fs).length < 950)
    (k : P.nx ρ (updM μ1 p (.ins C dx (putA g (.d e) (putA f (.d d) fs))))) : StW K (tAsg tv (gTup K 2 (gCons (gAttr K (tVar i) f) (gCons (gAttr K (tVar i) g) gNil)))) ρ μ P := fun F D B H σ w sl r =>
  h F B H σ w sl _ fun y B1 H1 e1 w1 hy => by
    cases (show Dt K B1 y (.tuple [d, e]) from hy) with
    | @tup a vs _ h1 h0 h2 =>
      cases h2 with
      | @cons v1 _ _ _ g1 h2 =>
        cases h2 with
        | @cons v2 _ _ _ g2 h2 =>
          cases h2
          obtain ⟨vp, s1, s2⟩ := (sl.mono e1).get hi
          have ev : vp = .ref p := s2
          subst ev
          obtain ⟨_, _, u, hu, ws, rfl, hA⟩ := w1.2.1 p _ hp
          have w2 := w1.set (ao := .ins C dx (putA f (.d d) fs)) hp ⟨_, rfl, hA.put (R := .d d) g1⟩
          refine ⟨a, [v1, v2], rfl, seq_l w1.1 h1, rfl, v1, [v2], rfl, .ref p, s1, p, C, dx, ws, rfl, hu, hc, hf, by rw [← hA.length]; omega, ?_⟩
          have hA2 : FsH K B1 (putA f (.d d) fs) (putF f v1 ws) := hA.put (R := .d d) g1
          refine ⟨v2, [], rfl, .ref p, s1, p, C, dx, putF f v1 ws, rfl, upd_same, hc, hg, by rw [← hA2.length]; omega, rfl, ?_⟩
          have w3 := w2.set (ao := .ins C dx (putA g (.d e) (putA f (.d d) fs))) updM_same ⟨_, rfl, hA2.put (R := .d e) g2⟩
          rw [updM_updM] at w3
          exact r.nx _ _ B1 _ σ k e1 w3 (sl.mono e1)
/-- C(..): the new instance is not changed behind __init__ -/
theorem ew_make {S : Spc} {E : XK} {t : TA} {Rs : List AV} (h : EvA K t ρ μ Rs μ1) (hS : ∀ p dx, μ1 p = none → S (.r p :: Rs) (updM μ1 p (.ins C dx [])) (fun R μ' => R = .d .none ∧ μ' = updM μ1 p (.ins C dx fs))) : EvW K (tMake C (spP K S) [] E t) ρ μ (.ob C fs) μ1 := fun F B H σ w sl Q q =>
  h F B H σ w sl _ fun vs B1 H1 e1 w1 hv => fun p dx hp hdx hne => by
    have hm : μ1 p = none := by
      cases q : μ1 p with
      | none => rfl
      | some o => obtain ⟨_, _, u, hu, _⟩ := w1.2.1 p o q; rw [hu] at hp; cases hp
    obtain ⟨w2, e2, _⟩ := w1.new (o := .own p) hdx
    have hp2 : upd H1 dx (.own p) p = none := by rw [upd_ne hne.symm]; exact hp
    have w3 : Wd K F (upd B1 dx (.own p)) (updM μ1 p (.ins C dx [])) (upd (upd H1 dx (.own p)) p (.ins C dx [])) := w2.newM hp2 ⟨[], rfl, trivial⟩
    rw [List.append_nil]
    refine ⟨F, _, _, .r p :: Rs, _, w3, ⟨rfl, hv.mono e2⟩, hS p dx hm, ?_⟩
    rintro R μ' v B4 H4 ⟨rfl, rfl⟩ e4 w4 hv4
    refine ⟨h_n hv4, ?_⟩
    obtain ⟨u, w5, e5, e6, ws, rfl, hF⟩ := w4.freeze updM_same
    have w6 : Wd K F (upd B4 p (.ins C dx ws)) μ1 H4 := w5.drop (fun a o q => by
      have hne : a ≠ p := fun z => by rw [z, hm] at q; cases q
      unfold delM
      rw [if_neg hne, updM_ne hne]
      exact q)
    exact q _ _ H4 (((e1.trans e2).trans e4).trans e5) w6 ⟨p, dx, ws, rfl, e6, hF.mono e5⟩
/-- o.m(..) of such an instance -/
theorem ew_meth {m : Str} {S : Spc} {E : XK} {t : TA} {Rs : List AV} (ha : EvW K ta ρ μ (.ob C fs) μ1) (hm : fs.lookup m = none) (h : EvA K t ρ μ1 Rs μ2) (hS : S (.ob C fs :: Rs) μ2 (fun R' μ' => R' = R ∧ μ' = μ3)) : EvW K (tMeth C m (spP K S) [] E ta t) ρ μ R μ3 := fun F B H σ w sl Q q =>
  ha F B H σ w sl _ fun v B1 H1 e1 w1 hv => by
    obtain ⟨p, dx, ws, rfl, h2, h3⟩ := hv
    refine ⟨p, dx, ws, rfl, w1.1 _ _ h2, h3.none hm, h F B1 H1 σ w1 (sl.mono e1) _ fun vs B2 H2 e2 w2 hvs => ?_⟩
    rw [List.append_nil]
    refine ⟨F, B2, μ2, .ob C fs :: Rs, _, w2, ⟨AV.mono (R := .ob C fs) e2 ⟨p, dx, ws, rfl, h2, h3⟩, hvs⟩, hS, ?_⟩
    rintro R' μ' v B3 H3 ⟨rfl, rfl⟩ e3 w3 hv3
    exact q v B3 H3 ((e1.trans e2).trans e3) w3 hv3
end
end Lw

set_option Elab.async false
set_option linter.all false
set_option maxRecDepth 100000
set_option maxHeartbeats 2000000
/-! isinstance; own operators and properties over abstract values; dicts whose keys are sources -/
namespace Lw
open PySem PySem.Spec PyProof.Rows L2
/-- what an abstract value's type is -/
def TyA (K : Fr) (R : AV) (t : Value) : Prop := ∀ B H v, Same B H → R.h K v B → TyX K H v t
section
variable {K : Fr} {ρ : AS} {μ μ1 μ2 μ3 : AM} {ta te tv : TE} {R R1 : AV} {C : Addr} {fs : List (Str × AV)} {f : Str} {P : Po} {ds : List PyData}
theorem ty_int {i : Int} : TyA K (.i i) (.type "int") := fun B H v e h => by
  rw [h_i h]
  exact .base (.int i)
theorem ty_bool {i : Bool} : TyA K (.b i) (.type "bool") := fun B H v e h => by
  rw [h_b h]
  exact .base (.bl i)
theorem ty_str {i : Str} : TyA K (.s i) (.type "str") := fun B H v e h => by
  rw [h_s h]
  exact .base (.str i)
theorem ty_none : TyA K (.d .none) (.type "NoneType") := fun B H v e h => by
  rw [h_n h]
  exact .base .non
theorem ty_tup : TyA K (.d (.tuple ds)) (.type "tuple") := fun B H v e h => by
  cases (show Dt K B v (.tuple ds) from h) with
  | @tup a vs _ h1 _ _ =>
    rcases h1 with (h | ⟨o, h⟩) | ⟨o, its, n, hk, hc, hd, _⟩
    · exact .base (.tup (e _ _ h))
    · exact .fTuple (e _ _ h)
    · exact .kTuple hk hc
theorem ty_lst : TyA K (.d (.list ds)) (.type "list") := fun B H v e h => by
  cases (show Dt K B v (.list ds) from h) with
  | @lst a vs _ h1 _ =>
    rcases h1 with (h | ⟨o, h⟩) | ⟨o, its, n, hk, hc, _⟩
    · exact .base (.lst (e _ _ h))
    · exact .base (.frz (e _ _ h))
    · exact .kList hk hc
/-- a class as a value -/
def tyP (T : String) : Pr := ⟨fun _ v _ => v = .ty T, fun _ h => h⟩
theorem ew_ty {T : String} : EvW K (tC (.ty T)) ρ μ (.x (tyP T)) μ := fun F B H σ w sl Q q => q _ B H (Same.refl _) w rfl
theorem ew_cls {D : Addr} : EvW K (tC (.ref D)) ρ μ (.r D) μ := fun F B H σ w sl Q q => q _ B H (Same.refl _) w rfl
theorem n_isi {T : String} {t : Value} {b : Bool} (ht : TyA K R t) (hk : PySem.W.kitOne K t (.type T) = some b) : OpN K (rIsi K) [R, .x (tyP T)] μ (.b b) μ := fun F B H xs w hx Q q => by
  match xs, hx with
  | [v, c], hx =>
    have ec : c = .ty T := hx.2.1
    subst ec
    exact ⟨v, .ty T, t, .type T, b, rfl, .ty T, ht B H v w.1 hx.1, hk, q _ B H (Same.refl _) w (.bl b)⟩
theorem n_isiC {D : Addr} {t : Value} {b : Bool} (ht : TyA K R t) (hk : PySem.W.kitOne K t (.ref D) = some b) : OpN K (rIsi K) [R, .r D] μ (.b b) μ := fun F B H xs w hx Q q => by
  match xs, hx with
  | [v, c], hx =>
    have ec : c = .ref D := hx.2.1
    subst ec
    exact ⟨v, .ref D, t, .ref D, b, rfl, .own D, ht B H v w.1 hx.1, hk, q _ B H (Same.refl _) w (.bl b)⟩
theorem ew_prop {S : Spc} {E : XK} (h : EvW K ta ρ μ (.ob C fs) μ1) (hS : S [.ob C fs] μ1 (fun R' μ' => R' = R ∧ μ' = μ2)) : EvW K (tProp C (spP K S) [] E ta) ρ μ R μ2 := fun F B H σ w sl Q q => h F B H σ w sl _ fun v B1 H1 e1 w1 hv => by
  obtain ⟨p, dx, ws, rfl, h2, h3⟩ := hv
  refine ⟨p, dx, ws, rfl, w1.1 _ _ h2, F, B1, μ1, [.ob C fs], _, w1, ⟨⟨p, dx, ws, rfl, h2, h3⟩, trivial⟩, hS, ?_⟩
  rintro R' μ' v B3 H3 ⟨rfl, rfl⟩ e3 w3 hv3
  exact q v B3 H3 (e1.trans e3) w3 hv3
theorem o_ownEq {S : Spc} {t : Value} {b : Bool} (ht : TyA K R t) (hn : PySem.W.notFirst K C t = true) (hS : S [.ob C fs, R] μ (fun R' μ' => R' = .b b ∧ μ' = μ)) : Op2 K (rOwnA K C (spP K S)) (.ob C fs) R μ (.b b) μ := fun F B H x y w h1 h2 Q q => by
  obtain ⟨p, dx, ws, rfl, g2, g3⟩ := h1
  refine ⟨p, dx, ws, t, rfl, w.1 _ _ g2, ht B H y w.1 h2, hn, F, B, μ, [.ob C fs, R], _, w, ⟨⟨p, dx, ws, rfl, g2, g3⟩, h2, trivial⟩, hS, ?_⟩
  rintro R' μ' v B3 H3 ⟨rfl, rfl⟩ e3 w3 hv3
  exact q v B3 H3 e3 w3 hv3
theorem o_ownNe {S : Spc} {t : Value} {b : Bool} (ht : TyA K R t) (hn : PySem.W.notFirst K C t = true) (hS : S [.ob C fs, R] μ (fun R' μ' => R' = .b b ∧ μ' = μ)) : Op2 K (rNeA K C (spP K S)) (.ob C fs) R μ (.b (!b)) μ := fun F B H x y w h1 h2 Q q => by
  obtain ⟨p, dx, ws, rfl, g2, g3⟩ := h1
  refine ⟨p, dx, ws, t, rfl, w.1 _ _ g2, ht B H y w.1 h2, hn, F, B, μ, [.ob C fs, R], _, w, ⟨⟨p, dx, ws, rfl, g2, g3⟩, h2, trivial⟩, hS, ?_⟩
  rintro R' μ' v B3 H3 ⟨rfl, rfl⟩ e3 w3 hv3
  exact ⟨b, h_b hv3, q _ B3 H3 e3 w3 (.bl _)⟩
theorem n_lenOwn {S : Spc} {i : Int} (hi : 0 ≤ i ∧ i < 2 ^ 63) (hS : S [.ob C fs] μ (fun R' μ' => R' = .i i ∧ μ' = μ)) :
    OpN K (fun xs H Q => ∃ a dx fs, xs = [.ref a] ∧ H a = some (.ins C dx fs) ∧ spP K S [.ref a] H (fun v H' => ∃ i, v = .int i ∧ 0 ≤ i ∧ i < 2 ^ 63 ∧ Q v H') E0) [.ob C fs] μ (.i i) μ := fun F B H xs w hx Q q => by
  match xs, hx with
  | [v], hx =>
    obtain ⟨p, dx, ws, rfl, g2, g3⟩ := hx.1
    refine ⟨p, dx, ws, rfl, w.1 _ _ g2, F, B, μ, [.ob C fs], _, w, ⟨⟨p, dx, ws, rfl, g2, g3⟩, trivial⟩, hS, ?_⟩
    rintro R' μ' v B3 H3 ⟨rfl, rfl⟩ e3 w3 hv3
    exact ⟨i, h_i hv3, hi.1, hi.2, q _ B3 H3 e3 w3 hv3⟩

theorem ew_chain {r r' : V → V → Hp → VK → Prop} {tb tc : TE} {R2 R3 : AV} {a b : Bool} (ha : EvW K ta ρ μ R1 μ1) (hb : EvW K tb ρ μ1 R2 μ2) (hr : Op2 K r R1 R2 μ2 (.b a) μ2) (hc : a = true → EvW K tc ρ μ2 R3 μ3) (hr2 : Op2 K r' R2 R3 μ3 (.b b) μ3) (hm : μ2 = μ3) : EvW K (tChain r r' ta tb tc) ρ μ (.b (a && b)) μ3 := fun F B H σ w s Q q =>
  ha F B H σ w s _ fun x B1 H1 e1 w1 h1 => hb F B1 H1 σ w1 (s.mono e1) _ fun y B2 H2 e2 w2 h2 => hr F B2 H2 x y w2 (AV.mono e2 h1) h2 _ fun v B3 H3 e3 w3 h3 => ⟨a, h_b h3, by
    cases a with
    | true =>
      show tc σ H3 _
      exact hc rfl F B3 H3 σ w3 (s.mono ((e1.trans e2).trans e3)) _ fun z B4 H4 e4 w4 h4 => hr2 F B4 H4 y z w4 (AV.mono (e3.trans e4) h2) h4 Q fun v B5 H5 e5 w5 h5 => q v B5 H5 ((((e1.trans e2).trans e3).trans e4).trans e5) w5 h5
    | false =>
      show Q (.bl false) H3
      subst hm
      exact q _ B3 H3 ((e1.trans e2).trans e3) w3 (.bl _)⟩

theorem s_augI {i : Nat} {g : Int → Int → Int} {a b : Int} (hx : ρ[i]? = some (some (.i a))) (h : EvW K te ρ μ (.i b) μ1) (p : P.nx (ρ.set i (some (.i (g a b)))) μ1) : StW K (tAug i te (ipI g)) ρ μ P := fun F D B H σ w sl r => by
  obtain ⟨v, h1, h2⟩ := sl.get hx
  refine ⟨v, h1, h F B H σ w sl _ fun y B2 H2 e w2 hy => ?_⟩
  exact ⟨a, b, h_i h2, h_i hy, r.nx _ _ B2 H2 _ p e w2 (Sl.set (R := .i (g a b)) (v := .int (g a b)) (.int _) i (sl.mono e))⟩

/-! ### dicts whose keys are sources -/
def Src.key : Src → List Key
  | .inp k => [.inr sIn, .inl k]
  | .lit c => [.inr sLit, .inl c]
theorem src_at {B : Hp} {v : V} {s : Src} (h : Dt K B v s.d) : ∃ a, v = .ref a ∧ B a = some (.tup (s.key.map kV)) := by
  cases s with
  | inp k =>
    cases (show Dt K B v (.tuple [.str sIn, .int k]) from h) with
    | @tup a vs _ _ h0 h2 =>
      cases h2 with
      | cons g1 h2 =>
        cases h2 with
        | cons g2 h2 =>
          cases h2
          cases g1
          cases g2
          exact ⟨a, rfl, h0 _ _ rfl⟩
  | lit k =>
    cases (show Dt K B v (.tuple [.str sLit, .int k]) from h) with
    | @tup a vs _ _ h0 h2 =>
      cases h2 with
      | cons g1 h2 =>
        cases h2 with
        | cons g2 h2 =>
          cases h2
          cases g1
          cases g2
          exact ⟨a, rfl, h0 _ _ rfl⟩
theorem s_dnew {i : Nat} (p : ∀ l, μ l = none → P.nx (ρ.set i (some (.r l))) (updM μ l (.o (.dT [])))) : StW K (tAsg tDNewT (gName i)) ρ μ P := fun F D B H σ w sl r => fun l hp => by
  have hm : μ l = none := by
    cases q : μ l with
    | none => rfl
    | some o => obtain ⟨_, _, u, hu, _⟩ := w.2.1 l o q; rw [hu] at hp; cases hp
  exact r.nx _ _ B _ _ (p l hm) (Same.refl _) (w.newM (ao := .o (.dT [])) hp rfl) (Sl.set (R := .r l) (v := .ref l) (show V.ref l = V.ref l from rfl) i sl)
/-- d.get(s, 0) -/
theorem ew_dget2 {td ty tx : TE} {l : Addr} {kvs : List (List Key × V)} {s : Src} {i : Int} (hd : EvW K td ρ μ (.r l) μ) (hl : μ l = some (.o (.dT kvs))) (hy : EvW K ty ρ μ (.d s.d) μ) (hx : EvW K tx ρ μ (.i i) μ) {r : Int} (hr : (valV kvs s.key).getD (.int i) = .int r) : EvW K (tDGet2 td ty tx) ρ μ (.i r) μ := fun F B H σ w sl Q q =>
  hd F B H σ w sl _ fun v B1 H1 e1 w1 hv => by
    have ev : v = .ref l := hv
    subst ev
    obtain ⟨_, _, u, hu, eu⟩ := w1.2.1 l _ hl
    have eu' : u = .dT kvs := eu
    subst eu'
    refine ⟨l, rfl, .inr ⟨kvs, .inl hu⟩, hy F B1 H1 σ w1 (sl.mono e1) _ fun y B2 H2 e2 w2 hy2 => hx F B2 H2 σ w2 (sl.mono (e1.trans e2)) _ fun z B3 H3 e3 w3 hz => ?_⟩
    obtain ⟨a, rfl, ha⟩ := src_at hy2
    obtain ⟨_, _, u, hu, eu⟩ := w3.2.1 l _ hl
    have eu' : u = .dT kvs := eu
    subst eu'
    refine ⟨valV kvs s.key, .t hu (w3.1 _ _ (e3 _ _ ha)), ?_⟩
    have ez := h_i hz
    subst ez
    rw [hr]
    exact q _ B3 H3 ((e1.trans e2).trans e3) w3 (.int r)
theorem ew_dget {td ty : TE} {l : Addr} {kvs : List (List Key × V)} {s : Src} {r : Int} (hd : EvW K td ρ μ (.r l) μ) (hl : μ l = some (.o (.dT kvs))) (hy : EvW K ty ρ μ (.d s.d) μ) (hr : valV kvs s.key = some (.int r)) : EvW K (tDGet td ty) ρ μ (.i r) μ := fun F B H σ w sl Q q =>
  hd F B H σ w sl _ fun v B1 H1 e1 w1 hv => hy F B1 H1 σ w1 (sl.mono e1) _ fun y B2 H2 e2 w2 hy2 => by
    have ev : v = .ref l := hv
    subst ev
    obtain ⟨a, rfl, ha⟩ := src_at hy2
    obtain ⟨_, _, u, hu, eu⟩ := w2.2.1 l _ hl
    have eu' : u = .dT kvs := eu
    subst eu'
    have g : DGet H2 l (.ref a) (valV kvs s.key) := .t hu (w2.1 _ _ ha)
    rw [hr] at g
    exact ⟨l, .int r, rfl, g, q _ B2 H2 (e1.trans e2) w2 (.int r)⟩
/-- d[s] = e -/
theorem s_dput {td ty tv : TE} {l : Addr} {kvs : List (List Key × V)} {s : Src} {r : Int} (hv : EvW K tv ρ μ (.i r) μ) (hd : EvW K td ρ μ (.r l) μ) (hl : μ l = some (.o (.dT kvs))) (hy : EvW K ty ρ μ (.d s.d) μ) (hz : kvs.length < 100000) (p : P.nx ρ (updM μ l (.o (.dT (putK kvs s.key (.int r)))))) : StW K (sDPut td ty tv) ρ μ P := fun F D B H σ w sl re =>
  hv F B H σ w sl _ fun v B1 H1 e1 w1 h1 => hd F B1 H1 σ w1 (sl.mono e1) _ fun x B2 H2 e2 w2 h2 => hy F B2 H2 σ w2 (sl.mono (e1.trans e2)) _ fun y B3 H3 e3 w3 h3 => by
    have ex : x = .ref l := h2
    have ev := h_i h1
    subst ex ev
    obtain ⟨a, rfl, ha⟩ := src_at h3
    obtain ⟨_, _, u, hu, eu⟩ := w3.2.1 l _ hl
    have eu' : u = .dT kvs := eu
    subst eu'
    exact ⟨l, _, rfl, .t hu (w3.1 _ _ ha) (Nat.lt_of_lt_of_le hz (by decide : 100000 ≤ sizeLine)), re.nx _ _ B3 _ σ p ((e1.trans e2).trans e3) (w3.set (ao := .o (.dT (putK kvs s.key (.int r)))) hl rfl) (sl.mono ((e1.trans e2).trans e3))⟩
end
end Lw

set_option Elab.async false
set_option linter.all false
set_option maxRecDepth 100000
set_option maxHeartbeats 2000000
/-! lists and tuples of abstract values; list(range(..)); more scalars -/
namespace Lw
open PySem PySem.Spec PyProof.Rows L2
/-- own == within a comprehension: the fragment told -/
theorem op_ownB {X : Cx} {C g : Addr} {n : Nat} {fd : FuncData} {ps : List Str} {sp : Sp} {K : Fr} {op : CmpOp} (hK : X.K = K) (hop : ∀ a b, compareOp op a b = richCompare op a b) (hs : PySem.W.findIn K (.ref C) (cmpInfo op).2.1 = some (some (.ref g))) (hf : PySem.W.isFn K (.ref g) = true)
    (F : FnOk X.prog X.w K X.mg X.base CX0 n g fd ps sp) (hb : L2.Binds K fd ps []) (hr : Room n X.A) : OpR X (compareOp op) (rOwnA K C sp) := by
  subst hK
  exact op_ownA hop hs hf F hb hr
def lsP (xs : List AV) : Pr := ⟨fun K v B => ∃ a vs, v = .ref a ∧ B a = some (.lst vs) ∧ AllH K B xs vs, fun e ⟨a, vs, h1, h2, h3⟩ => ⟨a, vs, h1, e _ _ h2, h3.mono e⟩⟩
/-- a list of abstract values that is not changed any more -/
abbrev AV.ls (xs : List AV) : AV := .x (lsP xs)
def tlP (xs : List AV) : Pr := ⟨fun K v B => ∃ a vs, v = .ref a ∧ B a = some (.tup vs) ∧ AllH K B xs vs, fun e ⟨a, vs, h1, h2, h3⟩ => ⟨a, vs, h1, e _ _ h2, h3.mono e⟩⟩
/-- a tuple of abstract values -/
abbrev AV.tl (xs : List AV) : AV := .x (tlP xs)
section
variable {K : Fr} {ρ : AS} {μ μ1 μ2 μ3 : AM} {ta tb te tl : TE} {t u : TT} {R R1 R2 : AV} {d e : PyData} {ds es : List PyData} {i j : Int} {Rs : List AV} {P : Po}
theorem ew_lstA {ta : TA} (h : EvA K ta ρ μ Rs μ1) (hz : Rs.length ≤ 100000) : EvW K (tLst ta) ρ μ (.ls Rs) μ1 := fun F B H σ w sl Q q =>
  h F B H σ w sl _ fun vs B2 H2 e w2 hv => ⟨by rw [← hv.length]; exact Nat.le_trans hz (by decide), fun p hp => by
    obtain ⟨w3, e3, e4⟩ := w2.new (o := .lst vs) hp
    exact q _ _ _ (e.trans e3) w3 ⟨p, vs, rfl, e4, hv.mono e3⟩⟩
theorem ew_tupA {ta : TA} (h : EvA K ta ρ μ Rs μ1) (hz : Rs.length ≤ 100000) : EvW K (tTup ta) ρ μ (.tl Rs) μ1 := fun F B H σ w sl Q q =>
  h F B H σ w sl _ fun vs B2 H2 e w2 hv => ⟨by rw [← hv.length]; exact Nat.le_trans hz (by decide), fun p hp => by
    obtain ⟨w3, e3, e4⟩ := w2.new (o := .tup vs) hp
    exact q _ _ _ (e.trans e3) w3 ⟨p, vs, rfl, e4, hv.mono e3⟩⟩
theorem it_ls {xs : List AV} (h : EvW K tl ρ μ (.ls xs) μ1) : ItW K (iList K tl) ρ μ xs μ1 := fun F B H σ w sl Rk q =>
  h F B H σ w sl _ fun v B2 H2 e w2 hv => by
    obtain ⟨a, vs, rfl, h1, h2⟩ := hv
    have sq : ∀ {H3 : Hp}, Same B2 H3 → SqL K H3 a vs := fun e => SqL.of (e _ _ h1)
    refine ⟨a, rfl, ⟨vs, sq w2.1⟩, q _ B2 H2 e w2 ⟨fun B3 H3 i e3 e4 hi => ?_, fun B3 H3 e3 e4 => ⟨vs, sq (e3.trans e4), ?_⟩, fun F B3 H3 μ i b x H' e3 w3 hb y => ?_⟩⟩
    · rw [h2.length] at hi
      exact ⟨vs, vs[i], sq (e3.trans e4), by simp [hi]⟩
    · rw [h2.length]
      exact Nat.le_refl _
    · obtain ⟨e5, y⟩ := y
      subst e5
      obtain ⟨v, hv1, hv2⟩ := h2.get hb
      have := y vs (sq (e3.trans w3.1))
      rw [hv1] at this
      cases this
      exact ⟨B3, Same.refl _, w3, AV.mono e3 hv2⟩
theorem ty_ls {xs : List AV} : TyA K (.ls xs) (.type "list") := fun B H v e h => by
  obtain ⟨a, vs, rfl, h1, _⟩ := h
  exact .base (.lst (e _ _ h1))
/-- a target of abstract values -/
def GaW (K : Fr) (g : TGs) (as : List AV) (ρ ρ2 : AS) : Prop := ∀ B H σ vs, Same B H → AllH K B as vs → Sl K B σ ρ → ∀ Q : L2.St → Hp → Prop, (∀ σ2, Sl K B σ2 ρ2 → Q σ2 H) → g vs σ H Q
theorem ga_nil : GaW K gNil [] ρ ρ := fun B H σ vs e h sl Q q => by
  cases vs with
  | nil => exact ⟨rfl, q _ sl⟩
  | cons _ _ => exact h.elim
theorem ga_cons {g : TG} {gs : TGs} {a : AV} {as : List AV} {ρ1 ρ2 : AS} (h1 : GtW K g a ρ ρ1) (h2 : GaW K gs as ρ1 ρ2) : GaW K (gCons g gs) (a :: as) ρ ρ2 := fun B H σ vs e h sl Q q => by
  cases vs with
  | nil => exact h.elim
  | cons v vs => exact ⟨_, _, rfl, h1 B H σ _ e h.1 sl _ fun σ1 sl1 => h2 B H σ1 _ e h.2 sl1 Q q⟩
theorem gw_tupA {gs : TGs} {as : List AV} {n : Nat} {ρ2 : AS} (hn : as.length = n) (h : GaW K gs as ρ ρ2) : GtW K (gTup K n gs) (.tl as) ρ ρ2 := fun B H σ v e hv sl Q q => by
  obtain ⟨a, vs, rfl, h1, h2⟩ := hv
  exact ⟨_, _, rfl, .inl (.inl (e _ _ h1)), h2.length.symm.trans hn, h B H σ _ e h2 sl Q q⟩
/-- list(range(n)) -/
theorem rg_dt {B : Hp} (f : Nat → Int) : ∀ l : List Nat, DtAll K B (l.map fun i => V.int (f i)) (l.map fun i => PyData.int (f i))
  | [] => .nil
  | _ :: l => .cons (.int _) (rg_dt f l)
def upto (n : Int) : List PyData := (List.range n.toNat).map fun (i : Nat) => PyData.int (i : Int)
theorem ew_listRg {n : Int} (h : EvW K te ρ μ (.i n) μ1) (h0 : 0 ≤ n ∧ n ≤ 10000) : EvW K (tLstRg (tRg1 te)) ρ μ (.t (upto n)) μ1 := fun F B H σ w sl Q q =>
  h F B H σ w sl _ fun v B2 H2 e w2 hv => by
    refine ⟨n, h_i hv, .of_le (by omega) (by omega) (by omega) (by omega), fun p hp => ?_⟩
    obtain ⟨w3, e3, e4⟩ := w2.new (o := .lst (rgV 0 n)) hp
    refine q _ _ _ (e.trans e3) w3 ⟨p, _, rfl, e4, ?_⟩
    unfold rgV upto
    have e1 : (n - 0).toNat = n.toNat := by simp
    rw [e1]
    have e2 : (List.range n.toNat).map (fun (i : Nat) => V.int (0 + (i : Int))) = (List.range n.toNat).map (fun (i : Nat) => V.int (i : Int)) := by
      apply List.map_congr_left
      intro i _
      rw [Int.zero_add]
    rw [e2]
    exact rg_dt (fun i => (i : Int)) _
theorem o_neS {i j : Str} : Op2 K rNe (.s i) (.s j) μ (.b (!decide (i = j))) μ := fun F B H x y w h1 h2 Q q => by
  have e1 := h_s h1
  have e2 := h_s h2
  subst e1 e2
  refine ⟨rfl, ?_⟩
  have : decide (V.str i = V.str j) = decide (i = j) := decide_eq_decide.mpr ⟨fun h => by cases h; rfl, fun h => by rw [h]⟩
  rw [this]
  exact q _ B H (Same.refl _) w (.bl _)
theorem o_neB {i j : Bool} : Op2 K rNe (.b i) (.b j) μ (.b (!decide (i = j))) μ := fun F B H x y w h1 h2 Q q => by
  have e1 := h_b h1
  have e2 := h_b h2
  subst e1 e2
  refine ⟨rfl, ?_⟩
  have : decide (V.bl i = V.bl j) = decide (i = j) := decide_eq_decide.mpr ⟨fun h => by cases h; rfl, fun h => by rw [h]⟩
  rw [this]
  exact q _ B H (Same.refl _) w (.bl _)
end
end Lw

set_option Elab.async false
set_option linter.all false
set_option maxRecDepth 100000
set_option maxHeartbeats 2000000
/-! own classes: the call of an instance, operators of two instances -/
namespace Lw
open PySem PySem.Spec PyProof.Rows L2
section
variable {X : Cx} {C g : Addr} {n : Nat} {fd : FuncData} {ps : List Str} {sp : Sp}
/-- x op y, both instances of the class at C, whose def for op is at g -/
def rBinA (C : Addr) (sp : Sp) : R2 := fun x y H Q => ∃ a dx fs b dy gs, x = .ref a ∧ y = .ref b ∧ H a = some (.ins C dx fs) ∧ H b = some (.ins C dy gs) ∧ sp [x, y] H Q E0
theorem op_binA {op : Operator} (hc : PySem.W.selfFirst X.K C = true) (hs : PySem.W.findIn X.K (.ref C) (PySem.dunder op.info.2) = some (some (.ref g))) (hf : PySem.W.isFn X.K (.ref g) = true)
    (F : FnOk X.prog X.w X.K X.mg X.base CX0 n g fd ps sp) (hb : L2.Binds X.K fd ps []) (hr : Room n X.A) : OpR X (binaryOp op) (rBinA C sp) := fun pins s σ H x y v u Q I rx ry h => by
  obtain ⟨a, dx, fs, b, dy, gs, rfl, rfl, ha, hb2, q⟩ := h
  cases (show v = Value.ref a from rx)
  cases (show u = Value.ref b from ry)
  obtain ⟨mA, O, _⟩ := ins_get I.hok ha
  obtain ⟨od, J, _⟩ := O.look
  obtain ⟨mB, O2, _⟩ := ins_get I.hok hb2
  obtain ⟨od2, J2, _⟩ := O2.look
  obtain ⟨m, hF⟩ := I.fr
  refine PySem.W.binop_K hF I.ok.mod.kin J J2.type hc hs hf ?_
  refine wpAny_call (codeAny_mono (run_own (vs := [.ref a, .ref b]) F hb hr I.env0 I (.cons rfl (.cons rfl .nil)) q) ?_)
  rintro res s' hq
  cases res with
  | error e => exact hq.elim
  | ok fl =>
    cases fl with
    | ret w =>
      obtain ⟨z', H', I', rz, qz⟩ := hq
      exact cmp_back rz ⟨z', H', I', rz, qz⟩
    | next => exact hq.elim
    | brk => exact hq.elim
    | cont => exact hq.elim
theorem inst_with {M : Model} {A : Around} {EE : Value → Shared → Prop} {s : Shared} {env : Env} {pos : Pos} {a : Addr} {Q : Value → Shared → Prop} {e : Expr} {es : List Expr} (hst : starEach (e :: es) env = (false, eval e env) :: starEach es env) (hpl : (backTo pos (starEach es env)).any (·.1) = false)
    (h : wpAny M A (spliced (backTo pos (starEach (e :: es) env))) (fun vs s1 => (∃ ox od, ox.data = .plain ∧ PySem.W.InstAt s1.heap a ox C od) ∧ wpAny M A (call (.ref a) vs) Q EE s1) EE s) : wpAny M A (callWith pos (.ref a) [] (backTo pos (starEach (e :: es) env)) []) Q EE s := by
  rw [hst] at h ⊢
  have np : (((backTo pos ((false, eval e env) :: starEach es env)).any (·.1)) || (([] : List (Option Str × Sem Value)).any (·.1.isNone))) = false := by
    show ((false || (backTo pos (starEach es env)).any (·.1)) || false) = false
    rw [hpl]
    rfl
  have h2 : wpAny M A (evalArgs (.ref a) true (backTo pos ((false, eval e env) :: starEach es env)) []) (fun v s1 => (∃ ox od, ox.data = .plain ∧ PySem.W.InstAt s1.heap a ox C od) ∧ wpAny M A (call (.ref a) v.pos v.kw) Q EE s1) EE s := PySem.Calls.evalArgs_plain h
  unfold callWith
  refine wpAny_bind (wpAny_holding (wpAny_mono h2 ?_ (fun _ _ y => y)))
  rintro v s1 ⟨⟨ox, od, hd, J⟩, hq⟩
  refine wpAny_bind (wpAny_standAt ?_)
  simp only [np]
  refine wpAny_bind ((PySem.W.kco_keeper J hd).here ?_)
  exact wpAny_bind (wpAny_mono (wpAny_operateT hq) (fun r s2 hr => wpAny_bind (wpAny_holding (wpAny_point (wpAny_pure hr)))) fun _ _ y => y)
/-- x(e, ..), x an instance of the class at C -/
def tInst (C : Addr) (sp : Sp) (te : TE) (t : TA) : TE := fun σ H Q => te σ H fun x H1 => ∃ a dx fs, x = .ref a ∧ H1 a = some (.ins C dx fs) ∧ t σ H1 fun vs H2 => (∃ dy gs, H2 a = some (.ins C dy gs)) ∧ sp (x :: vs) H2 Q E0
theorem pe_inst {x : Str} {p pos : Pos} {e : Expr} {es : List Expr} {te : TE} {t : TA} (hs : PySem.W.findIn X.K (.ref C) "__call__" = some (some (.ref g))) (hf : PySem.W.isFn X.K (.ref g) = true) (hfn : PySem.W.fnIn X.K g = true)
    (F : FnOk X.prog X.w X.K X.mg X.base CX0 n g fd ps sp) (hb : L2.Binds X.K fd ps []) (hr : Room n X.A) (he : PE X (.Name x p) te) (ha : PA X (e :: es) t)
    (hst : starEach (e :: es) X.env = (false, eval e X.env) :: starEach es X.env := by rfl) (hpl : (backTo pos (starEach es X.env)).any (·.1) = false := by rfl) :
    PE X (.Call (.Name x p) (e :: es) [] pos) (tInst C sp te t) := by
  refine ⟨fun pins s σ H Q I h => ?_⟩
  refine wpAny_Call_Name_kw (thn (he.run pins s σ H _ I h) ?_)
  rintro v s1 ⟨y, H1, I1, ry, a, dx, fs, rfl, h1, q⟩
  cases (show v = Value.ref a from ry)
  obtain ⟨mA, O, _⟩ := ins_get I1.hok h1
  obtain ⟨od, J, hd⟩ := O.look
  refine inst_with (C := C) hst hpl (thn (ha.run pos pins s1 σ H1 _ I1 q) ?_)
  rintro us s2 ⟨vs, H2, I2, r, ⟨dy, gs, h2⟩, q2⟩
  obtain ⟨mB, O2, _⟩ := ins_get I2.hok h2
  obtain ⟨od2, J2, _⟩ := O2.look
  refine ⟨⟨_, _, rfl, J2⟩, wpAny_call (PySem.W.kco_code I2.kIn J2 rfl hs hf hfn (codeAny_mono (run_own (vs := .ref a :: vs) F hb hr I2.env0 I2 (.cons rfl r) q2) ?_))⟩
  rintro res s' hq
  cases res with
  | error e => exact hq.elim
  | ok fl =>
    cases fl with
    | ret w => exact hq
    | next => exact hq.elim
    | brk => exact hq.elim
    | cont => exact hq.elim
end
end Lw

set_option Elab.async false
set_option linter.all false
set_option maxRecDepth 100000
set_option maxHeartbeats 2000000
/-! comprehensions that map; their targets that are pairs -/
namespace Lw
open PySem PySem.Spec PyProof.Rows L2
/-! within a comprehension: the fragment told -/
theorem pg_tupK {X : Cx} {K : Fr} {es : List Expr} {k : Nat} {t : TGs} {n : Nat} {pos : Pos} (hK : X.K = K) (hc : X.calm = true) (h : PGs X es t) (hn : (assignEach es X.env).length = n := by rfl) (hst : (assignEach es X.env).findIdx? (·.1) = none := by rfl) : PG X (.Tuple es k pos) (gTup K n t) := by
  subst hK
  exact pg_tup hc h hn hst
theorem ix_tupK {X : Cx} {K : Fr} (hK : X.K = K) : IxR X (rIxT K) := by
  subst hK
  exact ix_tup
theorem wipe_setAny {τ : L2.St} {vs : List Nat} {j : Nat} {s : Option V} (hj : j ∈ vs) : L2.wipe (τ.set j s) vs = L2.wipe τ vs := by
  apply List.ext_getElem?
  intro i
  rw [wipe_get, wipe_get]
  by_cases hi : i ∈ vs
  · rw [if_pos hi, if_pos hi]
    by_cases e : j = i
    · subst e
      by_cases hl : j < τ.length
      · rw [List.getElem?_set_self hl]
        simp [hl]
      · rw [List.getElem?_eq_none (by simpa using hl), List.getElem?_eq_none (by omega)]
    · rw [List.getElem?_set_ne e]
  · rw [if_neg hi, if_neg hi, List.getElem?_set_ne (fun e : j = i => hi (by rw [← e]; exact hj))]
theorem wipe_wipe {σ : L2.St} {vs : List Nat} : L2.wipe (L2.wipe σ vs) vs = L2.wipe σ vs := by
  apply List.ext_getElem?
  intro i
  rw [wipe_get, wipe_get]
  by_cases hi : i ∈ vs
  · rw [if_pos hi, if_pos hi, Option.map_map]
    rfl
  · rw [if_neg hi, if_neg hi]
section
variable {K : Fr} {ρ : AS} {μ μ1 μ2 μ3 : AM} {ta tb te tl : TE} {g : TG} {R R1 R2 : AV} {d e : PyData} {ds es : List PyData} {P : Po}
theorem gc_pair {i j : Nat} {vs : List Nat} (hi : i ∈ vs) (hj : j ∈ vs) : GcW K (gTup K 2 (gCons (gName i) (gCons (gName j) gNil))) vs (.d (.tuple [d, e])) ρ ((ρ.set i (some (.d d))).set j (some (.d e))) := fun B H σ v eB hv sl Q q => by
  cases (show Dt K B v (.tuple [d, e]) from hv) with
  | @tup a ws _ h1 h0 h2 =>
    cases h2 with
    | @cons x _ _ _ g1 h2 =>
      cases h2 with
      | @cons y _ _ _ g2 h2 =>
        cases h2
        refine ⟨a, [x, y], rfl, seq_l eB h1, rfl, x, [y], rfl, y, [], rfl, rfl, q _ ?_ (Sl.set (R := .d e) g2 j (Sl.set (R := .d d) g1 i sl))⟩
        rw [wipe_setAny hj, wipe_setAny hi, wipe_wipe]
/-- [te for g in ..] -/
theorem ew_lcM {α : Type} {wi : TI} {vs : List Nat} (l : List α) (f : α → AV) (h : α → PyData) (hi : ItW K wi ρ μ (l.map f) μ1)
    (hs : ∀ x ∈ l, ∃ ρ2, GcW K g vs (f x) (wipeA ρ vs) ρ2 ∧ EvW K te ρ2 μ1 (.d (h x)) μ1) (hz : l.length ≤ 90000) : EvW K (tLc wi g (fun _ H Q => Q true H) te vs) ρ μ (.d (.list (l.map h))) μ1 := by
  have := ew_lc (K := K) (ρ := ρ) (μ := μ) (g := g) (te := te) (tt := fun _ H Q => Q true H) (vs := vs) (μ1 := μ1) (xs := l.map f) (fun _ => μ1) (fun i => (l.take i).map h) hi rfl (fun i a ha => by
    rw [List.getElem?_map] at ha
    cases hx : l[i]? with
    | none => rw [hx] at ha; cases ha
    | some x =>
      rw [hx] at ha
      cases ha
      obtain ⟨ρ2, h1, h2⟩ := hs x (List.mem_of_getElem? hx)
      refine ⟨ρ2, true, μ1, h1, et_nil, fun _ => ⟨h x, h2, ?_⟩, nofun⟩
      rw [List.take_add_one, hx, List.map_append]
      rfl) (by rw [List.length_map]; exact hz) rfl
  rw [List.length_map, List.take_length] at this
  exact this
/-- x = [te for g in ..], owned -/
theorem s_lcM {α : Type} {wi : TI} {vs : List Nat} {j : Nat} (l : List α) (f : α → AV) (h : α → PyData) (hi : ItW K wi ρ μ (l.map f) μ1)
    (hs : ∀ x ∈ l, ∃ ρ2, GcW K g vs (f x) (wipeA ρ vs) ρ2 ∧ EvW K te ρ2 μ1 (.d (h x)) μ1) (hz : l.length ≤ 90000) (p : ∀ a, μ1 a = none → P.nx (ρ.set j (some (.r a))) (updM μ1 a (.lst ((l.map h).map .d)))) : StW K (tAsg (tLc wi g (fun _ H Q => Q true H) te vs) (gName j)) ρ μ P := by
  refine s_lcOwn (xs := l.map f) (fun _ => μ1) (fun i => (l.take i).map h) hi rfl (fun i a ha => ?_) (by rw [List.length_map]; exact hz) (fun a ha => ?_)
  · rw [List.getElem?_map] at ha
    cases hx : l[i]? with
    | none => rw [hx] at ha; cases ha
    | some x =>
      rw [hx] at ha
      cases ha
      obtain ⟨ρ2, h1, h2⟩ := hs x (List.mem_of_getElem? hx)
      refine ⟨ρ2, true, μ1, h1, et_nil, fun _ => ⟨h x, h2, ?_⟩, nofun⟩
      rw [List.take_add_one, hx, List.map_append]
      rfl
  · rw [List.length_map, List.take_length]
    exact p a ha
/-- range(b - 1, a - 1, -1), the same made of what is mapped -/
theorem it_map {α : Type} {wi : TI} {xs : List AV} {l : List α} {f : α → AV} (h : ItW K wi ρ μ xs μ1) (e : xs = l.map f) : ItW K wi ρ μ (l.map f) μ1 := e ▸ h
theorem ew_inst {te : TE} {t : TA} {C : Addr} {fs : List (Str × AV)} {S : Spc} {Rs : List AV} (he : EvW K te ρ μ (.ob C fs) μ1) (h : EvA K t ρ μ1 Rs μ2) (hS : S (.ob C fs :: Rs) μ2 (fun R' μ' => R' = R ∧ μ' = μ3)) : EvW K (tInst C (spP K S) te t) ρ μ R μ3 := fun F B H σ w sl Q q =>
  he F B H σ w sl _ fun v B1 H1 e1 w1 hv => by
    obtain ⟨p, dx, ws, rfl, h2, h3⟩ := hv
    refine ⟨p, dx, ws, rfl, w1.1 _ _ h2, h F B1 H1 σ w1 (sl.mono e1) _ fun vs B2 H2 e2 w2 hvs => ⟨⟨dx, ws, w2.1 _ _ (e2 _ _ h2)⟩, F, B2, μ2, .ob C fs :: Rs, _, w2, ⟨AV.mono (R := .ob C fs) e2 ⟨p, dx, ws, rfl, h2, h3⟩, hvs⟩, hS, ?_⟩⟩
    rintro R' μ' v B3 H3 ⟨rfl, rfl⟩ e3 w3 hv3
    exact q v B3 H3 ((e1.trans e2).trans e3) w3 hv3
theorem o_bin {C : Addr} {fs gs : List (Str × AV)} {S : Spc} (hS : S [.ob C fs, .ob C gs] μ (fun R' μ' => R' = R ∧ μ' = μ1)) : Op2 K (rBinA C (spP K S)) (.ob C fs) (.ob C gs) μ R μ1 := fun F B H x y w h1 h2 Q q => by
  obtain ⟨p, dx, ws, rfl, g2, g3⟩ := h1
  obtain ⟨p', dx', ws', rfl, k2, k3⟩ := h2
  refine ⟨p, dx, ws, p', dx', ws', rfl, rfl, w.1 _ _ g2, w.1 _ _ k2, F, B, μ, [.ob C fs, .ob C gs], _, w, ⟨⟨p, dx, ws, rfl, g2, g3⟩, ⟨p', dx', ws', rfl, k2, k3⟩, trivial⟩, hS, ?_⟩
  rintro R' μ' v B3 H3 ⟨rfl, rfl⟩ e3 w3 hv3
  exact q v B3 H3 e3 w3 hv3
end
end Lw

set_option Elab.async false
set_option linter.all false
set_option maxRecDepth 100000
set_option maxHeartbeats 2000000
/-! comprehensions that collect abstract values; lists as what is unpacked -/
namespace Lw
open PySem PySem.Spec PyProof.Rows L2
section
variable {K : Fr} {ρ : AS} {μ μ1 μ2 μ3 : AM} {ta tb te tl : TE} {g : TG} {R R1 R2 : AV} {P : Po}
theorem gw_lst {gs : TGs} {as : List AV} {n : Nat} {ρ2 : AS} (hn : as.length = n) (h : GaW K gs as ρ ρ2) : GtW K (gLst K n gs) (.ls as) ρ ρ2 := fun B H σ v e hv sl Q q => by
  obtain ⟨a, vs, rfl, h1, h2⟩ := hv
  exact ⟨_, _, rfl, SqL.of (e _ _ h1), h2.length.symm.trans hn, h B H σ _ e h2 sl Q q⟩
theorem ew_lcA {α : Type} {wi : TI} {vs : List Nat} (l : List α) (f h : α → AV) (hi : ItW K wi ρ μ (l.map f) μ1)
    (hs : ∀ x ∈ l, ∃ ρ2, GcW K g vs (f x) (wipeA ρ vs) ρ2 ∧ EvW K te ρ2 μ1 (h x) μ1) (hz : l.length ≤ 90000) : EvW K (tLc wi g (fun _ H Q => Q true H) te vs) ρ μ (.ls (l.map h)) μ1 := fun F B H σ w sl Q q =>
  hi F B H σ w sl _ fun J B1 H1 e1 w1 j => fun Dl hD => by
    have hF0 : F Dl = none := by
      cases hF : F Dl with
      | none => rfl
      | some u => rw [(w1.2.2 Dl u hF).2] at hD; cases hD
    refine ⟨fun i m H => m = l.length - i ∧ i ≤ l.length ∧ ∃ B' ys, Same B1 B' ∧ Wd K (upd F Dl (.lst ys)) B' μ1 H ∧ AllH K B' ((l.take i).map h) ys, ⟨l.length, by simp, Nat.zero_le _, B1, [], Same.refl _, w1.newF hD, trivial⟩, ?_⟩
    rintro i m H ⟨rfl, hil, B', ys, e, w, hys⟩
    have ln : (l.map f).length = l.length := by simp
    by_cases hlt : i < l.length
    · refine .inr ⟨j.go B' H i e w.1 (by rw [ln]; exact hlt), fun H' => ∃ B' ys, Same B1 B' ∧ Wd K (upd F Dl (.lst ys)) B' μ1 H' ∧ AllH K B' ((l.take (i + 1)).map h) ys, fun H' q => ⟨l.length - (i + 1), by omega, rfl, hlt, q⟩, fun x H' y => ?_⟩
      obtain ⟨B3, e3, w3, hx⟩ := j.yld _ B' H μ1 i (f l[i]) x H' e w (by simp [hlt]) y
      obtain ⟨ρ2, hg, hd⟩ := hs l[i] (List.getElem_mem hlt)
      refine hg B3 H' σ x w3.1 hx ((sl.wipe vs).mono ((e1.trans e).trans e3)) _ fun σ2 hw sl2 => ⟨hw, ?_⟩
      show te σ2 H' _
      refine hd _ B3 H' σ2 w3 sl2 _ fun v B5 H5 e5 w5 h5 => ⟨ys, (w5.2.2 Dl _ upd_same).2, ?_, B5, ys ++ [v], (e.trans e3).trans e5, ?_, ?_⟩
      · have l1 := hys.length
        rw [List.length_map, List.length_take] at l1
        exact Nat.lt_of_lt_of_le (by omega : ys.length < 100000) (by decide : 100000 ≤ sizeLine)
      · have := w5.setF (o := .lst (ys ++ [v])) upd_same
        rw [upd_upd] at this
        exact this
      · rw [List.take_add_one, List.getElem?_eq_getElem hlt, List.map_append]
        exact (hys.mono (e3.trans e5)).app ⟨h5, trivial⟩
    · have ei : i = l.length := by omega
      subst ei
      rw [List.take_length] at hys
      obtain ⟨w5, e5, e6⟩ := w.freezeF hF0
      have js := j.stop B' H e w.1
      rw [ln] at js
      exact .inl ⟨js, q _ _ H ((e1.trans e).trans e5) w5 ⟨_, _, rfl, e6, hys.mono e5⟩⟩
end
end Lw

set_option Elab.async false
set_option linter.all false
set_option maxRecDepth 100000
set_option maxHeartbeats 2000000
/-! dicts whose keys are ints, owned; owned lists of data: in, index, slices; is None -/
namespace Lw
open PySem PySem.Spec PyProof.Rows L2
section
variable {K : Fr} {ρ : AS} {μ μ1 μ2 μ3 : AM} {ta tb td te tl ty tv : TE} {R R1 R2 : AV} {P : Po} {d e : PyData} {ds es : List PyData} {kvs : List (Key × V)} {l : Addr}
theorem own_lst {F B H : Hp} {xs : List AV} (w : Wd K F B μ H) (hl : μ l = some (.lst xs)) : ∃ vs, H l = some (.lst vs) ∧ AllH K B xs vs := by
  obtain ⟨_, _, u, hu, vs, rfl, hA⟩ := w.2.1 l _ hl
  exact ⟨vs, hu, hA⟩
theorem own_o {F B H : Hp} {u : HO} (w : Wd K F B μ H) (hl : μ l = some (.o u)) : H l = some u := by
  obtain ⟨_, _, x, hx, ex⟩ := w.2.1 l _ hl
  have : x = u := ex
  rw [this] at hx
  exact hx
theorem own_free {F B H : Hp} {p : Addr} (w : Wd K F B μ H) (hp : H p = none) : μ p = none := by
  cases q : μ p with
  | none => rfl
  | some o => obtain ⟨_, _, u, hu, _⟩ := w.2.1 p o q; rw [hu] at hp; cases hp
theorem s_dnewK {i : Nat} (p : ∀ l, μ l = none → P.nx (ρ.set i (some (.r l))) (updM μ l (.o (.dK [])))) : StW K (tAsg tDNewK (gName i)) ρ μ P := fun F D B H σ w sl r => fun l hp =>
  r.nx _ _ B _ _ (p l (own_free w hp)) (Same.refl _) (w.newM (ao := .o (.dK [])) hp rfl) (Sl.set (R := .r l) (v := .ref l) (show V.ref l = V.ref l from rfl) i sl)
/-- k in d, k not in d -/
theorem et_din {k : Int} (hy : EvW K ty ρ μ (.i k) μ1) (hd : EvW K td ρ μ1 (.r l) μ2) (hl : μ2 l = some (.o (.dK kvs))) : EvT K (tB (tDIn ty td)) ρ μ (valV kvs (.inl k)).isSome μ2 := fun F B H σ w sl Q q =>
  hy F B H σ w sl _ fun y B1 H1 e1 w1 h1 => hd F B1 H1 σ w1 (sl.mono e1) _ fun x B2 H2 e2 w2 h2 => by
    have ex : x = .ref l := h2
    have ey := h_i h1
    subst ex ey
    exact ⟨l, _, rfl, DGet.k (k := .inl k) (own_o w2 hl), _, rfl, q B2 H2 (e1.trans e2) w2⟩
theorem et_dnotin {k : Int} (hy : EvW K ty ρ μ (.i k) μ1) (hd : EvW K td ρ μ1 (.r l) μ2) (hl : μ2 l = some (.o (.dK kvs))) : EvT K (tB (tDNotIn ty td)) ρ μ (!(valV kvs (.inl k)).isSome) μ2 := fun F B H σ w sl Q q =>
  hy F B H σ w sl _ fun y B1 H1 e1 w1 h1 => hd F B1 H1 σ w1 (sl.mono e1) _ fun x B2 H2 e2 w2 h2 => by
    have ex : x = .ref l := h2
    have ey := h_i h1
    subst ex ey
    exact ⟨l, _, rfl, DGet.k (k := .inl k) (own_o w2 hl), _, rfl, q B2 H2 (e1.trans e2) w2⟩
/-- d[k] -/
theorem ew_dgetK {k r : Int} (hd : EvW K td ρ μ (.r l) μ1) (hy : EvW K ty ρ μ1 (.i k) μ2) (hl : μ2 l = some (.o (.dK kvs))) (hr : valV kvs (.inl k) = some (.int r)) : EvW K (tDGet td ty) ρ μ (.i r) μ2 := fun F B H σ w sl Q q =>
  hd F B H σ w sl _ fun x B1 H1 e1 w1 h1 => hy F B1 H1 σ w1 (sl.mono e1) _ fun y B2 H2 e2 w2 h2 => by
    have ex : x = .ref l := h1
    have ey := h_i h2
    subst ex ey
    have g := DGet.k (k := .inl k) (own_o w2 hl)
    rw [hr] at g
    exact ⟨l, .int r, rfl, g, q _ B2 H2 (e1.trans e2) w2 (.int r)⟩
/-- d[k] = v -/
theorem s_dputK {k r : Int} (hv : EvW K tv ρ μ (.i r) μ1) (hd : EvW K td ρ μ1 (.r l) μ2) (hy : EvW K ty ρ μ2 (.i k) μ3) (hl : μ3 l = some (.o (.dK kvs))) (hz : kvs.length < 100000) (p : P.nx ρ (updM μ3 l (.o (.dK (putK kvs (.inl k) (.int r)))))) : StW K (sDPut td ty tv) ρ μ P := fun F D B H σ w sl re =>
  hv F B H σ w sl _ fun v B1 H1 e1 w1 h1 => hd F B1 H1 σ w1 (sl.mono e1) _ fun x B2 H2 e2 w2 h2 => hy F B2 H2 σ w2 (sl.mono (e1.trans e2)) _ fun y B3 H3 e3 w3 h3 => by
    have ex : x = .ref l := h2
    have ev := h_i h1
    have ey := h_i h3
    subst ex ev ey
    exact ⟨l, _, rfl, DPut.k (k := .inl k) (own_o w3 hl) (Nat.lt_of_lt_of_le hz (by decide : 100000 ≤ sizeLine)), re.nx _ _ B3 _ σ p ((e1.trans e2).trans e3) (w3.set (ao := .o (.dK (putK kvs (.inl k) (.int r)))) hl rfl) (sl.mono ((e1.trans e2).trans e3))⟩
/-- d[k] = True or False -/
theorem s_dputB {k : Int} {r : Bool} (hv : EvW K tv ρ μ (.b r) μ1) (hd : EvW K td ρ μ1 (.r l) μ2) (hy : EvW K ty ρ μ2 (.i k) μ3) (hl : μ3 l = some (.o (.dK kvs))) (hz : kvs.length < 100000) (p : P.nx ρ (updM μ3 l (.o (.dK (putK kvs (.inl k) (.bl r)))))) : StW K (sDPut td ty tv) ρ μ P := fun F D B H σ w sl re =>
  hv F B H σ w sl _ fun v B1 H1 e1 w1 h1 => hd F B1 H1 σ w1 (sl.mono e1) _ fun x B2 H2 e2 w2 h2 => hy F B2 H2 σ w2 (sl.mono (e1.trans e2)) _ fun y B3 H3 e3 w3 h3 => by
    have ex : x = .ref l := h2
    have ev := h_b h1
    have ey := h_i h3
    subst ex ev ey
    exact ⟨l, _, rfl, DPut.k (k := .inl k) (own_o w3 hl) (Nat.lt_of_lt_of_le hz (by decide : 100000 ≤ sizeLine)), re.nx _ _ B3 _ σ p ((e1.trans e2).trans e3) (w3.set (ao := .o (.dK (putK kvs (.inl k) (.bl r)))) hl rfl) (sl.mono ((e1.trans e2).trans e3))⟩
/-! ### owned lists of data -/
theorem dp_own {F B H : Hp} (w : Wd K F B μ H) (hl : μ l = some (.lst (ds.map .d))) : Dp K H (.ref l) (.list ds) := by
  obtain ⟨vs, hu, hA⟩ := own_lst w hl
  exact .lst (SqL.of hu) (dpa_mono w.1 (AllH.data hA)).dp
/-- x in l -/
theorem o_inO (hl : μ l = some (.lst (ds.map .d))) (h1 : SeqAt.shaped d = true) (h2 : SeqAt.shaped (.list ds) = true) : Op2 K (rInD K) (.d d) (.r l) μ (.b (ds.any fun z => PyData.eqv z d)) μ := fun F B H x y w r1 r2 Q q => by
  have ey : y = .ref l := r2
  subst ey
  exact ⟨d, ds, (dp_mono w.1 r1).dp, dp_own w hl, h1, h2, q _ B H (Same.refl _) w (.bl _)⟩
theorem o_notInO (hl : μ l = some (.lst (ds.map .d))) (h1 : SeqAt.shaped d = true) (h2 : SeqAt.shaped (.list ds) = true) : Op2 K (rNotInD K) (.d d) (.r l) μ (.b (!ds.any fun z => PyData.eqv z d)) μ := fun F B H x y w r1 r2 Q q => by
  have ey : y = .ref l := r2
  subst ey
  exact ⟨d, ds, (dp_mono w.1 r1).dp, dp_own w hl, h1, h2, q _ B H (Same.refl _) w (.bl _)⟩
/-- l.index(x) -/
theorem ew_index {j : Nat} {z : PyData} (ho : EvW K te ρ μ (.r l) μ) (hx : EvW K ta ρ μ (.d d) μ) (hl : μ l = some (.lst (ds.map .d))) (h1 : SeqAt.shaped d = true) (h2 : SeqAt.shaped (.list ds) = true) (hz : ds[j]? = some z) (he : PyData.eqv z d = true) (hno : ∀ (m : Nat) (z' : PyData), m < j → ds[m]? = some z' → PyData.eqv z' d = false) :
    EvW K (tBM K "list" (rIndexD K) te (tCons ta tNil)) ρ μ (.i (j : Int)) μ := fun F B H σ w sl Q q => ho F B H σ w sl _ fun a B1 H1 e1 w1 ha => by
  have ea : a = .ref l := ha
  subst ea
  obtain ⟨vs1, hu1, _⟩ := own_lst w1 hl
  refine ⟨.inl ⟨rfl, vs1, SqL.of hu1⟩, hx F B1 H1 σ w1 (sl.mono e1) _ fun v B2 H2 e2 w2 hv => ?_⟩
  exact ⟨l, v, d, ds, j, z, rfl, rfl, dp_own w2 hl, (dp_mono w2.1 hv).dp, h2, h1, hz, he, hno, q _ B2 H2 (e1.trans e2) w2 (.int _)⟩
/-- l[i:j], l owned: a new list, data -/
theorem ew_slO {tlo thi : TO} {lo hi : Option Int} (h : EvW K te ρ μ (.r l) μ1) (h1 : EvO K tlo ρ μ1 lo μ2) (h2 : EvO K thi ρ μ2 hi μ3) (hl : μ3 l = some (.lst (ds.map .d))) : EvW K (tSl (rSlL K) te tlo thi) ρ μ (.d (.list (cutD ds lo hi))) μ3 := fun F B H σ w s Q q =>
  h F B H σ w s _ fun v B1 H1 e1 w1 hv => h1 F B1 H1 σ w1 (s.mono e1) _ fun B2 H2 e2 w2 => h2 F B2 H2 σ w2 (s.mono (e1.trans e2)) _ fun B3 H3 e3 w3 => by
    have ev : v = .ref l := hv
    subst ev
    obtain ⟨vs, hu, hA⟩ := own_lst w3 hl
    refine ⟨l, vs, rfl, SqL.of hu, fun p hp => ?_⟩
    obtain ⟨w4, e4, e5⟩ := w3.new (o := .lst (cutV vs lo hi)) hp
    exact q _ _ _ (((e1.trans e2).trans e3).trans e4) w4 (.lst (SqL.of e5) (dpa_mono e4 (dpa_cut (AllH.data hA))))
/-! ### is None -/
def noneD : PyData → Bool
  | .none => true
  | _ => false
theorem dt_non {B : Hp} {v : V} (h : Dt K B v d) : decide (v = .non) = noneD d := by
  cases h <;> first | rfl | exact decide_eq_false (by intro e; cases e)
theorem o_isN : Op2 K rIsN (.d d) (.d .none) μ (.b (noneD d)) μ := fun F B H x y w r1 r2 Q q => by
  have ey := h_n r2
  subst ey
  exact ⟨rfl, by rw [dt_non r1]; exact q _ B H (Same.refl _) w (.bl _)⟩
theorem o_notN : Op2 K rNotN (.d d) (.d .none) μ (.b (!noneD d)) μ := fun F B H x y w r1 r2 Q q => by
  have ey := h_n r2
  subst ey
  exact ⟨rfl, by rw [dt_non r1]; exact q _ B H (Same.refl _) w (.bl _)⟩
end
/-! ### a list that is changed no more -/
theorem set_self {σ : L2.St} {i : Nat} {v : Option V} (h : σ[i]? = some v) : σ.set i v = σ := by
  apply List.ext_getElem?
  intro j
  by_cases e : i = j
  · subst e
    rw [List.getElem?_set_self (List.getElem?_eq_some_iff.mp h).1, h]
  · rw [List.getElem?_set_ne e]
section
variable {K : Fr} {ρ : AS} {μ : AM} {s : TS} {P : Po} {ds : List PyData} {l : Addr} {i : Nat}
theorem s_freeze (hi : ρ[i]? = some (some (.r l))) (hl : μ l = some (.lst (ds.map .d))) (h : StW K s (ρ.set i (some (.d (.list ds)))) (delM μ l) P) : StW K s ρ μ P := fun F D B H σ w sl r => by
  obtain ⟨u, w5, e5, e6, vs, rfl, hA⟩ := w.freeze hl
  obtain ⟨v, h1, h2⟩ := sl.get hi
  have ev : v = .ref l := h2
  subst ev
  have sl2 : Sl K (upd B l (.lst vs)) (σ.set i (some (.ref l))) (ρ.set i (some (.d (.list ds)))) := Sl.set (R := .d (.list ds)) (v := .ref l) (.lst (SqL.of e6) (dpa_mono e5 (AllH.data hA))) i (sl.mono e5)
  rw [set_self h1] at sl2
  exact h F D _ H σ w5 sl2 (r.mono e5)
/-- tracked: + of lists takes it -/
theorem s_freezeT (hi : ρ[i]? = some (some (.r l))) (hl : μ l = some (.lst (ds.map .d))) (h : StW K s (ρ.set i (some (.t ds))) (delM μ l) P) : StW K s ρ μ P := fun F D B H σ w sl r => by
  obtain ⟨u, w5, e5, e6, vs, rfl, hA⟩ := w.freeze hl
  obtain ⟨v, h1, h2⟩ := sl.get hi
  have ev : v = .ref l := h2
  subst ev
  have sl2 : Sl K (upd B l (.lst vs)) (σ.set i (some (.ref l))) (ρ.set i (some (.t ds))) := Sl.set (R := .t ds) (v := .ref l) ⟨l, vs, rfl, e6, dpa_mono e5 (AllH.data hA)⟩ i (sl.mono e5)
  rw [set_self h1] at sl2
  exact h F D _ H σ w5 sl2 (r.mono e5)
theorem sub_del {μ' : AM} (h : Sub μ μ') (hl : μ l = none) : Sub μ (delM μ' l) := fun a o e => by
  unfold delM
  rw [if_neg (fun q : a = l => by rw [q, hl] at e; cases e)]
  exact h a o e
theorem delM_ne {a : Addr} (h : a ≠ l) : delM μ l a = μ a := by unfold delM; rw [if_neg h]
end
/-- if not f(..): .. , f(..) true whatever Post leaves open -/
theorem s_ifNotC {K : Fr} {ρ : AS} {μ μ1 : AM} {S : Spc} {Rs : List AV} {E : XK} {ta : TA} {s1 s2 : TS} {P : Po} {Post : AV → AM → Prop} (h : EvA K ta ρ μ Rs μ1) (hS : S Rs μ1 Post) (p : ∀ R μ', Post R μ' → R = .b true ∧ StW K s2 ρ μ' P) :
    StW K (tIfS (tNot (tB (tCall (spP K S) [] E ta))) s1 s2) ρ μ P := fun F D B H σ w sl r =>
  h F B H σ w sl _ fun vs B2 H2 e w2 hv => by
    rw [List.append_nil]
    refine ⟨F, B2, μ1, Rs, Post, w2, hv, hS, ?_⟩
    intro R μ' v B3 H3 hp e3 w3 h3
    obtain ⟨rfl, hk⟩ := p R μ' hp
    have ev := h_b h3
    subst ev
    exact ⟨true, rfl, hk F D B3 H3 σ w3 (sl.mono (e.trans e3)) (r.mono (e.trans e3))⟩
/-- x, y = e, [] : the new list owned -/
theorem s_par2 {K : Fr} {ρ : AS} {μ μ1 : AM} {P : Po} {R1 : AV} {i j : Nat} {tr : TE} (h : ∀ (ρ : AS) (μ : AM), EvW K tr ρ μ R1 μ) (p : ∀ l, μ l = none → P.nx ((ρ.set i (some R1)).set j (some (.r l))) (updM μ l (.lst []))) :
    StW K (tPar i j (tCons tr (tCons (tLst tNil) tNil))) ρ μ P := fun F D B H σ w sl r => by
  refine h ρ μ F B H σ w sl _ fun v B3 H3 e3 w3 hv => ⟨Nat.zero_le _, fun l hp => ⟨_, _, rfl, ?_⟩⟩
  exact r.nx _ _ B3 _ _ (p l (own_free w3 hp)) e3 (w3.newM hp ⟨[], rfl, trivial⟩) (Sl.set (R := .r l) (v := .ref l) (show V.ref l = V.ref l from rfl) j (Sl.set hv i (sl.mono e3)))
/-! ### within a comprehension: the fragment told -/
theorem op_eqDK {X : Cx} {K : Fr} (hK : X.K = K) (hu : X.A.units + 64 < cLine) : OpR X (compareOp .Eq) (rEqD K) := by
  subst hK
  exact op_eqD hu
theorem op_neDK {X : Cx} {K : Fr} (hK : X.K = K) (hu : X.A.units + 64 < cLine) : OpR X (compareOp .NotEq) (rNeD K) := by
  subst hK
  exact op_neD hu
section
variable {K : Fr} {ρ : AS} {μ μ1 μ2 μ3 : AM} {ta tb te tl : TE} {g : TG} {R R1 R2 : AV} {d e : PyData} {ds es : List PyData} {P : Po}
/-- [te for g in .. if tt] -/
theorem ew_lcF {α : Type} {wi : TI} {tt : TT} {vs : List Nat} (l : List α) (f : α → AV) (b : α → Bool) (h : α → PyData) (hi : ItW K wi ρ μ (l.map f) μ1)
    (hs : ∀ x ∈ l, ∃ ρ2, GcW K g vs (f x) (wipeA ρ vs) ρ2 ∧ EvT K tt ρ2 μ1 (b x) μ1 ∧ (b x = true → EvW K te ρ2 μ1 (.d (h x)) μ1)) (hz : l.length ≤ 90000) : EvW K (tLc wi g tt te vs) ρ μ (.d (.list ((l.filter b).map h))) μ1 := by
  have := ew_lc (K := K) (ρ := ρ) (μ := μ) (g := g) (te := te) (tt := tt) (vs := vs) (μ1 := μ1) (xs := l.map f) (fun _ => μ1) (fun i => ((l.take i).filter b).map h) hi rfl (fun i a ha => by
    rw [List.getElem?_map] at ha
    cases hx : l[i]? with
    | none => rw [hx] at ha; cases ha
    | some x =>
      rw [hx] at ha
      cases ha
      obtain ⟨ρ2, h1, h2, h3⟩ := hs x (List.mem_of_getElem? hx)
      refine ⟨ρ2, b x, μ1, h1, h2, fun hb => ⟨h x, h3 hb, ?_⟩, fun hb => ⟨rfl, ?_⟩⟩
      · rw [List.take_add_one, hx, List.filter_append, List.map_append]
        simp [hb]
      · rw [List.take_add_one, hx, List.filter_append, List.map_append]
        simp [hb]) (by rw [List.length_map]; exact hz) rfl
  rw [List.length_map, List.take_length] at this
  exact this
/-- l * n, l tracked -/
theorem o_rep {n : Int} (h0 : 0 ≤ n ∧ n ≤ 1000) (hz : ds.length ≤ 100) : Op2 K rRep (.t ds) (.i n) μ (.t (List.replicate n.toNat ds).flatten) μ := fun F B H x y w r1 r2 Q q => by
  obtain ⟨a, vs, rfl, h2, h3⟩ := r1
  have ey := h_i r2
  subst ey
  have hl := dpa_length h3
  refine ⟨a, n, vs, rfl, rfl, w.1 _ _ h2, by omega, by omega, ?_, fun p hp => ?_⟩
  · have : vs.length * n.toNat ≤ 100 * 1000 := Nat.mul_le_mul (by omega) (by omega)
    exact Nat.le_trans this (by decide)
  · obtain ⟨w3, e3, e4⟩ := w.new (o := .lst (List.replicate n.toNat vs).flatten) hp
    have hrep : ∀ k : Nat, DtAll K B (List.replicate k vs).flatten (List.replicate k ds).flatten := by
      intro k
      induction k with
      | zero => exact .nil
      | succ k ih =>
        rw [List.replicate_succ, List.flatten_cons, List.replicate_succ, List.flatten_cons]
        exact dpa_app h3 ih
    exact q _ _ _ e3 w3 ⟨p, _, rfl, e4, dpa_mono e3 (hrep n.toNat)⟩
/-- the last item -/
theorem o_ixLast (h : ds.getLast? = some d) : Op2 K (rIxL K) (.d (.list ds)) (.i (-1)) μ (.d d) μ := fun F B H x y w r1 r2 Q q => by
  have := h_i r2
  subst this
  cases (show Dt K B x (.list ds) from r1) with
  | @lst a vs _ h1 h2 =>
    rw [List.getLast?_eq_getElem?] at h
    have hl := dpa_length h2
    have hd := (List.getElem?_eq_some_iff.mp h).1
    obtain ⟨v, hv, hd2⟩ := dpa_get h2 h
    refine ⟨a, vs, -1, v, rfl, rfl, w.1.seq h1, ?_, q _ B H (Same.refl _) w hd2⟩
    unfold atI ixN
    rw [if_neg (by omega), if_pos (by omega)]
    have : ((-1 : Int) + (vs.length : Int)).toNat = ds.length - 1 := by omega
    show vs[((-1 : Int) + (vs.length : Int)).toNat]? = some v
    rw [this]
    exact hv
end
/-! ### ints as data -/
def intsD (xs : List Int) : List PyData := xs.map .int
theorem intsD_len (xs : List Int) : (intsD xs).length = xs.length := by unfold intsD; simp
theorem intsD_get {xs : List Int} {i : Nat} {x : Int} (h : xs[i]? = some x) : (intsD xs)[i]? = some (.int x) := by
  unfold intsD
  rw [List.getElem?_map, h]
  rfl
theorem shaped_int (i : Int) : SeqAt.shaped (.int i) = true := by
  unfold SeqAt.shaped
  simp [PyData.canLay0, PyData.depth]
theorem lay_ints : ∀ xs : List Int, PyData.canLayAll0 (intsD xs) = true
  | [] => by simp [intsD, PyData.canLayAll0]
  | x :: xs => by
    have ih := lay_ints xs
    unfold intsD at ih ⊢
    simp only [List.map_cons, PyData.canLayAll0, PyData.canLay0, ih, Bool.and_self]
theorem depth_ints : ∀ xs : List Int, PyData.depthAll (intsD xs) ≤ 1
  | [] => by simp [intsD, PyData.depthAll]
  | x :: xs => by
    have ih := depth_ints xs
    unfold intsD at ih ⊢
    simp only [List.map_cons, PyData.depthAll, PyData.depth]
    omega
theorem shaped_ints (xs : List Int) : SeqAt.shaped (.list (intsD xs)) = true := by
  unfold SeqAt.shaped
  have h := depth_ints xs
  simp only [PyData.canLay0, PyData.depth, lay_ints, Bool.true_and]
  exact decide_eq_true (show PyData.depthAll (intsD xs) + 1 ≤ 64 by omega)
theorem eqv_int (i j : Int) : PyData.eqv (.int i) (.int j) = decide (i = j) := by
  simp only [PyData.eqv]
  by_cases h : i = j <;> simp [h]
theorem any_int (xs : List Int) (i : Int) : ((intsD xs).any fun z => PyData.eqv z (.int i)) = decide (i ∈ xs) := by
  induction xs with
  | nil => simp [intsD]
  | cons x xs ih =>
    unfold intsD at ih ⊢
    rw [List.map_cons, List.any_cons, ih, eqv_int]
    by_cases h1 : x = i <;> by_cases h2 : i ∈ xs <;> simp [h1, h2, eq_comm]
    · exact fun h => h1 h.symm
/-- where the depths of a way stand, the way read from its end -/
def places : List Int → List (Key × V)
  | [] => []
  | x :: r => putK (places r) (.inl x) (.int (r.length : Int))
theorem putK_len {κ : Type} [DecidableEq κ] (kvs : List (κ × V)) (k : κ) (v : V) : (putK kvs k v).length ≤ kvs.length + 1 := by
  unfold putK
  split
  · rw [List.length_map]; omega
  · rw [List.length_append]; simp
theorem places_len : ∀ r : List Int, (places r).length ≤ r.length
  | [] => Nat.le_refl _
  | _ :: r => Nat.le_trans (putK_len _ _ _) (Nat.succ_le_succ (places_len r))
theorem places_no : ∀ {r : List Int} {x : Int}, x ∉ r → valV (places r) (.inl x) = none
  | [], x, _ => rfl
  | y :: r, x, h => by
    rw [List.mem_cons, not_or] at h
    show valV (putK (places r) (.inl y) _) (.inl x) = none
    rw [valV_put, if_neg (fun e => h.1 (Sum.inl.inj e))]
    exact places_no h.2
theorem places_at : ∀ {r : List Int} {x : Int}, r.Nodup → x ∈ r → ∃ i : Nat, valV (places r) (.inl x) = some (.int (i : Int)) ∧ r.reverse[i]? = some x
  | [], x, _, h => by simp at h
  | y :: r, x, hn, h => by
    show ∃ i : Nat, valV (putK (places r) (.inl y) _) (.inl x) = _ ∧ _
    rw [valV_put]
    by_cases e : x = y
    · subst e
      refine ⟨r.length, by rw [if_pos rfl], ?_⟩
      rw [List.reverse_cons, List.getElem?_append_right (by simp)]
      simp
    · rw [if_neg (fun q => e (Sum.inl.inj q))]
      have hm : x ∈ r := by
        rcases List.mem_cons.mp h with q | q
        · exact absurd q e
        · exact q
      obtain ⟨i, h1, h2⟩ := places_at (List.nodup_cons.mp hn).2 hm
      refine ⟨i, h1, ?_⟩
      have hl := (List.getElem?_eq_some_iff.mp h2).1
      rw [List.reverse_cons, List.getElem?_append_left hl]
      exact h2
end Lw

set_option Elab.async false
set_option linter.all false
set_option maxRecDepth 100000
set_option maxHeartbeats 2000000
/-! a new list of a tuple; extend; an instance that stays owned for a while -/
namespace Lw
open PySem PySem.Spec PyProof.Rows L2
theorem delM_upd {μ : AM} {l : Addr} {o : AO} (h : μ l = none) : delM (updM μ l o) l = μ := by
  funext b
  unfold delM updM
  by_cases e : b = l
  · subst e; rw [if_pos rfl, h]
  · rw [if_neg e, if_neg e]
section
variable {K : Fr} {ρ : AS} {μ μ1 μ2 μ3 : AM} {ta tb td te tl ty tv : TE} {R R1 R2 : AV} {P : Po} {d e : PyData} {ds es zs : List PyData} {l : Addr} {g : TG}
/-- x = list(t), t a tuple: owned -/
theorem s_listT {i : Nat} (h : EvW K te ρ μ (.d (.tuple ds)) μ1) (k : ∀ l, μ1 l = none → P.nx (ρ.set i (some (.r l))) (updM μ1 l (.lst (ds.map .d)))) :
    StW K (tAsg (tCB (fun xs H Q => ∃ p ys, xs = [.ref p] ∧ (SqL K H p ys ∨ SqT K H p ys) ∧ ∀ l, H l = none → Q (.ref l) (upd H l (.lst ys))) (tCons te tNil)) (gName i)) ρ μ P := fun F D B H σ w sl r =>
  h F B H σ w sl _ fun v B2 H2 e w2 hv => by
    cases (show Dt K B2 v (.tuple ds) from hv) with
    | @tup a vs _ h1 h0a h2 =>
      refine ⟨a, vs, rfl, .inr (seq_l w2.1 h1), fun l hp => ?_⟩
      have hm : μ1 l = none := own_free w2 hp
      exact r.nx _ _ B2 _ _ (k l hm) e (w2.newM hp ⟨_, rfl, AllH.of h2⟩) (Sl.set (R := .r l) (v := .ref l) (show V.ref l = V.ref l from rfl) i (sl.mono e))
/-- a comprehension, tracked -/
theorem ew_lcT {α : Type} {wi : TI} {vs : List Nat} (l : List α) (f : α → AV) (h : α → PyData) (hi : ItW K wi ρ μ (l.map f) μ1)
    (hs : ∀ x ∈ l, ∃ ρ2, GcW K g vs (f x) (wipeA ρ vs) ρ2 ∧ EvW K te ρ2 μ1 (.d (h x)) μ1) (hz : l.length ≤ 90000) : EvW K (tLc wi g (fun _ H Q => Q true H) te vs) ρ μ (.t (l.map h)) μ1 := fun F B H σ w sl Q q => by
  refine lc_run (K := K) (ρ := ρ) (μ := μ) (g := g) (te := te) (tt := fun _ H Q => Q true H) (vs := vs) (xs := l.map f) (fun _ => μ1) (fun i => (l.take i).map h) hi rfl (fun i a ha => ?_) (by rw [List.length_map]; exact hz) F B H σ w sl Q fun Dl B2 H2 ys e hF w2 hys => ?_
  · rw [List.getElem?_map] at ha
    cases hx : l[i]? with
    | none => rw [hx] at ha; cases ha
    | some x =>
      rw [hx] at ha
      cases ha
      obtain ⟨ρ2, h1, h2⟩ := hs x (List.mem_of_getElem? hx)
      refine ⟨ρ2, true, μ1, h1, et_nil, fun _ => ⟨h x, h2, ?_⟩, nofun⟩
      rw [List.take_add_one, hx, List.map_append]
      rfl
  · rw [List.length_map, List.take_length] at hys
    obtain ⟨w5, e5, e6⟩ := w2.freezeF hF
    exact q _ _ H2 (e.trans e5) w5 ⟨Dl, ys, rfl, e6, dpa_mono e5 hys⟩
/-- l.extend(t), l owned -/
theorem s_ext {xs : List AV} (ha : EvW K ta ρ μ (.r l) μ1) (h : EvW K te ρ μ1 (.t zs) μ2) (hl1 : ∃ xs1, μ1 l = some (.lst xs1)) (hl : μ2 l = some (.lst xs)) (hz : xs.length + zs.length ≤ 100000) (p : P.nx ρ (updM μ2 l (.lst (xs ++ zs.map .d)))) :
    StW K (tDrop (tBM K "list" rExtend ta (tCons te tNil))) ρ μ P := fun F D B H σ w sl r => ha F B H σ w sl _ fun a B1 H1 e1 w1 h1 => by
  have ea : a = .ref l := h1
  subst ea
  obtain ⟨xs1, q1⟩ := hl1
  obtain ⟨_, _, u1, hu1, vs1, rfl, hA1⟩ := w1.2.1 l _ q1
  refine ⟨.inl ⟨rfl, vs1, SqL.of hu1⟩, h F B1 H1 σ w1 (sl.mono e1) _ fun v B2 H2 e2 w2 h2 => ?_⟩
  obtain ⟨b, ws, rfl, hb, hws⟩ := h2
  obtain ⟨_, _, u, hu, vs, rfl, hA⟩ := w2.2.1 l _ hl
  have hl2 : ws.length = zs.length := by have := (AllH.of hws).length; rw [List.length_map] at this; omega
  refine ⟨l, b, vs, ws, rfl, rfl, hu, w2.1 _ _ hb, by rw [← hA.length, hl2]; exact Nat.le_trans hz (by decide), ?_⟩
  have w4 : Wd K F B2 (updM μ2 l (.lst (xs ++ zs.map .d))) (upd H2 l (.lst (vs ++ ws))) := w2.set hl ⟨_, rfl, AllH.app hA (AllH.of hws)⟩
  exact r.nx _ _ B2 _ _ p (e1.trans e2) w4 (sl.mono (e1.trans e2))
/-- x = C(..), the instance owned -/
theorem s_make {C : Addr} {i : Nat} {S : Spc} {E : XK} {t : TA} {Rs : List AV} {fs : List (Str × AV)} (h : EvA K t ρ μ Rs μ1) (hS : ∀ p dx, μ1 p = none → S (.r p :: Rs) (updM μ1 p (.ins C dx [])) (fun R μ' => R = .d .none ∧ μ' = updM μ1 p (.ins C dx fs)))
    (k : ∀ p dx, μ1 p = none → P.nx (ρ.set i (some (.r p))) (updM μ1 p (.ins C dx fs))) : StW K (tAsg (tMake C (spP K S) [] E t) (gName i)) ρ μ P := fun F D B H σ w sl r =>
  h F B H σ w sl _ fun vs B1 H1 e1 w1 hv => fun p dx hp hdx hne => by
    have hm : μ1 p = none := own_free w1 hp
    obtain ⟨w2, e2, _⟩ := w1.new (o := .own p) hdx
    have hp2 : upd H1 dx (.own p) p = none := by rw [upd_ne hne.symm]; exact hp
    have w3 : Wd K F (upd B1 dx (.own p)) (updM μ1 p (.ins C dx [])) (upd (upd H1 dx (.own p)) p (.ins C dx [])) := w2.newM hp2 ⟨[], rfl, trivial⟩
    rw [List.append_nil]
    refine ⟨F, _, _, .r p :: Rs, _, w3, ⟨rfl, hv.mono e2⟩, hS p dx hm, ?_⟩
    rintro R μ' v B4 H4 ⟨rfl, rfl⟩ e4 w4 hv4
    refine ⟨h_n hv4, ?_⟩
    exact r.nx _ _ B4 _ _ (k p dx hm) ((e1.trans e2).trans e4) w4 (Sl.set (R := .r p) (v := .ref p) (show V.ref p = V.ref p from rfl) i (sl.mono ((e1.trans e2).trans e4)))
/-- an instance that is changed no more -/
theorem s_freezeI {C dx : Addr} {i : Nat} {fs : List (Str × AV)} {s : TS} (hi : ρ[i]? = some (some (.r l))) (hl : μ l = some (.ins C dx fs)) (h : StW K s (ρ.set i (some (.ob C fs))) (delM μ l) P) : StW K s ρ μ P := fun F D B H σ w sl r => by
  obtain ⟨u, w5, e5, e6, ws, rfl, hF⟩ := w.freeze hl
  obtain ⟨v, h1, h2⟩ := sl.get hi
  have ev : v = .ref l := h2
  subst ev
  have sl2 : Sl K (upd B l (.ins C dx ws)) (σ.set i (some (.ref l))) (ρ.set i (some (.ob C fs))) := Sl.set (R := .ob C fs) (v := .ref l) ⟨l, dx, ws, rfl, e6, hF.mono e5⟩ i (sl.mono e5)
  rw [set_self h1] at sl2
  exact h F D _ H σ w5 sl2 (r.mono e5)
end
end Lw

set_option Elab.async false
set_option linter.all false
set_option maxRecDepth 100000
set_option maxHeartbeats 2000000
/-! the mathematics of draws, cut effects, effects put together, powers of effects; nothing of a row -/
namespace K15
open PySem PySem.Spec PyProof.Rows L2 Lw
/-! ### the mathematics of the draws -/
/-- the state of the draws -/
structure Kl where
  a : Int
  b : Int
  c : Int
def mix1 (s : Kl) : Int := (s.b + 67867967 * (s.c + 1)) ^ 3 % (10 ^ 43 + 57)
def mix2 (s : Kl) : Int := (mix1 s + 49979687 * (s.c + 1)) ^ 3 % (10 ^ 42 + 63)
def drawn (s : Kl) (n : Int) : Int := if 0 < s.a then s.a % n else mix2 s / 786433 % n
def after (s : Kl) (n : Int) : Kl := if 0 < s.a then ⟨s.a / n, s.b, s.c⟩ else ⟨s.a, s.b, s.c + 1⟩
theorem drawn_lo (s : Kl) {n : Int} (h : 0 < n) : 0 ≤ drawn s n ∧ drawn s n < n := by
  unfold drawn
  split
  · exact ⟨Int.emod_nonneg _ (by omega), Int.emod_lt_of_pos _ h⟩
  · exact ⟨Int.emod_nonneg _ (by omega), Int.emod_lt_of_pos _ h⟩
/-- the numbers that the draws reckon with are of no great size -/
def Kl.ok (s : Kl) : Prop := 0 ≤ s.b ∧ s.b ≤ 10 ^ 42 ∧ 0 ≤ s.c ∧ 0 ≤ s.a
theorem after_ok {s : Kl} {n : Int} (h : s.ok) (hn : 0 < n) : (after s n).ok := by
  obtain ⟨h1, h2, h3, h5⟩ := h
  unfold after
  split
  · exact ⟨h1, h2, h3, Int.ediv_nonneg h5 (by omega)⟩
  · refine ⟨h1, h2, ?_, h5⟩
    show 0 ≤ s.c + 1
    omega
theorem after_c (s : Kl) (n : Int) : (after s n).c ≤ s.c + 1 := by
  unfold after
  split
  · show s.c ≤ s.c + 1
    omega
  · exact Int.le_refl _
def kO (s : Kl) : AO := .lst [.i s.a, .i s.b, .i s.c]

theorem pow_ok {i : Int} {b n : Nat} (h : i.natAbs < 2 ^ b) (hb : 0 < b) (hn : b * n ≤ 2 ^ 27) : CPowX i (n : Int) := by
  refine ⟨Int.natCast_nonneg n, ?_⟩
  have h1 : Builtin.Int.intBits i ≤ b := by
    unfold Builtin.Int.intBits
    split
    · omega
    · have := PySem.Flt.log2_lt_of hb h
      omega
  have h2 : (Builtin.Int.intBits i : Int) * (n : Int) = ((Builtin.Int.intBits i * n : Nat) : Int) := by simp
  rw [h2]
  have h3 : Builtin.Int.intBits i * n ≤ b * n := Nat.mul_le_mul_right n h1
  exact_mod_cast Nat.le_trans h3 hn

def kil (ns : List Int) (k : Nat) : Kl := let cell := ns.getD k 0; ⟨max 0 (cell - 10 ^ 18), cell % (10 ^ 40 + 121) + 90001 * (k : Int) + 61, 0⟩
theorem kil_ok (ns : List Int) {k : Nat} (h : k ≤ 100) : (kil ns k).ok := by
  unfold kil Kl.ok
  have h0 := Int.emod_nonneg (ns.getD k 0) (show (10 ^ 40 + 121 : Int) ≠ 0 by decide)
  have h1 := Int.emod_lt_of_pos (ns.getD k 0) (show (0 : Int) < 10 ^ 40 + 121 by decide)
  refine ⟨?_, ?_, ?_, ?_⟩ <;> simp only <;> omega

/-- the source of a cell behind taken and left -/
def source (t : Int) (l : List Src) (k : Nat) : Src := if h : k < l.length then l[l.length - 1 - k] else .inp ((k : Int) + t - l.length)

theorem updM_self {μ : AM} {l : Addr} {o : AO} (h : μ l = some o) : updM μ l o = μ := by
  funext b
  unfold updM
  by_cases e : b = l
  · rw [if_pos e, e, h]
  · rw [if_neg e]
theorem updM_comm {μ : AM} {a b : Addr} {o u : AO} (h : a ≠ b) : updM (updM μ a o) b u = updM (updM μ b u) a o := by
  funext c
  unfold updM
  by_cases e1 : c = b
  · rw [if_pos e1, if_neg (fun e => h (e.symm.trans e1)), if_pos e1]
  · by_cases e2 : c = a
    · rw [if_neg e1, if_pos e2, if_pos e2]
    · rw [if_neg e1, if_neg e2, if_neg e2, if_neg e1]
/-- a draw, as a step of the state -/
def pick3 (x y z k : Int) : Int := if k = 0 then x else if k = 1 then y else z
theorem get3 {x y z k : Int} (h : 0 ≤ k ∧ k < 3) : ([PyData.int x, .int y, .int z] : List PyData)[k.toNat]? = some (.int (pick3 x y z k)) := by
  have : k = 0 ∨ k = 1 ∨ k = 2 := by omega
  rcases this with rfl | rfl | rfl <;> rfl
def pick2 (x y k : Int) : Int := if k = 0 then x else y
theorem get2 {x y k : Int} (h : 0 ≤ k ∧ k < 2) : ([PyData.int x, .int y] : List PyData)[k.toNat]? = some (.int (pick2 x y k)) := by
  have : k = 0 ∨ k = 1 := by omega
  rcases this with rfl | rfl <;> rfl
/-- one of three: a draw below 4, one below m + 1, z -/
def draw3 (s : Kl) (m z : Int) : Int × Kl :=
  let s1 := after s 4
  let s2 := after s1 (m + 1)
  (pick3 (drawn s 4) (drawn s1 (m + 1)) z (drawn s2 3), after s2 3)
def downs (t : Int) : List Src := (List.range t.toNat).map fun (i : Nat) => Src.inp (t - 1 - (i : Int))
def stepLit (way : Int) (f : List Src) (s : Kl) : List Src × Kl :=
  let s1 := after s 3
  (f ++ [.lit (pick2 (drawn s 3) (drawn s1 (2 * 10 ^ 30 + 1) - 10 ^ 30) (way % 2))], after s1 (2 * 10 ^ 30 + 1))
def stepIn (t way k : Int) (f : List Src) (s : Kl) : List Src × Kl :=
  (f ++ [.inp (pick2 (k % t) (drawn s t) (if 2 < way then 1 else 0))], after s t)
def step (t way k : Int) (p : List Src × Kl) : List Src × Kl :=
  if t = 0 then stepLit way p.1 p.2 else if drawn p.2 4 = 0 then stepLit way p.1 (after p.2 4) else stepIn t way k p.1 (after p.2 4)
def steps (t way : Int) : Nat → List Src × Kl → List Src × Kl
  | 0, p => p
  | n + 1, p => step t way (n : Int) (steps t way n p)
structure Mk where
  t : Int
  l : List Src
  s : Kl
def made (s : Kl) (m : Int) : Mk :=
  let a := draw3 s m m
  let way := drawn a.2 5
  let f0 := if way = 0 then downs a.1 else []
  let b := draw3 (after a.2 5) m a.1
  let p := steps a.1 way (min b.1 (m - (f0.length : Int))).toNat (f0, b.2)
  ⟨a.1, if way = 4 then p.1.reverse else p.1, p.2⟩

/-! facts of these -/
theorem pick3_in {x y z k lo hi : Int} (h1 : lo ≤ x ∧ x ≤ hi) (h2 : lo ≤ y ∧ y ≤ hi) (h3 : lo ≤ z ∧ z ≤ hi) : lo ≤ pick3 x y z k ∧ pick3 x y z k ≤ hi := by
  unfold pick3
  split
  · exact h1
  · split
    · exact h2
    · exact h3
structure Grows (s s' : Kl) (n : Int) : Prop where
  ok : s'.ok
  c : s'.c ≤ s.c + n
theorem grow1 {s : Kl} {n : Int} (h : s.ok) (hn : 0 < n) : Grows s (after s n) 1 := ⟨after_ok h hn, after_c s n⟩
theorem Grows.trans {a b c : Kl} {m n : Int} (h : Grows a b m) (k : Grows b c n) : Grows a c (m + n) := ⟨k.ok, by have := h.c; have := k.c; omega⟩
theorem Grows.le {a b : Kl} {m n : Int} (h : Grows a b m) (k : m ≤ n) : Grows a b n := ⟨h.ok, by have := h.c; omega⟩
theorem draw3_ok {s : Kl} {m z : Int} (h : s.ok) (hm : 3 ≤ m) (hz : 0 ≤ z ∧ z ≤ m) : (0 ≤ (draw3 s m z).1 ∧ (draw3 s m z).1 ≤ m) ∧ Grows s (draw3 s m z).2 3 := by
  have g1 := grow1 (n := 4) h (by omega)
  have g2 := grow1 (n := m + 1) g1.ok (by omega)
  have g3 := grow1 (n := 3) g2.ok (by omega)
  have d1 := drawn_lo s (n := 4) (by omega)
  have d2 := drawn_lo (after s 4) (n := m + 1) (by omega)
  exact ⟨pick3_in (by omega) (by omega) hz, (g1.trans g2).trans g3⟩
theorem stepLit_ok {way : Int} {f : List Src} {s : Kl} (h : s.ok) : (stepLit way f s).1.length = f.length + 1 ∧ Grows s (stepLit way f s).2 2 := by
  have g1 := grow1 (n := 3) h (by omega)
  have g2 := grow1 (n := 2 * 10 ^ 30 + 1) g1.ok (by decide)
  exact ⟨by simp [stepLit], g1.trans g2⟩
theorem stepIn_ok {t way k : Int} {f : List Src} {s : Kl} (h : s.ok) (ht : 0 < t) : (stepIn t way k f s).1.length = f.length + 1 ∧ Grows s (stepIn t way k f s).2 1 :=
  ⟨by simp [stepIn], grow1 h ht⟩
theorem step_ok {t way k : Int} {p : List Src × Kl} (h : p.2.ok) (ht : 0 ≤ t) : (step t way k p).1.length = p.1.length + 1 ∧ Grows p.2 (step t way k p).2 3 := by
  unfold step
  have g := grow1 (n := 4) h (by omega)
  split
  · have := stepLit_ok (way := way) (f := p.1) h
    exact ⟨this.1, this.2.le (by omega)⟩
  · split
    · have := stepLit_ok (way := way) (f := p.1) g.ok
      exact ⟨this.1, (g.trans this.2).le (by omega)⟩
    · have := stepIn_ok (way := way) (k := k) (f := p.1) g.ok (show 0 < t by omega)
      exact ⟨this.1, (g.trans this.2).le (by omega)⟩
theorem steps_ok {t way : Int} {p : List Src × Kl} (h : p.2.ok) (ht : 0 ≤ t) : ∀ n : Nat, (steps t way n p).1.length = p.1.length + n ∧ Grows p.2 (steps t way n p).2 (3 * n)
  | 0 => ⟨rfl, h, by show p.2.c ≤ p.2.c + 3 * ((0 : Nat) : Int); omega⟩
  | n + 1 => by
    have ih := steps_ok (way := way) h ht n
    have := step_ok (t := t) (way := way) (k := (n : Int)) (p := steps t way n p) ih.2.ok ht
    refine ⟨?_, (ih.2.trans this.2).le (by omega)⟩
    show (step t way (n : Int) (steps t way n p)).1.length = _
    rw [this.1, ih.1]
    omega

def srcOk (t : Int) : Src → Bool
  | .inp k => decide (0 ≤ k) && decide (k ≤ t - 1)
  | .lit c => decide (-(10 ^ 30) ≤ c) && decide (c ≤ 10 ^ 30)

/-- Effect(taken, left) that is none too great -/
def okE (t : Int) (l : List Src) : Prop := 0 ≤ t ∧ t ≤ 100 ∧ l.length ≤ 100 ∧ l.all (srcOk t) = true


/-! ### the mathematics of cut effects -/
theorem srcOk_inp {t k : Int} (h : srcOk t (.inp k) = true) : 0 ≤ k ∧ k < t := by
  have h' : (decide (0 ≤ k) && decide (k ≤ t - 1)) = true := h
  simp only [Bool.and_eq_true, decide_eq_true_eq] at h'
  omega
theorem srcOk_lit {t k : Int} (h : srcOk t (.lit k) = true) : -(10 ^ 30) ≤ k ∧ k ≤ 10 ^ 30 := by
  have h' : (decide (-(10 ^ 30) ≤ k) && decide (k ≤ 10 ^ 30)) = true := h
  simpa only [Bool.and_eq_true, decide_eq_true_eq] using h'
theorem inp_ok {t k : Int} (h : 0 ≤ k ∧ k < t) : srcOk t (.inp k) = true := by
  show (decide (0 ≤ k) && decide (k ≤ t - 1)) = true
  simp only [Bool.and_eq_true, decide_eq_true_eq]
  omega
theorem lit_ok {t k : Int} (h : -(10 ^ 30) ≤ k ∧ k ≤ 10 ^ 30) : srcOk t (.lit k) = true := by
  show (decide (-(10 ^ 30) ≤ k) && decide (k ≤ 10 ^ 30)) = true
  simpa only [Bool.and_eq_true, decide_eq_true_eq] using h
theorem ok_up {t u : Int} {s : Src} (h : srcOk t s = true) (hu : t ≤ u) : srcOk u s = true := by
  cases s with
  | inp k => have := srcOk_inp h; exact inp_ok (by omega)
  | lit k => exact lit_ok (srcOk_lit h)
theorem ok_down {t : Int} {s : Src} (h : srcOk t s = true) (hn : s ≠ .inp (t - 1)) : srcOk (t - 1) s = true := by
  cases s with
  | inp k =>
    have := srcOk_inp h
    have : k ≠ t - 1 := fun e => hn (by rw [e])
    exact inp_ok (by omega)
  | lit k => exact lit_ok (srcOk_lit h)
theorem cut_cons (t : Int) (s : Src) (r : List Src) : cut t (s :: r) = if s = .inp (t - 1) ∧ s ∉ r then cut (t - 1) r else (t, s :: r) := rfl
theorem cut_okE : ∀ {t : Int} {l : List Src}, okE t l → okE (cut t l).1 (cut t l).2
  | t, [], h => h
  | t, s :: r, ⟨h1, h2, h3, h4⟩ => by
    rw [cut_cons]
    split
    · next h =>
      have h4' : srcOk t s = true ∧ ∀ x ∈ r, srcOk t x = true := by simpa using h4
      have h5 := h4'.1
      rw [h.1] at h5
      have h6 := srcOk_inp h5
      refine cut_okE ⟨by omega, by omega, by simp at h3; omega, List.all_eq_true.mpr fun x hx => ok_down (h4'.2 x hx) (fun e => h.2 (by rw [h.1, ← e]; exact hx))⟩
    · exact ⟨h1, h2, h3, h4⟩
theorem cut_cut : ∀ (t : Int) (l : List Src), cut (cut t l).1 (cut t l).2 = cut t l
  | t, [] => rfl
  | t, s :: r => by
    rw [cut_cons]
    split
    · exact cut_cut (t - 1) r
    · next h =>
      rw [cut_cons, if_neg h]
theorem source_step {t : Int} {r : List Src} (k : Nat) : source (t - 1) r k = source t (.inp (t - 1) :: r) k := by
  unfold source
  by_cases h1 : k < r.length
  · rw [dif_pos h1, dif_pos (by simp; omega)]
    have : (Src.inp (t - 1) :: r).length - 1 - k = (r.length - 1 - k) + 1 := by simp; omega
    simp only [this, List.getElem_cons_succ]
  · rw [dif_neg h1]
    by_cases h2 : k = r.length
    · rw [dif_pos (by simp; omega)]
      have : (Src.inp (t - 1) :: r).length - 1 - k = 0 := by simp; omega
      simp only [this, List.getElem_cons_zero]
      congr 1
      omega
    · rw [dif_neg (by simp; omega)]
      congr 1
      simp
      omega
theorem source_cut (k : Nat) : ∀ (t : Int) (l : List Src), source (cut t l).1 (cut t l).2 k = source t l k
  | t, [] => rfl
  | t, s :: r => by
    rw [cut_cons]
    split
    · next h => rw [source_cut k (t - 1) r, source_step, h.1]
    · rfl
/-- more inputs that stay, below -/
def more (t : Int) (m : Nat) : List Src := (List.range m).map fun (i : Nat) => Src.inp (t + (m : Int) - 1 - (i : Int))
theorem more_succ (t : Int) (m : Nat) : more t (m + 1) = .inp (t + (m : Int)) :: more t m := by
  unfold more
  rw [List.range_succ_eq_map, List.map_cons, List.map_map]
  congr 1
  · congr 1
    push_cast
    omega
  · apply List.map_congr_left
    intro i _
    show Src.inp _ = Src.inp _
    congr 1
    push_cast
    omega
theorem more_lt {t : Int} {m : Nat} {k : Int} (h : Src.inp k ∈ more t m) : k < t + (m : Int) := by
  unfold more at h
  obtain ⟨i, _, e⟩ := List.mem_map.mp h
  have := Src.inp.inj e
  omega
theorem cut_more {t : Int} {l : List Src} (hl : l.all (srcOk t) = true) : ∀ m : Nat, cut (t + (m : Int)) (more t m ++ l) = cut t l
  | 0 => by
    show cut (t + ((0 : Nat) : Int)) l = _
    congr 1
    omega
  | m + 1 => by
    rw [more_succ, List.cons_append, cut_cons, if_pos ?_]
    · have := cut_more hl m
      rw [← this]
      congr 1
      push_cast
      omega
    · refine ⟨by congr 1; push_cast; omega, fun hm => ?_⟩
      rcases List.mem_append.mp hm with h | h
      · have := more_lt h
        omega
      · have := srcOk_inp (List.all_eq_true.mp hl _ h)
        omega
theorem more_okE {t : Int} {l : List Src} {m : Nat} (h : okE t l) (h1 : t + (m : Int) ≤ 100) (h2 : l.length + m ≤ 100) : okE (t + (m : Int)) (more t m ++ l) := by
  obtain ⟨q1, q2, q3, q4⟩ := h
  refine ⟨by omega, h1, by rw [List.length_append]; unfold more; simp; omega, ?_⟩
  rw [List.all_append, Bool.and_eq_true]
  refine ⟨List.all_eq_true.mpr fun x hx => ?_, List.all_eq_true.mpr fun x hx => ok_up (List.all_eq_true.mp q4 x hx) (by omega)⟩
  unfold more at hx
  obtain ⟨i, hi, rfl⟩ := List.mem_map.mp hx
  have := List.mem_range.mp hi
  exact inp_ok (by omega)
/-! ### what is shown is short -/
def isml (i : Int) : Prop := i.natAbs.log2 < 1920
theorem isml_of {i : Int} (h : -(10 ^ 100) ≤ i ∧ i ≤ 10 ^ 100) : isml i := by
  unfold isml
  have h1 : i.natAbs < 2 ^ 400 := by
    have : (10 ^ 100 : Int).natAbs < 2 ^ 400 := by decide +kernel
    omega
  have := PySem.Flt.log2_lt_of (by decide) h1
  omega
def Src.sml : Src → Prop
  | .inp k => isml k
  | .lit k => isml k
theorem sml_ok {t : Int} {s : Src} (h : srcOk t s = true) (ht : t ≤ 100) : Src.sml s := by
  cases s with
  | inp k => have := srcOk_inp h; exact isml_of (by omega)
  | lit k => have := srcOk_lit h; exact isml_of (by omega)
theorem int_short {i : Int} (h : isml i) : PyData.leavesShort 1921 (.int i) = true := by
  simp only [PyData.leavesShort, decide_eq_true_eq]
  exact int_text_len_1921 h
theorem int_show {i : Int} (h : isml i) : PyData.showable (.int i) = true := by
  simp only [PyData.showable, decide_eq_true_eq]
  exact h
theorem short_str (x : Str) (h : (x.cps.toList.all fun c => decide (c < 16 ^ 8)) = true) : PyData.leavesShort 1921 (.str x) = true := h
theorem src_short {s : Src} (h : Src.sml s) : PyData.leavesShort 1921 s.d = true := by
  have h1 : PyData.leavesShort 1921 (.str sIn) = true := short_str _ (by decide +kernel)
  have h2 : PyData.leavesShort 1921 (.str sLit) = true := short_str _ (by decide +kernel)
  cases s with
  | inp k => simp only [Src.d, PyData.leavesShort.eq_6, PyData.leavesShortAll, h1, int_short (show isml k from h), Bool.and_true, Bool.and_self]
  | lit k => simp only [Src.d, PyData.leavesShort.eq_6, PyData.leavesShortAll, h2, int_short (show isml k from h), Bool.and_true, Bool.and_self]
theorem src_show {s : Src} (h : Src.sml s) : PyData.showable s.d = true := by
  cases s with
  | inp k => 
    have := int_show (show isml k from h)
    simp only [Src.d, PyData.showable, PyData.showableAll, Bool.true_and, Bool.and_true] at this ⊢
    exact this
  | lit k => 
    have := int_show (show isml k from h)
    simp only [Src.d, PyData.showable, PyData.showableAll, Bool.true_and, Bool.and_true] at this ⊢
    exact this
theorem src_bulk (s : Src) : PyData.bulk s.d ≤ 5 := by
  have h1 : sIn.cps.size = 2 := by decide +kernel
  have h2 : sLit.cps.size = 3 := by decide +kernel
  cases s with
  | inp k => simp only [Src.d, PyData.bulk, PyData.bulkAll, h1]; omega
  | lit k => simp only [Src.d, PyData.bulk, PyData.bulkAll, h2]; omega
theorem srcs_bulk : ∀ l : List Src, PyData.bulkAll (srcsD l) ≤ 6 * l.length
  | [] => by simp [srcsD, PyData.bulkAll]
  | s :: l => by
    have ih := srcs_bulk l
    have := src_bulk s
    unfold srcsD at ih ⊢
    simp only [List.map_cons, PyData.bulkAll, List.length_cons]
    omega
theorem srcs_short : ∀ {l : List Src}, (∀ s ∈ l, Src.sml s) → PyData.leavesShortAll 1921 (srcsD l) = true
  | [], _ => by simp [srcsD, PyData.leavesShortAll]
  | s :: l, h => by
    have ih := srcs_short (l := l) (fun x hx => h x (List.mem_cons_of_mem _ hx))
    unfold srcsD at ih ⊢
    simp only [List.map_cons, PyData.leavesShortAll, ih, src_short (h s List.mem_cons_self), Bool.and_self]
theorem srcs_show : ∀ {l : List Src}, (∀ s ∈ l, Src.sml s) → PyData.showableAll (srcsD l) = true
  | [], _ => by simp [srcsD, PyData.showableAll]
  | s :: l, h => by
    have ih := srcs_show (l := l) (fun x hx => h x (List.mem_cons_of_mem _ hx))
    unfold srcsD at ih ⊢
    simp only [List.map_cons, PyData.showableAll, ih, src_show (h s List.mem_cons_self), Bool.and_self]
theorem fits {d : PyData} (h : PyData.leavesShort 1921 d = true) (hb : d.bulk ≤ 8000) : d.shown.length ≤ sizeLine := by
  have := PyData.shown_le_bulk 1921 (by decide) d h
  have e : sizeLine = 16777216 := by decide
  omega
/-- the row that is compared: taken, left, growth, len -/
def rowD (t : Int) (l : List Src) (a b : Int) : List PyData := [.int t, .tuple (srcsD l), .int a, .int b]
theorem row_shaped (t : Int) (l : List Src) (a b : Int) : SeqAt.shaped (.list (rowD t l a b)) = true := by
  unfold SeqAt.shaped rowD
  have h := depthAll_srcs l
  simp only [PyData.canLay0, PyData.canLayAll0, PyData.depth, PyData.depthAll, layAll_srcs, Bool.and_self, Bool.true_and]
  exact decide_eq_true (by omega)
theorem row_show {t : Int} {l : List Src} {a b : Int} (ht : isml t) (hl : ∀ s ∈ l, Src.sml s) (ha : isml a) (hb : isml b) : PyData.showable (.list (rowD t l a b)) = true := by
  have h1 := int_show ht
  have h2 := int_show ha
  have h3 := int_show hb
  have h4 := srcs_show hl
  unfold rowD
  simp only [PyData.showable, PyData.showableAll, Bool.and_true, Bool.and_eq_true] at h1 h2 h3 ⊢
  exact ⟨h1, h4, h2, h3⟩
theorem row_fits {t : Int} {l : List Src} {a b : Int} (ht : isml t) (hl : ∀ s ∈ l, Src.sml s) (ha : isml a) (hb : isml b) (hn : l.length ≤ 100) : (PyData.shown (.list (rowD t l a b))).length ≤ sizeLine := by
  refine fits ?_ ?_
  · have h1 := int_short ht
    have h2 := int_short ha
    have h3 := int_short hb
    have h4 := srcs_short hl
    unfold rowD
    simp only [PyData.leavesShort, PyData.leavesShortAll, Bool.and_true, Bool.and_eq_true] at h1 h2 h3 ⊢
    exact ⟨h1, h4, h2, h3⟩
  · have := srcs_bulk l
    unfold rowD
    simp only [PyData.bulk, PyData.bulkAll]
    omega

def dueD (c : Int × List Src) : PyData := .tuple [.int c.1, .tuple (srcsD c.2)]
theorem due_shaped (c : Int × List Src) : SeqAt.shaped (dueD c) = true := by
  unfold SeqAt.shaped dueD
  have h := depthAll_srcs c.2
  simp only [PyData.canLay0, PyData.canLayAll0, PyData.depth, PyData.depthAll, layAll_srcs, Bool.and_self, Bool.true_and]
  exact decide_eq_true (by omega)
theorem due_eqv (a c : Int × List Src) : PyData.eqv (dueD a) (dueD c) = (decide (a.1 = c.1) && decide (a.2 = c.2)) := by
  have h := eqv_srcs a.2 c.2
  simp only [PyData.eqv] at h
  unfold dueD
  simp only [PyData.eqv, PyData.eqvAll, h, Bool.and_true]
  by_cases h1 : a.1 = c.1 <;> simp [h1]


def Src.num : Src → Int
  | .inp k => k
  | .lit c => c
theorem more_len (t : Int) (m : Nat) : (more t m).length = m := by unfold more; simp
theorem more_get {t : Int} {m i : Nat} (h : i < m) : (more t m)[i]? = some (.inp (t + (m : Int) - 1 - (i : Int))) := by
  unfold more
  rw [List.getElem?_map, List.getElem?_range h]
  rfl
theorem source_some {t : Int} {l : List Src} {k : Nat} (h : k < l.length) : l[l.length - 1 - k]? = some (source t l k) := by
  unfold source
  rw [dif_pos h, List.getElem?_eq_getElem]
theorem source_far {t : Int} {l : List Src} {k : Nat} (h : l.length ≤ k) : source t l k = .inp ((k : Int) + t - l.length) := by
  unfold source
  rw [dif_neg (by omega)]
/-- more inputs that stay change nothing -/
theorem source_more {t : Int} {l : List Src} (k : Nat) : ∀ m : Nat, source (t + (m : Int)) (more t m ++ l) k = source t l k
  | 0 => by
    show source (t + ((0 : Nat) : Int)) l k = _
    congr 1
    omega
  | m + 1 => by
    rw [more_succ, List.cons_append]
    have := source_step (t := t + ((m + 1 : Nat) : Int)) (r := more t m ++ l) k
    have e1 : t + ((m + 1 : Nat) : Int) - 1 = t + (m : Int) := by push_cast; omega
    rw [e1] at this
    rw [← this]
    exact source_more k m
/-- the same sources and growth: more inputs that stay -/
theorem more_of_source {t t' : Int} {l l' : List Src} (hs : ∀ k, source t l k = source t' l' k) {m : Nat} (hm : l'.length = l.length + m) (hg : t' = t + (m : Int)) : l' = more t m ++ l := by
  refine List.ext_getElem? fun i => ?_
  by_cases hi : i < l'.length
  · have h1 := source_some (t := t') (l := l') (k := l'.length - 1 - i) (by omega)
    have e1 : l'.length - 1 - (l'.length - 1 - i) = i := by omega
    rw [e1, ← hs] at h1
    rw [h1]
    by_cases h2 : i < m
    · rw [List.getElem?_append_left (by rw [more_len]; exact h2), more_get h2, source_far (by omega)]
      congr 2
      omega
    · rw [List.getElem?_append_right (by rw [more_len]; omega), more_len]
      have h3 := source_some (t := t) (l := l) (k := l'.length - 1 - i) (by omega)
      have e2 : l.length - 1 - (l'.length - 1 - i) = i - m := by omega
      rw [e2] at h3
      exact h3.symm
  · rw [List.getElem?_eq_none (by omega), List.getElem?_eq_none (by rw [List.length_append, more_len]; omega)]
/-- effects with the same sources and growth are cut to the same -/
theorem cut_of_source {t t' : Int} {l l' : List Src} (h1 : l.all (srcOk t) = true) (h2 : l'.all (srcOk t') = true) (hs : ∀ k, source t l k = source t' l' k) (hg : (l.length : Int) - t = (l'.length : Int) - t') : cut t l = cut t' l' := by
  rcases Nat.le_total l.length l'.length with h | h
  · obtain ⟨m, hm⟩ := Nat.exists_eq_add_of_le h
    have e := more_of_source hs hm (by omega)
    rw [e, show t' = t + (m : Int) by omega]
    exact (cut_more h1 m).symm
  · obtain ⟨m, hm⟩ := Nat.exists_eq_add_of_le h
    have e := more_of_source (fun k => (hs k).symm) hm (by omega)
    rw [e, show t = t' + (m : Int) by omega]
    exact cut_more h2 m
theorem cut_growth : ∀ (t : Int) (l : List Src), ((cut t l).2.length : Int) - (cut t l).1 = (l.length : Int) - t
  | t, [] => rfl
  | t, s :: r => by
    rw [cut_cons]
    split
    · rw [cut_growth (t - 1) r]
      simp
      omega
    · rfl
/-- what a source is behind another effect -/
def seen (t : Int) (l : List Src) : Src → Src
  | .inp d => source t l d.toNat
  | .lit c => .lit c
/-- two effects, one behind the other, not cut -/
def joinD (t : Int) (l : List Src) (u : Int) : Int := t + max 0 (u - (l.length : Int))
def joinC (t : Int) (l : List Src) (u : Int) : List Src := more t (max 0 (u - (l.length : Int))).toNat ++ l
def join (t : Int) (l : List Src) (u : Int) (r : List Src) : List Src := (joinC t l u).take ((joinC t l u).length - u.toNat) ++ r.map (seen t l)
theorem joinC_len (t : Int) (l : List Src) (u : Int) : ((joinC t l u).length : Int) = max (l.length : Int) u := by
  unfold joinC
  rw [List.length_append, more_len]
  omega
theorem joinC_source (t : Int) (l : List Src) (u : Int) (k : Nat) : source (joinD t l u) (joinC t l u) k = source t l k := by
  have := source_more (t := t) (l := l) k (max 0 (u - (l.length : Int))).toNat
  unfold joinD joinC
  have e : (((max 0 (u - (l.length : Int))).toNat : Nat) : Int) = max 0 (u - (l.length : Int)) := by omega
  rw [e] at this
  exact this
theorem join_len {t : Int} {l : List Src} {u : Int} {r : List Src} (hu : 0 ≤ u) : ((join t l u r).length : Int) = max (l.length : Int) u - u + r.length := by
  have := joinC_len t l u
  unfold join
  rw [List.length_append, List.length_take, List.length_map]
  omega
theorem join_growth {t : Int} {l : List Src} {u : Int} {r : List Src} (hu : 0 ≤ u) : ((join t l u r).length : Int) - joinD t l u = ((l.length : Int) - t) + ((r.length : Int) - u) := by
  rw [join_len hu]
  unfold joinD
  omega
theorem join_source {t : Int} {l : List Src} {u : Int} {r : List Src} (hu : 0 ≤ u) (k : Nat) : source (joinD t l u) (join t l u r) k = seen t l (source u r k) := by
  have hc := joinC_len t l u
  have hj := join_len (t := t) (l := l) (r := r) hu
  by_cases h : k < r.length
  · have h1 := source_some (t := joinD t l u) (l := join t l u r) (k := k) (by omega)
    have h2 := source_some (t := u) (l := r) (k := k) h
    have e : (join t l u r)[(join t l u r).length - 1 - k]? = some (seen t l (source u r k)) := by
      have e0 : (join t l u r).length = ((joinC t l u).length - u.toNat) + r.length := by omega
      unfold join at e0 ⊢
      rw [List.getElem?_append_right (by rw [List.length_take, e0]; omega), List.getElem?_map, List.length_take, e0]
      have e1 : (joinC t l u).length - u.toNat + r.length - 1 - k - min ((joinC t l u).length - u.toNat) (joinC t l u).length = r.length - 1 - k := by omega
      rw [e1, h2]
      rfl
    rw [e] at h1
    exact (Option.some.inj h1).symm
  · rw [source_far (t := u) (l := r) (by omega)]
    show _ = source t l ((k : Int) + u - r.length).toNat
    generalize hd : ((k : Int) + u - r.length).toNat = d
    have hd' : (d : Int) = (k : Int) + u - r.length := by omega
    rw [← joinC_source t l u d]
    by_cases h3 : k < (join t l u r).length
    · have h1 := source_some (t := joinD t l u) (l := join t l u r) (k := k) h3
      have h2 := source_some (t := joinD t l u) (l := joinC t l u) (k := d) (by omega)
      have e : (join t l u r)[(join t l u r).length - 1 - k]? = some (source (joinD t l u) (joinC t l u) d) := by
        have e0 : (join t l u r).length = ((joinC t l u).length - u.toNat) + r.length := by omega
        unfold join at e0 ⊢
        rw [List.getElem?_append_left (by rw [List.length_take, e0]; omega), e0, List.getElem?_take, if_pos (by omega)]
        have e1 : (joinC t l u).length - u.toNat + r.length - 1 - k = (joinC t l u).length - 1 - d := by omega
        rw [e1, h2]
      rw [e] at h1
      exact (Option.some.inj h1).symm
    · rw [source_far (by omega), source_far (by omega)]
      congr 1
      omega
theorem source_ok {t : Int} {l : List Src} (h0 : 0 ≤ t) (hl : l.all (srcOk t) = true) {u : Int} (k : Nat) (hu : (k : Int) < u) : srcOk (joinD t l u) (source t l k) = true := by
  have hD : t ≤ joinD t l u := by unfold joinD; omega
  by_cases h : k < l.length
  · have h1 := source_some (t := t) (l := l) (k := k) h
    exact ok_up (List.all_eq_true.mp hl _ (List.mem_of_getElem? h1)) hD
  · rw [source_far (by omega)]
    exact inp_ok (by unfold joinD; omega)
theorem seen_ok {t : Int} {l : List Src} (h0 : 0 ≤ t) (hl : l.all (srcOk t) = true) {u : Int} {x : Src} (hx : srcOk u x = true) : srcOk (joinD t l u) (seen t l x) = true := by
  cases x with
  | inp d =>
    have := srcOk_inp hx
    exact source_ok h0 hl _ (by omega)
  | lit c => exact lit_ok (srcOk_lit hx)
theorem more_good {t : Int} (h0 : 0 ≤ t) (m : Nat) : (more t m).all (srcOk (t + (m : Int))) = true := List.all_eq_true.mpr fun x hx => by
  unfold more at hx
  obtain ⟨i, hi, rfl⟩ := List.mem_map.mp hx
  have := List.mem_range.mp hi
  exact inp_ok (by omega)
theorem joinC_good {t : Int} {l : List Src} (h0 : 0 ≤ t) (hl : l.all (srcOk t) = true) (u : Int) : (joinC t l u).all (srcOk (joinD t l u)) = true := by
  unfold joinC
  rw [List.all_append, Bool.and_eq_true]
  refine ⟨?_, List.all_eq_true.mpr fun x hx => ok_up (List.all_eq_true.mp hl x hx) (by unfold joinD; omega)⟩
  have := more_good h0 (max 0 (u - (l.length : Int))).toNat
  unfold joinD
  have e : (((max 0 (u - (l.length : Int))).toNat : Nat) : Int) = max 0 (u - (l.length : Int)) := by omega
  rw [e] at this
  exact this
theorem join_good {t : Int} {l : List Src} {u : Int} {r : List Src} (h0 : 0 ≤ t) (hl : l.all (srcOk t) = true) (hr : r.all (srcOk u) = true) : (join t l u r).all (srcOk (joinD t l u)) = true := by
  have h1 := joinC_good h0 hl u
  unfold join
  rw [List.all_append, Bool.and_eq_true]
  refine ⟨List.all_eq_true.mpr fun x hx => List.all_eq_true.mp h1 x (List.mem_of_mem_take hx), List.all_eq_true.mpr fun x hx => ?_⟩
  obtain ⟨y, hy, rfl⟩ := List.mem_map.mp hx
  exact seen_ok h0 hl (List.all_eq_true.mp hr y hy)
/-- cut effects, put together and cut -/
def plus (a b : Int × List Src) : Int × List Src := cut (joinD a.1 a.2 b.1) (join a.1 a.2 b.1 b.2)
structure Eff (a : Int × List Src) : Prop where
  t0 : 0 ≤ a.1
  good : a.2.all (srcOk a.1) = true
  cutd : cut a.1 a.2 = a
theorem cut_good : ∀ {t : Int} {l : List Src}, 0 ≤ t → l.all (srcOk t) = true → 0 ≤ (cut t l).1 ∧ (cut t l).2.all (srcOk (cut t l).1) = true
  | t, [], h0, h => ⟨h0, h⟩
  | t, s :: r, h0, h => by
    rw [cut_cons]
    split
    · next q =>
      have h4' : srcOk t s = true ∧ ∀ x ∈ r, srcOk t x = true := by simpa using h
      have h5 := h4'.1
      rw [q.1] at h5
      have h6 := srcOk_inp h5
      exact cut_good (by omega) (List.all_eq_true.mpr fun x hx => ok_down (h4'.2 x hx) (fun e => q.2 (by rw [q.1, ← e]; exact hx)))
    · exact ⟨h0, h⟩
theorem Eff.of {t : Int} {l : List Src} (h0 : 0 ≤ t) (h : l.all (srcOk t) = true) : Eff (cut t l) := ⟨(cut_good h0 h).1, (cut_good h0 h).2, cut_cut t l⟩
theorem joinD_0 {t u : Int} {l : List Src} (h : 0 ≤ t) : 0 ≤ joinD t l u := by unfold joinD; omega
theorem plus_eff {a b : Int × List Src} (ha : Eff a) (hb : Eff b) : Eff (plus a b) := Eff.of (joinD_0 ha.t0) (join_good ha.t0 ha.good hb.good)
theorem plus_source {a b : Int × List Src} (hb : Eff b) (k : Nat) : source (plus a b).1 (plus a b).2 k = seen a.1 a.2 (source b.1 b.2 k) := by
  unfold plus
  rw [source_cut, join_source hb.t0]
theorem plus_growth {a b : Int × List Src} (hb : Eff b) : ((plus a b).2.length : Int) - (plus a b).1 = ((a.2.length : Int) - a.1) + ((b.2.length : Int) - b.1) := by
  unfold plus
  rw [cut_growth, join_growth hb.t0]
theorem Eff.ext {a b : Int × List Src} (ha : Eff a) (hb : Eff b) (hs : ∀ k, source a.1 a.2 k = source b.1 b.2 k) (hg : (a.2.length : Int) - a.1 = (b.2.length : Int) - b.1) : a = b := by
  rw [← ha.cutd, ← hb.cutd]
  exact cut_of_source ha.good hb.good hs hg
theorem plus_assoc {a b c : Int × List Src} (ha : Eff a) (hb : Eff b) (hc : Eff c) : plus (plus a b) c = plus a (plus b c) := by
  refine Eff.ext (plus_eff (plus_eff ha hb) hc) (plus_eff ha (plus_eff hb hc)) (fun k => ?_) ?_
  · rw [plus_source hc, plus_source (plus_eff hb hc), plus_source hc]
    cases source c.1 c.2 k with
    | inp d => exact plus_source hb d.toNat
    | lit x => rfl
  · rw [plus_growth hc, plus_growth hb, plus_growth (plus_eff hb hc), plus_growth hc]
    omega
theorem still_eff : Eff (0, []) := ⟨by decide, rfl, rfl⟩
theorem source_still (k : Nat) : source 0 [] k = .inp k := by
  rw [source_far (by simp)]
  congr 1
theorem plus_still {a : Int × List Src} (ha : Eff a) : plus a (0, []) = a ∧ plus (0, []) a = a := by
  refine ⟨Eff.ext (plus_eff ha still_eff) ha (fun k => ?_) ?_, Eff.ext (plus_eff still_eff ha) ha (fun k => ?_) ?_⟩
  · rw [plus_source still_eff, source_still]
    rfl
  · rw [plus_growth still_eff]
    simp
  · rw [plus_source ha]
    cases h : source a.1 a.2 k with
    | inp d =>
      show source 0 [] d.toNat = _
      rw [source_still]
      have : 0 ≤ d := by
        have := source_ok ha.t0 ha.good (u := (k : Int) + 1) k (by omega)
        rw [h] at this
        exact (srcOk_inp this).1
      congr 1
      omega
    | lit x => rfl
  · rw [plus_growth ha]
    simp


abbrev still : Int × List Src := (0, [])
def pow (a : Int × List Src) : Nat → Int × List Src
  | 0 => still
  | n + 1 => plus (pow a n) a
theorem pow_eff {a : Int × List Src} (ha : Eff a) : ∀ n, Eff (pow a n)
  | 0 => still_eff
  | n + 1 => plus_eff (pow_eff ha n) ha
theorem pow_one {a : Int × List Src} (ha : Eff a) : pow a 1 = a := (plus_still ha).2
theorem pow_add {a : Int × List Src} (ha : Eff a) (m : Nat) : ∀ n, plus (pow a m) (pow a n) = pow a (m + n)
  | 0 => (plus_still (pow_eff ha m)).1
  | n + 1 => by
    show plus (pow a m) (plus (pow a n) a) = plus (pow a (m + n)) a
    rw [← plus_assoc (pow_eff ha m) (pow_eff ha n) ha, pow_add ha m n]
theorem pow_mul {a : Int × List Src} (ha : Eff a) (m : Nat) : ∀ n, pow (pow a m) n = pow a (m * n)
  | 0 => rfl
  | n + 1 => by
    show plus (pow (pow a m) n) (pow a m) = pow a (m * n + m)
    rw [pow_mul ha m n, pow_add ha]
theorem pow_succ' {a : Int × List Src} (ha : Eff a) (n : Nat) : pow a (n + 1) = plus a (pow a n) := by
  have := pow_add ha 1 n
  rw [pow_one ha] at this
  rw [this, Nat.add_comm]
/-- a loop of squares: total, square, rest -/
theorem pow_half {a : Int × List Src} (ha : Eff a) {s : Nat} (r : Nat) : plus (pow a (s * (r % 2))) (pow a (2 * s * (r / 2))) = pow a (s * r) := by
  rw [pow_add ha]
  congr 1
  have h := Nat.mod_add_div r 2
  calc s * (r % 2) + 2 * s * (r / 2) = s * (r % 2 + 2 * (r / 2)) := by rw [Nat.mul_add, Nat.mul_comm 2 s, Nat.mul_assoc]
    _ = s * r := by rw [h]
theorem pow_growth {a : Int × List Src} (ha : Eff a) : ∀ n : Nat, ((pow a n).2.length : Int) - (pow a n).1 = n * ((a.2.length : Int) - a.1)
  | 0 => by simp [pow]
  | n + 1 => by
    show ((plus (pow a n) a).2.length : Int) - (plus (pow a n) a).1 = _
    rw [plus_growth ha, pow_growth ha n]
    push_cast
    rw [Int.add_mul, Int.one_mul]
/-- a source, one time back: an input is followed, a constant stays -/
def back (a : Int × List Src) : Src → Src := seen a.1 a.2
def backs (a : Int × List Src) : Nat → Src → Src
  | 0, x => x
  | n + 1, x => backs a n (back a x)
/-- inputs from 0 on, or constants -/
def nat : Src → Prop
  | .inp d => 0 ≤ d
  | .lit _ => True
theorem source_nat {a : Int × List Src} (ha : Eff a) (k : Nat) : nat (source a.1 a.2 k) := by
  have := source_ok ha.t0 ha.good (u := (k : Int) + 1) k (by omega)
  cases h : source a.1 a.2 k with
  | inp d => rw [h] at this; exact (srcOk_inp this).1
  | lit c => trivial
theorem back_nat {a : Int × List Src} (ha : Eff a) {x : Src} (hx : nat x) : nat (back a x) := by
  cases x with
  | inp d => exact source_nat ha _
  | lit c => trivial
/-- the source of a cell behind so many times: it is followed back so many times -/
theorem pow_source {a : Int × List Src} (ha : Eff a) : ∀ (n k : Nat), source (pow a n).1 (pow a n).2 k = backs a n (.inp k)
  | 0, k => source_still k
  | n + 1, k => by
    show source (plus (pow a n) a).1 (plus (pow a n) a).2 k = backs a n (source a.1 a.2 (k : Int).toNat)
    rw [plus_source ha]
    have e : (k : Int).toNat = k := by omega
    rw [e]
    have hn := source_nat ha k
    cases h : source a.1 a.2 k with
    | inp d =>
      rw [h] at hn
      obtain ⟨j, rfl⟩ := Int.eq_ofNat_of_zero_le (show 0 ≤ d from hn)
      show source (pow a n).1 (pow a n).2 ((j : Nat) : Int).toNat = _
      have e2 : ((j : Nat) : Int).toNat = j := by omega
      rw [e2]
      exact pow_source ha n j
    | lit c =>
      have : ∀ m, backs a m (.lit c) = .lit c := by
        intro m
        induction m with
        | zero => rfl
        | succ m ih => exact ih
      exact (this n).symm
theorem backs_lit {a : Int × List Src} {c : Int} : ∀ n, backs a n (.lit c) = .lit c
  | 0 => rfl
  | n + 1 => backs_lit n
theorem backs_add {a : Int × List Src} : ∀ (m n : Nat) (x : Src), backs a (m + n) x = backs a n (backs a m x)
  | 0, n, x => by rw [Nat.zero_add]; rfl
  | m + 1, n, x => by
    rw [Nat.add_right_comm]
    exact backs_add m n (back a x)
/-- below what is left, an input moves by the shift -/
theorem back_far {a : Int × List Src} {k : Nat} (h : a.2.length ≤ k) : back a (.inp k) = .inp ((k : Int) + (a.1 - a.2.length)) := by
  show source a.1 a.2 (k : Int).toNat = _
  have e : (k : Int).toNat = k := by omega
  rw [e, source_far h]
  congr 1
  omega
/-- a ring: what comes back after p times comes back after all its multiples -/
theorem backs_ring {a : Int × List Src} {x : Src} {p : Nat} (h : backs a p x = x) : ∀ n, backs a (p * n) x = x
  | 0 => rfl
  | n + 1 => by
    show backs a (p * n + p) x = x
    rw [backs_add, backs_ring h n, h]
theorem backs_mod {a : Int × List Src} {x : Src} {p : Nat} (h : backs a p x = x) (n : Nat) : backs a n x = backs a (n % p) x := by
  have e := Nat.mod_add_div n p
  conv => lhs; rw [← e, Nat.add_comm, backs_add, backs_ring h]
theorem seen_cut {t : Int} {l : List Src} (x : Src) : seen (cut t l).1 (cut t l).2 x = seen t l x := by
  cases x with
  | inp d => exact source_cut d.toNat t l
  | lit c => rfl
/-- moves joined, then cut: the cut ones put together -/
theorem cut_join {t u : Int} {l r : List Src} (t0 : 0 ≤ t) (u0 : 0 ≤ u) (hl : l.all (srcOk t) = true) (hr : r.all (srcOk u) = true) : cut (joinD t l u) (join t l u r) = plus (cut t l) (cut u r) := by
  have hb := Eff.of u0 hr
  refine Eff.ext (Eff.of (joinD_0 t0) (join_good t0 hl hr)) (plus_eff (Eff.of t0 hl) hb) (fun k => ?_) ?_
  · rw [source_cut, join_source u0, plus_source hb, seen_cut, source_cut]
  · rw [cut_growth, join_growth u0, plus_growth hb, cut_growth, cut_growth]
/-- how many a move so many times takes and leaves, not cut: k + 1 times -/
def repT (t : Int) (l : List Src) (k : Nat) : Int := t + k * max 0 (t - (l.length : Int))
def repL (t : Int) (l : List Src) (k : Nat) : Int := (l.length : Int) + k * max 0 ((l.length : Int) - t)
theorem rep_size {t : Int} {l : List Src} {j k : Nat} {a b : Int × List Src} (t0 : 0 ≤ t) (ha : a.1 = repT t l j ∧ (a.2.length : Int) = repL t l j) (hb : b.1 = repT t l k ∧ (b.2.length : Int) = repL t l k) :
    joinD a.1 a.2 b.1 = repT t l (j + k + 1) ∧ ((join a.1 a.2 b.1 b.2).length : Int) = repL t l (j + k + 1) := by
  unfold repT repL at ha hb ⊢
  have hb0 : 0 ≤ b.1 := by
    rw [hb.1]
    have := Int.mul_nonneg (show 0 ≤ (k : Int) by omega) (show 0 ≤ max 0 (t - (l.length : Int)) by omega)
    omega
  rw [join_len hb0]
  unfold joinD
  have e : ((j + k + 1 : Nat) : Int) = (j : Int) + k + 1 := by push_cast; rfl
  rw [e]
  rcases Int.le_total (l.length : Int) t with h | h
  · have m1 : max 0 (t - (l.length : Int)) = t - l.length := by omega
    have m2 : max 0 ((l.length : Int) - t) = 0 := by omega
    rw [m1, m2] at ha hb ⊢
    rw [Int.mul_zero] at ha hb ⊢
    have p1 := Int.mul_nonneg (show 0 ≤ (k : Int) by omega) (show 0 ≤ t - (l.length : Int) by omega)
    rw [Int.add_mul, Int.add_mul, Int.one_mul]
    generalize (k : Int) * (t - (l.length : Int)) = x at *
    generalize (j : Int) * (t - (l.length : Int)) = y at *
    omega
  · have m1 : max 0 (t - (l.length : Int)) = 0 := by omega
    have m2 : max 0 ((l.length : Int) - t) = l.length - t := by omega
    rw [m1, m2] at ha hb ⊢
    rw [Int.mul_zero] at ha hb ⊢
    have p1 := Int.mul_nonneg (show 0 ≤ (k : Int) by omega) (show 0 ≤ (l.length : Int) - t by omega)
    have p2 := Int.mul_nonneg (show 0 ≤ (j : Int) by omega) (show 0 ≤ (l.length : Int) - t by omega)
    rw [Int.add_mul, Int.add_mul, Int.one_mul]
    generalize (k : Int) * ((l.length : Int) - t) = x at *
    generalize (j : Int) * ((l.length : Int) - t) = y at *
    omega


/-- a straight way: as long as the depth is behind what is left -/
theorem backs_straight {a : Int × List Src} {d : Int} : ∀ (n : Nat) (k : Int), (∀ i : Nat, i < n → (a.2.length : Int) ≤ k + i * (a.1 - a.2.length)) → backs a n (.inp k) = .inp (k + n * (a.1 - a.2.length))
  | 0, k, _ => by
    show Src.inp k = _
    congr 1
    simp
  | n + 1, k, h => by
    have h0 := h 0 (by omega)
    simp at h0
    obtain ⟨j, rfl⟩ := Int.eq_ofNat_of_zero_le (show 0 ≤ k by omega)
    show backs a n (back a (.inp (j : Int))) = _
    rw [back_far (by omega), backs_straight (d := d) n _ (fun i hi => ?_)]
    · congr 1
      push_cast
      rw [Int.add_mul, Int.one_mul]
      omega
    · have := h (i + 1) (by omega)
      push_cast at this
      rw [Int.add_mul, Int.one_mul] at this
      omega
/-- upwards without end -/
theorem backs_up {a : Int × List Src} {k : Int} (n : Nat) (hs : 0 ≤ a.1 - a.2.length) (hk : (a.2.length : Int) ≤ k) : backs a n (.inp k) = .inp (k + n * (a.1 - a.2.length)) :=
  backs_straight (d := 0) n k fun i _ => by
    have := Int.mul_nonneg (show 0 ≤ (i : Int) by omega) hs
    omega
/-- downwards until it is within what is left -/
theorem backs_down {a : Int × List Src} {k : Int} {n : Nat} (hs : a.1 - a.2.length < 0) (hk : (a.2.length : Int) ≤ k) (hn : (n : Int) ≤ (k - a.2.length) / (0 - (a.1 - a.2.length)) + 1) : backs a n (.inp k) = .inp (k + n * (a.1 - a.2.length)) :=
  backs_straight (d := 0) n k fun i hi => by
    have h1 : (i : Int) ≤ (k - a.2.length) / (0 - (a.1 - a.2.length)) := by omega
    have h2 := (Int.le_ediv_iff_mul_le (show 0 < 0 - (a.1 - a.2.length) by omega)).mp h1
    have h3 : (i : Int) * (0 - (a.1 - a.2.length)) = - ((i : Int) * (a.1 - a.2.length)) := by rw [Int.zero_sub, Int.mul_neg]
    omega
/-- a row of depths, each the source of the one before; the last one's is d -/
def Way (a : Int × List Src) : List Int → Int → Prop
  | [], _ => True
  | [x], d => back a (.inp x) = .inp d
  | x :: y :: r, d => back a (.inp x) = .inp y ∧ Way a (y :: r) d
theorem way_snoc {a : Int × List Src} {d e : Int} (h2 : back a (.inp d) = .inp e) : ∀ {r : List Int}, Way a r d → Way a (r ++ [d]) e
  | [], _ => h2
  | [x], h => ⟨h, h2⟩
  | x :: y :: r, h => ⟨h.1, way_snoc h2 (r := y :: r) h.2⟩
/-- after i times the way is at its i-th depth; after all of them at d -/
theorem way_at {a : Int × List Src} {d : Int} : ∀ {r : List Int} {x : Int}, Way a (x :: r) d → ∀ i : Nat, i ≤ r.length → backs a i (.inp x) = .inp ((x :: r).getD i d)
  | r, x, _, 0, _ => rfl
  | [], x, h, i + 1, hi => by simp at hi
  | y :: r, x, h, i + 1, hi => by
    show backs a i (back a (.inp x)) = _
    rw [h.1]
    exact way_at h.2 i (by simpa using hi)
theorem way_all {a : Int × List Src} {d : Int} : ∀ {r : List Int} {x : Int}, Way a (x :: r) d → backs a (r.length + 1) (.inp x) = .inp d
  | [], x, h => h
  | y :: r, x, h => by
    show backs a (r.length + 1) (back a (.inp x)) = _
    rw [h.1]
    exact way_all h.2
theorem way_drop {a : Int × List Src} {d : Int} : ∀ {r : List Int} (i : Nat), Way a r d → Way a (r.drop i) d
  | r, 0, h => h
  | [], i + 1, _ => trivial
  | [x], i + 1, _ => by simp [Way]
  | x :: y :: r, i + 1, h => way_drop (r := y :: r) i h.2
/-- a ring: the way comes back to a depth of its own -/
theorem way_ring {a : Int × List Src} {d : Int} {r : List Int} (h : Way a (d :: r) d) (n : Nat) : backs a n (.inp d) = .inp ((d :: r).getD (n % (r.length + 1)) d) := by
  rw [backs_mod (way_all h) n]
  exact way_at h _ (by have := Nat.mod_lt n (show 0 < r.length + 1 by omega); omega)
/-- what the rest of a way from a depth's first place is -/
theorem way_from {a : Int × List Src} {d : Int} {r : List Int} (h : Way a r d) {i : Nat} (hi : r[i]? = some d) (n : Nat) : backs a n (.inp d) = .inp ((r.drop i).getD (n % (r.length - i)) d) := by
  have hl := (List.getElem?_eq_some_iff.mp hi).1
  have e : r.drop i = d :: r.drop (i + 1) := by
    rw [List.drop_eq_getElem_cons hl]
    congr 1
    exact (List.getElem?_eq_some_iff.mp hi).2
  have hw := way_drop i h
  rw [e] at hw ⊢
  have := way_ring hw n
  rw [List.length_drop] at this
  have e2 : r.length - (i + 1) + 1 = r.length - i := by omega
  rw [e2] at this
  exact this

theorem pick2_in {x y k lo hi : Int} (h1 : lo ≤ x ∧ x ≤ hi) (h2 : lo ≤ y ∧ y ≤ hi) : lo ≤ pick2 x y k ∧ pick2 x y k ≤ hi := by
  unfold pick2
  split
  · exact h1
  · exact h2
def Good (t : Int) (l : List Src) : Prop := ∀ x ∈ l, srcOk t x = true
theorem good_snoc {t : Int} {l : List Src} {x : Src} (h : Good t l) (hx : srcOk t x = true) : Good t (l ++ [x]) := fun y hy => by
  rcases List.mem_append.mp hy with q | q
  · exact h y q
  · have : y = x := by simpa using q
    rw [this]
    exact hx
theorem stepLit_good {t way : Int} {f : List Src} {s : Kl} (h : Good t f) (hs : s.ok) : Good t (stepLit way f s).1 := by
  have d1 := drawn_lo s (n := 3) (by decide)
  have d2 := drawn_lo (after s 3) (n := 2 * 10 ^ 30 + 1) (by decide)
  exact good_snoc h (lit_ok (pick2_in (by omega) (by omega)))
theorem stepIn_good {t way k : Int} {f : List Src} {s : Kl} (h : Good t f) (ht : 0 < t) : Good t (stepIn t way k f s).1 := by
  have d1 := drawn_lo s (n := t) ht
  have e1 := Int.emod_nonneg k (show t ≠ 0 by omega)
  have e2 := Int.emod_lt_of_pos k ht
  have := pick2_in (x := k % t) (y := drawn s t) (k := if 2 < way then 1 else 0) (lo := 0) (hi := t - 1) (by omega) (by omega)
  exact good_snoc h (inp_ok (by omega))
theorem step_good {t way k : Int} {p : List Src × Kl} (h : Good t p.1) (hs : p.2.ok) (ht : 0 ≤ t) : Good t (step t way k p).1 := by
  unfold step
  have g := grow1 (n := 4) hs (by omega)
  split
  · exact stepLit_good h hs
  · split
    · exact stepLit_good h g.ok
    · exact stepIn_good h (by omega)
theorem steps_good {t way : Int} {p : List Src × Kl} (h : Good t p.1) (hs : p.2.ok) (ht : 0 ≤ t) : ∀ n : Nat, Good t (steps t way n p).1
  | 0 => h
  | n + 1 => step_good (steps_good h hs ht n) (steps_ok (way := way) hs ht n).2.ok ht
theorem made_ok {s : Kl} {m : Int} (hs : s.ok) (hm : 3 ≤ m ∧ m ≤ 100) : okE (made s m).t (made s m).l ∧ (made s m).s.ok ∧ (made s m).s.c ≤ s.c + 400 := by
  have a_ok := draw3_ok (s := s) (m := m) (z := m) hs hm.1 ⟨by omega, by omega⟩
  have w_ok := grow1 (n := 5) a_ok.2.ok (by omega)
  have b_ok := draw3_ok (s := after (draw3 s m m).2 5) (m := m) (z := (draw3 s m m).1) w_ok.ok hm.1 a_ok.1
  have ac := a_ok.2.c
  have wc := w_ok.c
  have bc := b_ok.2.c
  have f0 : ((if drawn (draw3 s m m).2 5 = 0 then downs (draw3 s m m).1 else []).length : Int) ≤ m ∧ Good (draw3 s m m).1 (if drawn (draw3 s m m).2 5 = 0 then downs (draw3 s m m).1 else []) := by
    split
    · refine ⟨?_, fun x hx => ?_⟩
      · unfold downs
        simp only [List.length_map, List.length_range]
        omega
      · unfold downs at hx
        obtain ⟨i, hi, rfl⟩ := List.mem_map.mp hx
        have := List.mem_range.mp hi
        exact inp_ok (by omega)
    · exact ⟨by simp; omega, fun x hx => by simp at hx⟩
  have st := steps_ok (t := (draw3 s m m).1) (way := drawn (draw3 s m m).2 5) (p := ((if drawn (draw3 s m m).2 5 = 0 then downs (draw3 s m m).1 else []), (draw3 (after (draw3 s m m).2 5) m (draw3 s m m).1).2)) b_ok.2.ok a_ok.1.1 (min (draw3 (after (draw3 s m m).2 5) m (draw3 s m m).1).1 (m - ((if drawn (draw3 s m m).2 5 = 0 then downs (draw3 s m m).1 else []).length : Int))).toNat
  have sg := steps_good (t := (draw3 s m m).1) (way := drawn (draw3 s m m).2 5) (p := ((if drawn (draw3 s m m).2 5 = 0 then downs (draw3 s m m).1 else []), (draw3 (after (draw3 s m m).2 5) m (draw3 s m m).1).2)) f0.2 b_ok.2.ok a_ok.1.1 (min (draw3 (after (draw3 s m m).2 5) m (draw3 s m m).1).1 (m - ((if drawn (draw3 s m m).2 5 = 0 then downs (draw3 s m m).1 else []).length : Int))).toNat
  obtain ⟨st1, st2⟩ := st
  have sc := st2.c
  simp only at st1 sc
  refine ⟨⟨a_ok.1.1, by have := a_ok.1.2; show (draw3 s m m).1 ≤ 100; omega, ?_, ?_⟩, st2.ok, ?_⟩
  · show (if _ then _ else _ : List Src).length ≤ 100
    have hl : ∀ (c : Prop) [Decidable c] (l : List Src), (if c then l.reverse else l).length = l.length := fun c _ l => by split <;> simp
    rw [hl, st1]
    omega
  · show (if _ then _ else _ : List Src).all _ = true
    refine List.all_eq_true.mpr fun x hx => sg x ?_
    split at hx
    · exact List.mem_reverse.mp hx
    · exact hx
  · show (steps _ _ _ _).2.c ≤ _
    omega
end K15

set_option Elab.async false
set_option linter.all false
set_option maxRecDepth 100000
set_option maxHeartbeats 2000000
/-! the first time of a source: the mathematics -/
namespace K15
open PySem PySem.Spec PyProof.Rows L2 Lw
def grow (c : Int × List Src) : Int := (c.2.length : Int) - c.1
/-- an effect as it is held: cut, of no great size -/
def Full (c : Int × List Src) : Prop := okE c.1 c.2 ∧ cut c.1 c.2 = c
theorem Full.eff {c : Int × List Src} (h : Full c) : Eff c := ⟨h.1.1, h.1.2.2.2, h.2⟩
theorem Full.of {t : Int} {l : List Src} (h : okE t l) : Full (cut t l) := ⟨cut_okE h, cut_cut t l⟩
theorem nodup_le : ∀ (n : Nat) (r : List Int), r.Nodup → (∀ x ∈ r, 0 ≤ x ∧ x < (n : Int)) → r.length ≤ n
  | 0, [], _, _ => Nat.le_refl _
  | 0, x :: r, _, h => by
    have := h x List.mem_cons_self
    omega
  | n + 1, r, hn, h => by
    by_cases hm : (n : Int) ∈ r
    · have e := List.length_erase_of_mem hm
      have ih := nodup_le n (r.erase (n : Int)) (hn.erase _) (fun x hx => by
        have h1 := (List.Nodup.mem_erase_iff hn).mp hx
        have h2 := h x h1.2
        have h3 : x ≠ (n : Int) := h1.1
        omega)
      have hl : 0 < r.length := List.length_pos_of_mem hm
      omega
    · have ih := nodup_le n r hn (fun x hx => by
        have h2 := h x hx
        have h3 : x ≠ (n : Int) := fun e => hm (e ▸ hx)
        omega)
      omega
/-- how many times the way from a depth stays below what is left -/
def reach (c : Int × List Src) (k : Nat) : PyData := if k < c.2.length then .int 0 else if 0 < grow c then .int (((k : Int) - c.2.length) / grow c + 1) else .none
theorem up_all {c : Int × List Src} {k : Nat} (hg : grow c ≤ 0) (hk : c.2.length ≤ k) (n : Nat) : backs c n (.inp k) = .inp ((k : Int) - grow c * n) := by
  rw [backs_up n (by unfold grow at *; omega) (by omega)]
  congr 1
  unfold grow
  rw [Int.mul_comm ((c.2.length : Int) - c.1), show c.1 - (c.2.length : Int) = -((c.2.length : Int) - c.1) by omega, Int.mul_neg]
  omega
theorem reach_none {c : Int × List Src} {k : Nat} (hf : reach c k = .none) : grow c ≤ 0 ∧ c.2.length ≤ k := by
  unfold reach at hf
  split at hf
  · cases hf
  · split at hf
    · cases hf
    · omega
theorem reach_some {c : Int × List Src} {k : Nat} (hc : okE c.1 c.2) (hf : reach c k ≠ .none) : ∃ f : Nat, reach c k = .int (f : Int) ∧ (∀ m : Nat, m ≤ f → backs c m (.inp k) = .inp ((k : Int) - grow c * m)) ∧ 0 ≤ (k : Int) - grow c * f ∧ (0 < grow c → (k : Int) - grow c * f < c.2.length) ∧ ((k < c.2.length ∧ f = 0) ∨ (c.2.length ≤ k ∧ (f : Int) ≤ (k : Int) - c.2.length + 1 ∧ 0 < grow c)) := by
  obtain ⟨o1, o2, o3, o4⟩ := hc
  obtain ⟨f, hfe, hf1⟩ : ∃ f : Nat, reach c k = .int (f : Int) ∧ ((f = 0 ∧ k < c.2.length) ∨ (0 < grow c ∧ (c.2.length : Int) ≤ k ∧ (f : Int) = ((k : Int) - c.2.length) / grow c + 1)) := by
    unfold reach at hf ⊢
    split
    · next h => exact ⟨0, rfl, .inl ⟨rfl, h⟩⟩
    · next h =>
      rw [if_neg h] at hf
      split
      · next h2 =>
        have q0 : 0 ≤ ((k : Int) - c.2.length) / grow c := Int.ediv_nonneg (by omega) (by omega)
        exact ⟨(((k : Int) - c.2.length) / grow c + 1).toNat, by congr 1; omega, .inr ⟨h2, by omega, by omega⟩⟩
      · next h2 => rw [if_neg h2] at hf; exact absurd rfl hf
  refine ⟨f, hfe, fun m hm => ?_, ?_⟩
  · rcases hf1 with ⟨h0, _⟩ | ⟨h1, h2, h3⟩
    · have : m = 0 := by omega
      subst this
      show Src.inp _ = _
      simp
    · rw [backs_down (by unfold grow at h1; omega) h2 (by unfold grow at h3; rw [show 0 - (c.1 - (c.2.length : Int)) = (c.2.length : Int) - c.1 by omega]; omega)]
      congr 1
      unfold grow
      rw [Int.mul_comm ((c.2.length : Int) - c.1), show c.1 - (c.2.length : Int) = -((c.2.length : Int) - c.1) by omega, Int.mul_neg]
      omega
  · rcases hf1 with ⟨h0, h1⟩ | ⟨h1, h2, h3⟩
    · subst h0
      refine ⟨by simp, by simp; omega, .inl ⟨h1, rfl⟩⟩
    · have e := Int.emod_add_mul_ediv ((k : Int) - c.2.length) (grow c)
      have m0 := Int.emod_nonneg ((k : Int) - c.2.length) (show grow c ≠ 0 by omega)
      have m1 := Int.emod_lt_of_pos ((k : Int) - c.2.length) h1
      have q1 : ((k : Int) - c.2.length) / grow c ≤ (k : Int) - c.2.length := Int.ediv_le_self _ (by omega)
      have e2 : grow c * (f : Int) = grow c * (((k : Int) - c.2.length) / grow c) + grow c := by rw [h3, Int.mul_add, Int.mul_one]
      rw [e2]
      generalize grow c * (((k : Int) - c.2.length) / grow c) = z at *
      unfold grow at *
      refine ⟨by omega, fun _ => by omega, .inr ⟨by omega, by omega, by omega⟩⟩
/-! ### the least number of times -/
def IsFirst (c : Int × List Src) (y x : Src) (d : PyData) : Prop := (∃ n : Nat, d = .int (n : Int) ∧ backs c n y = x ∧ ∀ m : Nat, m < n → backs c m y ≠ x) ∨ (d = .none ∧ ∀ m : Nat, backs c m y ≠ x)
theorem IsFirst.uniq {c : Int × List Src} {y x : Src} {d e : PyData} (h : IsFirst c y x d) (k : IsFirst c y x e) : d = e := by
  rcases h with ⟨n, rfl, h1, h2⟩ | ⟨rfl, h⟩ <;> rcases k with ⟨m, rfl, k1, k2⟩ | ⟨rfl, k⟩
  · rcases Nat.lt_trichotomy n m with q | q | q
    · exact absurd h1 (k2 n q)
    · rw [q]
    · exact absurd k1 (h2 m q)
  · exact absurd h1 (k n)
  · exact absurd k1 (h m)
  · rfl
def addD (T : Nat) : PyData → PyData
  | .int n => .int ((T : Int) + n)
  | d => d
theorem IsFirst.shift {c : Int × List Src} {y z x : Src} {T : Nat} {d : PyData} (hm : ∀ m : Nat, m < T → backs c m y ≠ x) (hT : backs c T y = z) (h : IsFirst c z x d) : IsFirst c y x (addD T d) := by
  have e : ∀ n : Nat, backs c (T + n) y = backs c n z := fun n => by rw [backs_add, hT]
  rcases h with ⟨n, rfl, h1, h2⟩ | ⟨rfl, h⟩
  · refine .inl ⟨T + n, by show PyData.int _ = _; congr 1, by rw [e]; exact h1, fun m hm2 => ?_⟩
    by_cases q : m < T
    · exact hm m q
    · have : m = T + (m - T) := by omega
      rw [this, e]
      exact h2 _ (by omega)
  · refine .inr ⟨rfl, fun m => ?_⟩
    by_cases q : m < T
    · exact hm m q
    · have : m = T + (m - T) := by omega
      rw [this, e]
      exact h _
/-- how many times lead straight from a depth to another -/
def tbD (d o g : Int) : PyData := if d = o then .int 0 else if g = 0 ∨ (d - o).fmod g ≠ 0 then .none else if 0 < (d - o).fdiv g then .int ((d - o).fdiv g) else .none
theorem tb_cases (d o g : Int) : (∃ n : Nat, tbD d o g = .int (n : Int) ∧ d - g * n = o ∧ ∀ m : Nat, m < n → d - g * m ≠ o) ∨ (tbD d o g = .none ∧ ∀ m : Nat, d - g * m ≠ o) := by
  unfold tbD
  by_cases h0 : d = o
  · rw [if_pos h0]
    exact .inl ⟨0, rfl, by simp [h0], fun m hm => absurd hm (Nat.not_lt_zero m)⟩
  · rw [if_neg h0]
    by_cases h1 : g = 0 ∨ (d - o).fmod g ≠ 0
    · rw [if_pos h1]
      refine .inr ⟨rfl, fun m e => ?_⟩
      rcases h1 with h | h
      · rw [h] at e
        simp at e
        exact h0 e
      · apply h
        have : d - o = g * m := by omega
        rw [this]
        exact Int.mul_fmod_right _ _
    · rw [if_neg h1]
      rw [not_or, Classical.not_not] at h1
      have e := Int.fmod_add_mul_fdiv (d - o) g
      rw [h1.2, Int.zero_add] at e
      have inj : ∀ m : Nat, d - g * m = o → (m : Int) = (d - o).fdiv g := fun m hm => by
        have : g * (m : Int) = g * (d - o).fdiv g := by omega
        exact Int.eq_of_mul_eq_mul_left h1.1 this
      by_cases h2 : 0 < (d - o).fdiv g
      · rw [if_pos h2]
        obtain ⟨n, hn⟩ := Int.eq_ofNat_of_zero_le (show 0 ≤ (d - o).fdiv g by omega)
        refine .inl ⟨n, by rw [hn], by rw [← hn]; omega, fun m hm hq => ?_⟩
        have := inj m hq
        omega
      · rw [if_neg h2]
        refine .inr ⟨rfl, fun m hq => ?_⟩
        have h3 := inj m hq
        have : m = 0 := by omega
        subst this
        simp at hq
        exact h0 hq
def straightD (c : Int × List Src) (k : Nat) : Src → PyData
  | .inp o => tbD (k : Int) o (grow c)
  | .lit _ => .none
theorem first_straight {c : Int × List Src} {k : Nat} (h : ∀ n : Nat, backs c n (.inp k) = .inp ((k : Int) - grow c * n)) (x : Src) : IsFirst c (.inp k) x (straightD c k x) := by
  cases x with
  | inp o =>
    show IsFirst c (.inp k) (.inp o) (tbD (k : Int) o (grow c))
    rcases tb_cases (k : Int) o (grow c) with ⟨n, e, h1, h2⟩ | ⟨e, h1⟩
    · exact .inl ⟨n, e, by rw [h, h1], fun m hm q => h2 m hm (by rw [h] at q; exact Src.inp.inj q)⟩
    · exact .inr ⟨e, fun m q => h1 m (by rw [h] at q; exact Src.inp.inj q)⟩
  | lit z => exact .inr ⟨rfl, fun m q => by rw [h] at q; cases q⟩
theorem first_ring {c : Int × List Src} {r : List Int} {a : Int} {x : Src} (hw : Way c r a) (ha : a ∈ r) (hx : ∀ y ∈ r, Src.inp y ≠ x) : IsFirst c (.inp a) x .none := by
  obtain ⟨i, hi⟩ := List.mem_iff_getElem?.mp ha
  refine .inr ⟨rfl, fun m q => ?_⟩
  rw [way_from hw hi m] at q
  refine hx _ ?_ q
  rw [List.getD_eq_getElem?_getD]
  cases e : (r.drop i)[m % (r.length - i)]? with
  | none => exact ha
  | some z => exact List.mem_of_mem_drop (List.mem_of_getElem? e)
theorem first_lit {c : Int × List Src} {y x : Src} {T : Nat} {z : Int} (hm : ∀ m : Nat, m < T → backs c m y ≠ x) (hT : backs c T y = .lit z) : IsFirst c y x (if x = .lit z then .int (T : Int) else .none) := by
  by_cases e : x = .lit z
  · rw [if_pos e]
    exact .inl ⟨T, rfl, by rw [hT, e], hm⟩
  · rw [if_neg e]
    refine .inr ⟨rfl, fun m q => ?_⟩
    by_cases h : m < T
    · exact hm m h q
    · have : m = T + (m - T) := by omega
      rw [this, backs_add, hT, backs_lit] at q
      exact e q.symm
/-! ### sources, by their kind and their number -/
def Src.tag : Src → Str
  | .inp _ => sIn
  | .lit _ => sLit
def Src.isIn : Src → Bool
  | .inp _ => true
  | .lit _ => false
theorem tag_in (x : Src) : decide (Src.tag x = sIn) = Src.isIn x := by
  cases x with
  | inp k => exact decide_eq_true rfl
  | lit k => exact decide_eq_false (by show ¬ sLit = sIn; decide +kernel)
theorem tag_lit (x : Src) : decide (Src.tag x = sLit) = !Src.isIn x := by
  cases x with
  | inp k => exact decide_eq_false (by show ¬ sIn = sLit; decide +kernel)
  | lit k => exact decide_eq_true rfl
theorem tagD (x : Src) : PyData.tuple [.str (Src.tag x), .int (Src.num x)] = x.d := by cases x <;> rfl
theorem gw_src {K : Fr} {i j : Nat} {x : Src} {ρ : AS} : GtW K (gTup K 2 (gCons (gName i) (gCons (gName j) gNil))) (.d x.d) ρ ((ρ.set i (some (.s (Src.tag x)))).set j (some (.i (Src.num x)))) := by
  rw [← tagD]
  exact gw_tup rfl (gs_cons gw_name (gs_cons gw_name gs_nil))
theorem ew_src {K : Fr} {ρ : AS} {μ : AM} {ta tb : TE} {x : Src} (h1 : EvW K ta ρ μ (.s (Src.tag x)) μ) (h2 : EvW K tb ρ μ (.i (Src.num x)) μ) : EvW K (tTup (tCons ta (tCons tb tNil))) ρ μ (.d x.d) μ := by
  rw [← tagD]
  exact ew_tup (ds := [.str (Src.tag x), .int (Src.num x)]) (ea_cons h1 (ea_cons h2 ea_nil)) (by simp)
theorem o_tag {K : Fr} {x : Src} {μ : AM} : Op2 K (rIxT K) (.d x.d) (.i 0) μ (.s (Src.tag x)) μ := by
  rw [← tagD]
  exact o_ixTz rfl
theorem o_num {K : Fr} {x : Src} {μ : AM} : Op2 K (rIxT K) (.d x.d) (.i 1) μ (.i (Src.num x)) μ := by
  rw [← tagD]
  exact o_ixTz rfl
/-- the depths that were seen -/
def seenD : List Int → List (Key × V)
  | [] => []
  | x :: r => putK (seenD r) (.inl x) (.bl true)
theorem seenD_len : ∀ r : List Int, (seenD r).length ≤ r.length
  | [] => Nat.le_refl _
  | _ :: r => Nat.le_trans (putK_len _ _ _) (Nat.succ_le_succ (seenD_len r))
theorem seenD_at : ∀ (r : List Int) (x : Int), (valV (seenD r) (.inl x)).isSome = decide (x ∈ r)
  | [], x => by simp; rfl
  | y :: r, x => by
    show (valV (putK (seenD r) (.inl y) _) (.inl x)).isSome = _
    rw [valV_put]
    by_cases e : x = y
    · rw [if_pos (by rw [e])]
      simp [e]
    · rw [if_neg (fun q => e (Sum.inl.inj q)), seenD_at r x]
      simp [e]
end K15

set_option Elab.async false
set_option linter.all false
set_option maxRecDepth 100000
set_option maxHeartbeats 2000000
/-! stacks behind effects, free of rows -/
namespace K15
open PySem PySem.Spec PyProof.Rows L2 Lw
def okS (cs : List Int) : Prop := cs.length ≤ 100 ∧ ∀ c ∈ cs, -(10 ^ 30) ≤ c ∧ c ≤ 10 ^ 30
def val (cs : List Int) : Src → Int
  | .inp k => cs.getD (cs.length - 1 - k.toNat) 0
  | .lit c => c
def put (t : Int) (l : List Src) (cs : List Int) : List Int := cs.take (cs.length - t.toNat) ++ l.map (val cs)
def tupI (cs : List Int) : PyData := .tuple (cs.map .int)
theorem tupI_get {cs : List Int} {k : Int} (h : 0 ≤ k ∧ k < cs.length) : (cs.map PyData.int)[((cs.length : Int) - 1 - k).toNat]? = some (.int (val cs (.inp k))) := by
  have e : ((cs.length : Int) - 1 - k).toNat = cs.length - 1 - k.toNat := by omega
  rw [e, List.getElem?_map]
  have h2 : cs.length - 1 - k.toNat < cs.length := by omega
  rw [List.getElem?_eq_getElem h2]
  show some (PyData.int _) = some (PyData.int _)
  congr 2
  show _ = cs.getD (cs.length - 1 - k.toNat) 0
  simp [h2]
theorem seen_get {t u : Int} {l : List Src} {k : Int} (hk : 0 ≤ k ∧ k < u) : (srcsD (joinC t l u))[(((joinC t l u).length : Int) - 1 - k).toNat]? = some (seen t l (.inp k)).d := by
  have hc := joinC_len t l u
  have h1 := source_some (t := joinD t l u) (l := joinC t l u) (k := k.toNat) (by omega)
  rw [joinC_source] at h1
  have e : (((joinC t l u).length : Int) - 1 - k).toNat = (joinC t l u).length - 1 - k.toNat := by omega
  rw [e]
  exact srcsD_get h1
theorem made_ok2 {s : Kl} {m : Int} (hs : s.ok) (hm : 3 ≤ m ∧ m ≤ 100) : (okE (made s m).t (made s m).l ∧ (made s m).t ≤ m ∧ ((made s m).l.length : Int) ≤ m) ∧ (made s m).s.ok ∧ (made s m).s.c ≤ s.c + 400 := by
  have a_ok := draw3_ok (s := s) (m := m) (z := m) hs hm.1 ⟨by omega, by omega⟩
  have w_ok := grow1 (n := 5) a_ok.2.ok (by omega)
  have b_ok := draw3_ok (s := after (draw3 s m m).2 5) (m := m) (z := (draw3 s m m).1) w_ok.ok hm.1 a_ok.1
  have ac := a_ok.2.c
  have wc := w_ok.c
  have bc := b_ok.2.c
  have f0 : ((if drawn (draw3 s m m).2 5 = 0 then downs (draw3 s m m).1 else []).length : Int) ≤ m ∧ Good (draw3 s m m).1 (if drawn (draw3 s m m).2 5 = 0 then downs (draw3 s m m).1 else []) := by
    split
    · refine ⟨?_, fun x hx => ?_⟩
      · unfold downs
        simp only [List.length_map, List.length_range]
        omega
      · unfold downs at hx
        obtain ⟨i, hi, rfl⟩ := List.mem_map.mp hx
        have := List.mem_range.mp hi
        exact inp_ok (by omega)
    · exact ⟨by simp; omega, fun x hx => by simp at hx⟩
  have st := steps_ok (t := (draw3 s m m).1) (way := drawn (draw3 s m m).2 5) (p := ((if drawn (draw3 s m m).2 5 = 0 then downs (draw3 s m m).1 else []), (draw3 (after (draw3 s m m).2 5) m (draw3 s m m).1).2)) b_ok.2.ok a_ok.1.1 (min (draw3 (after (draw3 s m m).2 5) m (draw3 s m m).1).1 (m - ((if drawn (draw3 s m m).2 5 = 0 then downs (draw3 s m m).1 else []).length : Int))).toNat
  have sg := steps_good (t := (draw3 s m m).1) (way := drawn (draw3 s m m).2 5) (p := ((if drawn (draw3 s m m).2 5 = 0 then downs (draw3 s m m).1 else []), (draw3 (after (draw3 s m m).2 5) m (draw3 s m m).1).2)) f0.2 b_ok.2.ok a_ok.1.1 (min (draw3 (after (draw3 s m m).2 5) m (draw3 s m m).1).1 (m - ((if drawn (draw3 s m m).2 5 = 0 then downs (draw3 s m m).1 else []).length : Int))).toNat
  obtain ⟨st1, st2⟩ := st
  have sc := st2.c
  simp only at st1 sc
  have len : ((made s m).l.length : Int) ≤ m := by
    show (((if _ then _ else _ : List Src).length : Nat) : Int) ≤ m
    have hl : ∀ (c : Prop) [Decidable c] (l : List Src), (if c then l.reverse else l).length = l.length := fun c _ l => by split <;> simp
    rw [hl, st1]
    omega
  refine ⟨⟨⟨a_ok.1.1, by have := a_ok.1.2; show (draw3 s m m).1 ≤ 100; omega, by omega, ?_⟩, a_ok.1.2, len⟩, st2.ok, ?_⟩
  · show (if _ then _ else _ : List Src).all _ = true
    refine List.all_eq_true.mpr fun x hx => sg x ?_
    split at hx
    · exact List.mem_reverse.mp hx
    · exact hx
  · show (steps _ _ _ _).2.c ≤ _
    omega

/-! ### stacks behind effects, by the cell at each depth -/
def cellAt (cs : List Int) (k : Nat) : Int := cs.getD (cs.length - 1 - k) 0
theorem val_inp (cs : List Int) (d : Int) : val cs (.inp d) = cellAt cs d.toNat := rfl
theorem ext_cells {a b : List Int} (hl : a.length = b.length) (h : ∀ k, k < a.length → cellAt a k = cellAt b k) : a = b := by
  refine List.ext_getElem hl fun i h1 h2 => ?_
  have := h (a.length - 1 - i) (by omega)
  unfold cellAt at this
  have e1 : a.length - 1 - (a.length - 1 - i) = i := by omega
  have e2 : b.length - 1 - (a.length - 1 - i) = i := by omega
  rw [e1, e2] at this
  simpa [h1, h2] using this
theorem put_len {t : Int} {l : List Src} {cs : List Int} (h0 : 0 ≤ t) (h : t ≤ cs.length) : ((put t l cs).length : Int) = cs.length - t + l.length := by
  unfold put
  rw [List.length_append, List.length_take, List.length_map]
  omega
theorem put_cell {t : Int} {l : List Src} {cs : List Int} (h0 : 0 ≤ t) (h : t ≤ cs.length) {k : Nat} (hk : k < (put t l cs).length) : cellAt (put t l cs) k = val cs (source t l k) := by
  have hl := put_len (l := l) h0 h
  have e0 : (put t l cs).length = (cs.length - t.toNat) + l.length := by omega
  unfold cellAt
  rw [e0] at hk ⊢
  unfold put
  by_cases h1 : k < l.length
  · have h2 := source_some (t := t) (l := l) h1
    rw [List.getD_eq_getElem?_getD, List.getElem?_append_right (by rw [List.length_take]; omega), List.length_take, List.getElem?_map]
    have e1 : cs.length - t.toNat + l.length - 1 - k - min (cs.length - t.toNat) cs.length = l.length - 1 - k := by omega
    rw [e1, h2]
    rfl
  · rw [source_far (by omega), val_inp]
    unfold cellAt
    rw [List.getD_eq_getElem?_getD, List.getElem?_append_left (by rw [List.length_take]; omega), List.getElem?_take, if_pos (by omega), List.getD_eq_getElem?_getD]
    congr 2
    omega
theorem cut_le : ∀ (t : Int) (l : List Src), (cut t l).1 ≤ t
  | t, [] => Int.le_refl _
  | t, s :: r => by
    rw [cut_cons]
    split
    · have := cut_le (t - 1) r
      omega
    · exact Int.le_refl _
theorem put_cut {t : Int} {l : List Src} {cs : List Int} (h0 : 0 ≤ t) (hl : l.all (srcOk t) = true) (h : t ≤ cs.length) : put (cut t l).1 (cut t l).2 cs = put t l cs := by
  have g := cut_good h0 hl
  have gr := cut_growth t l
  have le := cut_le t l
  have l1 := put_len (l := (cut t l).2) g.1 (show (cut t l).1 ≤ cs.length by omega)
  have l2 := put_len (l := l) h0 h
  refine ext_cells (by omega) fun k hk => ?_
  rw [put_cell g.1 (by omega) hk, put_cell h0 h (by omega), source_cut]
theorem put_join {t u : Int} {l r : List Src} {cs : List Int} (h0 : 0 ≤ t) (h1 : t ≤ cs.length) (u0 : 0 ≤ u) (u1 : u ≤ (put t l cs).length) (hl : l.all (srcOk t) = true) (hr : r.all (srcOk u) = true) : put (joinD t l u) (join t l u r) cs = put u r (put t l cs) := by
  have l1 := put_len (l := l) h0 h1
  have j0 : 0 ≤ joinD t l u := joinD_0 h0
  have j1 : joinD t l u ≤ cs.length := by unfold joinD; omega
  have jg := join_growth (t := t) (l := l) (r := r) u0
  have l2 := put_len (l := join t l u r) j0 j1
  have l3 := put_len (l := r) u0 u1
  refine ext_cells (by omega) fun k hk => ?_
  rw [put_cell j0 j1 hk, put_cell u0 u1 (by omega), join_source u0]
  have hb : ∀ d : Int, source u r k = .inp d → 0 ≤ d ∧ d < (put t l cs).length := by
    intro d hd
    by_cases h : k < r.length
    · have h2 := source_some (t := u) (l := r) h
      rw [hd] at h2
      have := srcOk_inp (List.all_eq_true.mp hr _ (List.mem_of_getElem? h2))
      omega
    · rw [source_far (by omega)] at hd
      have := Src.inp.inj hd
      omega
  cases hd : source u r k with
  | inp d =>
    have := hb d hd
    rw [val_inp, put_cell h0 h1 (by omega)]
    rfl
  | lit c => rfl
theorem put_plus {a b : Int × List Src} {cs : List Int} (ha : Eff a) (hb : Eff b) (h1 : a.1 ≤ cs.length) (u1 : b.1 ≤ (put a.1 a.2 cs).length) : put (plus a b).1 (plus a b).2 cs = put b.1 b.2 (put a.1 a.2 cs) := by
  have l1 := put_len (l := a.2) ha.t0 h1
  unfold plus
  rw [put_cut (joinD_0 ha.t0) (join_good ha.t0 ha.good hb.good) (by unfold joinD; omega), put_join ha.t0 h1 hb.t0 u1 ha.good hb.good]
theorem put_still {cs : List Int} : put 0 [] cs = cs := by
  unfold put
  simp
theorem plus_okE {a b : Int × List Src} (ha : Eff a) (hb : Eff b) (h1 : a.1 + max 0 (b.1 - (a.2.length : Int)) ≤ 100) (h2 : max (a.2.length : Int) b.1 - b.1 + b.2.length ≤ 100) : okE (plus a b).1 (plus a b).2 := by
  have e := plus_eff ha hb
  have jl := join_len (t := a.1) (l := a.2) (r := b.2) hb.t0
  have le := cut_le (joinD a.1 a.2 b.1) (join a.1 a.2 b.1 b.2)
  have ll := cut_len (joinD a.1 a.2 b.1) (join a.1 a.2 b.1 b.2)
  refine ⟨e.t0, ?_, ?_, e.good⟩
  · unfold plus
    unfold joinD at le ⊢
    omega
  · unfold plus
    omega
theorem plus_le {a b : Int × List Src} (hb : Eff b) : (plus a b).1 ≤ a.1 + max 0 (b.1 - (a.2.length : Int)) ∧ ((plus a b).2.length : Int) ≤ max (a.2.length : Int) b.1 - b.1 + b.2.length := by
  have jl := join_len (t := a.1) (l := a.2) (r := b.2) hb.t0
  have le := cut_le (joinD a.1 a.2 b.1) (join a.1 a.2 b.1 b.2)
  have ll := cut_len (joinD a.1 a.2 b.1) (join a.1 a.2 b.1 b.2)
  refine ⟨?_, ?_⟩
  · unfold plus
    unfold joinD at le ⊢
    omega
  · unfold plus
    omega
/-! ### shown stacks -/
theorem tupI_lay : ∀ cs : List Int, PyData.canLayAll0 (cs.map .int) = true ∧ PyData.depthAll (cs.map .int) = 0 ∧ PyData.bulkAll (cs.map .int) = cs.length
  | [] => by simp [PyData.canLayAll0, PyData.depthAll, PyData.bulkAll]
  | c :: cs => by
    have := tupI_lay cs
    simp only [List.map_cons, PyData.canLayAll0, PyData.canLay0, PyData.depthAll, PyData.depth, PyData.bulkAll, PyData.bulk, this.1, this.2.1, this.2.2, List.length_cons, Bool.and_self, true_and]
    omega
theorem tupI_shaped (cs : List Int) : SeqAt.shaped (tupI cs) = true := by
  unfold SeqAt.shaped tupI
  have := tupI_lay cs
  simp only [PyData.canLay0, PyData.depth, this.1, this.2.1, Bool.true_and]
  exact decide_eq_true (by omega)
theorem n_reprT {K : Fr} {μ : AM} {cs : List Int} (h : ∀ c ∈ cs, isml c) (hl : cs.length ≤ 2000) : OpN K (rRepr K) [.d (tupI cs)] μ (.s (tupI cs).shown) μ := by
  have h1 : PyData.showableAll (cs.map .int) = true ∧ PyData.leavesShortAll 1921 (cs.map .int) = true := by
    clear hl
    induction cs with
    | nil => simp [PyData.showableAll, PyData.leavesShortAll]
    | cons c cs ih =>
      have i1 := ih (fun x hx => h x (List.mem_cons_of_mem _ hx))
      have i2 := int_show (h c List.mem_cons_self)
      have i3 := int_short (h c List.mem_cons_self)
      simp only [List.map_cons, PyData.showableAll, PyData.leavesShortAll, i1.1, i1.2, i2, i3, Bool.and_self, and_self]
  refine n_repr (.inr rfl) (tupI_shaped cs) h1.1 (fits h1.2 ?_)
  show PyData.bulkAll (cs.map .int) ≤ 8000
  rw [(tupI_lay cs).2.2]
  omega
def mkS (s : Kl) (m : Int) : Nat → Kl
  | 0 => s
  | n + 1 => (made (mkS s m n) m).s
theorem mkS_ok {s : Kl} {m : Int} (hs : s.ok) (hm : 3 ≤ m ∧ m ≤ 100) : ∀ n : Nat, (mkS s m n).ok ∧ (mkS s m n).c ≤ s.c + 400 * n
  | 0 => ⟨hs, by show s.c ≤ _; simp⟩
  | n + 1 => by
    have ih := mkS_ok hs hm n
    have := made_ok2 ih.1 hm
    exact ⟨this.2.1, by have := this.2.2; show (made (mkS s m n) m).s.c ≤ _; push_cast; omega⟩
def stk (n : Nat) : List Int := (List.range n).map fun (i : Nat) => 1000 + (i : Int)
theorem stk_len (n : Nat) : (stk n).length = n := by unfold stk; simp
theorem stk_in {n : Nat} {c : Int} (h : c ∈ stk n) : 1000 ≤ c ∧ c < 1000 + n := by
  unfold stk at h
  obtain ⟨i, hi, rfl⟩ := List.mem_map.mp h
  have := List.mem_range.mp hi
  omega
theorem val_in {cs : List Int} {t : Int} (hc : ∀ c ∈ cs, -(10 ^ 30) ≤ c ∧ c ≤ 10 ^ 30) {x : Src} (hx : srcOk t x = true) : -(10 ^ 30) ≤ val cs x ∧ val cs x ≤ 10 ^ 30 := by
  cases x with
  | inp k =>
    show -(10 ^ 30) ≤ cs.getD _ 0 ∧ cs.getD _ 0 ≤ 10 ^ 30
    rw [List.getD_eq_getElem?_getD]
    cases h : cs[cs.length - 1 - k.toNat]? with
    | none => exact ⟨by decide, by decide⟩
    | some c => exact hc c (List.mem_of_getElem? h)
  | lit c => exact srcOk_lit hx
theorem put_in {cs : List Int} {t u : Int} {l : List Src} (hc : ∀ c ∈ cs, -(10 ^ 30) ≤ c ∧ c ≤ 10 ^ 30) (hl : l.all (srcOk u) = true) : ∀ c ∈ put t l cs, -(10 ^ 30) ≤ c ∧ c ≤ 10 ^ 30 := fun c h => by
  unfold put at h
  rcases List.mem_append.mp h with q | q
  · exact hc c (List.mem_of_mem_take q)
  · obtain ⟨x, hx, rfl⟩ := List.mem_map.mp q
    exact val_in hc (List.all_eq_true.mp hl x hx)
theorem sml_in {cs : List Int} (hc : ∀ c ∈ cs, -(10 ^ 30) ≤ c ∧ c ≤ 10 ^ 30) : ∀ c ∈ cs, isml c := fun c h => isml_of (by have := hc c h; omega)
theorem s_mu {K : Fr} {t : TS} {ρ : AS} {μ μ' : AM} {P : Po} (e : μ' = μ) (h : StW K t ρ μ' P) : StW K t ρ μ P := e ▸ h
theorem n_reprS {K : Fr} {μ : AM} {x : Src} (h : Src.sml x) : OpN K (rRepr K) [.d x.d] μ (.s x.d.shown) μ := by
  have hs := shaped_src x
  have hw := src_show h
  have hf : x.d.shown.length ≤ sizeLine := fits (src_short h) (by have := src_bulk x; omega)
  cases x with
  | inp k => exact n_repr (.inr rfl) hs hw hf
  | lit k => exact n_repr (.inr rfl) hs hw hf
end K15

set_option Elab.async false
set_option linter.all false
set_option maxRecDepth 100000
set_option maxHeartbeats 4000000
namespace K15
open PySem PySem.Spec PyProof.Rows L2 Lw

def topS (i : Nat) : Stmt := PySem.Challenge.pw_stackworks_k16_effects_put_together.main.body.getD i (.Pass ⟨0, 0, 0, 0⟩)
abbrev s_inputs : Stmt := topS 10
theorem sc_inputs : FnScope ["low", "high", "depth"] ["low", "high"] (defScope s_inputs) := ⟨rfl, rfl, rfl, by decide +kernel, rfl, by decide +kernel, by decide +kernel⟩
abbrev s_cut_move : Stmt := topS 11
theorem sc_cut_move : FnScope ["move", "taken", "left", "start", "kind", "number"] ["move"] (defScope s_cut_move) := ⟨rfl, rfl, rfl, by decide +kernel, rfl, by decide +kernel, by decide +kernel⟩
abbrev s_moved_cells : Stmt := topS 12
theorem sc_moved_cells : FnScope ["move", "cells", "taken", "left", "top", "moved", "source"] ["move", "cells"] (defScope s_moved_cells) := ⟨rfl, rfl, rfl, by decide +kernel, rfl, by decide +kernel, by decide +kernel⟩
abbrev s_joined_move : Stmt := topS 13
theorem sc_joined_move : FnScope ["first", "second", "taken", "left", "deepest"] ["first", "second"] (defScope s_joined_move) := ⟨rfl, rfl, rfl, by decide +kernel, rfl, by decide +kernel, by decide +kernel⟩
abbrev s_repeated_move : Stmt := topS 14
theorem sc_repeated_move : FnScope ["move", "times"] ["move", "times"] (defScope s_repeated_move) := ⟨rfl, rfl, rfl, by decide +kernel, rfl, by decide +kernel, by decide +kernel⟩
abbrev s_squared_move : Stmt := topS 15
theorem sc_squared_move : FnScope ["move", "times", "total", "square", "rest"] ["move", "times"] (defScope s_squared_move) := ⟨rfl, rfl, rfl, by decide +kernel, rfl, by decide +kernel, by decide +kernel⟩
abbrev s_ways_of : Stmt := topS 16
theorem sc_ways_of : FnScope ["move", "taken", "left", "ways", "depth", "line", "places", "source", "start", "ring", "place", "member", "tail", "step"] ["move"] (defScope s_ways_of) := ⟨rfl, rfl, rfl, by decide +kernel, rfl, by decide +kernel, by decide +kernel⟩
abbrev s_settled_move : Stmt := topS 17
theorem sc_settled_move : FnScope ["move", "times", "taken", "ways", "left", "source", "_", "ring", "place"] ["move", "times"] (defScope s_settled_move) := ⟨rfl, rfl, rfl, by decide +kernel, rfl, by decide +kernel, by decide +kernel⟩
abbrev s_is_integer : Stmt := topS 20
theorem sc_is_integer : FnScope ["value"] ["value"] (defScope s_is_integer) := ⟨rfl, rfl, rfl, by decide +kernel, rfl, by decide +kernel, by decide +kernel⟩
abbrev s_is_between : Stmt := topS 21
theorem sc_is_between : FnScope ["value", "low", "high"] ["value", "low", "high"] (defScope s_is_between) := ⟨rfl, rfl, rfl, by decide +kernel, rfl, by decide +kernel, by decide +kernel⟩
abbrev s_is_constant : Stmt := topS 22
theorem sc_is_constant : FnScope ["value"] ["value"] (defScope s_is_constant) := ⟨rfl, rfl, rfl, by decide +kernel, rfl, by decide +kernel, by decide +kernel⟩
abbrev s_check_times : Stmt := topS 25
theorem sc_check_times : FnScope ["times"] ["times"] (defScope s_check_times) := ⟨rfl, rfl, rfl, by decide +kernel, rfl, by decide +kernel, by decide +kernel⟩
abbrev s_Effect_init : Stmt := inClass (topS 27) 0
theorem sc_Effect_init : FnScope ["self", "taken", "left"] ["self", "taken", "left"] (defScope s_Effect_init) := ⟨rfl, rfl, rfl, by decide +kernel, rfl, by decide +kernel, by decide +kernel⟩
abbrev s_Effect_taken : Stmt := inClass (topS 27) 1
theorem sc_Effect_taken : FnScope ["self"] ["self"] (defScope s_Effect_taken) := ⟨rfl, rfl, rfl, by decide +kernel, rfl, by decide +kernel, by decide +kernel⟩
abbrev s_Effect_left : Stmt := inClass (topS 27) 2
theorem sc_Effect_left : FnScope ["self"] ["self"] (defScope s_Effect_left) := ⟨rfl, rfl, rfl, by decide +kernel, rfl, by decide +kernel, by decide +kernel⟩
abbrev s_Effect_growth : Stmt := inClass (topS 27) 3
theorem sc_Effect_growth : FnScope ["self"] ["self"] (defScope s_Effect_growth) := ⟨rfl, rfl, rfl, by decide +kernel, rfl, by decide +kernel, by decide +kernel⟩
abbrev s_Effect_call : Stmt := inClass (topS 27) 4
theorem sc_Effect_call : FnScope ["self", "stack"] ["self", "stack"] (defScope s_Effect_call) := ⟨rfl, rfl, rfl, by decide +kernel, rfl, by decide +kernel, by decide +kernel⟩
abbrev s_Effect_source : Stmt := inClass (topS 27) 5
theorem sc_Effect_source : FnScope ["self", "depth"] ["self", "depth"] (defScope s_Effect_source) := ⟨rfl, rfl, rfl, by decide +kernel, rfl, by decide +kernel, by decide +kernel⟩
abbrev s_Effect_len : Stmt := inClass (topS 27) 6
theorem sc_Effect_len : FnScope ["self"] ["self"] (defScope s_Effect_len) := ⟨rfl, rfl, rfl, by decide +kernel, rfl, by decide +kernel, by decide +kernel⟩
abbrev s_Effect_eq : Stmt := inClass (topS 27) 7
theorem sc_Effect_eq : FnScope ["self", "other"] ["self", "other"] (defScope s_Effect_eq) := ⟨rfl, rfl, rfl, by decide +kernel, rfl, by decide +kernel, by decide +kernel⟩
abbrev s_Effect_add : Stmt := inClass (topS 27) 8
theorem sc_Effect_add : FnScope ["self", "other"] ["self", "other"] (defScope s_Effect_add) := ⟨rfl, rfl, rfl, by decide +kernel, rfl, by decide +kernel, by decide +kernel⟩
abbrev s_Effect_mul : Stmt := inClass (topS 27) 9
theorem sc_Effect_mul : FnScope ["self", "other"] ["self", "other"] (defScope s_Effect_mul) := ⟨rfl, rfl, rfl, by decide +kernel, rfl, by decide +kernel, by decide +kernel⟩
abbrev s_are_sources : Stmt := topS 28
theorem sc_are_sources : FnScope ["left", "taken", "source"] ["left", "taken"] (defScope s_are_sources) := ⟨rfl, rfl, rfl, by decide +kernel, rfl, by decide +kernel, by decide +kernel⟩
abbrev s_is_source : Stmt := topS 29
theorem sc_is_source : FnScope ["value"] ["value"] (defScope s_is_source) := ⟨rfl, rfl, rfl, by decide +kernel, rfl, by decide +kernel, by decide +kernel⟩
abbrev s_is_stack : Stmt := topS 30
theorem sc_is_stack : FnScope ["value", "cell"] ["value"] (defScope s_is_stack) := ⟨rfl, rfl, rfl, by decide +kernel, rfl, by decide +kernel, by decide +kernel⟩
abbrev s_check_stack : Stmt := topS 31
theorem sc_check_stack : FnScope ["stack"] ["stack"] (defScope s_check_stack) := ⟨rfl, rfl, rfl, by decide +kernel, rfl, by decide +kernel, by decide +kernel⟩
abbrev s_check_height : Stmt := topS 32
theorem sc_check_height : FnScope ["stack", "least"] ["stack", "least"] (defScope s_check_height) := ⟨rfl, rfl, rfl, by decide +kernel, rfl, by decide +kernel, by decide +kernel⟩
abbrev s_check_effect : Stmt := topS 33
theorem sc_check_effect : FnScope ["effect"] ["effect"] (defScope s_check_effect) := ⟨rfl, rfl, rfl, by decide +kernel, rfl, by decide +kernel, by decide +kernel⟩
abbrev s_check_depth : Stmt := topS 34
theorem sc_check_depth : FnScope ["depth"] ["depth"] (defScope s_check_depth) := ⟨rfl, rfl, rfl, by decide +kernel, rfl, by decide +kernel, by decide +kernel⟩
abbrev s_stack_behind : Stmt := topS 35
theorem sc_stack_behind : FnScope ["move", "stack", "taken", "left", "top", "cells", "kind", "number"] ["move", "stack"] (defScope s_stack_behind) := ⟨rfl, rfl, rfl, by decide +kernel, rfl, by decide +kernel, by decide +kernel⟩
abbrev s_effect_with : Stmt := topS 36
theorem sc_effect_with : FnScope ["move", "cut", "effect"] ["move"] (defScope s_effect_with) := ⟨rfl, rfl, rfl, by decide +kernel, rfl, by decide +kernel, by decide +kernel⟩
abbrev s__law_kiln : Stmt := topS 38
theorem sc__law_kiln : FnScope ["script", "k", "cell"] ["script", "k"] (defScope s__law_kiln) := ⟨rfl, rfl, rfl, by decide +kernel, rfl, by decide +kernel, by decide +kernel⟩
abbrev s__law_scoop : Stmt := topS 39
theorem sc__law_scoop : FnScope ["kiln", "bound", "found", "mixed"] ["kiln", "bound"] (defScope s__law_scoop) := ⟨rfl, rfl, rfl, by decide +kernel, rfl, by decide +kernel, by decide +kernel⟩
abbrev s__law_cut : Stmt := topS 40
theorem sc__law_cut : FnScope ["taken_here", "left_here"] ["taken_here", "left_here"] (defScope s__law_cut) := ⟨rfl, rfl, rfl, by decide +kernel, rfl, by decide +kernel, by decide +kernel⟩
abbrev s__law_made : Stmt := topS 41
theorem sc__law_made : FnScope ["kiln", "most", "taken_here", "found", "way", "many", "turn", "place"] ["kiln", "most"] (defScope s__law_made) := ⟨rfl, rfl, rfl, by decide +kernel, rfl, by decide +kernel, by decide +kernel⟩
abbrev s__law_put : Stmt := topS 42
theorem sc__law_put : FnScope ["taken_here", "left_here", "cells", "whole", "found", "kind", "worth"] ["taken_here", "left_here", "cells"] (defScope s__law_put) := ⟨rfl, rfl, rfl, by decide +kernel, rfl, by decide +kernel, by decide +kernel⟩
abbrev s__law_applied : Stmt := topS 43
theorem sc__law_applied : FnScope ["effect_here", "cells"] ["effect_here", "cells"] (defScope s__law_applied) := ⟨rfl, rfl, rfl, by decide +kernel, rfl, by decide +kernel, by decide +kernel⟩
abbrev s__law_right : Stmt := topS 44
theorem sc__law_right : FnScope ["kiln", "most", "parts", "one", "two", "three", "high", "cells", "due", "both", "whole", "later", "depth_here", "middle", "told", "still", "low", "turn", "part", "place"] ["kiln", "most"] (defScope s__law_right) := ⟨rfl, rfl, rfl, by decide +kernel, rfl, by decide +kernel, by decide +kernel⟩
abbrev s__law_wide_right : Stmt := topS 45
theorem sc__law_wide_right : FnScope ["kiln", "taken_here", "left_here", "later", "rows", "turn", "way", "spot", "one", "two", "cells", "due", "both", "depth_here", "middle", "told", "place"] ["kiln"] (defScope s__law_wide_right) := ⟨rfl, rfl, rfl, by decide +kernel, rfl, by decide +kernel, by decide +kernel⟩
abbrev s_law : Stmt := topS 46
theorem sc_law : FnScope ["script", "k", "kiln", "most", "turn"] ["script"] (defScope s_law) := ⟨rfl, rfl, rfl, by decide +kernel, rfl, by decide +kernel, by decide +kernel⟩
structure Ad where
  f_inputs : Addr
  fd_inputs : FuncData
  f_cut_move : Addr
  fd_cut_move : FuncData
  f_moved_cells : Addr
  fd_moved_cells : FuncData
  f_joined_move : Addr
  fd_joined_move : FuncData
  f_repeated_move : Addr
  fd_repeated_move : FuncData
  f_squared_move : Addr
  fd_squared_move : FuncData
  f_ways_of : Addr
  fd_ways_of : FuncData
  f_settled_move : Addr
  fd_settled_move : FuncData
  f_is_integer : Addr
  fd_is_integer : FuncData
  f_is_between : Addr
  fd_is_between : FuncData
  f_is_constant : Addr
  fd_is_constant : FuncData
  f_check_times : Addr
  fd_check_times : FuncData
  f_Effect_init : Addr
  fd_Effect_init : FuncData
  f_Effect_taken : Addr
  fd_Effect_taken : FuncData
  p_Effect_taken : Addr
  f_Effect_left : Addr
  fd_Effect_left : FuncData
  p_Effect_left : Addr
  f_Effect_growth : Addr
  fd_Effect_growth : FuncData
  p_Effect_growth : Addr
  f_Effect_call : Addr
  fd_Effect_call : FuncData
  f_Effect_source : Addr
  fd_Effect_source : FuncData
  f_Effect_len : Addr
  fd_Effect_len : FuncData
  f_Effect_eq : Addr
  fd_Effect_eq : FuncData
  f_Effect_add : Addr
  fd_Effect_add : FuncData
  f_Effect_mul : Addr
  fd_Effect_mul : FuncData
  f_are_sources : Addr
  fd_are_sources : FuncData
  f_is_source : Addr
  fd_is_source : FuncData
  f_is_stack : Addr
  fd_is_stack : FuncData
  f_check_stack : Addr
  fd_check_stack : FuncData
  f_check_height : Addr
  fd_check_height : FuncData
  f_check_effect : Addr
  fd_check_effect : FuncData
  f_check_depth : Addr
  fd_check_depth : FuncData
  f_stack_behind : Addr
  fd_stack_behind : FuncData
  f_effect_with : Addr
  fd_effect_with : FuncData
  f__law_kiln : Addr
  fd__law_kiln : FuncData
  f__law_scoop : Addr
  fd__law_scoop : FuncData
  f__law_cut : Addr
  fd__law_cut : FuncData
  f__law_made : Addr
  fd__law_made : FuncData
  f__law_put : Addr
  fd__law_put : FuncData
  f__law_applied : Addr
  fd__law_applied : FuncData
  f__law_right : Addr
  fd__law_right : FuncData
  f__law_wide_right : Addr
  fd__law_wide_right : FuncData
  f_law : Addr
  fd_law : FuncData
  C_Effect : Addr
  t_LARGEST : Tok
  t_MOST_CELLS : Tok
  a_NO_MOVE : Addr
structure Txt (K : Fr) (mg : Str → Option Value) (ad : Ad) : Prop where
  F_inputs : Fun K "inputs" "inputs" s_inputs ad.f_inputs ad.fd_inputs
  b_inputs : L2.Binds K ad.fd_inputs ["low", "high"] []
  k_inputs : PySem.W.keepIn K (.ref ad.f_inputs) = true
  mg_inputs : mg "inputs" = some (.ref ad.f_inputs)
  F_cut_move : Fun K "cut_move" "cut_move" s_cut_move ad.f_cut_move ad.fd_cut_move
  b_cut_move : L2.Binds K ad.fd_cut_move ["move"] []
  k_cut_move : PySem.W.keepIn K (.ref ad.f_cut_move) = true
  mg_cut_move : mg "cut_move" = some (.ref ad.f_cut_move)
  F_moved_cells : Fun K "moved_cells" "moved_cells" s_moved_cells ad.f_moved_cells ad.fd_moved_cells
  b_moved_cells : L2.Binds K ad.fd_moved_cells ["move", "cells"] []
  k_moved_cells : PySem.W.keepIn K (.ref ad.f_moved_cells) = true
  mg_moved_cells : mg "moved_cells" = some (.ref ad.f_moved_cells)
  F_joined_move : Fun K "joined_move" "joined_move" s_joined_move ad.f_joined_move ad.fd_joined_move
  b_joined_move : L2.Binds K ad.fd_joined_move ["first", "second"] []
  k_joined_move : PySem.W.keepIn K (.ref ad.f_joined_move) = true
  mg_joined_move : mg "joined_move" = some (.ref ad.f_joined_move)
  F_repeated_move : Fun K "repeated_move" "repeated_move" s_repeated_move ad.f_repeated_move ad.fd_repeated_move
  b_repeated_move : L2.Binds K ad.fd_repeated_move ["move", "times"] []
  k_repeated_move : PySem.W.keepIn K (.ref ad.f_repeated_move) = true
  mg_repeated_move : mg "repeated_move" = some (.ref ad.f_repeated_move)
  F_squared_move : Fun K "squared_move" "squared_move" s_squared_move ad.f_squared_move ad.fd_squared_move
  b_squared_move : L2.Binds K ad.fd_squared_move ["move", "times"] []
  k_squared_move : PySem.W.keepIn K (.ref ad.f_squared_move) = true
  mg_squared_move : mg "squared_move" = some (.ref ad.f_squared_move)
  F_ways_of : Fun K "ways_of" "ways_of" s_ways_of ad.f_ways_of ad.fd_ways_of
  b_ways_of : L2.Binds K ad.fd_ways_of ["move"] []
  k_ways_of : PySem.W.keepIn K (.ref ad.f_ways_of) = true
  mg_ways_of : mg "ways_of" = some (.ref ad.f_ways_of)
  F_settled_move : Fun K "settled_move" "settled_move" s_settled_move ad.f_settled_move ad.fd_settled_move
  b_settled_move : L2.Binds K ad.fd_settled_move ["move", "times"] []
  k_settled_move : PySem.W.keepIn K (.ref ad.f_settled_move) = true
  mg_settled_move : mg "settled_move" = some (.ref ad.f_settled_move)
  F_is_integer : Fun K "is_integer" "is_integer" s_is_integer ad.f_is_integer ad.fd_is_integer
  b_is_integer : L2.Binds K ad.fd_is_integer ["value"] []
  k_is_integer : PySem.W.keepIn K (.ref ad.f_is_integer) = true
  mg_is_integer : mg "is_integer" = some (.ref ad.f_is_integer)
  F_is_between : Fun K "is_between" "is_between" s_is_between ad.f_is_between ad.fd_is_between
  b_is_between : L2.Binds K ad.fd_is_between ["value", "low", "high"] []
  k_is_between : PySem.W.keepIn K (.ref ad.f_is_between) = true
  mg_is_between : mg "is_between" = some (.ref ad.f_is_between)
  F_is_constant : Fun K "is_constant" "is_constant" s_is_constant ad.f_is_constant ad.fd_is_constant
  b_is_constant : L2.Binds K ad.fd_is_constant ["value"] []
  k_is_constant : PySem.W.keepIn K (.ref ad.f_is_constant) = true
  mg_is_constant : mg "is_constant" = some (.ref ad.f_is_constant)
  F_check_times : Fun K "check_times" "check_times" s_check_times ad.f_check_times ad.fd_check_times
  b_check_times : L2.Binds K ad.fd_check_times ["times"] []
  k_check_times : PySem.W.keepIn K (.ref ad.f_check_times) = true
  mg_check_times : mg "check_times" = some (.ref ad.f_check_times)
  F_Effect_init : Fun K "__init__" "Effect.__init__" s_Effect_init ad.f_Effect_init ad.fd_Effect_init
  b_Effect_init : L2.Binds K ad.fd_Effect_init ["self", "taken", "left"] []
  k_Effect_init : PySem.W.keepIn K (.ref ad.f_Effect_init) = true
  h_Effect_init : PySem.W.findIn K (.ref ad.C_Effect) "__init__" = some (some (.ref ad.f_Effect_init))
  i_Effect_init : PySem.W.isFn K (.ref ad.f_Effect_init) = true
  m_Effect_init : L2.Meth K ad.C_Effect "__init__" ad.f_Effect_init
  F_Effect_taken : Fun K "taken" "Effect.taken" s_Effect_taken ad.f_Effect_taken ad.fd_Effect_taken
  b_Effect_taken : L2.Binds K ad.fd_Effect_taken ["self"] []
  k_Effect_taken : PySem.W.keepIn K (.ref ad.f_Effect_taken) = true
  pr_Effect_taken : L2.PropOf K ad.C_Effect "taken" ad.p_Effect_taken ad.f_Effect_taken
  F_Effect_left : Fun K "left" "Effect.left" s_Effect_left ad.f_Effect_left ad.fd_Effect_left
  b_Effect_left : L2.Binds K ad.fd_Effect_left ["self"] []
  k_Effect_left : PySem.W.keepIn K (.ref ad.f_Effect_left) = true
  pr_Effect_left : L2.PropOf K ad.C_Effect "left" ad.p_Effect_left ad.f_Effect_left
  F_Effect_growth : Fun K "growth" "Effect.growth" s_Effect_growth ad.f_Effect_growth ad.fd_Effect_growth
  b_Effect_growth : L2.Binds K ad.fd_Effect_growth ["self"] []
  k_Effect_growth : PySem.W.keepIn K (.ref ad.f_Effect_growth) = true
  pr_Effect_growth : L2.PropOf K ad.C_Effect "growth" ad.p_Effect_growth ad.f_Effect_growth
  F_Effect_call : Fun K "__call__" "Effect.__call__" s_Effect_call ad.f_Effect_call ad.fd_Effect_call
  b_Effect_call : L2.Binds K ad.fd_Effect_call ["self", "stack"] []
  k_Effect_call : PySem.W.keepIn K (.ref ad.f_Effect_call) = true
  h_Effect_call : PySem.W.findIn K (.ref ad.C_Effect) "__call__" = some (some (.ref ad.f_Effect_call))
  i_Effect_call : PySem.W.isFn K (.ref ad.f_Effect_call) = true
  m_Effect_call : L2.Meth K ad.C_Effect "__call__" ad.f_Effect_call
  F_Effect_source : Fun K "source" "Effect.source" s_Effect_source ad.f_Effect_source ad.fd_Effect_source
  b_Effect_source : L2.Binds K ad.fd_Effect_source ["self", "depth"] []
  k_Effect_source : PySem.W.keepIn K (.ref ad.f_Effect_source) = true
  h_Effect_source : PySem.W.findIn K (.ref ad.C_Effect) "source" = some (some (.ref ad.f_Effect_source))
  i_Effect_source : PySem.W.isFn K (.ref ad.f_Effect_source) = true
  m_Effect_source : L2.Meth K ad.C_Effect "source" ad.f_Effect_source
  F_Effect_len : Fun K "__len__" "Effect.__len__" s_Effect_len ad.f_Effect_len ad.fd_Effect_len
  b_Effect_len : L2.Binds K ad.fd_Effect_len ["self"] []
  k_Effect_len : PySem.W.keepIn K (.ref ad.f_Effect_len) = true
  h_Effect_len : PySem.W.findIn K (.ref ad.C_Effect) "__len__" = some (some (.ref ad.f_Effect_len))
  i_Effect_len : PySem.W.isFn K (.ref ad.f_Effect_len) = true
  m_Effect_len : L2.Meth K ad.C_Effect "__len__" ad.f_Effect_len
  F_Effect_eq : Fun K "__eq__" "Effect.__eq__" s_Effect_eq ad.f_Effect_eq ad.fd_Effect_eq
  b_Effect_eq : L2.Binds K ad.fd_Effect_eq ["self", "other"] []
  k_Effect_eq : PySem.W.keepIn K (.ref ad.f_Effect_eq) = true
  h_Effect_eq : PySem.W.findIn K (.ref ad.C_Effect) "__eq__" = some (some (.ref ad.f_Effect_eq))
  i_Effect_eq : PySem.W.isFn K (.ref ad.f_Effect_eq) = true
  m_Effect_eq : L2.Meth K ad.C_Effect "__eq__" ad.f_Effect_eq
  F_Effect_add : Fun K "__add__" "Effect.__add__" s_Effect_add ad.f_Effect_add ad.fd_Effect_add
  b_Effect_add : L2.Binds K ad.fd_Effect_add ["self", "other"] []
  k_Effect_add : PySem.W.keepIn K (.ref ad.f_Effect_add) = true
  h_Effect_add : PySem.W.findIn K (.ref ad.C_Effect) "__add__" = some (some (.ref ad.f_Effect_add))
  i_Effect_add : PySem.W.isFn K (.ref ad.f_Effect_add) = true
  m_Effect_add : L2.Meth K ad.C_Effect "__add__" ad.f_Effect_add
  F_Effect_mul : Fun K "__mul__" "Effect.__mul__" s_Effect_mul ad.f_Effect_mul ad.fd_Effect_mul
  b_Effect_mul : L2.Binds K ad.fd_Effect_mul ["self", "other"] []
  k_Effect_mul : PySem.W.keepIn K (.ref ad.f_Effect_mul) = true
  h_Effect_mul : PySem.W.findIn K (.ref ad.C_Effect) "__mul__" = some (some (.ref ad.f_Effect_mul))
  i_Effect_mul : PySem.W.isFn K (.ref ad.f_Effect_mul) = true
  m_Effect_mul : L2.Meth K ad.C_Effect "__mul__" ad.f_Effect_mul
  F_are_sources : Fun K "are_sources" "are_sources" s_are_sources ad.f_are_sources ad.fd_are_sources
  b_are_sources : L2.Binds K ad.fd_are_sources ["left", "taken"] []
  k_are_sources : PySem.W.keepIn K (.ref ad.f_are_sources) = true
  mg_are_sources : mg "are_sources" = some (.ref ad.f_are_sources)
  F_is_source : Fun K "is_source" "is_source" s_is_source ad.f_is_source ad.fd_is_source
  b_is_source : L2.Binds K ad.fd_is_source ["value"] []
  k_is_source : PySem.W.keepIn K (.ref ad.f_is_source) = true
  mg_is_source : mg "is_source" = some (.ref ad.f_is_source)
  F_is_stack : Fun K "is_stack" "is_stack" s_is_stack ad.f_is_stack ad.fd_is_stack
  b_is_stack : L2.Binds K ad.fd_is_stack ["value"] []
  k_is_stack : PySem.W.keepIn K (.ref ad.f_is_stack) = true
  mg_is_stack : mg "is_stack" = some (.ref ad.f_is_stack)
  F_check_stack : Fun K "check_stack" "check_stack" s_check_stack ad.f_check_stack ad.fd_check_stack
  b_check_stack : L2.Binds K ad.fd_check_stack ["stack"] []
  k_check_stack : PySem.W.keepIn K (.ref ad.f_check_stack) = true
  mg_check_stack : mg "check_stack" = some (.ref ad.f_check_stack)
  F_check_height : Fun K "check_height" "check_height" s_check_height ad.f_check_height ad.fd_check_height
  b_check_height : L2.Binds K ad.fd_check_height ["stack", "least"] []
  k_check_height : PySem.W.keepIn K (.ref ad.f_check_height) = true
  mg_check_height : mg "check_height" = some (.ref ad.f_check_height)
  F_check_effect : Fun K "check_effect" "check_effect" s_check_effect ad.f_check_effect ad.fd_check_effect
  b_check_effect : L2.Binds K ad.fd_check_effect ["effect"] []
  k_check_effect : PySem.W.keepIn K (.ref ad.f_check_effect) = true
  mg_check_effect : mg "check_effect" = some (.ref ad.f_check_effect)
  F_check_depth : Fun K "check_depth" "check_depth" s_check_depth ad.f_check_depth ad.fd_check_depth
  b_check_depth : L2.Binds K ad.fd_check_depth ["depth"] []
  k_check_depth : PySem.W.keepIn K (.ref ad.f_check_depth) = true
  mg_check_depth : mg "check_depth" = some (.ref ad.f_check_depth)
  F_stack_behind : Fun K "stack_behind" "stack_behind" s_stack_behind ad.f_stack_behind ad.fd_stack_behind
  b_stack_behind : L2.Binds K ad.fd_stack_behind ["move", "stack"] []
  k_stack_behind : PySem.W.keepIn K (.ref ad.f_stack_behind) = true
  mg_stack_behind : mg "stack_behind" = some (.ref ad.f_stack_behind)
  F_effect_with : Fun K "effect_with" "effect_with" s_effect_with ad.f_effect_with ad.fd_effect_with
  b_effect_with : L2.Binds K ad.fd_effect_with ["move"] []
  k_effect_with : PySem.W.keepIn K (.ref ad.f_effect_with) = true
  mg_effect_with : mg "effect_with" = some (.ref ad.f_effect_with)
  F__law_kiln : Fun K "_law_kiln" "_law_kiln" s__law_kiln ad.f__law_kiln ad.fd__law_kiln
  b__law_kiln : L2.Binds K ad.fd__law_kiln ["script", "k"] []
  k__law_kiln : PySem.W.keepIn K (.ref ad.f__law_kiln) = true
  mg__law_kiln : mg "_law_kiln" = some (.ref ad.f__law_kiln)
  F__law_scoop : Fun K "_law_scoop" "_law_scoop" s__law_scoop ad.f__law_scoop ad.fd__law_scoop
  b__law_scoop : L2.Binds K ad.fd__law_scoop ["kiln", "bound"] []
  k__law_scoop : PySem.W.keepIn K (.ref ad.f__law_scoop) = true
  mg__law_scoop : mg "_law_scoop" = some (.ref ad.f__law_scoop)
  F__law_cut : Fun K "_law_cut" "_law_cut" s__law_cut ad.f__law_cut ad.fd__law_cut
  b__law_cut : L2.Binds K ad.fd__law_cut ["taken_here", "left_here"] []
  k__law_cut : PySem.W.keepIn K (.ref ad.f__law_cut) = true
  mg__law_cut : mg "_law_cut" = some (.ref ad.f__law_cut)
  F__law_made : Fun K "_law_made" "_law_made" s__law_made ad.f__law_made ad.fd__law_made
  b__law_made : L2.Binds K ad.fd__law_made ["kiln", "most"] []
  k__law_made : PySem.W.keepIn K (.ref ad.f__law_made) = true
  mg__law_made : mg "_law_made" = some (.ref ad.f__law_made)
  F__law_put : Fun K "_law_put" "_law_put" s__law_put ad.f__law_put ad.fd__law_put
  b__law_put : L2.Binds K ad.fd__law_put ["taken_here", "left_here", "cells"] []
  k__law_put : PySem.W.keepIn K (.ref ad.f__law_put) = true
  mg__law_put : mg "_law_put" = some (.ref ad.f__law_put)
  F__law_applied : Fun K "_law_applied" "_law_applied" s__law_applied ad.f__law_applied ad.fd__law_applied
  b__law_applied : L2.Binds K ad.fd__law_applied ["effect_here", "cells"] []
  k__law_applied : PySem.W.keepIn K (.ref ad.f__law_applied) = true
  mg__law_applied : mg "_law_applied" = some (.ref ad.f__law_applied)
  F__law_right : Fun K "_law_right" "_law_right" s__law_right ad.f__law_right ad.fd__law_right
  b__law_right : L2.Binds K ad.fd__law_right ["kiln", "most"] []
  k__law_right : PySem.W.keepIn K (.ref ad.f__law_right) = true
  mg__law_right : mg "_law_right" = some (.ref ad.f__law_right)
  F__law_wide_right : Fun K "_law_wide_right" "_law_wide_right" s__law_wide_right ad.f__law_wide_right ad.fd__law_wide_right
  b__law_wide_right : L2.Binds K ad.fd__law_wide_right ["kiln"] []
  k__law_wide_right : PySem.W.keepIn K (.ref ad.f__law_wide_right) = true
  mg__law_wide_right : mg "_law_wide_right" = some (.ref ad.f__law_wide_right)
  F_law : Fun K "law" "law" s_law ad.f_law ad.fd_law
  b_law : L2.Binds K ad.fd_law ["script"] []
  k_law : PySem.W.keepIn K (.ref ad.f_law) = true
  mg_law : mg "law" = some (.ref ad.f_law)
  cl_Effect : Cls K ad.C_Effect
  mgC_Effect : mg "Effect" = some (.ref ad.C_Effect)
  mk_Effect : L2.Mk K ad.C_Effect ad.f_Effect_init
  is_Effect : PySem.W.kitOne K (.ref ad.C_Effect) (.ref ad.C_Effect) = some true
  ty_Effect : ∀ (H : Hp) (p dx : Addr) (ws : List (Str × V)), H p = some (.ins ad.C_Effect dx ws) → TyX K H (.ref p) (.ref ad.C_Effect)
  na_Effect_cut : NoAttr K ad.C_Effect "cut"
  hne_Effect : PySem.W.findIn K (.ref ad.C_Effect) "__ne__" = some (some (.builtin "object.__ne__"))
  hobj_Effect : PySem.W.subIn K (.ref ad.C_Effect) (.type "object") = some true
  nfC_Effect : PySem.W.notFirst K ad.C_Effect (.ref ad.C_Effect) = true
  nf_Effect : ∀ U ∈ ["NoneType", "tuple", "int", "str", "list"], PySem.W.notFirst K ad.C_Effect (.type U) = true
  isN_Effect : ∀ U ∈ ["NoneType", "tuple", "int", "str", "list"], PySem.W.kitOne K (.type U) (.ref ad.C_Effect) = some false
  sf_Effect : PySem.W.selfFirst K ad.C_Effect = true
  fnI_Effect : PySem.W.fnIn K ad.f_Effect_call = true
  z_isinstance : mg "isinstance" = none
  z_int : mg "int" = none
  z_bool : mg "bool" = none
  z_str : mg "str" = none
  z_tuple : mg "tuple" = none
  z_len : mg "len" = none
  z_all : mg "all" = none
  z_max : mg "max" = none
  z_min : mg "min" = none
  z_range : mg "range" = none
  z_list : mg "list" = none
  z_repr : mg "repr" = none
  z_abs : mg "abs" = none
  z_enumerate : mg "enumerate" = none
  z_reversed : mg "reversed" = none
  z_super : mg "super" = none
  z_ValueError : mg "ValueError" = none
  v_LARGEST : mg "LARGEST" = some (.int 1000000000000000000000000000000 ad.t_LARGEST)
  v_MOST_CELLS : mg "MOST_CELLS" = some (.int 100 ad.t_MOST_CELLS)
  g_NO_MOVE : mg "NO_MOVE" = some (.ref ad.a_NO_MOVE)
  dt_NO_MOVE : ∀ H : Hp, Dt K H (.ref ad.a_NO_MOVE) (.tuple [.int (0), .tuple []])
end K15

set_option Elab.async false
set_option linter.all false
set_option maxRecDepth 100000
set_option maxHeartbeats 2000000
/-! is_integer, is_between, is_constant -/
namespace K15
open PySem PySem.Spec PyProof.Rows L2 Lw
def SIsInt : Spc := fun As μ Post => ∃ i : Int, As = [.i i] ∧ Post (.b true) μ
def SBetw : Spc := fun As μ Post => ∃ i x y : Int, As = [.i i, .i x, .i y] ∧ Post (.b (decide (x ≤ i) && decide (i ≤ y))) μ
def SConst : Spc := fun As μ Post => ∃ i : Int, As = [.i i] ∧ Post (.b (decide (-(10 ^ 30) ≤ i) && decide (i ≤ 10 ^ 30))) μ
section
variable {P : Program} {w : World} {K : Fr} {mg : Str → Option Value} {base : Heap} {ad : Ad}
theorem ok_is_integer (T : Txt K mg ad) : FnOk P w K mg base CX0 1 ad.f_is_integer ad.fd_is_integer ["value"] (spP K SIsInt) := by
  have nd := sc_is_integer.nd
  refine fn_ok T.F_is_integer sc_is_integer (fun As μ Post h => ?_) (fun cdv A outer s H E hr => ?_)
  · obtain ⟨i, rfl, _⟩ := h
    rfl
  · refine ⟨_, (pss_one (ps_ret (pe_and (pe_callB call_isi (by rfl) T.z_isinstance (by decide +kernel) (pa_cons (pv 0) (pa_cons (pe_bltn (v := .ty "int") rfl T.z_int (by decide +kernel) rfl) pa_nil))) (pe_one (pe_not (pe_callB call_isi (by rfl) T.z_isinstance (by decide +kernel) (pa_cons (pv 0) (pa_cons (pe_bltn (v := .ty "bool") rfl T.z_bool (by decide +kernel) rfl) pa_nil)))))))), ?_⟩
    rintro As μ Post ⟨i, rfl, hp⟩
    exact s_ret (ew_and (a := true) (b := true) (ew_cb (ea_cons (ew_var rfl) (ea_cons ew_ty ea_nil)) (n_isi ty_int (kit_ty (by decide +kernel)))) (fun _ => ew_not (a := false) (ew_cb (ea_cons (ew_var rfl) (ea_cons ew_ty ea_nil)) (n_isi ty_int (kit_ty (by decide +kernel)))))) ⟨_, hp, Sub.refl _⟩
theorem ok_is_between (T : Txt K mg ad) : FnOk P w K mg base CX0 2 ad.f_is_between ad.fd_is_between ["value", "low", "high"] (spP K SBetw) := by
  have nd := sc_is_between.nd
  refine fn_ok T.F_is_between sc_is_between (fun As μ Post h => ?_) (fun cdv A outer s H E hr => ?_)
  · obtain ⟨i, a, b, rfl, _⟩ := h
    rfl
  · refine ⟨_, (pss_one (ps_ret (pe_and (pe_call (ok_is_integer T) (hr.mono (by decide)) rfl T.mg_is_integer T.k_is_integer T.b_is_integer .nil pass0 (pa_cons (pv 0) pa_nil)) (pe_one (pe_chain op_le op_le (pv 1) (pv 0) (pv 2)))))), ?_⟩
    rintro As μ Post ⟨i, a, b, rfl, hp⟩
    exact s_ret (ew_is (ew_and (a := true) (ew_fn (ea_cons (ew_var rfl) ea_nil) ⟨i, rfl, rfl, rfl⟩) (fun _ => ew_chain (ew_var rfl) (ew_var rfl) o_B0 (fun _ => ew_var rfl) o_B0 rfl)) rfl) ⟨_, hp, Sub.refl _⟩
theorem ok_is_constant (T : Txt K mg ad) : FnOk P w K mg base CX0 1 ad.f_is_constant ad.fd_is_constant ["value"] (spP K SConst) := by
  have nd := sc_is_constant.nd
  refine fn_ok T.F_is_constant sc_is_constant (fun As μ Post h => ?_) (fun cdv A outer s H E hr => ?_)
  · obtain ⟨i, rfl, _⟩ := h
    rfl
  · refine ⟨_, (pss_one (ps_ret (pe_and (pe_callB call_isi (by rfl) T.z_isinstance (by decide +kernel) (pa_cons (pv 0) (pa_cons (pe_bltn (v := .ty "int") rfl T.z_int (by decide +kernel) rfl) pa_nil))) (pe_and (pe_chain op_le op_le (pe_un un_neg (pe_glob (v := .int _) rfl T.v_LARGEST ⟨_, rfl⟩)) (pv 0) (pe_glob (v := .int _) rfl T.v_LARGEST ⟨_, rfl⟩)) (pe_one (pe_not (pe_callB call_isi (by rfl) T.z_isinstance (by decide +kernel) (pa_cons (pv 0) (pa_cons (pe_bltn (v := .ty "bool") rfl T.z_bool (by decide +kernel) rfl) pa_nil))))))))), ?_⟩
    rintro As μ Post ⟨i, rfl, hp⟩
    refine s_ret (ew_is (ew_and (a := true) (b := (decide (-(10 ^ 30) ≤ i) && decide (i ≤ 10 ^ 30)) && true) (ew_cb (ea_cons (ew_var rfl) (ea_cons ew_ty ea_nil)) (n_isi ty_int (kit_ty (by decide +kernel)))) (fun _ => ew_and (ew_chain (ew_un ew_int o_neg) (ew_var rfl) o_B0 (fun _ => ew_int) o_B0 rfl) (fun _ => ew_not (a := false) (ew_cb (ea_cons (ew_var rfl) (ea_cons ew_ty ea_nil)) (n_isi ty_int (kit_ty (by decide +kernel))))))) ?_) ⟨_, hp, Sub.refl _⟩
    rw [Bool.and_true, Bool.true_and]
end
end K15

set_option Elab.async false
set_option linter.all false
set_option maxRecDepth 100000
set_option maxHeartbeats 2000000
/-! are_sources, cut_move, the class Effect: made, its properties -/
namespace K15
open PySem PySem.Spec PyProof.Rows L2 Lw
/-- a source with a depth from 0 on, or with a constant -/
def srcOk0 : Src → Bool
  | .inp k => decide (0 ≤ k)
  | .lit c => decide (-(10 ^ 30) ≤ c) && decide (c ≤ 10 ^ 30)
def srcIn (t : Int) : Src → Bool
  | .inp k => decide (k < t)
  | .lit _ => true
theorem srcOk_and (t : Int) (s : Src) : srcOk t s = (srcOk0 s && srcIn t s) := by
  cases s with
  | inp k =>
    show (decide (0 ≤ k) && decide (k ≤ t - 1)) = (decide (0 ≤ k) && decide (k < t))
    congr 1
    exact decide_eq_decide.mpr (by omega)
  | lit c => show _ = (_ && true); rw [Bool.and_true]; rfl
def SIsSrc : Spc := fun As μ Post => ∃ s : Src, As = [.d s.d] ∧ Post (.b (srcOk0 s)) μ
def SAreSrcs : Spc := fun As μ Post => ∃ (l : List Src) (t : Int), As = [.d (.tuple (srcsD l)), .i t] ∧ l.length ≤ 1000 ∧ Post (.b (decide (l.length ≤ 100) && l.all (srcOk t))) μ
section
variable {P : Program} {w : World} {K : Fr} {mg : Str → Option Value} {base : Heap} {ad : Ad}
theorem ok_is_source (T : Txt K mg ad) : FnOk P w K mg base CX0 2 ad.f_is_source ad.fd_is_source ["value"] (spP K SIsSrc) := by
  have nd := sc_is_source.nd
  refine fn_ok T.F_is_source sc_is_source (fun As μ Post h => ?_) (fun cdv A outer s H E hr => ?_)
  · obtain ⟨i, rfl, _⟩ := h
    rfl
  · refine ⟨_, (pss_cons (ps_if (PW.pt (pw_or (pt_not (pt_val (pe_callB call_isi (by rfl) T.z_isinstance (by decide +kernel) (pa_cons (pv 0) (pa_cons (pe_bltn (v := .ty "tuple") rfl T.z_tuple (by decide +kernel) rfl) pa_nil))))) (pw_or (pt_cmpR op_ne (pe_callB call_len_seq (by rfl) T.z_len PySem.boot_len (pa_cons (pv 0) pa_nil)) pe_int (nomark _)) (pw_or1 (pt_not (pt_val (pe_callB call_isi (by rfl) T.z_isinstance (by decide +kernel) (pa_cons (pe_ix ix_tup (pv 0) pe_int (fun _ _ => rfl)) (pa_cons (pe_bltn (v := .ty "str") rfl T.z_str (by decide +kernel) rfl) pa_nil)))))))))
 (pss_one (ps_ret pe_bl))
 pss_nil)
 (pss_cons (ps_if (pt_cmpR op_eq (pe_ix ix_tup (pv 0) pe_int (fun _ _ => rfl)) pe_str (nomark _))
 (pss_one (ps_ret (pe_and (pe_call (ok_is_integer T) (hr.mono (by decide)) rfl T.mg_is_integer T.k_is_integer T.b_is_integer .nil pass0 (pa_cons (pe_ix ix_tup (pv 0) pe_int (fun _ _ => rfl)) pa_nil)) (pe_one (pe_cmpR op_ge (pe_ix ix_tup (pv 0) pe_int (fun _ _ => rfl)) pe_int (nomark _))))))
 pss_nil)
 (pss_one (ps_ret (pe_and (pe_cmpR op_eq (pe_ix ix_tup (pv 0) pe_int (fun _ _ => rfl)) pe_str (nomark _)) (pe_one (pe_call (ok_is_constant T) (hr.mono (by decide)) rfl T.mg_is_constant T.k_is_constant T.b_is_constant .nil pass0 (pa_cons (pe_ix ix_tup (pv 0) pe_int (fun _ _ => rfl)) pa_nil)))))))), ?_⟩
    rintro As μ Post ⟨x, rfl, hp⟩
    cases x with
    | inp k =>
      refine s_seq (s_if (b := false) (et_orF (et_is (et_not (b := true) (et_B (ew_cb (ea_cons (ew_var rfl) (ea_cons ew_ty ea_nil)) (n_isi ty_tup (kit_ty (by decide +kernel)))))) rfl) (et_orF (et_is (et_test (ew_op (ew_cb (ea_cons (ew_var rfl) ea_nil) n_len) ew_int o_neI)) rfl) (et_is (et_not (b := true) (et_B (ew_cb (ea_cons (ew_op (ew_var rfl) ew_int (o_ixTz (d := .str sIn) rfl)) (ea_cons ew_ty ea_nil)) (n_isi ty_str (kit_ty (by decide +kernel)))))) rfl))) nofun (fun _ => s_next ?_))
      refine s_seq (s_if (b := true) (et_is (et_test (ew_op (ew_op (ew_var rfl) ew_int (o_ixTz (d := .str sIn) rfl)) ew_str o_eqS)) (decide_eq_true rfl)) (fun _ => ?_) nofun)
      exact s_ret (ew_is (ew_and (a := true) (ew_fn (ea_cons (ew_op (ew_var rfl) ew_int (o_ixTz (d := .int k) rfl)) ea_nil) ⟨k, rfl, rfl, rfl⟩) (fun _ => ew_op (ew_op (ew_var rfl) ew_int (o_ixTz (d := .int k) rfl)) ew_int o_B0)) rfl) ⟨_, hp, Sub.refl _⟩
    | lit k =>
      have ne : ¬ (sLit = sIn) := by decide +kernel
      refine s_seq (s_if (b := false) (et_orF (et_is (et_not (b := true) (et_B (ew_cb (ea_cons (ew_var rfl) (ea_cons ew_ty ea_nil)) (n_isi ty_tup (kit_ty (by decide +kernel)))))) rfl) (et_orF (et_is (et_test (ew_op (ew_cb (ea_cons (ew_var rfl) ea_nil) n_len) ew_int o_neI)) rfl) (et_is (et_not (b := true) (et_B (ew_cb (ea_cons (ew_op (ew_var rfl) ew_int (o_ixTz (d := .str sLit) rfl)) (ea_cons ew_ty ea_nil)) (n_isi ty_str (kit_ty (by decide +kernel)))))) rfl))) nofun (fun _ => s_next ?_))
      refine s_seq (s_if (b := false) (et_is (et_test (ew_op (ew_op (ew_var rfl) ew_int (o_ixTz (d := .str sLit) rfl)) ew_str o_eqS)) (decide_eq_false ne)) nofun (fun _ => s_next ?_))
      exact s_ret (ew_is (ew_and (a := true) (ew_is (ew_op (ew_op (ew_var rfl) ew_int (o_ixTz (d := .str sLit) rfl)) ew_str o_eqS) (congrArg AV.b (decide_eq_true rfl))) (fun _ => ew_fn (ea_cons (ew_op (ew_var rfl) ew_int (o_ixTz (d := .int k) rfl)) ea_nil) ⟨k, rfl, rfl, rfl⟩)) (by rw [Bool.true_and]; rfl)) ⟨_, hp, Sub.refl _⟩
theorem elemS {l : List Src} {i : Nat} {x : AV} (hx : ((srcsD l).map AV.d)[i]? = some x) : ∃ s : Src, l[i]? = some s ∧ x = AV.d s.d := by
  unfold srcsD at hx
  rw [List.getElem?_map, List.getElem?_map] at hx
  cases e : l[i]? with
  | none => rw [e] at hx; cases hx
  | some s => rw [e] at hx; exact ⟨s, rfl, (Option.some.inj hx).symm⟩
theorem ok_are_sources (T : Txt K mg ad) : FnOk P w K mg base CX0 3 ad.f_are_sources ad.fd_are_sources ["left", "taken"] (spP K SAreSrcs) := by
  have nd := sc_are_sources.nd
  refine fn_ok T.F_are_sources sc_are_sources (fun As μ Post h => ?_) (fun cdv A outer s H E hr => ?_)
  · obtain ⟨l, t, rfl, _⟩ := h
    rfl
  · refine ⟨_, (pss_cons (ps_if (PW.pt (pw_or (pt_not (pt_val (pe_callB call_isi (by rfl) T.z_isinstance (by decide +kernel) (pa_cons (pv 0) (pa_cons (pe_bltn (v := .ty "tuple") rfl T.z_tuple (by decide +kernel) rfl) pa_nil))))) (pw_or1 (pt_cmpR op_gt (pe_callB call_len_seq (by rfl) T.z_len PySem.boot_len (pa_cons (pv 0) pa_nil)) (pe_glob (v := .int _) rfl T.v_MOST_CELLS ⟨_, rfl⟩) (nomark _)))))
 (pss_one (ps_ret pe_bl))
 pss_nil)
 (pss_cons (ps_for PassesOwn.never rfl (pi_tup (pv 0)) (pg_name (i := 2) nd rfl (Or.inl rfl))
 (pss_one (ps_if (PW.pt (pw_or (pt_not (pt_val (pe_call (ok_is_source T) (hr.mono (by decide)) rfl T.mg_is_source T.k_is_source T.b_is_source .nil pass0 (pa_cons (pv 2) pa_nil)))) (pw_or1 (PW.pt (pw_and (pt_cmpR op_eq (pe_ix ix_tup (pv 2) pe_int (fun _ _ => rfl)) pe_str (nomark _)) (pw_and1 (pt_cmpR op_ge (pe_ix ix_tup (pv 2) pe_int (fun _ _ => rfl)) (pv 1) (nomark _))))))))
 (pss_one (ps_ret pe_bl))
 pss_nil)))
 (pss_one (ps_ret pe_bl)))), ?_⟩
    rintro As μ Post ⟨l, t, rfl, hl, hp⟩
    refine s_seq (s_if (b := decide (100 < l.length)) (et_orF (et_is (et_not (b := true) (et_B (ew_cb (ea_cons (ew_var rfl) (ea_cons ew_ty ea_nil)) (n_isi ty_tup (kit_ty (by decide +kernel)))))) rfl) (et_is (et_test (ew_op (ew_cb (ea_cons (ew_var rfl) ea_nil) n_len) ew_int o_B0)) ?_)) (fun h => ?_) (fun h => s_next ?_))
    · rw [srcsD_len]
      exact decide_eq_decide.mpr (by omega)
    · have h := of_decide_eq_true h
      refine s_ret ew_bl ⟨_, ?_, Sub.refl _⟩
      rw [decide_eq_false (by omega : ¬ l.length ≤ 100), Bool.false_and] at hp
      exact hp
    · have h := of_decide_eq_false h
      rw [decide_eq_true (by omega : l.length ≤ 100), Bool.true_and] at hp
      -- as long as all are sources
      refine s_seqM (fun ρ' μ' => μ' = μ ∧ l.all (srcOk t) = true)
        (s_for (it_t (tl := tVar 0) (ds := srcsD l) (ew_var rfl)) (fun i ρ' μ' => ∃ v2, ρ' = [some (.d (.tuple (srcsD l))), some (.i t), v2] ∧ μ' = μ ∧ (l.take i).all (srcOk t) = true) ⟨none, rfl, rfl, rfl⟩ ?_ ?_) ?_
      · rintro i x ρ' μ' hx ⟨v2, rfl, rfl, ha⟩
        obtain ⟨s, hs, rfl⟩ := elemS hx
        refine ⟨_, gw_name, s_if (b := !srcOk t s) (μ1 := μ') ?_ (fun h => ?_) (fun h => s_next ?_)⟩
        · have e1 : EvT K _ [some (.d (.tuple (srcsD l))), some (.i t), some (.d s.d)] μ' (!srcOk0 s) μ' := et_not (et_B (ew_fn (E := E0) (S := SIsSrc) (ea_cons (ew_var (i := 2) rfl) ea_nil) ⟨s, rfl, rfl, rfl⟩))
          refine et_is (et_or e1 (b := !srcIn t s) (fun _ => ?_)) (by rw [srcOk_and, Bool.not_and])
          cases s with
          | inp k => exact et_is (et_andT (et_is (et_test (ew_op (ew_op (ew_var rfl) ew_int (o_ixTz (d := .str sIn) rfl)) ew_str o_eqS)) (decide_eq_true rfl)) (et_test (ew_op (ew_op (ew_var rfl) ew_int (o_ixTz (d := .int k) rfl)) (ew_var rfl) (o_B0 (g := fun i j => decide (i ≥ j)))))) (by
              show decide (k ≥ t) = !decide (k < t)
              by_cases q : k < t
              · rw [decide_eq_true q, decide_eq_false (by omega)]; rfl
              · rw [decide_eq_false q, decide_eq_true (by omega)]; rfl)
          | lit k => exact et_andF (et_is (et_test (ew_op (ew_op (ew_var rfl) ew_int (o_ixTz (d := .str sLit) rfl)) ew_str o_eqS)) (decide_eq_false (by decide +kernel)))
        · have h' : srcOk t s = false := by simpa using h
          refine s_ret ew_bl ⟨_, ?_, Sub.refl _⟩
          have : l.all (srcOk t) = false := by
            refine List.all_eq_false.mpr ⟨s, List.mem_of_getElem? hs, by simp [h']⟩
          rw [this] at hp
          exact hp
        · have h' : srcOk t s = true := by simpa using h
          exact ⟨_, rfl, rfl, by rw [List.take_add_one, hs, List.all_append, ha]; simp [h']⟩
      · rintro ρ' μ' ⟨v2, rfl, rfl, ha⟩
        rw [List.length_map, srcsD_len, List.take_length] at ha
        exact ⟨rfl, ha⟩
      · rintro ρ' μ' ⟨rfl, ha⟩
        rw [ha] at hp
        exact s_ret ew_bl ⟨_, hp, Sub.refl _⟩
end
/-! ### cut, by a beginning that is the same and what comes again behind it -/
/-- the first n are inputs that stay -/
def Stays (t : Int) (l : List Src) (n : Nat) : Prop := ∀ j y, j < n → l[j]? = some y → y = .inp (t - 1 - (j : Int))
theorem cut_drop {t : Int} {l : List Src} {n : Nat} (hn : n ≤ l.length) (st : Stays t l n) {rest : List Src} {m : Nat} (hm : m ≤ n) (hr : rest = l.drop n) (hfree : ∀ j : Nat, j < m → Src.inp (t - 1 - (j : Int)) ∉ rest) : cut t l = cut (t - (m : Int)) (l.drop m) := by
  induction m with
  | zero => simp
  | succ m ih =>
    rw [ih (by omega) (fun j hj => hfree j (by omega))]
    have hlt : m < l.length := by omega
    have ex : l[m]? = some l[m] := List.getElem?_eq_getElem hlt
    have e1 := st m _ (by omega) ex
    rw [List.drop_eq_getElem_cons hlt, cut_cons, if_pos ?_]
    · congr 1
      push_cast
      omega
    · refine ⟨by rw [e1]; congr 1; omega, fun hmem => ?_⟩
      obtain ⟨k, hk, ek⟩ := List.mem_iff_getElem.mp hmem
      rw [List.length_drop] at hk
      rw [List.getElem_drop] at ek
      by_cases h : m + 1 + k < n
      · have := st (m + 1 + k) l[m] h (by rw [List.getElem?_eq_getElem (by omega), ek])
        rw [e1] at this
        have := Src.inp.inj this
        omega
      · apply hfree m (by omega)
        rw [hr, ← e1, List.mem_iff_getElem]
        refine ⟨m + 1 + k - n, by rw [List.length_drop]; omega, ?_⟩
        rw [List.getElem_drop]
        have : n + (m + 1 + k - n) = m + 1 + k := by omega
        simp only [this]
        exact ek
/-- it is cut there: nothing stays behind n, or the next comes again -/
theorem cut_at {t : Int} {l : List Src} {n m : Nat} (hn : n ≤ l.length) (st : Stays t l n) (hend : n = l.length ∨ ∃ y, l[n]? = some y ∧ y ≠ .inp (t - 1 - (n : Int))) (hm : m ≤ n) (hfree : ∀ j : Nat, j < m → Src.inp (t - 1 - (j : Int)) ∉ l.drop n) (hstop : m < n → Src.inp (t - 1 - (m : Int)) ∈ l.drop n) :
    cut t l = (t - (m : Int), l.drop m) := by
  rw [cut_drop hn st hm rfl hfree]
  by_cases h : m < l.length
  · rw [List.drop_eq_getElem_cons h, cut_cons, if_neg]
    rintro ⟨q1, q2⟩
    by_cases hmn : m < n
    · apply q2
      have e1 := st m _ hmn (List.getElem?_eq_getElem h)
      rw [e1]
      have := hstop hmn
      obtain ⟨k, hk, ek⟩ := List.mem_iff_getElem.mp this
      rw [List.length_drop] at hk
      rw [List.getElem_drop] at ek
      rw [← ek, List.mem_iff_getElem]
      refine ⟨n + k - (m + 1), by rw [List.length_drop]; omega, ?_⟩
      rw [List.getElem_drop]
      congr 1
      omega
    · have e : m = n := by omega
      subst e
      rcases hend with h0 | ⟨y, hy, hne⟩
      · omega
      · rw [List.getElem?_eq_getElem h] at hy
        apply hne
        rw [← Option.some.inj hy, q1]
        congr 1
        omega
  · have e : m = l.length := by omega
    rw [e, List.drop_length]
    rfl
/-- how far the beginning stays, less where one of it comes again -/
def low (t : Int) : List Src → Int → Int
  | [], s => s
  | .inp k :: r, s => low t r (if t - 1 - k < s then t - 1 - k else s)
  | .lit _ :: r, s => low t r s
theorem low_snoc (t : Int) (x : Src) : ∀ (r : List Src) (s : Int), low t (r ++ [x]) s = low t [x] (low t r s)
  | [], _ => rfl
  | .inp k :: r, s => low_snoc t x r _
  | .lit _ :: r, s => low_snoc t x r s
theorem low_le (t : Int) : ∀ (r : List Src) (s : Int), low t r s ≤ s
  | [], s => Int.le_refl _
  | .inp k :: r, s => by
    have := low_le t r (if t - 1 - k < s then t - 1 - k else s)
    show low t r _ ≤ s
    by_cases q : t - 1 - k < s
    · rw [if_pos q] at this ⊢
      omega
    · rw [if_neg q] at this ⊢
      exact this
  | .lit _ :: r, s => low_le t r s
theorem low_free (t : Int) : ∀ (r : List Src) (s j : Int), j < low t r s → Src.inp (t - 1 - j) ∉ r
  | [], s, j, _ => by simp
  | .inp k :: r, s, j, h => by
    have h' : j < low t r (if t - 1 - k < s then t - 1 - k else s) := h
    have h1 := low_le t r (if t - 1 - k < s then t - 1 - k else s)
    rw [List.mem_cons, not_or]
    refine ⟨fun e => ?_, low_free t r _ j h'⟩
    have := Src.inp.inj e
    by_cases q : t - 1 - k < s
    · rw [if_pos q] at h1 h'
      omega
    · rw [if_neg q] at h1 h'
      omega
  | .lit _ :: r, s, j, h => by
    rw [List.mem_cons, not_or]
    exact ⟨(nomatch ·), low_free t r s j h⟩
theorem low_hit (t : Int) : ∀ (r : List Src) (s : Int), low t r s < s → Src.inp (t - 1 - low t r s) ∈ r
  | [], s, h => absurd h (Int.lt_irrefl _)
  | .inp k :: r, s, h => by
    have h' : low t r (if t - 1 - k < s then t - 1 - k else s) < s := h
    show Src.inp (t - 1 - low t r (if t - 1 - k < s then t - 1 - k else s)) ∈ _
    by_cases q : low t r (if t - 1 - k < s then t - 1 - k else s) < (if t - 1 - k < s then t - 1 - k else s)
    · exact List.mem_cons_of_mem _ (low_hit t r _ q)
    · have e : low t r (if t - 1 - k < s then t - 1 - k else s) = (if t - 1 - k < s then t - 1 - k else s) := by
        have := low_le t r (if t - 1 - k < s then t - 1 - k else s)
        omega
      rw [e] at h' ⊢
      by_cases h2 : t - 1 - k < s
      · rw [if_pos h2]
        have : t - 1 - (t - 1 - k) = k := by omega
        rw [this]
        exact List.mem_cons_self
      · rw [if_neg h2] at h'
        omega
  | .lit _ :: r, s, h => List.mem_cons_of_mem _ (low_hit t r s h)
theorem low_nonneg {t : Int} : ∀ {r : List Src} {s : Int}, 0 ≤ s → r.all (srcIn t) = true → 0 ≤ low t r s
  | [], _, h, _ => h
  | .inp k :: r, s, h, hr => by
    have h2 : srcIn t (.inp k) = true ∧ r.all (srcIn t) = true := by simpa using hr
    have h3 : k < t := of_decide_eq_true h2.1
    refine low_nonneg (r := r) ?_ h2.2
    split <;> omega
  | .lit c :: r, s, h, hr => low_nonneg (r := r) h (by
    have h2 : srcIn t (.lit c) = true ∧ r.all (srcIn t) = true := by simpa using hr
    exact h2.2)
def SCutMove : Spc := fun As μ Post => ∃ c : Int × List Src, As = [.d (dueD c)] ∧ c.2.length ≤ 1000 ∧ c.2.all (srcIn c.1) = true ∧ Post (.d (dueD (cut c.1 c.2))) μ
section
variable {P : Program} {w : World} {K : Fr} {mg : Str → Option Value} {base : Heap} {ad : Ad}
theorem ok_cut_move (T : Txt K mg ad) : FnOk P w K mg base CX0 1 ad.f_cut_move ad.fd_cut_move ["move"] (spP K SCutMove) := by
  have nd := sc_cut_move.nd
  refine fn_ok T.F_cut_move sc_cut_move (fun As μ Post h => ?_) (fun cdv A outer s H E hr => ?_)
  · obtain ⟨c, rfl, _⟩ := h
    rfl
  · have hu := hr.un
    have hu64 : A.units + 3 + 64 < cLine := by
      have : A.units + 3 + 200 < cLine := by simpa using hu
      omega
    refine ⟨_, (pss_cons (ps_asg (pv 0) (pg_tup rfl (pgs_cons (pg_name (i := 1) nd rfl (Or.inl rfl)) (pgs_cons (pg_name (i := 2) nd rfl (Or.inl rfl)) pgs_nil))))
 (pss_cons (ps_set (i := 3) nd rfl (Or.inl rfl) pe_int)
 (pss_cons (ps_while PassesOwn.never (PW.pt (pw_and (pt_cmpR op_lt (pv 3) (pe_callB call_len_seq (by rfl) T.z_len PySem.boot_len (pa_cons (pv 2) pa_nil)) (nomark _)) (pw_and1 (pt_cmpR (op_eqD hu64) (pe_ix ix_tup (pv 2) (pv 3) (fun _ _ => rfl)) (pe_tup (pa_cons pe_str (pa_cons (pe_op op_sub (pe_op op_sub (pv 1) pe_int) (pv 3)) pa_nil))) (nomark _)))))
 (pss_one (ps_set (i := 3) nd rfl (Or.inl rfl) (pe_op op_add (pv 3) pe_int))))
 (pss_cons (ps_for PassesOwn.never rfl (pi_tup (pe_slice sl_tupA (pv 2) (po_some (pv 3)) po_none)) (pg_tup rfl (pgs_cons (pg_name (i := 4) nd rfl (Or.inl rfl)) (pgs_cons (pg_name (i := 5) nd rfl (Or.inl rfl)) pgs_nil)))
 (pss_one (ps_if (PW.pt (pw_and (pt_cmpR op_eq (pv 4) pe_str (nomark _)) (pw_and1 (pt_cmpR op_lt (pe_op op_sub (pe_op op_sub (pv 1) pe_int) (pv 5)) (pv 3) (nomark _)))))
 (pss_one (ps_set (i := 3) nd rfl (Or.inl rfl) (pe_op op_sub (pe_op op_sub (pv 1) pe_int) (pv 5))))
 pss_nil)))
 (pss_one (ps_ret (pe_tup (pa_cons (pe_op op_sub (pv 1) (pv 3)) (pa_cons (pe_slice sl_tupA (pv 2) (po_some (pv 3)) po_none) pa_nil))))))))), ?_⟩
    rintro As μ Post ⟨⟨t, l⟩, rfl, hl, hin, hp⟩
    refine s_seq (s_asgG (ew_var rfl) (gw_tup rfl (gs_cons gw_name (gs_cons gw_name gs_nil))) ?_)
    refine s_seq (s_asg ew_int ?_)
    have hlen : ∀ {ρ : AS} {μ : AM}, ρ[2]? = some (some (.d (.tuple (srcsD l)))) → EvW K (tCB (fun xs H Q => ∃ p ys, xs = [.ref p] ∧ (SqL K H p ys ∨ SqT K H p ys) ∧ Q (.int ys.length) H) (tCons (tVar 2) tNil)) ρ μ (.i (l.length : Int)) μ := fun h => ew_isI (ew_cb (ea_cons (ew_var h) ea_nil) n_len) (by rw [srcsD_len])
    -- the beginning that stays
    refine s_seqM (fun ρ' μ' => ∃ n : Nat, ρ' = [some (.d (dueD (t, l))), some (.i t), some (.d (.tuple (srcsD l))), some (.i (n : Int)), none, none] ∧ μ' = μ ∧ n ≤ l.length ∧ Stays t l n ∧ (n = l.length ∨ ∃ y, l[n]? = some y ∧ y ≠ .inp (t - 1 - (n : Int))))
      (s_while (fun m ρ' μ' => ∃ n : Nat, m = l.length - n ∧ ρ' = [some (.d (dueD (t, l))), some (.i t), some (.d (.tuple (srcsD l))), some (.i (n : Int)), none, none] ∧ μ' = μ ∧ n ≤ l.length ∧ Stays t l n) l.length ⟨0, rfl, rfl, rfl, Nat.zero_le _, fun j y h => absurd h (Nat.not_lt_zero j)⟩ ?_) ?_
    · rintro m ρ' μ' ⟨n, rfl, rfl, rfl, hn, st⟩
      have t1 : EvT K _ [some (.d (dueD (t, l))), some (.i t), some (.d (.tuple (srcsD l))), some (.i (n : Int)), none, none] μ' (decide (n < l.length)) μ' := et_is (et_test (ew_op (ew_var (i := 3) rfl) (hlen rfl) (o_B0 (g := fun i j => decide (i < j))))) (decide_eq_decide.mpr (by omega))
      by_cases hlt : n < l.length
      · have hx : l[n]? = some l[n] := List.getElem?_eq_getElem hlt
        generalize l[n] = x at hx
        refine ⟨decide (x = .inp (t - 1 - (n : Int))), μ', et_andT (et_is t1 (decide_eq_true hlt)) (et_is (et_test (ew_op (ew_op (ew_var rfl) (ew_var rfl) (o_ixT (srcsD_get hx))) (ew_tup (ds := [.str sIn, .int (t - 1 - (n : Int))]) (ea_cons ew_str (ea_cons (ew_op (ew_op (ew_var rfl) ew_int o_I0) (ew_var rfl) o_I0) ea_nil)) (by simp)) (o_eqD (e := (Src.inp (t - 1 - (n : Int))).d) (shaped_src _) (shaped_src _)))) (by rw [eqv_src])), fun h => ?_, fun h => ?_⟩
        · have h := of_decide_eq_true h
          refine s_asg (ew_isI (ew_op (ew_var rfl) ew_int o_I0) (j := ((n + 1 : Nat) : Int)) (by push_cast; rfl)) ⟨l.length - (n + 1), by omega, n + 1, rfl, rfl, rfl, hlt, fun j y hj hy => ?_⟩
          by_cases e : j = n
          · subst e
            rw [hx] at hy
            cases hy
            exact h
          · exact st j y (by omega) hy
        · have h := of_decide_eq_false h
          exact ⟨n, rfl, rfl, hn, st, .inr ⟨x, hx, h⟩⟩
      · exact ⟨false, μ', et_andF (et_is t1 (decide_eq_false hlt)), nofun, fun _ => ⟨n, rfl, rfl, hn, st, .inl (by omega)⟩⟩
    rintro ρ' μ' ⟨n, rfl, rfl, hn, st, hend⟩
    -- what comes again
    have hin2 : (l.drop n).all (srcIn t) = true := List.all_eq_true.mpr fun x hx => List.all_eq_true.mp hin x (List.mem_of_mem_drop hx)
    have hsl := ew_slT (K := K) (te := tVar 2) (ρ := [some (.d (dueD (t, l))), some (.i t), some (.d (.tuple (srcsD l))), some (.i (n : Int)), none, none]) (μ := μ') (ds := srcsD l) (lo := some (n : Int)) (hi := none) (ew_var rfl) (eo_some (te := tVar 3) (ew_var rfl)) eo_none
    have hc1 : ∀ k : Nat, k ≤ l.length → cutD (srcsD l) (some (k : Int)) none = srcsD (l.drop k) := fun k hk => by
      rw [cut_from _ (by rw [srcsD_len]; exact hk)]
      unfold srcsD
      rw [List.map_drop]
    rw [hc1 n hn] at hsl
    refine s_seqM (fun ρ' μ'' => ∃ v4 v5, ρ' = [some (.d (dueD (t, l))), some (.i t), some (.d (.tuple (srcsD l))), some (.i (low t (l.drop n) (n : Int))), v4, v5] ∧ μ'' = μ')
      (s_for (it_t hsl) (fun i ρ' μ'' => ∃ v4 v5, ρ' = [some (.d (dueD (t, l))), some (.i t), some (.d (.tuple (srcsD l))), some (.i (low t ((l.drop n).take i) (n : Int))), v4, v5] ∧ μ'' = μ') ⟨none, none, rfl, rfl⟩ ?_ ?_) ?_
    · rintro i x ρ' μ'' hx ⟨v4, v5, rfl, rfl⟩
      obtain ⟨s, hs, rfl⟩ := elemS hx
      have e1 : low t ((l.drop n).take (i + 1)) (n : Int) = low t [s] (low t ((l.drop n).take i) (n : Int)) := by
        rw [List.take_add_one, hs]
        exact low_snoc t s _ _
      cases s with
      | inp k =>
        refine ⟨_, gw_tup (ds := [.str sIn, .int k]) rfl (gs_cons gw_name (gs_cons gw_name gs_nil)), ?_⟩
        refine s_if (b := decide (t - 1 - k < low t ((l.drop n).take i) (n : Int))) (et_andT (et_is (et_test (ew_op (ew_var rfl) ew_str o_eqS)) (decide_eq_true rfl)) (et_test (ew_op (ew_op (ew_op (ew_var rfl) ew_int o_I0) (ew_var rfl) o_I0) (ew_var rfl) (o_B0 (g := fun i j => decide (i < j)))))) (fun h => ?_) (fun h => s_next ?_)
        · have h := of_decide_eq_true h
          have e2 : low t [Src.inp k] (low t ((l.drop n).take i) (n : Int)) = t - 1 - k := if_pos h
          refine s_asg (ew_op (ew_op (ew_var rfl) ew_int o_I0) (ew_var rfl) o_I0) ⟨some (.s sIn), some (.i k), ?_, rfl⟩
          rw [e1, e2]
          rfl
        · have h := of_decide_eq_false h
          have e2 : low t [Src.inp k] (low t ((l.drop n).take i) (n : Int)) = low t ((l.drop n).take i) (n : Int) := if_neg h
          refine ⟨some (.s sIn), some (.i k), ?_, rfl⟩
          rw [e1, e2]
          rfl
      | lit k =>
        refine ⟨_, gw_tup (ds := [.str sLit, .int k]) rfl (gs_cons gw_name (gs_cons gw_name gs_nil)), ?_⟩
        refine s_if (b := false) (et_andF (et_is (et_test (ew_op (ew_var rfl) ew_str o_eqS)) (decide_eq_false (by decide +kernel)))) nofun (fun _ => s_next ⟨some (.s sLit), some (.i k), ?_, rfl⟩)
        rw [e1]
        rfl
    · rintro ρ' μ'' ⟨v4, v5, rfl, rfl⟩
      refine ⟨v4, v5, ?_, rfl⟩
      rw [List.length_map, srcsD_len, List.take_length]
    rintro ρ' μ'' ⟨v4, v5, rfl, rfl⟩
    have lo0 : 0 ≤ low t (l.drop n) (n : Int) := low_nonneg (by omega) hin2
    have loN := low_le t (l.drop n) (n : Int)
    obtain ⟨m, hm⟩ := Int.eq_ofNat_of_zero_le lo0
    have hcut : cut t l = (t - (m : Int), l.drop m) := cut_at hn st hend (by omega) (fun j hj => low_free t (l.drop n) (n : Int) (j : Int) (by omega)) (fun hmn => by
      rw [← hm]
      exact low_hit t (l.drop n) (n : Int) (by omega))
    show StW K _ _ _ _
    rw [hm]
    have hsl2 := ew_slT (K := K) (te := tVar 2) (ρ := [some (.d (dueD (t, l))), some (.i t), some (.d (.tuple (srcsD l))), some (.i (m : Int)), v4, v5]) (μ := μ'') (ds := srcsD l) (lo := some (m : Int)) (hi := none) (ew_var rfl) (eo_some (te := tVar 3) (ew_var rfl)) eo_none
    rw [hc1 m (by omega)] at hsl2
    have hp' : Post (.d (dueD (t - (m : Int), l.drop m))) μ'' := by rw [← hcut]; exact hp
    exact s_ret (ew_tup (ds := [.int (t - (m : Int)), .tuple (srcsD (l.drop m))]) (ea_cons (ew_op (ew_var rfl) (ew_var rfl) o_I0) (ea_cons hsl2 ea_nil)) (by simp)) ⟨_, hp', Sub.refl _⟩
end
/-! ### the class -/
def effF (c : Int × List Src) : List (Str × AV) := [("cut", .d (dueD c))]
theorem lk_cut {c : Int × List Src} : (effF c).lookup ("cut" : Str) = some (.d (dueD c)) := rfl
theorem lk_no {c : Int × List Src} {f : Str} (h : (f == "cut") = false) : (effF c).lookup f = none := by
  unfold effF
  simp only [List.lookup, h]
/-- an effect, as an abstract value -/
abbrev effA (C : Addr) (c : Int × List Src) : AV := .ob C (effF c)
def SInit (C : Addr) : Spc := fun As μ Post => ∃ (p dx : Addr) (c : Int × List Src), As = [.r p, .i c.1, .d (.tuple (srcsD c.2))] ∧ μ p = some (.ins C dx []) ∧ okE c.1 c.2 ∧ Post (.d .none) (updM μ p (.ins C dx (effF (cut c.1 c.2))))
def SProp (C : Addr) (f : Int × List Src → PyData) : Spc := fun As μ Post => ∃ c : Int × List Src, As = [effA C c] ∧ Post (.d (f c)) μ
abbrev STaken (C : Addr) := SProp C fun c => .int c.1
abbrev SLeft (C : Addr) := SProp C fun c => .tuple (srcsD c.2)
abbrev SGrowth (C : Addr) := SProp C fun c => .int ((c.2.length : Int) - c.1)
section
variable {P : Program} {w : World} {K : Fr} {mg : Str → Option Value} {base : Heap} {ad : Ad}
theorem ok_Effect_init (T : Txt K mg ad) : FnOk P w K mg base CX0 4 ad.f_Effect_init ad.fd_Effect_init ["self", "taken", "left"] (spP K (SInit ad.C_Effect)) := by
  have nd := sc_Effect_init.nd
  refine fn_ok T.F_Effect_init sc_Effect_init (fun As μ Post h => ?_) (fun cdv A outer s H E hr => ?_)
  · obtain ⟨p, dx, c, rfl, _⟩ := h
    rfl
  · refine ⟨_, (pss_cons (ps_if (PW.pt (pw_or (pt_not (pt_val (pe_call (ok_is_between T) (hr.mono (by decide)) rfl T.mg_is_between T.k_is_between T.b_is_between .nil pass0 (pa_cons (pv 1) (pa_cons pe_int (pa_cons (pe_glob (v := .int _) rfl T.v_MOST_CELLS ⟨_, rfl⟩) pa_nil)))))) (pw_or1 (pt_not (pt_val (pe_call (ok_are_sources T) (hr.mono (by decide)) rfl T.mg_are_sources T.k_are_sources T.b_are_sources .nil pass0 (pa_cons (pv 2) (pa_cons (pv 1) pa_nil))))))))
 (pss_one ps_never)
 pss_nil)
 (pss_one (ps_fld (pv 0) (pe_call (ok_cut_move T) (hr.mono (by decide)) rfl T.mg_cut_move T.k_cut_move T.b_cut_move .nil pass0 (pa_cons (pe_tup (pa_cons (pv 1) (pa_cons (pv 2) pa_nil))) pa_nil)) rfl))), ?_⟩
    rintro As μ Post ⟨p, dx, ⟨t, l⟩, rfl, hp0, ⟨h1, h2, h3, h4⟩, hp⟩
    have hin : l.all (srcIn t) = true := List.all_eq_true.mpr fun x hx => by
      have := List.all_eq_true.mp h4 x hx
      rw [srcOk_and, Bool.and_eq_true] at this
      exact this.2
    simp only at h1 h2 h3 h4
    refine s_seq (s_if (b := false) (et_orF (et_is (et_not (et_B (ew_fn (ea_cons (ew_var rfl) (ea_cons ew_int (ea_cons ew_int ea_nil))) ⟨t, 0, 100, rfl, rfl, rfl⟩))) (by simp [h1, h2])) (et_is (et_not (et_B (ew_fn (ea_cons (ew_var rfl) (ea_cons (ew_var rfl) ea_nil)) ⟨l, t, rfl, by omega, rfl, rfl⟩))) (by simp [h3, h4]))) nofun (fun _ => s_next ?_))
    refine s_fld (C := ad.C_Effect) (dx := dx) (fs := []) (R := .d (dueD (cut t l))) (ew_fn (S := SCutMove) (ea_cons (ew_tup (ds := [.int t, .tuple (srcsD l)]) (ea_cons (ew_var rfl) (ea_cons (ew_var rfl) ea_nil)) (by simp)) ea_nil) ⟨(t, l), rfl, by show l.length ≤ 1000; omega, hin, rfl, rfl⟩) (ew_var rfl) hp0 T.cl_Effect T.na_Effect_cut (by decide) ⟨_, hp, Sub.refl _⟩
theorem ok_Effect_taken (T : Txt K mg ad) : FnOk P w K mg base CX0 1 ad.f_Effect_taken ad.fd_Effect_taken ["self"] (spP K (STaken ad.C_Effect)) := by
  have nd := sc_Effect_taken.nd
  refine fn_ok T.F_Effect_taken sc_Effect_taken (fun As μ Post h => ?_) (fun cdv A outer s H E hr => ?_)
  · obtain ⟨c, rfl, _⟩ := h
    rfl
  · refine ⟨_, (pss_one (ps_ret (pe_ix ix_tup (pe_fld (pv 0) rfl) pe_int (fun _ _ => rfl)))), ?_⟩
    rintro As μ Post ⟨c, rfl, hp⟩
    exact s_ret (ew_op (ew_fld (ew_var rfl) T.cl_Effect T.na_Effect_cut lk_cut) ew_int (o_ixTz (d := .int c.1) rfl)) ⟨_, hp, Sub.refl _⟩
theorem ok_Effect_left (T : Txt K mg ad) : FnOk P w K mg base CX0 1 ad.f_Effect_left ad.fd_Effect_left ["self"] (spP K (SLeft ad.C_Effect)) := by
  have nd := sc_Effect_left.nd
  refine fn_ok T.F_Effect_left sc_Effect_left (fun As μ Post h => ?_) (fun cdv A outer s H E hr => ?_)
  · obtain ⟨c, rfl, _⟩ := h
    rfl
  · refine ⟨_, (pss_one (ps_ret (pe_ix ix_tup (pe_fld (pv 0) rfl) pe_int (fun _ _ => rfl)))), ?_⟩
    rintro As μ Post ⟨c, rfl, hp⟩
    exact s_ret (ew_op (ew_fld (ew_var rfl) T.cl_Effect T.na_Effect_cut lk_cut) ew_int (o_ixTz (d := .tuple (srcsD c.2)) rfl)) ⟨_, hp, Sub.refl _⟩
theorem ok_Effect_growth (T : Txt K mg ad) : FnOk P w K mg base CX0 1 ad.f_Effect_growth ad.fd_Effect_growth ["self"] (spP K (SGrowth ad.C_Effect)) := by
  have nd := sc_Effect_growth.nd
  refine fn_ok T.F_Effect_growth sc_Effect_growth (fun As μ Post h => ?_) (fun cdv A outer s H E hr => ?_)
  · obtain ⟨c, rfl, _⟩ := h
    rfl
  · refine ⟨_, (pss_one (ps_ret (pe_op op_sub (pe_callB call_len_seq (by rfl) T.z_len PySem.boot_len (pa_cons (pe_ix ix_tup (pe_fld (pv 0) rfl) pe_int (fun _ _ => rfl)) pa_nil)) (pe_ix ix_tup (pe_fld (pv 0) rfl) pe_int (fun _ _ => rfl))))), ?_⟩
    rintro As μ Post ⟨c, rfl, hp⟩
    exact s_ret (ew_op (ew_isI (ew_cb (ea_cons (ew_op (ew_fld (ew_var rfl) T.cl_Effect T.na_Effect_cut lk_cut) ew_int (o_ixTz (d := .tuple (srcsD c.2)) rfl)) ea_nil) n_len) (by rw [srcsD_len])) (ew_op (ew_fld (ew_var rfl) T.cl_Effect T.na_Effect_cut lk_cut) ew_int (o_ixTz (d := .int c.1) rfl)) o_I0) ⟨_, hp, Sub.refl _⟩
/-- C(taken, left) -/
theorem ew_eff {C : Addr} {ρ : AS} {μ μ1 : AM} {E : XK} {ta : TA} {c : Int × List Src} (h : EvA K ta ρ μ [.i c.1, .d (.tuple (srcsD c.2))] μ1) (ok : okE c.1 c.2) : EvW K (tMake C (spP K (SInit C)) [] E ta) ρ μ (effA C (cut c.1 c.2)) μ1 :=
  ew_make h fun p dx hp => ⟨p, dx, c, rfl, updM_same, ok, rfl, updM_updM⟩
theorem ew_taken {C : Addr} {ρ : AS} {μ μ1 : AM} {E : XK} {te : TE} {c : Int × List Src} (h : EvW K te ρ μ (effA C c) μ1) : EvW K (tProp C (spP K (STaken C)) [] E te) ρ μ (.i c.1) μ1 := ew_prop h ⟨c, rfl, rfl, rfl⟩
theorem ew_left {C : Addr} {ρ : AS} {μ μ1 : AM} {E : XK} {te : TE} {c : Int × List Src} (h : EvW K te ρ μ (effA C c) μ1) : EvW K (tProp C (spP K (SLeft C)) [] E te) ρ μ (.d (.tuple (srcsD c.2))) μ1 := ew_prop h ⟨c, rfl, rfl, rfl⟩
theorem ew_growth {C : Addr} {ρ : AS} {μ μ1 : AM} {E : XK} {te : TE} {c : Int × List Src} (h : EvW K te ρ μ (effA C c) μ1) : EvW K (tProp C (spP K (SGrowth C)) [] E te) ρ μ (.i ((c.2.length : Int) - c.1)) μ1 := ew_prop h ⟨c, rfl, rfl, rfl⟩
end
end K15

set_option Elab.async false
set_option linter.all false
set_option maxRecDepth 100000
set_option maxHeartbeats 2000000
/-! check_effect, check_times, check_depth, of what is right -/
namespace K15
open PySem PySem.Spec PyProof.Rows L2 Lw
def SChkE (C : Addr) : Spc := fun As μ Post => ∃ c : Int × List Src, As = [effA C c] ∧ Post (.d .none) μ
def SChkI (lo hi : Int) : Spc := fun As μ Post => ∃ i : Int, As = [.i i] ∧ lo ≤ i ∧ i ≤ hi ∧ Post (.d .none) μ
def SChkD : Spc := fun As μ Post => ∃ i : Int, As = [.i i] ∧ 0 ≤ i ∧ Post (.d .none) μ
section
variable {P : Program} {w : World} {K : Fr} {mg : Str → Option Value} {base : Heap} {ad : Ad}
theorem tyE (T : Txt K mg ad) (c : Int × List Src) : TyA K (effA ad.C_Effect c) (.ref ad.C_Effect) := fun B H v e h => by
  obtain ⟨p, dx, ws, rfl, h2, h3⟩ := h
  exact T.ty_Effect H p dx ws (e _ _ h2)
theorem ok_check_effect (T : Txt K mg ad) : FnOk P w K mg base CX0 1 ad.f_check_effect ad.fd_check_effect ["effect"] (spP K (SChkE ad.C_Effect)) := by
  have nd := sc_check_effect.nd
  refine fn_ok T.F_check_effect sc_check_effect (fun As μ Post h => ?_) (fun cdv A outer s H E hr => ?_)
  · obtain ⟨c, rfl, _⟩ := h
    rfl
  · refine ⟨_, (pss_one (ps_if (pt_not (pt_val (pe_callB call_isi (by rfl) T.z_isinstance (by decide +kernel) (pa_cons (pv 0) (pa_cons (pe_glob (v := .ref ad.C_Effect) rfl T.mgC_Effect rfl) pa_nil)))))
 (pss_one ps_never)
 pss_nil)), ?_⟩
    rintro As μ Post ⟨c, rfl, hp⟩
    exact s_if (b := false) (et_is (et_not (b := true) (et_B (ew_cb (ea_cons (ew_var rfl) (ea_cons ew_cls ea_nil)) (n_isiC (tyE T c) T.is_Effect)))) rfl) nofun (fun _ => s_next ⟨_, hp, Sub.refl _⟩)
theorem ok_check_times (T : Txt K mg ad) : FnOk P w K mg base CX0 3 ad.f_check_times ad.fd_check_times ["times"] (spP K (SChkI 0 (10 ^ 30))) := by
  have nd := sc_check_times.nd
  refine fn_ok T.F_check_times sc_check_times (fun As μ Post h => ?_) (fun cdv A outer s H E hr => ?_)
  · obtain ⟨c, rfl, _⟩ := h
    rfl
  · refine ⟨_, (pss_one (ps_if (pt_not (pt_val (pe_call (ok_is_between T) (hr.mono (by decide)) rfl T.mg_is_between T.k_is_between T.b_is_between .nil pass0 (pa_cons (pv 0) (pa_cons pe_int (pa_cons (pe_glob (v := .int _) rfl T.v_LARGEST ⟨_, rfl⟩) pa_nil))))))
 (pss_one ps_never)
 pss_nil)), ?_⟩
    rintro As μ Post ⟨i, rfl, h1, h2, hp⟩
    exact s_if (b := false) (et_is (et_not (b := true) (et_is (et_B (ew_fn (S := SBetw) (ea_cons (ew_var rfl) (ea_cons ew_int (ea_cons ew_int ea_nil))) ⟨i, 0, 10 ^ 30, rfl, rfl, rfl⟩)) (by rw [decide_eq_true h1, decide_eq_true h2]; rfl))) rfl) nofun (fun _ => s_next ⟨_, hp, Sub.refl _⟩)
theorem ok_check_depth (T : Txt K mg ad) : FnOk P w K mg base CX0 2 ad.f_check_depth ad.fd_check_depth ["depth"] (spP K SChkD) := by
  have nd := sc_check_depth.nd
  refine fn_ok T.F_check_depth sc_check_depth (fun As μ Post h => ?_) (fun cdv A outer s H E hr => ?_)
  · obtain ⟨c, rfl, _⟩ := h
    rfl
  · refine ⟨_, (pss_one (ps_if (PW.pt (pw_or (pt_not (pt_val (pe_call (ok_is_integer T) (hr.mono (by decide)) rfl T.mg_is_integer T.k_is_integer T.b_is_integer .nil pass0 (pa_cons (pv 0) pa_nil)))) (pw_or1 (pt_cmpR op_lt (pv 0) pe_int (nomark _)))))
 (pss_one ps_never)
 pss_nil)), ?_⟩
    rintro As μ Post ⟨i, rfl, h1, hp⟩
    exact s_if (b := false) (et_orF (et_is (et_not (b := true) (et_B (ew_fn (S := SIsInt) (ea_cons (ew_var rfl) ea_nil) ⟨i, rfl, rfl, rfl⟩))) rfl) (et_is (et_test (ew_op (ew_var rfl) ew_int o_B0)) (decide_eq_false (by omega)))) nofun (fun _ => s_next ⟨_, hp, Sub.refl _⟩)
end
end K15

set_option Elab.async false
set_option linter.all false
set_option maxRecDepth 100000
set_option maxHeartbeats 2000000
/-! inputs, moved_cells, joined_move, effect_with; stacks; Effect: call, + -/
namespace K15
open PySem PySem.Spec PyProof.Rows L2 Lw
def SIsStack : Spc := fun As μ Post => ∃ cs : List Int, As = [.d (tupI cs)] ∧ okS cs ∧ Post (.b true) μ
def SChkStack : Spc := fun As μ Post => ∃ cs : List Int, As = [.d (tupI cs)] ∧ okS cs ∧ Post (.d .none) μ
def SChkHigh : Spc := fun As μ Post => ∃ (cs : List Int) (n : Int), As = [.d (tupI cs), .i n] ∧ n ≤ cs.length ∧ Post (.d .none) μ
def SInputs : Spc := fun As μ Post => ∃ (a : Int) (m : Nat), As = [.i a, .i (a + (m : Int))] ∧ 0 ≤ a ∧ a ≤ 10000 ∧ m ≤ 10000 ∧ Post (.d (.tuple (srcsD (more a m)))) μ
/-- the source of a source, of cells that are sources -/
def srcAt (cs : List Src) : Src → Src
  | .inp k => cs.getD (cs.length - 1 - k.toNat) (.lit 0)
  | .lit c => .lit c
def moved (u : Int) (r : List Src) (cs : List Src) : List Src := cs.take (cs.length - u.toNat) ++ r.map (srcAt cs)
def SMoved : Spc := fun As μ Post => ∃ (c : Int × List Src) (cs : List Src), As = [.d (dueD c), .d (.tuple (srcsD cs))] ∧ 0 ≤ c.1 ∧ c.1 ≤ cs.length ∧ c.2.length ≤ 2000 ∧ cs.length ≤ 5000 ∧ c.2.all (srcOk c.1) = true ∧ Post (.d (.list (srcsD (moved c.1 c.2 cs)))) μ
def SJoined : Spc := fun As μ Post => ∃ a b : Int × List Src, As = [.d (dueD a), .d (dueD b)] ∧ 0 ≤ a.1 ∧ a.1 ≤ 1000 ∧ a.2.length ≤ 1000 ∧ 0 ≤ b.1 ∧ b.1 ≤ 1000 ∧ b.2.length ≤ 1000 ∧ b.2.all (srcOk b.1) = true ∧ Post (.d (dueD (joinD a.1 a.2 b.1, join a.1 a.2 b.1 b.2))) μ
def SWith (C : Addr) : Spc := fun As μ Post => ∃ c : Int × List Src, As = [.d (dueD c)] ∧ c.2.length ≤ 1000 ∧ c.2.all (srcIn c.1) = true ∧ okE (cut c.1 c.2).1 (cut c.1 c.2).2 ∧ Post (effA C (cut c.1 c.2)) μ
def SBehind : Spc := fun As μ Post => ∃ (c : Int × List Src) (cs : List Int), As = [.d (dueD c), .d (tupI cs)] ∧ 0 ≤ c.1 ∧ c.1 ≤ cs.length ∧ cs.length ≤ 1000 ∧ c.2.length ≤ 1000 ∧ c.2.all (srcOk c.1) = true ∧ Post (.d (tupI (put c.1 c.2 cs))) μ
def SCallE (C : Addr) : Spc := fun As μ Post => ∃ (c : Int × List Src) (cs : List Int), As = [effA C c, .d (tupI cs)] ∧ 0 ≤ c.1 ∧ c.1 ≤ cs.length ∧ c.2.length ≤ 1000 ∧ c.2.all (srcOk c.1) = true ∧ okS cs ∧ Post (.d (tupI (put c.1 c.2 cs))) μ
def SAdd (C : Addr) : Spc := fun As μ Post => ∃ a b : Int × List Src, As = [effA C a, effA C b] ∧ okE a.1 a.2 ∧ okE b.1 b.2 ∧ okE (plus a b).1 (plus a b).2 ∧ Post (effA C (plus a b)) μ
theorem src_pair (x : Src) : x.d = .tuple [.str (Src.tag x), .int (Src.num x)] := by cases x <;> rfl
theorem srcAt_get {cs : List Src} {k : Int} (h : 0 ≤ k ∧ k < cs.length) : (srcsD cs)[((cs.length : Int) - 1 - k).toNat]? = some (srcAt cs (.inp k)).d := by
  have e : ((cs.length : Int) - 1 - k).toNat = cs.length - 1 - k.toNat := by omega
  have h2 : cs.length - 1 - k.toNat < cs.length := by omega
  rw [e]
  unfold srcsD
  rw [List.getElem?_map, List.getElem?_eq_getElem h2]
  show some _ = some _
  congr 2
  show _ = cs.getD (cs.length - 1 - k.toNat) (.lit 0)
  simp [h2]
theorem moved_join {t u : Int} {l r : List Src} (u0 : 0 ≤ u) (hr : r.all (srcOk u) = true) : moved u r (joinC t l u) = join t l u r := by
  unfold moved join
  congr 1
  refine List.map_congr_left fun x hx => ?_
  cases x with
  | lit c => rfl
  | inp k =>
    have hk := srcOk_inp (List.all_eq_true.mp hr _ hx)
    have hc := joinC_len t l u
    have h1 := seen_get (t := t) (u := u) (l := l) hk
    have h2 := srcAt_get (cs := joinC t l u) (k := k) (by omega)
    rw [h1] at h2
    have h3 := Option.some.inj h2
    cases hs : seen t l (.inp k) <;> cases hq : srcAt (joinC t l u) (.inp k) <;> rw [hs, hq] at h3 <;> simp [Src.d] at h3 <;> first | (rw [h3]) | skip
    all_goals exact absurd h3.1 (by decide +kernel)
theorem srcIn_of {t : Int} {l : List Src} (h : l.all (srcOk t) = true) : l.all (srcIn t) = true := List.all_eq_true.mpr fun x hx => by
  have := List.all_eq_true.mp h x hx
  rw [srcOk_and, Bool.and_eq_true] at this
  exact this.2
section
variable {P : Program} {w : World} {K : Fr} {mg : Str → Option Value} {base : Heap} {ad : Ad}
theorem ok_is_stack (T : Txt K mg ad) : FnOk P w K mg base CX0 3 ad.f_is_stack ad.fd_is_stack ["value"] (spP K SIsStack) := by
  have nd := sc_is_stack.nd
  refine fn_ok T.F_is_stack sc_is_stack (fun As μ Post h => ?_) (fun cdv A outer s H E hr => ?_)
  · obtain ⟨cs, rfl, _⟩ := h
    rfl
  · refine ⟨_, (pss_cons (ps_if (PW.pt (pw_or (pt_not (pt_val (pe_callB call_isi (by rfl) T.z_isinstance (by decide +kernel) (pa_cons (pv 0) (pa_cons (pe_bltn (v := .ty "tuple") rfl T.z_tuple (by decide +kernel) rfl) pa_nil))))) (pw_or1 (pt_cmpR op_gt (pe_callB call_len_seq (by rfl) T.z_len PySem.boot_len (pa_cons (pv 0) pa_nil)) (pe_glob (v := .int _) rfl T.v_MOST_CELLS ⟨_, rfl⟩) (nomark _)))))
 (pss_one (ps_ret pe_bl))
 pss_nil)
 (pss_one (ps_ret (pe_callB (cr_all rfl) (by rfl) T.z_all (by decide +kernel) (pa_cons (pe_lc (own := [("cell", 1)]) (by rfl) nd (pi_tup (pv 0)) (blkOk_by (N := ["value", "cell"]) (sc := defScope s_is_stack) (by decide +kernel)) (fun _ _ _ _ _ => (pg_name (i := 1) nd rfl (Or.inl rfl))) (fun _ _ _ _ _ => pts_nil) (fun _ _ _ _ _ => (pe_call (ok_is_constant T) (hr.mono (by decide)) rfl T.mg_is_constant T.k_is_constant T.b_is_constant .nil pass0 (pa_cons (pv 1) pa_nil)))) pa_nil))))), ?_⟩
    rintro As μ Post ⟨cs, rfl, ⟨h1, h2⟩, hp⟩
    refine s_seq (s_if (b := false) (et_orF (et_is (et_not (b := true) (et_B (ew_cb (ea_cons (ew_var rfl) (ea_cons ew_ty ea_nil)) (n_isi ty_tup (kit_ty (by decide +kernel)))))) rfl) (et_is (et_test (ew_op (ew_cb (ea_cons (ew_var rfl) ea_nil) n_len) ew_int o_B0)) (decide_eq_false (by rw [List.length_map]; omega)))) nofun (fun _ => s_next ?_))
    have lc := ew_lcM (K := K) (ρ := [some (.d (tupI cs)), none]) (μ := μ) (μ1 := μ) (g := gName 1) (te := tCall (spP K SConst) [] E0 (tCons (tVar 1) tNil)) (vs := [1]) cs (fun c => .i c) (fun _ => .bool true) (it_map (it_t (tl := tVar 0) (ew_var rfl)) (by rw [List.map_map]; rfl)) (fun c hc => ⟨_, gc_name (by simp), ew_fn (S := SConst) (ea_cons (ew_var rfl) ea_nil) ⟨c, rfl, by have := h2 c hc; rw [decide_eq_true this.1, decide_eq_true this.2]; rfl, rfl⟩⟩) (by omega)
    have e : cs.map (fun _ => PyData.bool true) = (cs.map fun _ => true).map PyData.bool := by rw [List.map_map]; rfl
    rw [e] at lc
    refine s_ret (ew_is (R2 := .b true) (ew_cb (ea_cons lc ea_nil) n_all) ?_) ⟨_, hp, Sub.refl _⟩
    congr 2
    simp
theorem ok_check_stack (T : Txt K mg ad) : FnOk P w K mg base CX0 4 ad.f_check_stack ad.fd_check_stack ["stack"] (spP K SChkStack) := by
  refine fn_ok T.F_check_stack sc_check_stack (fun As μ Post h => ?_) (fun cdv A outer s H E hr => ?_)
  · obtain ⟨cs, rfl, _⟩ := h
    rfl
  · refine ⟨_, (pss_one (ps_if (pt_not (pt_val (pe_call (ok_is_stack T) (hr.mono (by decide)) rfl T.mg_is_stack T.k_is_stack T.b_is_stack .nil pass0 (pa_cons (pv 0) pa_nil))))
 (pss_one ps_never)
 pss_nil)), ?_⟩
    rintro As μ Post ⟨cs, rfl, h1, hp⟩
    exact s_if (b := false) (et_is (et_not (b := true) (et_B (ew_fn (S := SIsStack) (ea_cons (ew_var rfl) ea_nil) ⟨cs, rfl, h1, rfl, rfl⟩))) rfl) nofun (fun _ => s_next ⟨_, hp, Sub.refl _⟩)
theorem ok_check_height (T : Txt K mg ad) : FnOk P w K mg base CX0 1 ad.f_check_height ad.fd_check_height ["stack", "least"] (spP K SChkHigh) := by
  refine fn_ok T.F_check_height sc_check_height (fun As μ Post h => ?_) (fun cdv A outer s H E hr => ?_)
  · obtain ⟨cs, n, rfl, _⟩ := h
    rfl
  · refine ⟨_, (pss_one (ps_if (pt_cmpR op_lt (pe_callB call_len_seq (by rfl) T.z_len PySem.boot_len (pa_cons (pv 0) pa_nil)) (pv 1) (nomark _))
 (pss_one ps_never)
 pss_nil)), ?_⟩
    rintro As μ Post ⟨cs, n, rfl, h1, hp⟩
    exact s_if (b := false) (et_is (et_test (ew_op (ew_cb (ea_cons (ew_var rfl) ea_nil) n_len) (ew_var rfl) o_B0)) (decide_eq_false (by rw [List.length_map]; omega))) nofun (fun _ => s_next ⟨_, hp, Sub.refl _⟩)
theorem ok_inputs (T : Txt K mg ad) : FnOk P w K mg base CX0 1 ad.f_inputs ad.fd_inputs ["low", "high"] (spP K SInputs) := by
  have nd := sc_inputs.nd
  refine fn_ok T.F_inputs sc_inputs (fun As μ Post h => ?_) (fun cdv A outer s H E hr => ?_)
  · obtain ⟨a, m, rfl, _⟩ := h
    rfl
  · refine ⟨_, (pss_one (ps_ret (pe_callTy call_tuple_of (by rfl) T.z_tuple (by decide +kernel) (pa_cons (pe_lc (own := [("depth", 2)]) (by rfl) nd (pi_range3 rfl T.z_range (pa_cons (pe_op op_sub (pv 1) pe_int) (pa_cons (pe_op op_sub (pv 0) pe_int) (pa_cons (pe_un un_neg pe_int) pa_nil)))) (blkOk_by (N := ["low", "high", "depth"]) (sc := defScope s_inputs) (by decide +kernel)) (fun _ _ _ _ _ => (pg_name (i := 2) nd rfl (Or.inl rfl))) (fun _ _ _ _ _ => pts_nil) (fun _ _ _ _ _ => (pe_tup (pa_cons pe_str (pa_cons (pv 2) pa_nil))))) pa_nil)))), ?_⟩
    rintro As μ Post ⟨a, m, rfl, h0, h1, h2, hp⟩
    have em : (a + (m : Int) - 1 - (a - 1)).toNat = m := by omega
    have lc := ew_lcM (K := K) (ρ := [some (.i a), some (.i (a + (m : Int))), none]) (μ := μ) (μ1 := μ) (g := gName 2) (te := tTup (tCons (tC (.str sIn)) (tCons (tVar 2) tNil))) (vs := [2]) (List.range m) (fun (i : Nat) => .i (a + (m : Int) - 1 + (i : Int) * (-1))) (fun (i : Nat) => (Src.inp (a + (m : Int) - 1 - (i : Int))).d) (it_map (it_down (ta := tCons (tOp (rI0 fun i j => .int (i - j)) (tVar 1) (tC (.int 1))) (tCons (tOp (rI0 fun i j => .int (i - j)) (tVar 0) (tC (.int 1))) (tCons (tUn (rU fun i => .int (-i)) (tC (.int 1))) tNil))) (ea_cons (ew_op (ew_var rfl) ew_int o_I0) (ea_cons (ew_op (ew_var rfl) ew_int o_I0) (ea_cons (ew_un ew_int o_neg) ea_nil))) (by omega)) (by rw [em])) (fun x hx => ⟨_, gc_name (by simp), ew_tup (ds := [.str sIn, .int (a + (m : Int) - 1 - (x : Int))]) (ea_cons ew_str (ea_cons (ew_isI (ew_var rfl) (by omega)) ea_nil)) (by simp)⟩) (by simp; omega)
    have e : (List.range m).map (fun (i : Nat) => (Src.inp (a + (m : Int) - 1 - (i : Int))).d) = srcsD (more a m) := by
      unfold srcsD more
      rw [List.map_map]
      rfl
    rw [e] at lc
    exact s_ret (ew_cb (ea_cons lc ea_nil) n_tupL) ⟨_, hp, Sub.refl _⟩
theorem ok_moved_cells (T : Txt K mg ad) : FnOk P w K mg base CX0 1 ad.f_moved_cells ad.fd_moved_cells ["move", "cells"] (spP K SMoved) := by
  have nd := sc_moved_cells.nd
  refine fn_ok T.F_moved_cells sc_moved_cells (fun As μ Post h => ?_) (fun cdv A outer s H E hr => ?_)
  · obtain ⟨c, cs, rfl, _⟩ := h
    rfl
  · refine ⟨_, (pss_cons (ps_asg (pv 0) (pg_tup rfl (pgs_cons (pg_name (i := 2) nd rfl (Or.inl rfl)) (pgs_cons (pg_name (i := 3) nd rfl (Or.inl rfl)) pgs_nil))))
 (pss_cons (ps_set (i := 4) nd rfl (Or.inr rfl) (pe_op op_sub (pe_callB call_len_seq (by rfl) T.z_len PySem.boot_len (pa_cons (pv 1) pa_nil)) pe_int))
 (pss_cons (ps_set (i := 5) nd rfl (Or.inl rfl) (pe_callTy call_list_of (by rfl) T.z_list (by decide +kernel) (pa_cons (pe_slice sl_tupA (pv 1) po_none (po_some (pe_op op_sub (pe_callB call_len_seq (by rfl) T.z_len PySem.boot_len (pa_cons (pv 1) pa_nil)) (pv 2)))) pa_nil)))
 (pss_cons (ps_expr (pe_bm PySem.F.plainAttrs_list PySem.F.slot_list_extend PySem.F.type_list_extend mt_extend (pv 5) (pa_cons (pe_lc (own := [("source", 6)]) (by rfl) nd (pi_tup (pv 3)) (blkOk_by (N := ["move", "cells", "taken", "left", "top", "moved", "source"]) (sc := defScope s_moved_cells) (by decide +kernel)) (fun _ _ _ _ _ => (pg_name (i := 6) nd rfl (Or.inl rfl))) (fun _ _ _ _ _ => pts_nil) (fun _ _ _ _ _ => (pe_ifExp (pt_cmpR op_eq (pe_ix (ix_tupK (K := K) rfl) (pv 6) pe_int (fun _ _ => rfl)) pe_str (nomark _)) (pe_ix (ix_tupK (K := K) rfl) (pv 1) (pe_op op_sub (pv 4) (pe_ix (ix_tupK (K := K) rfl) (pv 6) pe_int (fun _ _ => rfl))) (fun _ _ => rfl)) (pv 6)))) pa_nil)))
 (pss_one (ps_ret (pv 5))))))), ?_⟩
    rintro As μ Post ⟨⟨u, r⟩, cs, rfl, u0, u1, r1, c1, rg, hp⟩
    simp only at u0 u1 r1 rg hp
    have hlen : ∀ {ρ : AS} {μ : AM}, ρ[1]? = some (some (.d (.tuple (srcsD cs)))) → EvW K (tCB (fun xs H Q => ∃ p ys, xs = [.ref p] ∧ (SqL K H p ys ∨ SqT K H p ys) ∧ Q (.int ys.length) H) (tCons (tVar 1) tNil)) ρ μ (.i (cs.length : Int)) μ := fun h => ew_isI (ew_cb (ea_cons (ew_var h) ea_nil) n_len) (by rw [srcsD_len])
    refine s_seq (s_asgG (ew_var rfl) (gw_tup rfl (gs_cons gw_name (gs_cons gw_name gs_nil))) ?_)
    refine s_seq (s_asg (ew_op (hlen rfl) ew_int o_I0) ?_)
    have sl := ew_slT (K := K) (te := tVar 1) (ρ := [some (.d (dueD (u, r))), some (.d (.tuple (srcsD cs))), some (.i u), some (.d (.tuple (srcsD r))), some (.i ((cs.length : Int) - 1)), none, none]) (μ := μ) (ds := srcsD cs) (lo := none) (hi := some ((cs.length - u.toNat : Nat) : Int)) (ew_var rfl) eo_none (eo_some (te := tOp (rI0 fun i j => .int (i - j)) (tCB (fun xs H Q => ∃ p ys, xs = [.ref p] ∧ (SqL K H p ys ∨ SqT K H p ys) ∧ Q (.int ys.length) H) (tCons (tVar 1) tNil)) (tVar 2)) (ew_isI (ew_op (hlen rfl) (ew_var rfl) o_I0) (by omega)))
    rw [cut_to _ (by rw [srcsD_len]; omega)] at sl
    refine s_seq (s_listT sl (fun a ha => ?_))
    refine s_seq (s_ext (l := a) (xs := ((srcsD cs).take (cs.length - u.toNat)).map .d) (zs := r.map fun x => (srcAt cs x).d) (ew_var rfl) (ew_lcT (μ1 := updM μ a (.lst (((srcsD cs).take (cs.length - u.toNat)).map .d))) r (fun x => .d x.d) (fun x => (srcAt cs x).d) (it_map (it_t (tl := tVar 3) (ew_var rfl)) (by unfold srcsD; rw [List.map_map]; rfl)) (fun x hx => ⟨_, gc_name (by simp), ?_⟩) (by omega)) ⟨_, updM_same⟩ updM_same (by rw [List.length_map, List.length_take, srcsD_len, List.length_map]; omega) ?_)
    · refine ew_if (b := decide (Src.tag x = sIn)) (et_test (ew_op (ew_op (R := .s (Src.tag x)) (ew_var rfl) ew_int (by rw [src_pair]; exact o_ixTz rfl)) ew_str o_eqS)) (fun h => ?_) (fun h => ?_)
      · have h := of_decide_eq_true h
        cases x with
        | inp k =>
          have hk := srcOk_inp (List.all_eq_true.mp rg _ hx)
          exact ew_op (ew_var rfl) (ew_op (ew_var rfl) (ew_op (R := .i k) (ew_var rfl) ew_int (o_ixTz rfl)) o_I0) (o_ixTz (srcAt_get (by omega)) (by omega))
        | lit c => exact absurd h (show ¬ sLit = sIn by decide +kernel)
      · have h := of_decide_eq_false h
        cases x with
        | inp k => exact absurd rfl h
        | lit c => exact ew_var rfl
    · rw [updM_updM]
      refine s_freeze (i := 5) (l := a) (ds := srcsD (moved u r cs)) rfl ?_ ?_
      · rw [updM_same]
        unfold moved srcsD
        simp only [List.map_append, List.map_take, List.map_map]
        rfl
      · rw [delM_upd ha]
        exact s_ret (ew_var rfl) ⟨_, hp, Sub.refl _⟩
theorem ok_joined_move (T : Txt K mg ad) : FnOk P w K mg base CX0 2 ad.f_joined_move ad.fd_joined_move ["first", "second"] (spP K SJoined) := by
  have nd := sc_joined_move.nd
  refine fn_ok T.F_joined_move sc_joined_move (fun As μ Post h => ?_) (fun cdv A outer s H E hr => ?_)
  · obtain ⟨a, b, rfl, _⟩ := h
    rfl
  · refine ⟨_, (pss_cons (ps_asg (pv 0) (pg_tup rfl (pgs_cons (pg_name (i := 2) nd rfl (Or.inl rfl)) (pgs_cons (pg_name (i := 3) nd rfl (Or.inl rfl)) pgs_nil))))
 (pss_cons (ps_set (i := 4) nd rfl (Or.inl rfl) (pe_callB (call_max2 rfl) (by rfl) T.z_max (by decide +kernel) (pa_cons (pv 2) (pa_cons (pe_op op_sub (pe_op op_add (pv 2) (pe_ix ix_tup (pv 1) pe_int (fun _ _ => rfl))) (pe_callB call_len_seq (by rfl) T.z_len PySem.boot_len (pa_cons (pv 3) pa_nil))) pa_nil))))
 (pss_one (ps_ret (pe_tup (pa_cons (pv 4) (pa_cons (pe_callTy call_tuple_of (by rfl) T.z_tuple (by decide +kernel) (pa_cons (pe_call (ok_moved_cells T) (hr.mono (by decide)) rfl T.mg_moved_cells T.k_moved_cells T.b_moved_cells .nil pass0 (pa_cons (pv 1) (pa_cons (pe_op op_catA (pe_call (ok_inputs T) (hr.mono (by decide)) rfl T.mg_inputs T.k_inputs T.b_inputs .nil pass0 (pa_cons (pv 2) (pa_cons (pv 4) pa_nil))) (pv 3)) pa_nil))) pa_nil)) pa_nil))))))), ?_⟩
    rintro As μ Post ⟨⟨t, l⟩, ⟨u, r⟩, rfl, t0, t1, l1, u0, u1, r1, rg, hp⟩
    simp only at t0 t1 l1 u0 u1 r1 rg hp
    have hm : joinD t l u = t + (((max 0 (u - (l.length : Int))).toNat : Nat) : Int) := by unfold joinD; omega
    have hc := joinC_len t l u
    refine s_seq (s_asgG (R := .d (.tuple [.int t, .tuple (srcsD l)])) (ew_var rfl) (gw_tup rfl (gs_cons gw_name (gs_cons gw_name gs_nil))) ?_)
    refine s_seq (s_asg (R := .i (joinD t l u)) (ew_isI (ew_cb (ea_cons (ew_var rfl) (ea_cons (ew_op (ew_op (ew_var rfl) (ew_op (R := .i u) (ew_var rfl) ew_int (o_ixTz rfl)) o_I0) (ew_isI (ew_cb (ea_cons (ew_var rfl) ea_nil) n_len) (by rw [srcsD_len])) o_I0) ea_nil)) n_max2) (by unfold joinD; omega)) ?_)
    refine s_ret (ew_tup (ds := [.int (joinD t l u), .tuple (srcsD (join t l u r))]) (ea_cons (ew_var rfl) (ea_cons (ew_cb (ea_cons (ew_fn (S := SMoved) (ea_cons (ew_var rfl) (ea_cons (ew_isD (ew_op (R1 := .d (.tuple (srcsD (more t (max 0 (u - (l.length : Int))).toNat)))) (ew_fn (S := SInputs) (ea_cons (ew_var rfl) (ea_cons (ew_var rfl) ea_nil)) ⟨t, (max 0 (u - (l.length : Int))).toNat, by rw [hm], t0, by omega, by omega, rfl, rfl⟩) (ew_var rfl) (o_catU (by rw [srcsD_len, srcsD_len, more_len]; omega))) (by unfold joinC srcsD; rw [List.map_append])) ea_nil)) ⟨(u, r), joinC t l u, rfl, u0, by omega, by show r.length ≤ 2000; omega, by omega, rg, by rw [moved_join u0 rg], rfl⟩) ea_nil) n_tupL) ea_nil)) (by simp)) ⟨_, hp, Sub.refl _⟩
theorem ok_effect_with (T : Txt K mg ad) : FnOk P w K mg base CX0 7 ad.f_effect_with ad.fd_effect_with ["move"] (spP K (SWith ad.C_Effect)) := by
  have nd := sc_effect_with.nd
  refine fn_ok T.F_effect_with sc_effect_with (fun As μ Post h => ?_) (fun cdv A outer s H E hr => ?_)
  · obtain ⟨c, rfl, _⟩ := h
    rfl
  · refine ⟨_, (pss_cons (ps_set (i := 1) nd rfl (Or.inl rfl) (pe_call (ok_cut_move T) (hr.mono (by decide)) rfl T.mg_cut_move T.k_cut_move T.b_cut_move .nil pass0 (pa_cons (pv 0) pa_nil)))
 (pss_cons (ps_if (PW.pt (pw_or (pt_cmpR op_gt (pe_ix ix_tup (pv 1) pe_int (fun _ _ => rfl)) (pe_glob (v := .int _) rfl T.v_MOST_CELLS ⟨_, rfl⟩) (nomark _)) (pw_or1 (pt_cmpR op_gt (pe_callB call_len_seq (by rfl) T.z_len PySem.boot_len (pa_cons (pe_ix ix_tup (pv 1) pe_int (fun _ _ => rfl)) pa_nil)) (pe_glob (v := .int _) rfl T.v_MOST_CELLS ⟨_, rfl⟩) (nomark _)))))
 (pss_one ps_never)
 pss_nil)
 (pss_cons (ps_set (i := 2) nd rfl (Or.inl rfl) (pe_make T.mk_Effect (ok_Effect_init T) (hr.mono (by decide)) rfl T.mgC_Effect T.b_Effect_init .nil pass0 (pa_cons pe_int (pa_cons (pe_tup pa_nil) pa_nil))))
 (pss_cons (ps_fld (pv 2) (pv 1) rfl)
 (pss_one (ps_ret (pv 2))))))), ?_⟩
    rintro As μ Post ⟨c, rfl, l1, gd, ok, hp⟩
    refine s_seq (s_asg (R := .d (dueD (cut c.1 c.2))) (ew_fn (S := SCutMove) (ea_cons (ew_var rfl) ea_nil) ⟨c, rfl, l1, gd, rfl, rfl⟩) ?_)
    generalize cut c.1 c.2 = e at ok hp
    obtain ⟨c1, c2, c3, c4⟩ := id ok
    refine s_seq (s_if (b := false) (et_orF (et_is (et_test (ew_op (ew_op (R := .i e.1) (ew_var rfl) ew_int (o_ixTz rfl)) ew_int o_B0)) (decide_eq_false (by omega))) (et_is (et_test (ew_op (ew_isI (ew_cb (ea_cons (ew_op (R := .d (.tuple (srcsD e.2))) (ew_var rfl) ew_int (o_ixTz rfl)) ea_nil) n_len) (by rw [srcsD_len])) ew_int o_B0)) (decide_eq_false (by omega)))) nofun (fun _ => s_next ?_))
    refine s_seq (s_make (C := ad.C_Effect) (S := SInit ad.C_Effect) (fs := effF (0, [])) (Rs := [.i 0, .d (.tuple [])]) (ea_cons ew_int (ea_cons (ew_tup (ds := []) ea_nil (by simp)) ea_nil)) (fun p dx hp => ⟨p, dx, (0, []), rfl, updM_same, ⟨by decide, by decide, by decide, rfl⟩, rfl, updM_updM⟩) (fun p dx hp0 => ?_))
    refine s_seq (s_fld (C := ad.C_Effect) (dx := dx) (fs := effF (0, [])) (R := .d (dueD e)) (ew_var rfl) (ew_var rfl) updM_same T.cl_Effect T.na_Effect_cut (by decide) ?_)
    rw [updM_updM]
    refine s_freezeI (i := 2) rfl updM_same ?_
    rw [delM_upd hp0]
    exact s_ret (ew_var rfl) ⟨_, hp, Sub.refl _⟩
theorem ew_seen {ρ : AS} {μ : AM} {a b : Nat} {x : Src} {cs : List Int} {ti : TE} (ha : ρ[a]? = some (some (.s (Src.tag x)))) (hb : ρ[b]? = some (some (.i (Src.num x)))) (hi : ∀ k, x = .inp k → EvW K ti ρ μ (.i (val cs x)) μ) :
    EvW K (tIf (tTest (tOp rEq (tVar a) (tC (.str sIn)))) ti (tVar b)) ρ μ (.i (val cs x)) μ := by
  refine ew_if (b := decide (Src.tag x = sIn)) (et_test (ew_op (ew_var ha) ew_str o_eqS)) (fun h => ?_) (fun h => ?_)
  · have h := of_decide_eq_true h
    cases x with
    | inp k => exact hi k rfl
    | lit c => exact absurd h (show ¬ sLit = sIn by decide +kernel)
  · have h := of_decide_eq_false h
    cases x with
    | inp k => exact absurd rfl h
    | lit c => exact ew_var hb
theorem ok_stack_behind (T : Txt K mg ad) : FnOk P w K mg base CX0 1 ad.f_stack_behind ad.fd_stack_behind ["move", "stack"] (spP K SBehind) := by
  have nd := sc_stack_behind.nd
  refine fn_ok T.F_stack_behind sc_stack_behind (fun As μ Post h => ?_) (fun cdv A outer s H E hr => ?_)
  · obtain ⟨c, cs, rfl, _⟩ := h
    rfl
  · refine ⟨_, (pss_cons (ps_asg (pv 0) (pg_tup rfl (pgs_cons (pg_name (i := 2) nd rfl (Or.inl rfl)) (pgs_cons (pg_name (i := 3) nd rfl (Or.inl rfl)) pgs_nil))))
 (pss_cons (ps_set (i := 4) nd rfl (Or.inr rfl) (pe_op op_sub (pe_callB call_len_seq (by rfl) T.z_len PySem.boot_len (pa_cons (pv 1) pa_nil)) pe_int))
 (pss_cons (ps_setLc (i := 5) (own := [("kind", 6), ("number", 7)]) (by rfl) nd rfl rfl (sw_true rfl rfl rfl (by decide +kernel)) (pi_tup (pv 3)) (blkOk_by (N := ["move", "stack", "taken", "left", "top", "cells", "kind", "number"]) (sc := defScope s_stack_behind) (by decide +kernel)) (fun _ _ _ _ _ => (pg_tupK (K := K) (n := 2) rfl rfl (pgs_cons (pg_name (i := 6) nd rfl (Or.inl rfl)) (pgs_cons (pg_name (i := 7) nd rfl (Or.inl rfl)) pgs_nil)))) (fun _ _ _ _ _ => pts_nil) (fun _ _ _ _ _ => (pe_ifExp (pt_cmpR op_eq (pv 6) pe_str (nomark _)) (pe_ix (ix_tupK (K := K) rfl) (pv 1) (pe_op op_sub (pv 4) (pv 7)) (fun _ _ => rfl)) (pv 7))))
 (pss_one (ps_ret (pe_op op_catA (pe_slice sl_tupA (pv 1) po_none (po_some (pe_op op_sub (pe_callB call_len_seq (by rfl) T.z_len PySem.boot_len (pa_cons (pv 1) pa_nil)) (pv 2)))) (pe_callTy call_tuple_of (by rfl) T.z_tuple (by decide +kernel) (pa_cons (pv 5) pa_nil)))))))), ?_⟩
    rintro As μ Post ⟨⟨t, l⟩, cs, rfl, t0, t1, c1, l1, lg, hp⟩
    simp only at t0 t1 l1 lg hp
    have hlen : ∀ {ρ : AS} {μ : AM}, ρ[1]? = some (some (.d (tupI cs))) → EvW K (tCB (fun xs H Q => ∃ p ys, xs = [.ref p] ∧ (SqL K H p ys ∨ SqT K H p ys) ∧ Q (.int ys.length) H) (tCons (tVar 1) tNil)) ρ μ (.i (cs.length : Int)) μ := fun h => ew_isI (ew_cb (ea_cons (ew_var h) ea_nil) n_len) (by rw [List.length_map])
    refine s_seq (s_asgG (ew_var rfl) (gw_tup rfl (gs_cons gw_name (gs_cons gw_name gs_nil))) ?_)
    refine s_seq (s_asg (ew_op (hlen rfl) ew_int o_I0) ?_)
    refine s_seq (s_lcM l (fun x => .d x.d) (fun x => .int (val cs x)) (it_map (it_t (tl := tVar 3) (ew_var rfl)) (by unfold srcsD; rw [List.map_map]; rfl)) (fun x hx => ?_) (by omega) (fun a ha => ?_))
    · rw [src_pair]
      refine ⟨_, gc_pair (by simp) (by simp), ew_seen rfl rfl (fun k e => ?_)⟩
      subst e
      have hk := srcOk_inp (ok_up (List.all_eq_true.mp lg _ hx) t1)
      exact ew_op (ew_var rfl) (ew_op (ew_var rfl) (ew_var rfl) o_I0) (o_ixTz (tupI_get hk) (by show 0 ≤ _ - k; omega))
    · have sl := ew_slT (K := K) (te := tVar 1) (ρ := [some (.d (dueD (t, l))), some (.d (tupI cs)), some (.i t), some (.d (.tuple (srcsD l))), some (.i ((cs.length : Int) - 1)), some (.r a), none, none]) (μ := updM μ a (.lst ((l.map fun x => PyData.int (val cs x)).map .d))) (ds := cs.map .int) (lo := none) (hi := some ((cs.length - t.toNat : Nat) : Int)) (ew_var rfl) eo_none (eo_some (te := tOp (rI0 fun i j => .int (i - j)) (tCB (fun xs H Q => ∃ p ys, xs = [.ref p] ∧ (SqL K H p ys ∨ SqT K H p ys) ∧ Q (.int ys.length) H) (tCons (tVar 1) tNil)) (tVar 2)) (ew_isI (ew_op (hlen rfl) (ew_var rfl) o_I0) (by omega)))
      rw [cut_to _ (by rw [List.length_map]; omega)] at sl
      refine s_ret (ew_isD (ew_op sl (ew_cb (ea_cons (ew_var rfl) ea_nil) (n_tupO (ds := l.map fun x => PyData.int (val cs x)) updM_same)) (o_catU (by rw [List.length_take, List.length_map, List.length_map]; omega))) ?_) ⟨_, hp, Sub.upd ha⟩
      unfold tupI put
      rw [List.map_append, List.map_take, List.map_map]
      rfl
theorem ok_Effect_call (T : Txt K mg ad) : FnOk P w K mg base CX0 5 ad.f_Effect_call ad.fd_Effect_call ["self", "stack"] (spP K (SCallE ad.C_Effect)) := by
  have nd := sc_Effect_call.nd
  refine fn_ok T.F_Effect_call sc_Effect_call (fun As μ Post h => ?_) (fun cdv A outer s H E hr => ?_)
  · obtain ⟨c, cs, rfl, _⟩ := h
    rfl
  · refine ⟨_, (pss_cons (ps_expr (pe_call (ok_check_stack T) (hr.mono (by decide)) rfl T.mg_check_stack T.k_check_stack T.b_check_stack .nil pass0 (pa_cons (pv 1) pa_nil)))
 (pss_cons (ps_expr (pe_call (ok_check_height T) (hr.mono (by decide)) rfl T.mg_check_height T.k_check_height T.b_check_height .nil pass0 (pa_cons (pv 1) (pa_cons (pe_prop (pv 0) T.cl_Effect T.pr_Effect_taken (ok_Effect_taken T) (hr.mono (by decide)) T.b_Effect_taken .nil pass0 rfl) pa_nil))))
 (pss_one (ps_ret (pe_call (ok_stack_behind T) (hr.mono (by decide)) rfl T.mg_stack_behind T.k_stack_behind T.b_stack_behind .nil pass0 (pa_cons (pe_fld (pv 0) rfl) (pa_cons (pv 1) pa_nil))))))), ?_⟩
    rintro As μ Post ⟨c, cs, rfl, t0, t1, l1, lg, ok, hp⟩
    have c1 := ok.1
    refine s_seq (s_drop (ew_fn (S := SChkStack) (R := .d .none) (ea_cons (ew_var rfl) ea_nil) ⟨cs, rfl, ok, rfl, rfl⟩) ?_)
    refine s_seq (s_drop (ew_fn (S := SChkHigh) (R := .d .none) (ea_cons (ew_var rfl) (ea_cons (ew_taken (ew_var rfl)) ea_nil)) ⟨cs, c.1, rfl, t1, rfl, rfl⟩) ?_)
    exact s_ret (ew_fn (S := SBehind) (ea_cons (ew_fld (ew_var rfl) T.cl_Effect T.na_Effect_cut lk_cut) (ea_cons (ew_var rfl) ea_nil)) ⟨c, cs, rfl, t0, t1, by omega, l1, lg, rfl, rfl⟩) ⟨_, hp, Sub.refl _⟩
theorem ok_Effect_add (T : Txt K mg ad) : FnOk P w K mg base CX0 8 ad.f_Effect_add ad.fd_Effect_add ["self", "other"] (spP K (SAdd ad.C_Effect)) := by
  have nd := sc_Effect_add.nd
  refine fn_ok T.F_Effect_add sc_Effect_add (fun As μ Post h => ?_) (fun cdv A outer s H E hr => ?_)
  · obtain ⟨a, b, rfl, _⟩ := h
    rfl
  · refine ⟨_, (pss_cons (ps_expr (pe_call (ok_check_effect T) (hr.mono (by decide)) rfl T.mg_check_effect T.k_check_effect T.b_check_effect .nil pass0 (pa_cons (pv 1) pa_nil)))
 (pss_one (ps_ret (pe_call (ok_effect_with T) (hr.mono (by decide)) rfl T.mg_effect_with T.k_effect_with T.b_effect_with .nil pass0 (pa_cons (pe_call (ok_joined_move T) (hr.mono (by decide)) rfl T.mg_joined_move T.k_joined_move T.b_joined_move .nil pass0 (pa_cons (pe_fld (pv 0) rfl) (pa_cons (pe_fld (pv 1) rfl) pa_nil))) pa_nil))))), ?_⟩
    rintro As μ Post ⟨a, b, rfl, ⟨a1, a2, a3, a4⟩, ⟨b1, b2, b3, b4⟩, ok, hp⟩
    refine s_seq (s_drop (ew_fn (S := SChkE ad.C_Effect) (R := .d .none) (ea_cons (ew_var rfl) ea_nil) ⟨b, rfl, rfl, rfl⟩) ?_)
    have jl := join_len (t := a.1) (l := a.2) (r := b.2) b1
    exact s_ret (ew_fn (S := SWith ad.C_Effect) (ea_cons (ew_fn (S := SJoined) (R := .d (dueD (joinD a.1 a.2 b.1, join a.1 a.2 b.1 b.2))) (ea_cons (ew_fld (ew_var rfl) T.cl_Effect T.na_Effect_cut lk_cut) (ea_cons (ew_fld (ew_var rfl) T.cl_Effect T.na_Effect_cut lk_cut) ea_nil)) ⟨a, b, rfl, a1, by omega, by omega, b1, by omega, by omega, b4, rfl, rfl⟩) ea_nil) ⟨(joinD a.1 a.2 b.1, join a.1 a.2 b.1 b.2), rfl, by show (join a.1 a.2 b.1 b.2).length ≤ 1000; omega, srcIn_of (join_good a1 a4 b4), ok, rfl, rfl⟩) ⟨_, hp, Sub.refl _⟩
end
end K15

set_option Elab.async false
set_option linter.all false
set_option maxRecDepth 100000
set_option maxHeartbeats 2000000
/-! Effect: source, len, == -/
namespace K15
open PySem PySem.Spec PyProof.Rows L2 Lw
def SSrc (C : Addr) : Spc := fun As μ Post => ∃ (c : Int × List Src) (k : Nat), As = [effA C c, .i (k : Int)] ∧ Post (.d (source c.1 c.2 k).d) μ
def SLen (C : Addr) : Spc := fun As μ Post => ∃ c : Int × List Src, As = [effA C c] ∧ Post (.i (c.2.length : Int)) μ
def SEq (K : Fr) (C : Addr) : Spc := fun As μ Post => (∃ a b : Int × List Src, As = [effA C a, effA C b] ∧ Post (.b (decide (a = b))) μ) ∨ (∃ (a : Int × List Src) (R : AV) (tb : Value), As = [effA C a, R] ∧ TyA K R tb ∧ PySem.W.kitOne K tb (.ref C) = some false ∧ Post (.b false) μ)
section
variable {P : Program} {w : World} {K : Fr} {mg : Str → Option Value} {base : Heap} {ad : Ad}
theorem ok_Effect_source (T : Txt K mg ad) : FnOk P w K mg base CX0 3 ad.f_Effect_source ad.fd_Effect_source ["self", "depth"] (spP K (SSrc ad.C_Effect)) := by
  have nd := sc_Effect_source.nd
  refine fn_ok T.F_Effect_source sc_Effect_source (fun As μ Post h => ?_) (fun cdv A outer s H E hr => ?_)
  · obtain ⟨c, k, rfl, _⟩ := h
    rfl
  · refine ⟨_, (pss_cons (ps_expr (pe_call (ok_check_depth T) (hr.mono (by decide)) rfl T.mg_check_depth T.k_check_depth T.b_check_depth .nil pass0 (pa_cons (pv 1) pa_nil)))
 (pss_cons (ps_if (pt_cmpR op_lt (pv 1) (pe_callB call_len_seq (by rfl) T.z_len PySem.boot_len (pa_cons (pe_prop (pv 0) T.cl_Effect T.pr_Effect_left (ok_Effect_left T) (hr.mono (by decide)) T.b_Effect_left .nil pass0 rfl) pa_nil)) (nomark _))
 (pss_one (ps_ret (pe_ix ix_tup (pe_prop (pv 0) T.cl_Effect T.pr_Effect_left (ok_Effect_left T) (hr.mono (by decide)) T.b_Effect_left .nil pass0 rfl) (pe_op op_sub (pe_op op_sub (pe_callB call_len_seq (by rfl) T.z_len PySem.boot_len (pa_cons (pe_prop (pv 0) T.cl_Effect T.pr_Effect_left (ok_Effect_left T) (hr.mono (by decide)) T.b_Effect_left .nil pass0 rfl) pa_nil)) pe_int) (pv 1)) (fun _ _ => rfl))))
 pss_nil)
 (pss_one (ps_ret (pe_tup (pa_cons pe_str (pa_cons (pe_op op_sub (pv 1) (pe_prop (pv 0) T.cl_Effect T.pr_Effect_growth (ok_Effect_growth T) (hr.mono (by decide)) T.b_Effect_growth .nil pass0 rfl)) pa_nil))))))), ?_⟩
    rintro As μ Post ⟨c, k, rfl, hp⟩
    refine s_seq (s_drop (ew_fn (S := SChkD) (ea_cons (ew_var rfl) ea_nil) ⟨(k : Int), rfl, by omega, rfl, rfl⟩) ?_)
    have hlen : ∀ {ρ : AS} {E : XK}, ρ[0]? = some (some (effA ad.C_Effect c)) → EvW K (tCB (fun xs H Q => ∃ p ys, xs = [.ref p] ∧ (SqL K H p ys ∨ SqT K H p ys) ∧ Q (.int ys.length) H) (tCons (tProp ad.C_Effect (spP K (SLeft ad.C_Effect)) [] E (tVar 0)) tNil)) ρ μ (.i (c.2.length : Int)) μ := fun h => ew_isI (ew_cb (ea_cons (ew_left (ew_var h)) ea_nil) n_len) (by rw [srcsD_len])
    refine s_seq (s_if (b := decide (k < c.2.length)) (et_is (et_test (ew_op (ew_var rfl) (hlen rfl) o_B0)) (decide_eq_decide.mpr (by omega))) (fun h => ?_) (fun h => s_next ?_))
    · have h := of_decide_eq_true h
      refine s_ret (ew_op (ew_left (ew_var rfl)) (ew_op (ew_op (hlen rfl) ew_int o_I0) (ew_var rfl) o_I0) (o_ixTz (d := (source c.1 c.2 k).d) ?_ (by omega))) ⟨_, hp, Sub.refl _⟩
      have : ((c.2.length : Int) - 1 - (k : Int)).toNat = c.2.length - 1 - k := by omega
      rw [this]
      exact srcsD_get (source_some h)
    · have h := of_decide_eq_false h
      rw [source_far (by omega)] at hp
      exact s_ret (ew_tup (ds := [.str sIn, .int ((k : Int) + c.1 - c.2.length)]) (ea_cons ew_str (ea_cons (ew_isI (ew_op (ew_var rfl) (ew_growth (ew_var rfl)) o_I0) (by omega)) ea_nil)) (by simp)) ⟨_, hp, Sub.refl _⟩
theorem ok_Effect_len (T : Txt K mg ad) : FnOk P w K mg base CX0 3 ad.f_Effect_len ad.fd_Effect_len ["self"] (spP K (SLen ad.C_Effect)) := by
  have nd := sc_Effect_len.nd
  refine fn_ok T.F_Effect_len sc_Effect_len (fun As μ Post h => ?_) (fun cdv A outer s H E hr => ?_)
  · obtain ⟨c, rfl, _⟩ := h
    rfl
  · refine ⟨_, (pss_one (ps_ret (pe_callB call_len_seq (by rfl) T.z_len PySem.boot_len (pa_cons (pe_prop (pv 0) T.cl_Effect T.pr_Effect_left (ok_Effect_left T) (hr.mono (by decide)) T.b_Effect_left .nil pass0 rfl) pa_nil)))), ?_⟩
    rintro As μ Post ⟨c, rfl, hp⟩
    exact s_ret (ew_isI (ew_cb (ea_cons (ew_left (ew_var rfl)) ea_nil) n_len) (by rw [srcsD_len])) ⟨_, hp, Sub.refl _⟩
theorem ok_Effect_eq (T : Txt K mg ad) : FnOk P w K mg base CX0 1 ad.f_Effect_eq ad.fd_Effect_eq ["self", "other"] (spP K (SEq K ad.C_Effect)) := by
  have nd := sc_Effect_eq.nd
  refine fn_ok T.F_Effect_eq sc_Effect_eq (fun As μ Post h => ?_) (fun cdv A outer s H E hr => ?_)
  · rcases h with ⟨a, b, rfl, _⟩ | ⟨a, R, tb, rfl, _⟩ <;> rfl
  · have hu := hr.un
    have hu64 : A.units + 3 + 64 < cLine := by
      have : A.units + 3 + 200 < cLine := by simpa using hu
      omega
    refine ⟨_, (pss_one (ps_ret (pe_and (pe_callB call_isi (by rfl) T.z_isinstance (by decide +kernel) (pa_cons (pv 1) (pa_cons (pe_glob (v := .ref ad.C_Effect) rfl T.mgC_Effect rfl) pa_nil))) (pe_one (pe_cmpR (op_eqD hu64) (pe_fld (pv 0) rfl) (pe_fld (pv 1) rfl) (nomark _)))))), ?_⟩
    rintro As μ Post (⟨a, b, rfl, hp⟩ | ⟨a, R, tb, rfl, ht, hk, hp⟩)
    · refine s_ret (ew_is (ew_and (a := true) (ew_cb (ea_cons (ew_var rfl) (ea_cons ew_cls ea_nil)) (n_isiC (tyE T b) T.is_Effect)) (fun _ => ew_op (ew_fld (ew_var rfl) T.cl_Effect T.na_Effect_cut lk_cut) (ew_fld (ew_var rfl) T.cl_Effect T.na_Effect_cut lk_cut) (o_eqD (d := dueD a) (e := dueD b) (due_shaped _) (due_shaped _)))) ?_) ⟨_, hp, Sub.refl _⟩
      rw [due_eqv, Bool.true_and]
      have : decide (a = b) = (decide (a.1 = b.1) && decide (a.2 = b.2)) := by
        rw [Bool.eq_iff_iff]
        simp only [Bool.and_eq_true, decide_eq_true_eq]
        exact ⟨fun h => by rw [h]; exact ⟨rfl, rfl⟩, fun h => Prod.ext h.1 h.2⟩
      rw [this]
    · exact s_ret (ew_is (ew_and (a := false) (b := false) (ew_cb (ea_cons (ew_var rfl) (ea_cons ew_cls ea_nil)) (n_isiC ht hk)) nofun) rfl) ⟨_, hp, Sub.refl _⟩
theorem ew_eq {C : Addr} {ρ : AS} {μ μ1 μ2 : AM} {ta tb : TE} {a b : Int × List Src} (hn : PySem.W.notFirst K C (.ref C) = true) (ty : ∀ c : Int × List Src, TyA K (effA C c) (.ref C)) (h1 : EvW K ta ρ μ (effA C a) μ1) (h2 : EvW K tb ρ μ1 (effA C b) μ2) : EvW K (tOp (rOwnA K C (spP K (SEq K C))) ta tb) ρ μ (.b (decide (a = b))) μ2 := ew_op h1 h2 (o_ownEq (ty _) hn (.inl ⟨a, b, rfl, rfl, rfl⟩))
theorem ew_ne {C : Addr} {ρ : AS} {μ μ1 μ2 : AM} {ta tb : TE} {a b : Int × List Src} (hn : PySem.W.notFirst K C (.ref C) = true) (ty : ∀ c : Int × List Src, TyA K (effA C c) (.ref C)) (h1 : EvW K ta ρ μ (effA C a) μ1) (h2 : EvW K tb ρ μ1 (effA C b) μ2) : EvW K (tOp (rNeA K C (spP K (SEq K C))) ta tb) ρ μ (.b (!decide (a = b))) μ2 := ew_op h1 h2 (o_ownNe (ty _) hn (.inl ⟨a, b, rfl, rfl, rfl⟩))
end
end K15

set_option Elab.async false
set_option linter.all false
set_option maxRecDepth 100000
set_option maxHeartbeats 2000000
namespace K15
open PySem PySem.Spec PyProof.Rows L2 Lw

/-! the draws of a law, its cut -/
/-- _law_scoop(kiln, n): below n, one draw more -/
def SScoop : Spc := fun As μ Post => ∃ (l : Addr) (s : Kl) (n : Int), As = [.r l, .i n] ∧ μ l = some (kO s) ∧ 0 < n ∧ n ≤ 10 ^ 100 ∧ s.ok ∧ s.c < 10 ^ 20 ∧ Post (.i (drawn s n)) (updM μ l (kO (after s n)))

/-- _law_kiln(script, k): the state of the draws of the cell k, a new list -/
def SKiln : Spc := fun As μ Post => ∃ (ns : List Int) (k : Nat), As = [.d (.list (ns.map .int)), .i (k : Int)] ∧ ns.length ≤ 63 ∧ k ≤ 100 ∧ ∀ l, μ l = none → Post (.r l) (updM μ l (kO (kil ns k)))
/-- _law_cut(taken, left) -/
def SCut : Spc := fun As μ Post => ∃ (t : Int) (l : List Src), As = [.i t, .d (.tuple (srcsD l))] ∧ l.length ≤ 1000 ∧ Post (.d (.tuple [.int (cut t l).1, .tuple (srcsD (cut t l).2)])) μ

section
variable {P : Program} {w : World} {K : Fr} {mg : Str → Option Value} {base : Heap} {ad : Ad}

theorem ok__law_scoop (T : Txt K mg ad) : FnOk P w K mg base CX0 1 ad.f__law_scoop ad.fd__law_scoop ["kiln", "bound"] (spP K SScoop) := by
  have nd := sc__law_scoop.nd
  refine fn_ok T.F__law_scoop sc__law_scoop (fun As μ Post h => ?_) (fun cdv A outer s H E hr => ?_)
  · obtain ⟨l, s, n, rfl, _⟩ := h
    rfl
  · refine ⟨_, (pss_cons (ps_if (pt_cmpR op_gt (pe_ix ix_list (pv 0) pe_int (fun _ _ => rfl)) pe_int (nomark _))
 (pss_cons (ps_set (i := 2) nd rfl (Or.inl rfl) (pe_op op_mod (pe_ix ix_list (pv 0) pe_int (fun _ _ => rfl)) (pv 1)))
 (pss_cons (ps_asg (pe_op op_fdivW (pe_ix ix_list (pv 0) pe_int (fun _ _ => rfl)) (pv 1)) (pg_sub (pv 0) pe_int set_list))
 (pss_one (ps_ret (pv 2)))))
 pss_nil)
 (pss_cons (ps_asg (pe_op op_add (pe_ix ix_list (pv 0) pe_int (fun _ _ => rfl)) pe_int) (pg_sub (pv 0) pe_int set_list))
 (pss_cons (ps_set (i := 3) nd rfl (Or.inl rfl) (pe_op op_mod (pe_op op_powX (pe_op op_add (pe_ix ix_list (pv 0) pe_int (fun _ _ => rfl)) (pe_op op_mulW pe_int (pe_ix ix_list (pv 0) pe_int (fun _ _ => rfl)))) pe_int) (pe_op op_add (pe_op op_powX pe_int pe_int) pe_int)))
 (pss_cons (ps_set (i := 3) nd rfl (Or.inl rfl) (pe_op op_mod (pe_op op_powX (pe_op op_add (pv 3) (pe_op op_mulW pe_int (pe_ix ix_list (pv 0) pe_int (fun _ _ => rfl)))) pe_int) (pe_op op_add (pe_op op_powX pe_int pe_int) pe_int)))
 (pss_one (ps_ret (pe_op op_mod (pe_op op_fdivW (pv 3) pe_int) (pv 1)))))))), ?_⟩
    rintro As μ Post ⟨l, s, n, rfl, hl, hn, hn2, hok, hc, hp⟩
    have z3 : ∀ (x y z : AV) (j : Int), 0 ≤ j → j.toNat < 3 → 0 ≤ j ∧ j.toNat < [x, y, z].length := fun _ _ _ _ h1 h2 => ⟨h1, h2⟩
    refine s_seq (s_if (b := decide (0 < s.a)) (et_test (ew_op (ew_op (ew_var rfl) ew_int (o_ixOz hl rfl)) ew_int o_B0)) (fun hb => ?_) (fun hb => ?_))
    · have ha : 0 < s.a := of_decide_eq_true hb
      refine s_seq (s_asg (ew_op (ew_op (ew_var rfl) ew_int (o_ixOz hl rfl)) (ew_var rfl) (o_mod hn)) ?_)
      refine s_seq (s_setLz (ew_op (ew_op (ew_var rfl) ew_int (o_ixOz hl rfl)) (ew_var rfl) (o_div ?_)) (ew_var rfl) ew_int hl (z3 _ _ _ _ (by decide) (by decide)) ?_)
      · exact wide_div hn (wide_le (by omega) hn2 (by decide +kernel : (10 ^ 100 : Int).natAbs < 2 ^ 400)) (by decide) (by decide)
      · refine s_ret (ew_var rfl) ⟨_, ?_, Sub.refl _⟩
        have e1 : drawn s n = s.a % n := by unfold drawn; rw [if_pos ha]
        have e2 : after s n = ⟨s.a / n, s.b, s.c⟩ := by unfold after; rw [if_pos ha]
        rw [e1, e2] at hp
        exact hp
    · have ha : ¬ 0 < s.a := of_decide_eq_false hb
      obtain ⟨b0, b1, c0, a0⟩ := hok
      have m1 : 0 ≤ mix1 s ∧ mix1 s ≤ 10 ^ 44 := by
        unfold mix1
        have h0 := Int.emod_nonneg ((s.b + 67867967 * (s.c + 1)) ^ 3) (show (10 ^ 43 + 57 : Int) ≠ 0 by decide)
        have h1 := Int.emod_lt_of_pos ((s.b + 67867967 * (s.c + 1)) ^ 3) (show (0 : Int) < 10 ^ 43 + 57 by decide)
        omega
      refine s_next ?_
      refine s_seq (s_setLz (ew_op (ew_op (ew_var rfl) ew_int (o_ixOz hl rfl)) ew_int o_I0) (ew_var rfl) ew_int hl (z3 _ _ _ _ (by decide) (by decide)) ?_)
      refine s_seq (s_asg (R := .i (mix1 s)) (ew_op (ew_op (ew_op (ew_op (ew_var rfl) ew_int (o_ixOz updM_same rfl)) (ew_op ew_int (ew_op (ew_var rfl) ew_int (o_ixOz updM_same rfl)) (o_mul ?_)) o_I0) ew_int (o_powz ?_)) (ew_op (ew_op ew_int ew_int (o_powz ?_)) ew_int o_I0) (o_mod ?_)) ?_)
      · exact wide_mul (a := 30) (b := 80) (by decide +kernel) (wide_le (by omega) (by omega : s.c + 1 ≤ 10 ^ 20) (by decide +kernel)) (by decide) (by decide) (by decide)
      · exact pow_ok (b := 200) (n := 3) (wide_le (by omega) (by omega : s.b + 67867967 * (s.c + 1) ≤ 10 ^ 43) (by decide +kernel)) (by decide) (by decide)
      · exact pow_ok (b := 4) (n := 43) (by decide +kernel) (by decide) (by decide)
      · decide +kernel
      · refine s_seq (s_asg (R := .i (mix2 s)) (ew_op (ew_op (ew_op (ew_var rfl) (ew_op ew_int (ew_op (ew_var rfl) ew_int (o_ixOz updM_same rfl)) (o_mul ?_)) o_I0) ew_int (o_powz ?_)) (ew_op (ew_op ew_int ew_int (o_powz ?_)) ew_int o_I0) (o_mod ?_)) ?_)
        · exact wide_mul (a := 30) (b := 80) (by decide +kernel) (wide_le (by omega) (by omega : s.c + 1 ≤ 10 ^ 20) (by decide +kernel)) (by decide) (by decide) (by decide)
        · exact pow_ok (b := 200) (n := 3) (wide_le (by omega) (by omega : mix1 s + 49979687 * (s.c + 1) ≤ 10 ^ 45) (by decide +kernel)) (by decide) (by decide)
        · exact pow_ok (b := 4) (n := 42) (by decide +kernel) (by decide) (by decide)
        · decide +kernel
        · refine s_ret (ew_op (ew_op (ew_var rfl) ew_int (o_div ?_)) (ew_var rfl) (o_mod hn)) ⟨_, ?_, Sub.refl _⟩
          · exact wide_div (b := 20) (by decide) (by decide +kernel) (by decide) (by decide)
          · have e1 : drawn s n = mix2 s / 786433 % n := by unfold drawn; rw [if_neg ha]
            have e2 : after s n = ⟨s.a, s.b, s.c + 1⟩ := by unfold after; rw [if_neg ha]
            rw [e1, e2] at hp
            exact hp

theorem ok__law_kiln (T : Txt K mg ad) : FnOk P w K mg base CX0 1 ad.f__law_kiln ad.fd__law_kiln ["script", "k"] (spP K SKiln) := by
  have nd := sc__law_kiln.nd
  refine fn_ok T.F__law_kiln sc__law_kiln (fun As μ Post h => ?_) (fun cdv A outer s H E hr => ?_)
  · obtain ⟨ns, k, rfl, _⟩ := h
    rfl
  · refine ⟨_, (pss_cons (ps_set (i := 2) nd rfl (Or.inl rfl) pe_int)
 (pss_cons (ps_if (pt_cmpR op_lt (pv 1) (pe_callB call_len_seq (by rfl) T.z_len PySem.boot_len (pa_cons (pv 0) pa_nil)) (nomark _))
 (pss_one (ps_set (i := 2) nd rfl (Or.inl rfl) (pe_ix ix_list (pv 0) (pv 1) (fun _ _ => rfl))))
 pss_nil)
 (pss_one (ps_ret (pe_lst (pa_cons (pe_callB (call_max2 rfl) (by rfl) T.z_max (by decide +kernel) (pa_cons pe_int (pa_cons (pe_op op_sub (pv 2) (pe_op op_powX pe_int pe_int)) pa_nil))) (pa_cons (pe_op op_add (pe_op op_add (pe_op op_mod (pv 2) (pe_op op_add (pe_op op_powX pe_int pe_int) pe_int)) (pe_op op_mulW pe_int (pv 1))) pe_int) (pa_cons pe_int pa_nil)))))))), ?_⟩
    rintro As μ Post ⟨ns, k, rfl, hn, hk, hp⟩
    have pw : ∀ n : Nat, n ≤ 100 → CPowX 10 (n : Int) := fun n h => pow_ok (b := 4) (by decide +kernel) (by decide) (by omega)
    refine s_seq (s_asg ew_int ?_)
    refine s_seqM (fun ρ' μ' => ρ' = [some (.d (.list (ns.map .int))), some (.i (k : Int)), some (.i (ns.getD k 0))] ∧ μ' = μ) (s_if (b := decide ((k : Int) < (ns.map PyData.int).length)) (et_test (ew_op (ew_var rfl) (ew_cb (ea_cons (ew_var rfl) ea_nil) n_lenL) o_B0)) (fun hb => ?_) (fun hb => ?_)) ?_
    · have h := of_decide_eq_true hb
      rw [List.length_map] at h
      have h2 : k < ns.length := by omega
      refine s_asg (ew_op (ew_var rfl) (ew_var rfl) (o_ixL (d := .int ns[k]) ?_)) ⟨?_, rfl⟩
      · rw [List.getElem?_map, List.getElem?_eq_getElem h2]
        rfl
      · have : ns.getD k 0 = ns[k] := by simp [h2]
        rw [this]
        rfl
    · have h := of_decide_eq_false hb
      rw [List.length_map] at h
      refine s_next ⟨?_, rfl⟩
      have : ns.getD k 0 = 0 := by
        rw [List.getD_eq_getElem?_getD, List.getElem?_eq_none (by omega)]
        rfl
      rw [this]
      rfl
    · rintro ρ' μ' ⟨rfl, rfl⟩
      refine s_retOwn (Rs := [.i (kil ns k).a, .i (kil ns k).b, .i (kil ns k).c]) (ea_cons (ew_isI (ew_cb (ea_cons ew_int (ea_cons (ew_op (ew_var rfl) (ew_op ew_int ew_int (o_powz (pw 18 (by decide)))) o_I0) ea_nil)) n_max2) rfl) (ea_cons (ew_isI (ew_op (ew_op (ew_op (ew_var rfl) (ew_op (ew_op ew_int ew_int (o_powz (pw 40 (by decide)))) ew_int o_I0) (o_mod (by decide +kernel))) (ew_op ew_int (ew_var rfl) (o_mul ?_)) o_I0) ew_int o_I0) rfl) (ea_cons ew_int ea_nil))) (Nat.le_of_ble_eq_true rfl) (fun l hl => ⟨_, hp l hl, Sub.refl _⟩)
      exact wide_mul (a := 20) (b := 10) (by decide +kernel) (wide_le (by omega) (by omega : (k : Int) ≤ 100) (by decide +kernel)) (by decide) (by decide) (by decide)

theorem ok__law_cut (T : Txt K mg ad) : FnOk P w K mg base CX0 1 ad.f__law_cut ad.fd__law_cut ["taken_here", "left_here"] (spP K SCut) := by
  have nd := sc__law_cut.nd
  refine fn_ok T.F__law_cut sc__law_cut (fun As μ Post h => ?_) (fun cdv A outer s H E hr => ?_)
  · obtain ⟨t, l, rfl, _⟩ := h
    rfl
  · have hu := hr.un
    have hu64 : A.units + 3 + 64 < cLine := by
      have : A.units + 3 + 200 < cLine := by simpa using hu
      omega
    have hu65 : A.units + 3 + 65 < cLine := by
      have : A.units + 3 + 200 < cLine := by simpa using hu
      omega
    refine ⟨_, (pss_cons (ps_while PassesOwn.never (PW.pt (pw_and (pt_cmpR (op_neD hu64) (pv 1) (pe_tup pa_nil) (nomark _)) (pw_and (pt_cmpR (op_eqD hu64) (pe_ix ix_tup (pv 1) pe_int (fun _ _ => rfl)) (pe_tup (pa_cons pe_str (pa_cons (pe_op op_sub (pv 0) pe_int) pa_nil))) (nomark _)) (pw_and1 (pt_cmpR (op_notInU hu65) (pe_ix ix_tup (pv 1) pe_int (fun _ _ => rfl)) (pe_slice sl_tupA (pv 1) (po_some pe_int) po_none) (by with_unfolding_all rfl))))))
 (pss_one (ps_par (i := 0) (j := 1) rfl nd rfl rfl (by decide) rfl rfl (pa_cons (pe_op op_sub (pv 0) pe_int) (pa_cons (pe_slice sl_tupA (pv 1) (po_some pe_int) po_none) pa_nil)) rfl)))
 (pss_one (ps_ret (pe_tup (pa_cons (pv 0) (pa_cons (pv 1) pa_nil)))))), ?_⟩
    rintro As μ Post ⟨t, l, rfl, hn, hp⟩
    refine s_seqM (fun ρ' μ' => ρ' = [some (.i (cut t l).1), some (.d (.tuple (srcsD (cut t l).2)))] ∧ μ' = μ) (s_while (fun m ρ' μ' => ∃ (u : Int) (r : List Src), m = r.length ∧ ρ' = [some (.i u), some (.d (.tuple (srcsD r)))] ∧ μ' = μ ∧ cut u r = cut t l ∧ r.length ≤ 1000) l.length ⟨t, l, rfl, rfl, rfl, rfl, hn⟩ ?_) ?_
    · rintro m ρ' μ' ⟨u, r, rfl, rfl, rfl, hc, hr1⟩
      have hne : ∀ r : List Src, EvT K (tTest (tOp (rNeD K) (tVar 1) (tTup tNil))) [some (.i u), some (.d (.tuple (srcsD r)))] μ' (!decide (r = [])) μ' := fun r => by
        have := eqv_srcs r []
        exact et_test (ew_isD (ew_op (ew_var rfl) (ew_tup (ds := []) ea_nil (by decide)) (o_neD (shaped_srcs r) (shaped_srcs []))) (by rw [← this]; rfl))
      cases r with
      | nil =>
        refine ⟨false, μ', et_andF (hne []), nofun, fun _ => ⟨?_, rfl⟩⟩
        rw [← hc]
        rfl
      | cons x r =>
        have h0 : EvW K (tOp (rIxT K) (tVar 1) (tC (.int 0))) [some (.i u), some (.d (.tuple (srcsD (x :: r))))] μ' (.d x.d) μ' := ew_op (ew_var rfl) ew_int (o_ixTz rfl)
        have hd : cutD (srcsD (x :: r)) (some 1) none = srcsD r := cut_from (srcsD (x :: r)) (n := 1) (by unfold srcsD; simp)
        have h1 : EvW K (tSl (rSlA K) (tVar 1) (tPart (tC (.int 1))) tNoPart) [some (.i u), some (.d (.tuple (srcsD (x :: r))))] μ' (.d (.tuple (srcsD r))) μ' := by
          have := ew_slT (K := K) (te := tVar 1) (ρ := [some (.i u), some (.d (.tuple (srcsD (x :: r))))]) (μ := μ') (ew_var rfl) (eo_some ew_int) eo_none (lo := some 1) (hi := none) (ds := srcsD (x :: r))
          rw [hd] at this
          exact this
        have h2 : EvW K (tTup (tCons (tC (.str sIn)) (tCons (tOp (rI0 fun i j => .int (i - j)) (tVar 0) (tC (.int 1))) tNil))) [some (.i u), some (.d (.tuple (srcsD (x :: r))))] μ' (.d (Src.inp (u - 1)).d) μ' :=
          ew_tup (ds := [.str sIn, .int (u - 1)]) (ea_cons ew_str (ea_cons (ew_op (ew_var rfl) ew_int o_I0) ea_nil)) (by simp)
        have ht : EvT K _ [some (.i u), some (.d (.tuple (srcsD (x :: r))))] μ' (decide (x = .inp (u - 1) ∧ x ∉ r)) μ' := et_is (et_andT (hne (x :: r)) (et_and (et_test (ew_op h0 h2 (o_eqD (shaped_src _) (shaped_src _)))) fun _ => et_test (ew_op h0 h1 (o_notInU (shaped_src _) (shaped_srcs _))))) (by
          rw [eqv_src, any_src]
          by_cases a : x = .inp (u - 1) <;> by_cases b : x ∈ r <;> simp [a, b])
        refine ⟨_, μ', ht, fun hb => ?_, fun hb => ⟨?_, rfl⟩⟩
        · have hb := of_decide_eq_true hb
          refine s_par (ea_cons (ew_op (ew_var rfl) ew_int o_I0) (ea_cons h1 ea_nil)) ⟨r.length, Nat.lt_succ_self _, u - 1, r, rfl, rfl, rfl, ?_, Nat.le_of_succ_le hr1⟩
          rw [← hc]
          show _ = (if x = .inp (u - 1) ∧ x ∉ r then cut (u - 1) r else (u, x :: r))
          rw [if_pos hb]
        · have hb := of_decide_eq_false hb
          have : cut u (x :: r) = (u, x :: r) := by
            show (if x = .inp (u - 1) ∧ x ∉ r then cut (u - 1) r else (u, x :: r)) = _
            rw [if_neg hb]
          rw [← hc, this]
    · rintro ρ' μ' ⟨rfl, rfl⟩
      refine s_ret (ew_tup (ds := [.int (cut t l).1, .tuple (srcsD (cut t l).2)]) (ea_cons (ew_var rfl) (ea_cons (ew_var rfl) ea_nil)) (by simp)) ⟨_, hp, Sub.refl _⟩

theorem ew_scoop {ρ : AS} {μ0 : AM} {l : Addr} {s : Kl} {n : Int} {te : TE} {E : XK} (h0 : ρ[0]? = some (some (.r l))) (h : EvW K te ρ (updM μ0 l (kO s)) (.i n) (updM μ0 l (kO s))) (hn : 0 < n ∧ n ≤ 10 ^ 100) (hs : s.ok) (hc : s.c < 10 ^ 20) :
    EvW K (tCall (spP K SScoop) [] E (tCons (tVar 0) (tCons te tNil))) ρ (updM μ0 l (kO s)) (.i (drawn s n)) (updM μ0 l (kO (after s n))) :=
  ew_fn (ea_cons (ew_var h0) (ea_cons h ea_nil)) ⟨l, s, n, rfl, updM_same, hn.1, hn.2, hs, hc, rfl, updM_updM⟩
/-- the draw of one of three -/
theorem ew_draw3 {ρ : AS} {μ0 : AM} {l : Addr} {s : Kl} {m z : Int} {tm tz : TE} {E1 E2 E3 : XK} (h0 : ρ[0]? = some (some (.r l))) (hm : ∀ μ, EvW K tm ρ μ (.i (m + 1)) μ) (hz : ∀ μ, EvW K tz ρ μ (.i z) μ) (hm1 : 3 ≤ m ∧ m ≤ 100) (hs : s.ok) (hc : s.c < 10 ^ 19 + 1000) :
    EvW K (tOp (rIxL K) (tLst (tCons (tCall (spP K SScoop) [] E1 (tCons (tVar 0) (tCons (tC (.int 4)) tNil))) (tCons (tCall (spP K SScoop) [] E2 (tCons (tVar 0) (tCons tm tNil))) (tCons tz tNil)))) (tCall (spP K SScoop) [] E3 (tCons (tVar 0) (tCons (tC (.int 3)) tNil)))) ρ (updM μ0 l (kO s)) (.i (draw3 s m z).1) (updM μ0 l (kO (draw3 s m z).2)) := by
  have g1 := grow1 (n := 4) hs (by omega)
  have g2 := grow1 (n := m + 1) g1.ok (by omega)
  have c1 := g1.c
  have c2 := g2.c
  refine ew_op (ew_lst (ds := [.int _, .int _, .int _]) (ea_cons (ew_scoop h0 ew_int (by omega) hs (by omega)) (ea_cons (ew_scoop h0 (hm _) (by omega) g1.ok (by omega)) (ea_cons (hz _) ea_nil))) (by simp)) (ew_scoop h0 ew_int (by omega) g2.ok (by omega)) ?_
  have d3 := drawn_lo (after (after s 4) (m + 1)) (n := 3) (by omega)
  exact o_ixLz (get3 d3) d3.1

end
end K15

set_option Elab.async false
set_option linter.all false
set_option maxRecDepth 100000
set_option maxHeartbeats 2000000
namespace K15
open PySem PySem.Spec PyProof.Rows L2 Lw

/-! effects that a law makes -/
/-- _law_made(kiln, most) -/
def SMade : Spc := fun As μ Post => ∃ (l : Addr) (s : Kl) (m : Int), As = [.r l, .i m] ∧ μ l = some (kO s) ∧ 3 ≤ m ∧ m ≤ 100 ∧ s.ok ∧ s.c < 10 ^ 19 ∧ Post (.d (.tuple [.int (made s m).t, .tuple (srcsD (made s m).l)])) (updM μ l (kO (made s m).s))

section
variable {P : Program} {w : World} {K : Fr} {mg : Str → Option Value} {base : Heap} {ad : Ad}

theorem ok__law_made (T : Txt K mg ad) : FnOk P w K mg base CX0 2 ad.f__law_made ad.fd__law_made ["kiln", "most"] (spP K SMade) := by
  have nd := sc__law_made.nd
  refine fn_ok T.F__law_made sc__law_made (fun As μ Post h => ?_) (fun cdv A outer s H E hr => ?_)
  · obtain ⟨l, s, m, rfl, _⟩ := h
    rfl
  · refine ⟨_, (pss_cons (ps_set (i := 2) nd rfl (Or.inl rfl) (pe_ix ix_list (pe_lst (pa_cons (pe_call (ok__law_scoop T) (hr.mono (by decide)) rfl T.mg__law_scoop T.k__law_scoop T.b__law_scoop .nil pass0 (pa_cons (pv 0) (pa_cons pe_int pa_nil))) (pa_cons (pe_call (ok__law_scoop T) (hr.mono (by decide)) rfl T.mg__law_scoop T.k__law_scoop T.b__law_scoop .nil pass0 (pa_cons (pv 0) (pa_cons (pe_op op_add (pv 1) pe_int) pa_nil))) (pa_cons (pv 1) pa_nil)))) (pe_call (ok__law_scoop T) (hr.mono (by decide)) rfl T.mg__law_scoop T.k__law_scoop T.b__law_scoop .nil pass0 (pa_cons (pv 0) (pa_cons pe_int pa_nil))) (fun _ _ => rfl)))
 (pss_cons (ps_par (i := 3) (j := 4) rfl nd rfl rfl (by decide) rfl rfl (pa_cons (pe_lst pa_nil) (pa_cons (pe_call (ok__law_scoop T) (hr.mono (by decide)) rfl T.mg__law_scoop T.k__law_scoop T.b__law_scoop .nil pass0 (pa_cons (pv 0) (pa_cons pe_int pa_nil))) pa_nil)) rfl)
 (pss_cons (ps_if (pt_cmpR op_eq (pv 4) pe_int (nomark _))
 (pss_one (ps_setLc (i := 3) (own := [("place", 7)]) (by rfl) nd rfl rfl (sw_true rfl rfl rfl (by decide +kernel)) (pi_range3 rfl T.z_range (pa_cons (pe_op op_sub (pv 2) pe_int) (pa_cons (pe_un un_neg pe_int) (pa_cons (pe_un un_neg pe_int) pa_nil)))) (blkOk_by (N := ["kiln", "most", "taken_here", "found", "way", "many", "turn", "place"]) (sc := defScope s__law_made) (by decide +kernel)) (fun _ _ _ _ _ => (pg_name (i := 7) nd rfl (Or.inl rfl))) (fun _ _ _ _ _ => pts_nil) (fun _ _ _ _ _ => (pe_tup (pa_cons pe_str (pa_cons (pv 7) pa_nil))))))
 pss_nil)
 (pss_cons (ps_set (i := 5) nd rfl (Or.inl rfl) (pe_ix ix_list (pe_lst (pa_cons (pe_call (ok__law_scoop T) (hr.mono (by decide)) rfl T.mg__law_scoop T.k__law_scoop T.b__law_scoop .nil pass0 (pa_cons (pv 0) (pa_cons pe_int pa_nil))) (pa_cons (pe_call (ok__law_scoop T) (hr.mono (by decide)) rfl T.mg__law_scoop T.k__law_scoop T.b__law_scoop .nil pass0 (pa_cons (pv 0) (pa_cons (pe_op op_add (pv 1) pe_int) pa_nil))) (pa_cons (pv 2) pa_nil)))) (pe_call (ok__law_scoop T) (hr.mono (by decide)) rfl T.mg__law_scoop T.k__law_scoop T.b__law_scoop .nil pass0 (pa_cons (pv 0) (pa_cons pe_int pa_nil))) (fun _ _ => rfl)))
 (pss_cons (ps_for PassesOwn.never rfl (pi_range1 rfl T.z_range (pa_cons (pe_callB (call_min2 rfl) (by rfl) T.z_min (by decide +kernel) (pa_cons (pv 5) (pa_cons (pe_op op_sub (pv 1) (pe_callB call_len_seq (by rfl) T.z_len PySem.boot_len (pa_cons (pv 3) pa_nil))) pa_nil))) pa_nil)) (pg_name (i := 6) nd rfl (Or.inl rfl))
 (pss_one (ps_if (PW.pt (pw_or (pt_cmpR op_eq (pv 2) pe_int (nomark _)) (pw_or1 (pt_cmpR op_eq (pe_call (ok__law_scoop T) (hr.mono (by decide)) rfl T.mg__law_scoop T.k__law_scoop T.b__law_scoop .nil pass0 (pa_cons (pv 0) (pa_cons pe_int pa_nil))) pe_int (nomark _)))))
 (pss_one (ps_expr (pe_bm PySem.F.plainAttrs_list PySem.F.slot_list_append PySem.F.type_list_append mt_append (pv 3) (pa_cons (pe_tup (pa_cons pe_str (pa_cons (pe_ix ix_list (pe_lst (pa_cons (pe_call (ok__law_scoop T) (hr.mono (by decide)) rfl T.mg__law_scoop T.k__law_scoop T.b__law_scoop .nil pass0 (pa_cons (pv 0) (pa_cons pe_int pa_nil))) (pa_cons (pe_op op_sub (pe_call (ok__law_scoop T) (hr.mono (by decide)) rfl T.mg__law_scoop T.k__law_scoop T.b__law_scoop .nil pass0 (pa_cons (pv 0) (pa_cons (pe_op op_add (pe_op op_mulW pe_int (pe_op op_powX pe_int pe_int)) pe_int) pa_nil))) (pe_op op_powX pe_int pe_int)) pa_nil))) (pe_op op_mod (pv 4) pe_int) (fun _ _ => rfl)) pa_nil))) pa_nil))))
 (pss_one (ps_expr (pe_bm PySem.F.plainAttrs_list PySem.F.slot_list_append PySem.F.type_list_append mt_append (pv 3) (pa_cons (pe_tup (pa_cons pe_str (pa_cons (pe_ix ix_list (pe_lst (pa_cons (pe_op op_mod (pv 6) (pv 2)) (pa_cons (pe_call (ok__law_scoop T) (hr.mono (by decide)) rfl T.mg__law_scoop T.k__law_scoop T.b__law_scoop .nil pass0 (pa_cons (pv 0) (pa_cons (pv 2) pa_nil))) pa_nil))) (pe_callTy call_int1 (by rfl) T.z_int (by decide +kernel) (pa_cons (pe_cmpR op_gt (pv 4) pe_int (nomark _)) pa_nil)) (fun _ _ => rfl)) pa_nil))) pa_nil)))))))
 (pss_cons (ps_if (pt_cmpR op_eq (pv 4) pe_int (nomark _))
 (pss_one (ps_set (i := 3) nd rfl (Or.inl rfl) (pe_revL (pv 3))))
 pss_nil)
 (pss_one (ps_ret (pe_tup (pa_cons (pv 2) (pa_cons (pe_callTy call_tuple_of (by rfl) T.z_tuple (by decide +kernel) (pa_cons (pv 3) pa_nil)) pa_nil))))))))))), ?_⟩
    rintro As μ Post ⟨l, s, m, rfl, hl, hm, hm2, hs, hc, hp⟩
    have a_ok := draw3_ok (s := s) (m := m) (z := m) hs hm ⟨by omega, by omega⟩
    generalize ha : draw3 s m m = a at a_ok
    have ac := a_ok.2.c
    have w_lo := drawn_lo a.2 (n := 5) (by omega)
    have w_ok := grow1 (n := 5) a_ok.2.ok (by omega)
    have wc := w_ok.c
    have b_ok := draw3_ok (s := after a.2 5) (m := m) (z := a.1) w_ok.ok hm a_ok.1
    generalize hb : draw3 (after a.2 5) m a.1 = b at b_ok
    have bc := b_ok.2.c
    generalize hw : drawn a.2 5 = way at w_lo
    have h10 : CPowX 10 30 := pow_ok (b := 4) (n := 30) (by decide +kernel) (by decide) (by decide)
    have hmul : CMulW 2 (10 ^ 30) := wide_mul (a := 2) (b := 100) (by decide +kernel) (by decide +kernel) (by decide) (by decide) (by decide)
    have st1 := ew_draw3 (K := K) (ρ := [some (.r l), some (.i m), none, none, none, none, none, none]) (μ0 := μ) (s := s) (m := m) (z := m) (tm := tOp (rI0 fun i j => .int (i + j)) (tVar 1) (tC (.int 1))) (tz := tVar 1) (E1 := E0) (E2 := E0) (E3 := E0) rfl (fun μ => ew_op (ew_var rfl) ew_int o_I0) (fun μ => ew_var rfl) ⟨hm, hm2⟩ hs (by omega)
    rw [updM_self hl, ha] at st1
    refine s_seq (s_asg st1 ?_)
    -- found, way = [], ..
    refine s_seqM (fun ρ' μ' => ∃ lf, μ lf = none ∧ l ≠ lf ∧ ρ' = [some (.r l), some (.i m), some (.i a.1), some (.r lf), some (.i way), none, none, none] ∧ μ' = updM (updM μ lf (.lst [])) l (kO (after a.2 5))) (s_parOwn (R := .i way) (μ1 := updM μ l (kO (after a.2 5))) (fun lf hlf => ?_) (fun lf hlf => ?_)) ?_
    · have hne : l ≠ lf := fun e => by rw [← e, updM_same] at hlf; cases hlf
      rw [updM_comm hne, updM_comm hne, ← hw]
      exact ew_scoop rfl ew_int (by omega) a_ok.2.ok (by omega)
    · have hne : l ≠ lf := fun e => by rw [← e, updM_same] at hlf; cases hlf
      rw [updM_ne hne.symm] at hlf
      exact ⟨lf, hlf, hne, rfl, updM_comm hne⟩
    rintro ρ' μ' ⟨lf, hlf, hne, rfl, rfl⟩
    -- if way == 0: found = ..
    refine s_seqM (fun ρ' μ' => ∃ (μ0 : AM) (lf : Addr), Sub μ μ0 ∧ μ lf = none ∧ l ≠ lf ∧ ρ' = [some (.r l), some (.i m), some (.i a.1), some (.r lf), some (.i way), none, none, none] ∧ μ' = updM (updM μ0 lf (.lst ((srcsD (if way = 0 then downs a.1 else [])).map .d))) l (kO (after a.2 5))) (s_if (b := decide (way = 0)) (et_test (ew_op (ew_var rfl) ew_int o_eqI)) (fun h => ?_) (fun h => ?_)) ?_
    · have h := of_decide_eq_true h
      have e0 : a.1 - 1 - (-1) = a.1 := by omega
      refine s_lcOwn (Mu := fun _ => updM (updM μ lf (.lst [])) l (kO (after a.2 5))) (Ac := fun i => (List.range i).map fun (j : Nat) => (Src.inp (a.1 - 1 - (j : Int))).d) (it_down (m := a.1 - 1) (n := -1) (ea_cons (ew_op (ew_var rfl) ew_int o_I0) (ea_cons (ew_un ew_int o_neg) (ea_cons (ew_un ew_int o_neg) ea_nil))) (by omega)) rfl (fun i x hx => ?_) ?_ (fun l2 hl2 => ?_)
      · have hlt : i < (a.1 - 1 - (-1)).toNat := by
          have := (List.getElem?_eq_some_iff.mp hx).1
          simpa using this
        rw [List.getElem?_map, List.getElem?_range hlt] at hx
        have ex := Option.some.inj hx
        refine ⟨_, true, _, gc_name (by simp), et_nil, fun _ => ⟨_, ew_tup (ds := [.str sIn, .int (a.1 - 1 + (i : Int) * (-1))]) (ea_cons ew_str (ea_cons (ew_var (by rw [← ex]; rfl)) ea_nil)) (by simp), ?_⟩, nofun⟩
        rw [List.range_succ, List.map_append]
        have : a.1 - 1 + (i : Int) * (-1) = a.1 - 1 - (i : Int) := by omega
        rw [this]
        rfl
      · simp only [List.length_map, List.length_range]
        omega
      · have hl3 : μ l2 = none ∧ l ≠ l2 ∧ l2 ≠ lf := by
          have h1 : l ≠ l2 := fun e => by rw [← e, updM_same] at hl2; cases hl2
          rw [updM_ne h1.symm] at hl2
          have h2 : l2 ≠ lf := fun e => by rw [e, updM_same] at hl2; cases hl2
          rw [updM_ne h2] at hl2
          exact ⟨hl2, h1, h2⟩
        refine ⟨updM μ lf (.lst []), l2, Sub.upd hlf, hl3.1, hl3.2.1, rfl, ?_⟩
        rw [if_pos h, updM_comm hl3.2.1]
        congr 3
        unfold srcsD downs
        simp only [List.length_map, List.length_range, e0, List.map_map]
        rfl
    · have h := of_decide_eq_false h
      refine s_next ⟨μ, lf, Sub.refl _, hlf, hne, rfl, ?_⟩
      rw [if_neg h]
      rfl
    rintro ρ' μ' ⟨μ0, lf, hsub, hlf, hne, rfl, rfl⟩
    have f0_len : (if way = 0 then downs a.1 else []).length ≤ 100 := by
      split
      · unfold downs
        simp only [List.length_map, List.length_range]
        omega
      · simp
    generalize hf : (if way = 0 then downs a.1 else []) = f0 at f0_len
    -- many
    have st2 := ew_draw3 (K := K) (ρ := [some (.r l), some (.i m), some (.i a.1), some (.r lf), some (.i way), none, none, none]) (μ0 := updM μ0 lf (.lst ((srcsD f0).map .d))) (s := after a.2 5) (m := m) (z := a.1) (tm := tOp (rI0 fun i j => .int (i + j)) (tVar 1) (tC (.int 1))) (tz := tVar 2) (E1 := E0) (E2 := E0) (E3 := E0) rfl (fun μ => ew_op (ew_var rfl) ew_int o_I0) (fun μ => ew_var rfl) ⟨hm, hm2⟩ w_ok.ok (by omega)
    rw [hb] at st2
    refine s_seq (s_asg st2 ?_)
    -- the loop
    have st_ok : ∀ n : Nat, (steps a.1 way n (f0, b.2)).1.length = f0.length + n ∧ Grows b.2 (steps a.1 way n (f0, b.2)).2 (3 * n) := steps_ok (p := (f0, b.2)) b_ok.2.ok a_ok.1.1
    generalize hn : (min b.1 (m - (f0.length : Int))).toNat = n
    have n100 : n ≤ 100 := by omega
    refine s_seqM (fun ρ' μ' => ∃ v6, ρ' = [some (.r l), some (.i m), some (.i a.1), some (.r lf), some (.i way), some (.i b.1), v6, none] ∧ μ' = updM (updM μ0 lf (.lst ((srcsD (steps a.1 way n (f0, b.2)).1).map .d))) l (kO (steps a.1 way n (f0, b.2)).2))
      (s_for (it_r1 (n := min b.1 (m - (f0.length : Int))) (ea_cons (ew_cb (ea_cons (ew_var rfl) (ea_cons (ew_op (ew_var rfl) (ew_isI (ew_cb (ea_cons (ew_var rfl) ea_nil) (n_lenO (ys := (srcsD f0).map .d) ?_)) ?_) o_I0) ea_nil)) n_min2) ea_nil) (by omega) (by omega))
        (fun i ρ' μ' => ∃ v6, ρ' = [some (.r l), some (.i m), some (.i a.1), some (.r lf), some (.i way), some (.i b.1), v6, none] ∧ μ' = updM (updM μ0 lf (.lst ((srcsD (steps a.1 way i (f0, b.2)).1).map .d))) l (kO (steps a.1 way i (f0, b.2)).2)) ⟨none, rfl, rfl⟩ ?_ ?_) ?_
    · rw [updM_ne hne.symm, updM_same]
    · simp [srcsD_len]
    · rintro i x ρ' μ' hx ⟨v6, rfl, rfl⟩
      have hlt : i < n := by
        have := (List.getElem?_eq_some_iff.mp hx).1
        simpa [hn] using this
      rw [hn, List.getElem?_map, List.getElem?_range hlt] at hx
      have ex : x = .i (0 + (i : Int)) := (Option.some.inj hx).symm
      rw [Int.zero_add] at ex
      subst ex
      refine ⟨_, gw_name, ?_⟩
      have si := st_ok i
      have hst : steps a.1 way (i + 1) (f0, b.2) = step a.1 way (i : Int) (steps a.1 way i (f0, b.2)) := rfl
      rw [hst]
      generalize steps a.1 way i (f0, b.2) = p at si
      have pc := si.2.c
      have p4 := grow1 (n := 4) si.2.ok (by omega)
      have p4c := p4.c
      have t0 := a_ok.1
      have app : ∀ (X Y : AO) (s' : Kl), updM (updM (updM μ0 lf X) l (kO s')) lf Y = updM (updM μ0 lf Y) l (kO s') := fun X Y s' => by
        rw [updM_comm hne, updM_updM, updM_comm hne.symm]
      have hlf2 : ∀ (X : AO) (s' : Kl), (updM (updM μ0 lf X) l (kO s')) lf = some X := fun X s' => by rw [updM_ne hne.symm, updM_same]
      have hsnoc : ∀ (f : List Src) (s : Src), (srcsD f).map AV.d ++ [.d s.d] = (srcsD (f ++ [s])).map AV.d := fun f s => by
        unfold srcsD
        simp
      refine s_if (b := decide (a.1 = 0 ∨ drawn p.2 4 = 0)) (μ1 := updM (updM μ0 lf (.lst ((srcsD p.1).map .d))) l (kO (if a.1 = 0 then p.2 else after p.2 4))) ?_ (fun h => ?_) (fun h => ?_)
      · by_cases h0 : a.1 = 0
        · rw [if_pos h0]
          refine et_is (et_orT (et_is (et_test (ew_op (ew_var rfl) ew_int o_eqI)) (decide_eq_true h0))) (by simp [h0])
        · rw [if_neg h0]
          refine et_is (et_orF (et_is (et_test (ew_op (ew_var rfl) ew_int o_eqI)) (decide_eq_false h0)) (et_test (ew_op (ew_scoop rfl ew_int (by omega) si.2.ok (by omega)) ew_int o_eqI))) (by simp [h0])
      · have h := of_decide_eq_true h
        have s_ok : Grows p.2 (if a.1 = 0 then p.2 else after p.2 4) 1 := by
          split
          · exact ⟨si.2.ok, by omega⟩
          · exact p4
        have e_st : step a.1 way (i : Int) p = stepLit way p.1 (if a.1 = 0 then p.2 else after p.2 4) := by
          unfold step
          by_cases h0 : a.1 = 0
          · rw [if_pos h0, if_pos h0]
          · rw [if_neg h0, if_neg h0, if_pos (h.resolve_left h0)]
        generalize (if a.1 = 0 then p.2 else after p.2 4) = s2 at s_ok e_st
        have c2 := s_ok.c
        have g3 := grow1 (n := 3) s_ok.ok (by omega)
        have c3 := g3.c
        refine s_app (l := lf) (xs := (srcsD p.1).map .d) (R := .d (Src.lit (pick2 (drawn s2 3) (drawn (after s2 3) (2 * 10 ^ 30 + 1) - 10 ^ 30) (way % 2))).d) (ew_var rfl) (ew_tup (ds := [.str sLit, .int (pick2 (drawn s2 3) (drawn (after s2 3) (2 * 10 ^ 30 + 1) - 10 ^ 30) (way % 2))]) (ea_cons ew_str (ea_cons (ew_op (ew_lst (ds := [.int _, .int _]) (ea_cons (ew_scoop rfl ew_int (by omega) s_ok.ok (by omega)) (ea_cons (ew_op (ew_scoop (n := 2 * 10 ^ 30 + 1) rfl (ew_op (ew_op ew_int (ew_op ew_int ew_int (o_powz h10)) (o_mul hmul)) ew_int o_I0) (by decide) g3.ok (by omega)) (ew_op ew_int ew_int (o_powz h10)) o_I0) ea_nil)) (by simp)) (ew_op (ew_var rfl) ew_int (o_mod (by decide))) (o_ixLz (get2 (by omega)) (by omega))) ea_nil)) (by simp)) ⟨_, hlf2 _ _⟩ (hlf2 _ _) ?_ ⟨_, rfl, ?_⟩
        · rw [List.length_map, srcsD_len]
          omega
        · rw [app, hsnoc, e_st]
          rfl
      · have h := of_decide_eq_false h
        have h0 : a.1 ≠ 0 := fun e => h (.inl e)
        have h1 : drawn p.2 4 ≠ 0 := fun e => h (.inr e)
        rw [if_neg h0]
        have e_st : step a.1 way (i : Int) p = stepIn a.1 way (i : Int) p.1 (after p.2 4) := by
          unfold step
          rw [if_neg h0, if_neg h1]
        refine s_app (l := lf) (xs := (srcsD p.1).map .d) (R := .d (Src.inp (pick2 ((i : Int) % a.1) (drawn (after p.2 4) a.1) (if 2 < way then 1 else 0))).d) (ew_var rfl) (ew_tup (ds := [.str sIn, .int (pick2 ((i : Int) % a.1) (drawn (after p.2 4) a.1) (if 2 < way then 1 else 0))]) (ea_cons ew_str (ea_cons (ew_op (ew_lst (ds := [.int _, .int _]) (ea_cons (ew_op (ew_var rfl) (ew_var rfl) (o_mod (by omega))) (ea_cons (ew_scoop rfl (ew_var rfl) (by omega) p4.ok (by omega)) ea_nil)) (by simp)) (ew_isI (ew_cb (ea_cons (ew_op (ew_var rfl) ew_int o_B0) ea_nil) n_intB) ?_) (o_ixLz (get2 (by split <;> omega)) (by split <;> omega))) ea_nil)) (by simp)) ⟨_, hlf2 _ _⟩ (hlf2 _ _) ?_ ⟨_, rfl, ?_⟩
        · by_cases hw2 : 2 < way <;> simp [hw2]
        · rw [List.length_map, srcsD_len]
          omega
        · rw [app, hsnoc, e_st]
          rfl
    · rintro ρ' μ' ⟨v6, rfl, rfl⟩
      refine ⟨v6, rfl, ?_⟩
      simp only [List.length_map, List.length_range, hn]
    rintro ρ' μ' ⟨v6, rfl, rfl⟩
    have sn := st_ok n
    -- if way == 4: found = found[::-1]
    refine s_seqM (fun ρ' μ' => ∃ (μ3 : AM) (lf : Addr), Sub μ μ3 ∧ μ lf = none ∧ l ≠ lf ∧ ρ' = [some (.r l), some (.i m), some (.i a.1), some (.r lf), some (.i way), some (.i b.1), v6, none] ∧ μ' = updM (updM μ3 lf (.lst ((srcsD (if way = 4 then (steps a.1 way n (f0, b.2)).1.reverse else (steps a.1 way n (f0, b.2)).1)).map .d))) l (kO (steps a.1 way n (f0, b.2)).2)) (s_if (b := decide (way = 4)) (et_test (ew_op (ew_var rfl) ew_int o_eqI)) (fun h => ?_) (fun h => ?_)) ?_
    · have h := of_decide_eq_true h
      refine s_revOwn (l := lf) (ew_var rfl) (by rw [updM_ne hne.symm, updM_same]) (fun l2 hl2 => ?_)
      have hl3 : μ0 l2 = none ∧ l ≠ l2 ∧ l2 ≠ lf := by
        have h1 : l ≠ l2 := fun e => by rw [← e, updM_same] at hl2; cases hl2
        rw [updM_ne h1.symm] at hl2
        have h2 : l2 ≠ lf := fun e => by rw [e, updM_same] at hl2; cases hl2
        rw [updM_ne h2] at hl2
        exact ⟨hl2, h1, h2⟩
      have hm2 : μ l2 = none := by
        cases q : μ l2 with
        | none => rfl
        | some o => rw [hsub l2 o q] at hl3; cases hl3.1
      have hrev : ((srcsD (steps a.1 way n (f0, b.2)).1).map AV.d).reverse = (srcsD (steps a.1 way n (f0, b.2)).1.reverse).map AV.d := by
        unfold srcsD
        rw [List.map_reverse, List.map_reverse]
      refine ⟨_, l2, ?_, hm2, hl3.2.1, rfl, by rw [hrev, updM_comm hl3.2.1, if_pos h]⟩
      intro x o e
      rw [updM_ne (fun q => by rw [q, hlf] at e; cases e)]
      exact hsub x o e
    · have h := of_decide_eq_false h
      refine s_next ⟨μ0, lf, hsub, hlf, hne, rfl, ?_⟩
      rw [if_neg h]
    rintro ρ' μ' ⟨μ3, lf, hsub, hlf, hne, rfl, rfl⟩
    have em : made s m = ⟨a.1, if way = 4 then (steps a.1 way n (f0, b.2)).1.reverse else (steps a.1 way n (f0, b.2)).1, (steps a.1 way n (f0, b.2)).2⟩ := by
      unfold made
      simp only [ha, hw, hb, hf, hn]
    rw [em] at hp
    refine s_ret (ew_tup (ds := [.int a.1, .tuple (srcsD (if way = 4 then (steps a.1 way n (f0, b.2)).1.reverse else (steps a.1 way n (f0, b.2)).1))]) (ea_cons (ew_var rfl) (ea_cons (ew_cb (ea_cons (ew_var rfl) ea_nil) (n_tupO (l := lf) (by rw [updM_ne hne.symm, updM_same]))) ea_nil)) (by simp)) ⟨_, hp, ?_⟩
    intro x o e
    by_cases hx : x = l
    · subst hx
      rw [updM_same] at e ⊢
      exact e
    · rw [updM_ne hx] at e ⊢
      rw [updM_ne (fun q => by rw [q, hlf] at e; cases e)]
      exact hsub x o e

end
end K15

set_option Elab.async false
set_option linter.all false
set_option maxRecDepth 100000
set_option maxHeartbeats 4000000
/-! the law of effects that are put together: its stacks -/
namespace K15
open PySem PySem.Spec PyProof.Rows L2 Lw
def mvD (t : Int) (l : List Src) : PyData := .tuple [.int t, .tuple (srcsD l)]
def SPut : Spc := fun As μ Post => ∃ (t : Int) (l : List Src) (cs : List Int), As = [.i t, .d (.tuple (srcsD l)), .d (tupI cs)] ∧ 0 ≤ t ∧ t ≤ cs.length ∧ cs.length ≤ 1000 ∧ l.length ≤ 1000 ∧ l.all (srcOk t) = true ∧ Post (.d (tupI (put t l cs))) μ
def SApplied (C : Addr) : Spc := fun As μ Post => ∃ (c : Int × List Src) (cs : List Int), As = [effA C c, .d (tupI cs)] ∧ 0 ≤ c.1 ∧ c.1 ≤ cs.length ∧ c.2.length ≤ 1000 ∧ c.2.all (srcOk c.1) = true ∧ okS cs ∧ Post (.d (tupI (put c.1 c.2 cs))) μ
theorem ew_effT {K : Fr} {C : Addr} {ρ : AS} {μ μ1 : AM} {E : XK} {ta : TA} {t : Int} {l : List Src} (h : EvA K ta ρ μ [.i t, .d (.tuple (srcsD l))] μ1) (ok : okE t l) : EvW K (tMake C (spP K (SInit C)) [] E ta) ρ μ (effA C (cut t l)) μ1 := ew_eff (c := (t, l)) h ok
theorem ew_plus {K : Fr} {C : Addr} {ρ : AS} {μ μ1 μ2 : AM} {ta tb : TE} {a b : Int × List Src} (ha : EvW K ta ρ μ (effA C a) μ1) (hb : EvW K tb ρ μ1 (effA C b) μ2) (h1 : okE a.1 a.2) (h2 : okE b.1 b.2) (h3 : okE (plus a b).1 (plus a b).2) : EvW K (tOp (rBinA C (spP K (SAdd C))) ta tb) ρ μ (effA C (plus a b)) μ2 :=
  ew_op ha hb (o_bin ⟨a, b, rfl, h1, h2, h3, rfl, rfl⟩)
section
variable {P : Program} {w : World} {K : Fr} {mg : Str → Option Value} {base : Heap} {ad : Ad}
theorem ok__law_put (T : Txt K mg ad) : FnOk P w K mg base CX0 1 ad.f__law_put ad.fd__law_put ["taken_here", "left_here", "cells"] (spP K SPut) := by
  have nd := sc__law_put.nd
  refine fn_ok T.F__law_put sc__law_put (fun As μ Post h => ?_) (fun cdv A outer s H E hr => ?_)
  · obtain ⟨t, l, cs, rfl, _⟩ := h
    rfl
  · refine ⟨_, (pss_cons (ps_set (i := 3) nd rfl (Or.inr rfl) (pe_callB call_len_seq (by rfl) T.z_len PySem.boot_len (pa_cons (pv 2) pa_nil)))
 (pss_cons (ps_setLc (i := 4) (own := [("kind", 5), ("worth", 6)]) (by rfl) nd rfl rfl (sw_true rfl rfl rfl (by decide +kernel)) (pi_tup (pv 1)) (blkOk_by (N := ["taken_here", "left_here", "cells", "whole", "found", "kind", "worth"]) (sc := defScope s__law_put) (by decide +kernel)) (fun _ _ _ _ _ => (pg_tupK (K := K) (n := 2) rfl rfl (pgs_cons (pg_name (i := 5) nd rfl (Or.inl rfl)) (pgs_cons (pg_name (i := 6) nd rfl (Or.inl rfl)) pgs_nil)))) (fun _ _ _ _ _ => pts_nil) (fun _ _ _ _ _ => (pe_ifExp (pt_cmpR op_eq (pv 5) pe_str (nomark _)) (pe_ix (ix_tupK (K := K) rfl) (pv 2) (pe_op op_sub (pe_op op_sub (pv 3) pe_int) (pv 6)) (fun _ _ => rfl)) (pv 6))))
 (pss_one (ps_ret (pe_op op_catA (pe_slice sl_tupA (pv 2) po_none (po_some (pe_op op_sub (pv 3) (pv 0)))) (pe_callTy call_tuple_of (by rfl) T.z_tuple (by decide +kernel) (pa_cons (pv 4) pa_nil))))))), ?_⟩
    rintro As μ Post ⟨t, l, cs, rfl, t0, t1, c1, l1, lg, hp⟩
    refine s_seq (s_asg (R := .i (cs.length : Int)) (ew_isI (ew_cb (ea_cons (ew_var rfl) ea_nil) n_len) (by rw [List.length_map])) ?_)
    refine s_seq (s_lcM l (fun x => .d x.d) (fun x => .int (val cs x)) (it_map (it_t (tl := tVar 1) (ew_var rfl)) (by unfold srcsD; rw [List.map_map]; rfl)) (fun x hx => ?_) (by omega) (fun a ha => ?_))
    · rw [src_pair]
      refine ⟨_, gc_pair (by simp) (by simp), ew_seen rfl rfl (fun k e => ?_)⟩
      subst e
      have hk := srcOk_inp (ok_up (List.all_eq_true.mp lg _ hx) t1)
      exact ew_op (ew_var rfl) (ew_op (ew_op (ew_var rfl) ew_int o_I0) (ew_var rfl) o_I0) (o_ixTz (tupI_get hk) (by show 0 ≤ _ - k; omega))
    · have sl := ew_slT (K := K) (te := tVar 2) (ρ := [some (.i t), some (.d (.tuple (srcsD l))), some (.d (tupI cs)), some (.i (cs.length : Int)), some (.r a), none, none]) (μ := updM μ a (.lst ((l.map fun x => PyData.int (val cs x)).map .d))) (ds := cs.map .int) (lo := none) (hi := some ((cs.length - t.toNat : Nat) : Int)) (ew_var rfl) eo_none (eo_some (te := tOp (rI0 fun i j => .int (i - j)) (tVar 3) (tVar 0)) (ew_isI (ew_op (ew_var rfl) (ew_var rfl) o_I0) (by omega)))
      rw [cut_to _ (by rw [List.length_map]; omega)] at sl
      refine s_ret (ew_isD (ew_op sl (ew_cb (ea_cons (ew_var rfl) ea_nil) (n_tupO (ds := l.map fun x => PyData.int (val cs x)) updM_same)) (o_catU (by rw [List.length_take, List.length_map, List.length_map]; omega))) ?_) ⟨_, hp, Sub.upd ha⟩
      unfold tupI put
      rw [List.map_append, List.map_take, List.map_map]
      rfl
theorem ok__law_applied (T : Txt K mg ad) : FnOk P w K mg base CX0 6 ad.f__law_applied ad.fd__law_applied ["effect_here", "cells"] (spP K (SApplied ad.C_Effect)) := by
  have nd := sc__law_applied.nd
  refine fn_ok T.F__law_applied sc__law_applied (fun As μ Post h => ?_) (fun cdv A outer s H E hr => ?_)
  · obtain ⟨c, cs, rfl, _⟩ := h
    rfl
  · refine ⟨_, (pss_one (ps_ret (pe_inst T.h_Effect_call T.i_Effect_call T.fnI_Effect (ok_Effect_call T) T.b_Effect_call (hr.mono (by decide)) (pv 0) (pa_cons (pv 1) pa_nil)))), ?_⟩
    rintro As μ Post ⟨c, cs, rfl, t0, t1, l1, lg, ok, hp⟩
    exact s_ret (ew_inst (S := SCallE ad.C_Effect) (ew_var rfl) (ea_cons (ew_var rfl) ea_nil) ⟨c, cs, rfl, t0, t1, l1, lg, ok, rfl, rfl⟩) ⟨_, hp, Sub.refl _⟩
end
end K15

set_option Elab.async false
set_option linter.all false
set_option maxRecDepth 100000
set_option maxHeartbeats 4000000
namespace K15
open PySem PySem.Spec PyProof.Rows L2 Lw
def SRight : Spc := fun As μ Post => ∃ (p : Addr) (s : Kl) (m : Int), As = [.r p, .i m] ∧ μ p = some (kO s) ∧ 3 ≤ m ∧ m ≤ 30 ∧ s.ok ∧ s.c < 10 ^ 18 ∧ ∀ s' : Kl, s'.ok → s'.c ≤ s.c + 2000 → Post (.b true) (updM μ p (kO s'))
section
variable {P : Program} {w : World} {K : Fr} {mg : Str → Option Value} {base : Heap} {ad : Ad}
theorem ok__law_right (T : Txt K mg ad) : FnG P w K mg base 13 ad.f__law_right ad.fd__law_right ["kiln", "most"] (spP K SRight) := by
  have nd := sc__law_right.nd
  refine fnG_ok (k := 12) T.F__law_right sc__law_right (fun As μ Post h => ?_) (fun cdv A outer s H E hg hr => ?_)
  · obtain ⟨p, s, m, rfl, _⟩ := h
    rfl
  · have hu := hr.un
    have hu64 : A.units + 3 + 64 < cLine := by
      have : A.units + 3 + 200 < cLine := by simp at hu; omega
      omega
    have hu66 : A.units + 3 + 66 < cLine := by
      have : A.units + 3 + 200 < cLine := by simp at hu; omega
      omega
    refine ⟨_, (pss_cons (ps_setLc (i := 2) (own := [("turn", 17)]) (by rfl) nd rfl rfl (sw_true rfl rfl rfl (by decide +kernel)) (pi_range1 rfl T.z_range (pa_cons pe_int pa_nil)) (blkOk_by (N := ["kiln", "most", "parts", "one", "two", "three", "high", "cells", "due", "both", "whole", "later", "depth_here", "middle", "told", "still", "low", "turn", "part", "place"]) (sc := defScope s__law_right) (by decide +kernel)) (fun _ _ _ _ _ => (pg_name (i := 17) nd rfl (Or.inl rfl))) (fun _ _ _ _ _ => pts_nil) (fun _ _ _ _ _ => (pe_call (ok__law_made T) (hr.mono (by decide)) rfl T.mg__law_made T.k__law_made T.b__law_made .nil pass0 (pa_cons (pv 0) (pa_cons (pv 1) pa_nil)))))
 (pss_cons (ps_asg (pe_lc (own := [("part", 18)]) (by rfl) nd (pi_list (pv 2)) (blkOk_by (N := ["kiln", "most", "parts", "one", "two", "three", "high", "cells", "due", "both", "whole", "later", "depth_here", "middle", "told", "still", "low", "turn", "part", "place"]) (sc := defScope s__law_right) (by decide +kernel)) (fun _ _ _ _ _ => (pg_name (i := 18) nd rfl (Or.inl rfl))) (fun _ _ _ _ _ => pts_nil) (fun _ _ _ _ _ => (pe_make T.mk_Effect (ok_Effect_init T) (hr.mono (by decide)) rfl T.mgC_Effect T.b_Effect_init .nil pass0 (pa_cons (pe_ix (ix_tupK (K := K) rfl) (pv 18) pe_int (fun _ _ => rfl)) (pa_cons (pe_ix (ix_tupK (K := K) rfl) (pv 18) pe_int (fun _ _ => rfl)) pa_nil))))) (pg_lst rfl (pgs_cons (pg_name (i := 3) nd rfl (Or.inl rfl)) (pgs_cons (pg_name (i := 4) nd rfl (Or.inl rfl)) (pgs_cons (pg_name (i := 5) nd rfl (Or.inl rfl)) pgs_nil)))))
 (pss_cons (ps_set (i := 6) nd rfl (Or.inl rfl) (pe_op op_add (pe_op op_add (pe_op op_add (pe_ix ix_tup (pe_ix ix_list (pv 2) pe_int (fun _ _ => rfl)) pe_int (fun _ _ => rfl)) (pe_ix ix_tup (pe_ix ix_list (pv 2) pe_int (fun _ _ => rfl)) pe_int (fun _ _ => rfl))) (pe_ix ix_tup (pe_ix ix_list (pv 2) pe_int (fun _ _ => rfl)) pe_int (fun _ _ => rfl))) (pe_call (ok__law_scoop T) (hr.mono (by decide)) rfl T.mg__law_scoop T.k__law_scoop T.b__law_scoop .nil pass0 (pa_cons (pv 0) (pa_cons pe_int pa_nil)))))
 (pss_cons (ps_set (i := 7) nd rfl (Or.inl rfl) (pe_callTy call_tuple_of (by rfl) T.z_tuple (by decide +kernel) (pa_cons (pe_lc (own := [("place", 19)]) (by rfl) nd (pi_range1 rfl T.z_range (pa_cons (pe_callB (call_min2 rfl) (by rfl) T.z_min (by decide +kernel) (pa_cons pe_int (pa_cons (pv 6) pa_nil))) pa_nil)) (blkOk_by (N := ["kiln", "most", "parts", "one", "two", "three", "high", "cells", "due", "both", "whole", "later", "depth_here", "middle", "told", "still", "low", "turn", "part", "place"]) (sc := defScope s__law_right) (by decide +kernel)) (fun _ _ _ _ _ => (pg_name (i := 19) nd rfl (Or.inl rfl))) (fun _ _ _ _ _ => pts_nil) (fun _ _ _ _ _ => (pe_op op_add pe_int (pv 19)))) pa_nil)))
 (pss_cons (ps_set (i := 8) nd rfl (Or.inl rfl) (pe_call (ok__law_put T) (hr.mono (by decide)) rfl T.mg__law_put T.k__law_put T.b__law_put .nil pass0 (pa_cons (pe_ix ix_tup (pe_ix ix_list (pv 2) pe_int (fun _ _ => rfl)) pe_int (fun _ _ => rfl)) (pa_cons (pe_ix ix_tup (pe_ix ix_list (pv 2) pe_int (fun _ _ => rfl)) pe_int (fun _ _ => rfl)) (pa_cons (pv 7) pa_nil)))))
 (pss_cons (ps_if (PW.pt (pw_or (pt_cmpR op_ne (pe_callB (call_reprD hu66 hg) (by rfl) T.z_repr (by decide +kernel) (pa_cons (pe_inst T.h_Effect_call T.i_Effect_call T.fnI_Effect (ok_Effect_call T) T.b_Effect_call (hr.mono (by decide)) (pv 3) (pa_cons (pv 7) pa_nil)) pa_nil)) (pe_callB (call_reprD hu66 hg) (by rfl) T.z_repr (by decide +kernel) (pa_cons (pv 8) pa_nil)) (nomark _)) (pw_or1 (pt_cmpR op_ne (pe_callB (call_reprD hu66 hg) (by rfl) T.z_repr (by decide +kernel) (pa_cons (pe_inst T.h_Effect_call T.i_Effect_call T.fnI_Effect (ok_Effect_call T) T.b_Effect_call (hr.mono (by decide)) (pv 3) (pa_cons (pv 7) pa_nil)) pa_nil)) (pe_callB (call_reprD hu66 hg) (by rfl) T.z_repr (by decide +kernel) (pa_cons (pv 8) pa_nil)) (nomark _)))))
 (pss_one (ps_ret pe_bl))
 pss_nil)
 (pss_cons (ps_par (i := 9) (j := 10) rfl nd rfl rfl (by decide) rfl rfl (pa_cons (pe_op (op_binA (op := .Add) T.sf_Effect T.h_Effect_add T.i_Effect_add (ok_Effect_add T) T.b_Effect_add (hr.mono (by decide))) (pv 3) (pv 4)) (pa_cons (pe_op (op_binA (op := .Add) T.sf_Effect T.h_Effect_add T.i_Effect_add (ok_Effect_add T) T.b_Effect_add (hr.mono (by decide))) (pe_op (op_binA (op := .Add) T.sf_Effect T.h_Effect_add T.i_Effect_add (ok_Effect_add T) T.b_Effect_add (hr.mono (by decide))) (pv 3) (pv 4)) (pv 5)) pa_nil)) rfl)
 (pss_cons (ps_set (i := 11) nd rfl (Or.inl rfl) (pe_call (ok__law_put T) (hr.mono (by decide)) rfl T.mg__law_put T.k__law_put T.b__law_put .nil pass0 (pa_cons (pe_ix ix_tup (pe_ix ix_list (pv 2) pe_int (fun _ _ => rfl)) pe_int (fun _ _ => rfl)) (pa_cons (pe_ix ix_tup (pe_ix ix_list (pv 2) pe_int (fun _ _ => rfl)) pe_int (fun _ _ => rfl)) (pa_cons (pv 8) pa_nil)))))
 (pss_cons (ps_if (PW.pt (pw_and (pt_cmpR op_lt (pe_callB call_len_seq (by rfl) T.z_len PySem.boot_len (pa_cons (pv 8) pa_nil)) pe_int (nomark _)) (pw_and1 (pt_cmpR op_ne (pe_callB (call_reprD hu66 hg) (by rfl) T.z_repr (by decide +kernel) (pa_cons (pe_call (ok__law_applied T) (hr.mono (by decide)) rfl T.mg__law_applied T.k__law_applied T.b__law_applied .nil pass0 (pa_cons (pv 9) (pa_cons (pv 7) pa_nil))) pa_nil)) (pe_callB (call_reprD hu66 hg) (by rfl) T.z_repr (by decide +kernel) (pa_cons (pv 11) pa_nil)) (nomark _)))))
 (pss_one (ps_ret pe_bl))
 pss_nil)
 (pss_cons (ps_if (PW.pt (pw_or (pt_cmpR (op_neOwn T.hne_Effect T.hobj_Effect T.h_Effect_eq T.i_Effect_eq (ok_Effect_eq T) T.b_Effect_eq (hr.mono (by decide))) (pv 10) (pe_op (op_binA (op := .Add) T.sf_Effect T.h_Effect_add T.i_Effect_add (ok_Effect_add T) T.b_Effect_add (hr.mono (by decide))) (pv 3) (pe_op (op_binA (op := .Add) T.sf_Effect T.h_Effect_add T.i_Effect_add (ok_Effect_add T) T.b_Effect_add (hr.mono (by decide))) (pv 4) (pv 5))) (nomark _)) (pw_or1 (pt_cmpR op_ne (pe_prop (pv 9) T.cl_Effect T.pr_Effect_growth (ok_Effect_growth T) (hr.mono (by decide)) T.b_Effect_growth .nil pass0 rfl) (pe_op op_add (pe_prop (pv 3) T.cl_Effect T.pr_Effect_growth (ok_Effect_growth T) (hr.mono (by decide)) T.b_Effect_growth .nil pass0 rfl) (pe_prop (pv 4) T.cl_Effect T.pr_Effect_growth (ok_Effect_growth T) (hr.mono (by decide)) T.b_Effect_growth .nil pass0 rfl)) (nomark _)))))
 (pss_one (ps_ret pe_bl))
 pss_nil)
 (pss_cons (ps_for PassesOwn.never rfl (pi_list (pe_op op_cat (pe_listRg (by rfl) rfl T.z_list (prg_1 rfl T.z_range (pe_op op_add (pe_callB (call_lenOwn T.h_Effect_len T.i_Effect_len (ok_Effect_len T) T.b_Effect_len (hr.mono (by decide))) (by rfl) T.z_len PySem.boot_len (pa_cons (pv 9) pa_nil)) pe_int))) (pe_lst (pa_cons (pe_call (ok__law_scoop T) (hr.mono (by decide)) rfl T.mg__law_scoop T.k__law_scoop T.b__law_scoop .nil pass0 (pa_cons (pv 0) (pa_cons (pe_op op_powX pe_int pe_int) pa_nil))) pa_nil)))) (pg_name (i := 12) nd rfl (Or.inl rfl))
 (pss_cons (ps_set (i := 13) nd rfl (Or.inl rfl) (pe_meth (pv 4) T.cl_Effect T.m_Effect_source (ok_Effect_source T) (hr.mono (by decide)) T.b_Effect_source .nil pass0 (pa_cons (pv 12) pa_nil)))
 (pss_cons (ps_set (i := 14) nd rfl (Or.inl rfl) (pe_ifExp (pt_cmpR op_eq (pe_ix ix_tup (pv 13) pe_int (fun _ _ => rfl)) pe_str (nomark _)) (pe_meth (pv 3) T.cl_Effect T.m_Effect_source (ok_Effect_source T) (hr.mono (by decide)) T.b_Effect_source .nil pass0 (pa_cons (pe_ix ix_tup (pv 13) pe_int (fun _ _ => rfl)) pa_nil)) (pv 13)))
 (pss_one (ps_if (pt_cmpR op_ne (pe_callB (call_reprD hu66 hg) (by rfl) T.z_repr (by decide +kernel) (pa_cons (pe_meth (pv 9) T.cl_Effect T.m_Effect_source (ok_Effect_source T) (hr.mono (by decide)) T.b_Effect_source .nil pass0 (pa_cons (pv 12) pa_nil)) pa_nil)) (pe_callB (call_reprD hu66 hg) (by rfl) T.z_repr (by decide +kernel) (pa_cons (pv 14) pa_nil)) (nomark _))
 (pss_one (ps_ret pe_bl))
 pss_nil)))))
 (pss_cons (ps_set (i := 15) nd rfl (Or.inl rfl) (pe_make T.mk_Effect (ok_Effect_init T) (hr.mono (by decide)) rfl T.mgC_Effect T.b_Effect_init .nil pass0 (pa_cons pe_int (pa_cons (pe_tup pa_nil) pa_nil))))
 (pss_cons (ps_if (PW.pt (pw_or (pt_cmpR (op_neOwn T.hne_Effect T.hobj_Effect T.h_Effect_eq T.i_Effect_eq (ok_Effect_eq T) T.b_Effect_eq (hr.mono (by decide))) (pe_op (op_binA (op := .Add) T.sf_Effect T.h_Effect_add T.i_Effect_add (ok_Effect_add T) T.b_Effect_add (hr.mono (by decide))) (pv 3) (pv 15)) (pv 3) (nomark _)) (pw_or (pt_cmpR (op_neOwn T.hne_Effect T.hobj_Effect T.h_Effect_eq T.i_Effect_eq (ok_Effect_eq T) T.b_Effect_eq (hr.mono (by decide))) (pe_op (op_binA (op := .Add) T.sf_Effect T.h_Effect_add T.i_Effect_add (ok_Effect_add T) T.b_Effect_add (hr.mono (by decide))) (pv 15) (pv 3)) (pv 3) (nomark _)) (pw_or1 (pt_cmpR op_ne (pe_callB (call_reprD hu66 hg) (by rfl) T.z_repr (by decide +kernel) (pa_cons (pe_call (ok__law_applied T) (hr.mono (by decide)) rfl T.mg__law_applied T.k__law_applied T.b__law_applied .nil pass0 (pa_cons (pv 15) (pa_cons (pv 7) pa_nil))) pa_nil)) (pe_callB (call_reprD hu66 hg) (by rfl) T.z_repr (by decide +kernel) (pa_cons (pv 7) pa_nil)) (nomark _))))))
 (pss_one (ps_ret pe_bl))
 pss_nil)
 (pss_cons (ps_set (i := 16) nd rfl (Or.inl rfl) (pe_callTy call_tuple_of (by rfl) T.z_tuple (by decide +kernel) (pa_cons (pe_lc (own := [("place", 19)]) (by rfl) nd (pi_range1 rfl T.z_range (pa_cons (pe_prop (pv 3) T.cl_Effect T.pr_Effect_taken (ok_Effect_taken T) (hr.mono (by decide)) T.b_Effect_taken .nil pass0 rfl) pa_nil)) (blkOk_by (N := ["kiln", "most", "parts", "one", "two", "three", "high", "cells", "due", "both", "whole", "later", "depth_here", "middle", "told", "still", "low", "turn", "part", "place"]) (sc := defScope s__law_right) (by decide +kernel)) (fun _ _ _ _ _ => (pg_name (i := 19) nd rfl (Or.inl rfl))) (fun _ _ _ _ _ => pts_nil) (fun _ _ _ _ _ => (pe_op op_sub (pe_op op_sub pe_int pe_int) (pv 19)))) pa_nil)))
 (pss_cons (ps_if (pt_cmpR op_ne (pe_callB (call_reprD hu66 hg) (by rfl) T.z_repr (by decide +kernel) (pa_cons (pe_call (ok__law_applied T) (hr.mono (by decide)) rfl T.mg__law_applied T.k__law_applied T.b__law_applied .nil pass0 (pa_cons (pv 3) (pa_cons (pv 16) pa_nil))) pa_nil)) (pe_callB (call_reprD hu66 hg) (by rfl) T.z_repr (by decide +kernel) (pa_cons (pe_call (ok__law_put T) (hr.mono (by decide)) rfl T.mg__law_put T.k__law_put T.b__law_put .nil pass0 (pa_cons (pe_prop (pv 3) T.cl_Effect T.pr_Effect_taken (ok_Effect_taken T) (hr.mono (by decide)) T.b_Effect_taken .nil pass0 rfl) (pa_cons (pe_prop (pv 3) T.cl_Effect T.pr_Effect_left (ok_Effect_left T) (hr.mono (by decide)) T.b_Effect_left .nil pass0 rfl) (pa_cons (pv 16) pa_nil)))) pa_nil)) (nomark _))
 (pss_one (ps_ret pe_bl))
 pss_nil)
 (pss_one (ps_ret (pe_cmpR (op_eqD hu64) (pe_tup (pa_cons (pe_prop (pv 3) T.cl_Effect T.pr_Effect_taken (ok_Effect_taken T) (hr.mono (by decide)) T.b_Effect_taken .nil pass0 rfl) (pa_cons (pe_prop (pv 3) T.cl_Effect T.pr_Effect_left (ok_Effect_left T) (hr.mono (by decide)) T.b_Effect_left .nil pass0 rfl) pa_nil))) (pe_call (ok__law_cut T) (hr.mono (by decide)) rfl T.mg__law_cut T.k__law_cut T.b__law_cut .nil pass0 (pa_cons (pe_ix ix_tup (pe_ix ix_list (pv 2) pe_int (fun _ _ => rfl)) pe_int (fun _ _ => rfl)) (pa_cons (pe_ix ix_tup (pe_ix ix_list (pv 2) pe_int (fun _ _ => rfl)) pe_int (fun _ _ => rfl)) pa_nil))) (nomark _))))))))))))))))))), ?_⟩
    rintro As μ Post ⟨p, s, m, rfl, hp0, hm, hm2, hs, hc, hp⟩
    refine s_mu (updM_self hp0) ?_
    have hm100 : 3 ≤ m ∧ m ≤ 100 := by omega
    have sOk := mkS_ok hs hm100
    have lc1 := ew_lc (K := K) (ρ := begin0 ["kiln", "most", "parts", "one", "two", "three", "high", "cells", "due", "both", "whole", "later", "depth_here", "middle", "told", "still", "low", "turn", "part", "place"] [.r p, .i m]) (μ := updM μ p (kO s)) (g := gName 17) (tt := fun _ H Q => Q true H) (te := tCall (spP K SMade) [] E0 (tCons (tVar 0) (tCons (tVar 1) tNil))) (vs := [17]) (fun i => updM μ p (kO (mkS s m i))) (fun i => (List.range i).map fun j => mvD (made (mkS s m j) m).t (made (mkS s m j) m).l) (it_r1 (ta := tCons (tC (.int 3)) tNil) (n := 3) (ea_cons ew_int ea_nil) (by omega) (by omega)) rfl (fun i x hx => by
      have hi : i < 3 := (List.getElem?_eq_some_iff.mp hx).1
      have so := sOk i
      refine ⟨_, true, _, gc_name (by simp), et_nil, fun _ => ⟨_, ew_fn (S := SMade) (ea_cons (ew_var rfl) (ea_cons (ew_var rfl) ea_nil)) ⟨p, mkS s m i, m, rfl, updM_same, hm, by omega, so.1, by omega, rfl, updM_updM⟩, ?_⟩, nofun⟩
      rw [List.range_succ, List.map_append]
      rfl) (by simp) rfl
    have q0k := made_ok2 (sOk 0).1 hm100
    have q1k := made_ok2 (sOk 1).1 hm100
    have q2k := made_ok2 (sOk 2).1 hm100
    have s3k := sOk 3
    have e3 : (List.map (fun (i : Nat) => AV.i (0 + (i : Int))) (List.range (3 : Int).toNat)).length = 3 := by simp
    rw [e3] at lc1
    have el : (List.range 3).map (fun j => mvD (made (mkS s m j) m).t (made (mkS s m j) m).l) = [mvD (made (mkS s m 0) m).t (made (mkS s m 0) m).l, mvD (made (mkS s m 1) m).t (made (mkS s m 1) m).l, mvD (made (mkS s m 2) m).t (made (mkS s m 2) m).l] := rfl
    rw [el] at lc1
    refine s_seq (s_asg lc1 ?_)
    generalize made (mkS s m 0) m = q0 at q0k
    generalize made (mkS s m 1) m = q1 at q1k
    generalize made (mkS s m 2) m = q2 at q2k
    generalize mkS s m 3 = s3 at s3k
    obtain ⟨s3_ok, s3_c⟩ := s3k
    clear lc1
    have lc2 := ew_lcA (K := K) (ρ := [some (.r p), some (.i m), some (.d (.list [mvD q0.t q0.l, mvD q1.t q1.l, mvD q2.t q2.l])), none, none, none, none, none, none, none, none, none, none, none, none, none, none, none, none, none]) (μ := updM μ p (kO s3)) (μ1 := updM μ p (kO s3)) (g := gName 18) (te := tMake ad.C_Effect (spP K (SInit ad.C_Effect)) [] E0 (tCons (tOp (rIxT K) (tVar 18) (tC (.int 0))) (tCons (tOp (rIxT K) (tVar 18) (tC (.int 1))) tNil))) (vs := [18]) [q0, q1, q2] (fun q => .d (mvD q.t q.l)) (fun q => effA ad.C_Effect (cut q.t q.l)) (it_map (it_l (tl := tVar 2) (ew_var rfl)) rfl) (fun q hq => by
      have hk : okE q.t q.l := by
        have h : q = q0 ∨ q = q1 ∨ q = q2 := by simpa using hq
        rcases h with rfl | rfl | rfl
        · exact q0k.1.1
        · exact q1k.1.1
        · exact q2k.1.1
      exact ⟨_, gc_name (by simp), ew_effT (ea_cons (ew_op (ew_var rfl) ew_int (o_ixTz rfl)) (ea_cons (ew_op (ew_var rfl) ew_int (o_ixTz rfl)) ea_nil)) hk⟩) (by simp)
    refine s_seq (s_asgG lc2 (gw_lst rfl (ga_cons gw_name (ga_cons gw_name (ga_cons gw_name ga_nil)))) ?_)
    clear lc2
    show StW K _ [some (.r p), some (.i m), some (.d (.list [mvD q0.t q0.l, mvD q1.t q1.l, mvD q2.t q2.l])), some (effA ad.C_Effect (cut q0.t q0.l)), some (effA ad.C_Effect (cut q1.t q1.l)), some (effA ad.C_Effect (cut q2.t q2.l)), none, none, none, none, none, none, none, none, none, none, none, none, none, none] (updM μ p (kO s3)) _
    -- the cut ones
    have fact : ∀ q : Mk, okE q.t q.l → q.t ≤ m → (q.l.length : Int) ≤ m → Eff (cut q.t q.l) ∧ okE (cut q.t q.l).1 (cut q.t q.l).2 ∧ (cut q.t q.l).1 ≤ m ∧ ((cut q.t q.l).2.length : Int) ≤ m ∧ (∀ cs : List Int, q.t ≤ cs.length → put (cut q.t q.l).1 (cut q.t q.l).2 cs = put q.t q.l cs) ∧ (cut q.t q.l).1 ≤ q.t := fun q ok h1 h2 => by
      have := cut_le q.t q.l
      have := cut_len q.t q.l
      exact ⟨Eff.of ok.1 ok.2.2.2, cut_okE ok, by omega, by omega, fun cs h => put_cut ok.1 ok.2.2.2 h, by omega⟩
    have F0 := fact q0 q0k.1.1 q0k.1.2.1 q0k.1.2.2
    have F1 := fact q1 q1k.1.1 q1k.1.2.1 q1k.1.2.2
    have F2 := fact q2 q2k.1.1 q2k.1.2.1 q2k.1.2.2
    have cutq : ∀ {ρ : AS} {μ : AM} {E : XK} {ta : TA}, EvA K ta ρ μ [.i q0.t, .d (.tuple (srcsD q0.l))] μ → EvW K (tCall (spP K SCut) [] E ta) ρ μ (.d (dueD (cut q0.t q0.l))) μ := fun h => ew_fn (S := SCut) h ⟨q0.t, q0.l, rfl, by have := q0k.1.1.2.2.1; omega, rfl, rfl⟩
    generalize cut q0.t q0.l = c0 at F0 cutq
    generalize cut q1.t q1.l = c1 at F1
    generalize cut q2.t q2.l = c2 at F2
    obtain ⟨E0', ok0, b0, B0, put0, d0⟩ := F0
    obtain ⟨E1', ok1, b1, B1, put1, d1⟩ := F1
    obtain ⟨E2', ok2, b2, B2, put2, d2⟩ := F2
    obtain ⟨⟨Q0, Q0t, Q0l⟩, _⟩ := q0k
    obtain ⟨⟨Q1, Q1t, Q1l⟩, _⟩ := q1k
    obtain ⟨⟨Q2, Q2t, Q2l⟩, _⟩ := q2k
    -- high
    have g1 := grow1 (n := 4) s3_ok (by decide)
    have k1 := g1.c
    have dl := drawn_lo s3 (n := 4) (by decide)
    obtain ⟨n, hn⟩ := Int.eq_ofNat_of_zero_le (show 0 ≤ q0.t + q1.t + q2.t + drawn s3 4 by have := Q0.1; have := Q1.1; have := Q2.1; omega)
    have n1 : q0.t + q1.t + q2.t ≤ n := by omega
    have n2 : n ≤ 93 := by omega
    refine s_seq (s_asg (R := .i (n : Int)) (μ1 := updM μ p (kO (after s3 4))) (ew_isI (ew_op (ew_op (ew_op (ew_op (R := .i q0.t) (ew_op (ew_var rfl) ew_int (o_ixLz rfl)) ew_int (o_ixTz rfl)) (ew_op (R := .i q1.t) (ew_op (ew_var rfl) ew_int (o_ixLz rfl)) ew_int (o_ixTz rfl)) o_I0) (ew_op (R := .i q2.t) (ew_op (ew_var rfl) ew_int (o_ixLz rfl)) ew_int (o_ixTz rfl)) o_I0) (ew_scoop rfl ew_int (by decide) s3_ok (by omega)) o_I0) hn) ?_)
    have s4_ok := g1.ok
    have s4_c : (after s3 4).c ≤ s.c + 1201 := by push_cast at s3_c; omega
    generalize after s3 4 = s4 at s4_ok s4_c
    -- cells
    have lc3 := ew_lcM (K := K) (ρ := [some (.r p), some (.i m), some (.d (.list [mvD q0.t q0.l, mvD q1.t q1.l, mvD q2.t q2.l])), some (effA ad.C_Effect c0), some (effA ad.C_Effect c1), some (effA ad.C_Effect c2), some (.i (n : Int)), none, none, none, none, none, none, none, none, none, none, none, none, none]) (μ := updM μ p (kO s4)) (μ1 := updM μ p (kO s4)) (g := gName 19) (te := tOp (rI0 fun i j => .int (i + j)) (tC (.int 1000)) (tVar 19)) (vs := [19]) (List.range n) (fun (i : Nat) => .i (0 + (i : Int))) (fun (i : Nat) => .int (1000 + (i : Int))) (it_map (it_r1 (ta := tCons (tCB (fun xs H Q => ∃ i j, xs = [.int i, .int j] ∧ Q (.int (if j < i then j else i)) H) (tCons (tC (.int 100)) (tCons (tVar 6) tNil))) tNil) (n := min 100 (n : Int)) (ea_cons (ew_cb (ea_cons ew_int (ea_cons (ew_var rfl) ea_nil)) n_min2) ea_nil) (by omega) (by omega)) (by rw [show (min 100 (n : Int)).toNat = n by omega])) (fun i hi => ⟨_, gc_name (by simp), ew_isI (ew_op ew_int (ew_var rfl) o_I0) (by omega)⟩) (by simp; omega)
    have ec : (List.range n).map (fun (i : Nat) => PyData.int (1000 + (i : Int))) = (stk n).map .int := by unfold stk; rw [List.map_map]; rfl
    rw [ec] at lc3
    refine s_seq (s_asg (R := .d (tupI (stk n))) (μ1 := updM μ p (kO s4)) (ew_cb (ea_cons lc3 ea_nil) n_tupL) ?_)
    clear lc3
    have csl := stk_len n
    have csi : ∀ c ∈ stk n, -(10 ^ 30) ≤ c ∧ c ≤ 10 ^ 30 := fun c h => by have := stk_in h; omega
    generalize stk n = cs at csl csi
    have csk : okS cs := ⟨by omega, csi⟩
    -- due
    refine s_seq (s_asg (R := .d (tupI (put q0.t q0.l cs))) (μ1 := updM μ p (kO s4)) (ew_fn (S := SPut) (ea_cons (ew_op (R := .i q0.t) (ew_op (ew_var rfl) ew_int (o_ixLz rfl)) ew_int (o_ixTz rfl)) (ea_cons (ew_op (R := .d (.tuple (srcsD q0.l))) (ew_op (ew_var rfl) ew_int (o_ixLz rfl)) ew_int (o_ixTz rfl)) (ea_cons (ew_var rfl) ea_nil))) ⟨q0.t, q0.l, cs, rfl, Q0.1, by have := Q1.1; have := Q2.1; omega, by omega, by omega, Q0.2.2.2, rfl, rfl⟩) ?_)
    have t0n : q0.t ≤ cs.length := by have := Q1.1; have := Q2.1; omega
    have dul := put_len (l := q0.l) Q0.1 t0n
    have dui := put_in (t := q0.t) csi Q0.2.2.2
    have ap0 := put0 cs t0n
    have call1 : ∀ {ρ : AS} {μ : AM}, ρ[3]? = some (some (effA ad.C_Effect c0)) → ρ[7]? = some (some (.d (tupI cs))) → EvW K (tInst ad.C_Effect (spP K (SCallE ad.C_Effect)) (tVar 3) (tCons (tVar 7) tNil)) ρ μ (.d (tupI (put q0.t q0.l cs))) μ := fun h1 h2 => ew_inst (S := SCallE ad.C_Effect) (ew_var h1) (ea_cons (ew_var h2) ea_nil) ⟨c0, cs, rfl, ok0.1, by omega, by omega, ok0.2.2.2, csk, by rw [ap0], rfl⟩
    have rp0 : ∀ μ, OpN K (rRepr K) [.d (tupI (put q0.t q0.l cs))] μ (.s (tupI (put q0.t q0.l cs)).shown) μ := fun μ => n_reprT (sml_in dui) (by omega)
    have ne1 := fun (ρ : AS) (μ : AM) (h1 : ρ[3]? = some (some (effA ad.C_Effect c0))) (h2 : ρ[7]? = some (some (.d (tupI cs)))) (h3 : ρ[8]? = some (some (.d (tupI (put q0.t q0.l cs))))) => et_is (b := false) (et_test (ew_op (ew_cb (ea_cons (call1 (μ := μ) h1 h2) ea_nil) (rp0 μ)) (ew_cb (ea_cons (ew_var h3) ea_nil) (rp0 μ)) o_neS)) (by simp)
    refine s_seq (s_if (b := false) (et_orF (ne1 _ _ rfl rfl rfl) (ne1 _ _ rfl rfl rfl)) nofun (fun _ => s_next ?_))
    -- both, whole
    have P01 := plus_le (a := c0) E1'
    have P12 := plus_le (a := c1) E2'
    have z0 := E0'.t0
    have z1 := E1'.t0
    have z2 := E2'.t0
    have zb := (plus_eff E0' E1').t0
    have z12 := (plus_eff E1' E2').t0
    have okb := plus_okE E0' E1' (by omega) (by omega)
    have okw := plus_okE (plus_eff E0' E1') E2' (by omega) (by omega)
    have ok12 := plus_okE E1' E2' (by omega) (by omega)
    have okw2 := plus_okE E0' (plus_eff E1' E2') (by omega) (by omega)
    refine s_seq (s_par (ea_cons (ew_plus (ew_var rfl) (ew_var rfl) ok0 ok1 okb) (ea_cons (ew_plus (ew_plus (ew_var rfl) (ew_var rfl) ok0 ok1 okb) (ew_var rfl) okb ok2 okw) ea_nil)) ?_)
    -- later
    have t1n : q1.t ≤ (put q0.t q0.l cs).length := by have := Q0.1; have := Q2.1; omega
    refine s_seq (s_asg (R := .d (tupI (put q1.t q1.l (put q0.t q0.l cs)))) (μ1 := updM μ p (kO s4)) (ew_fn (S := SPut) (ea_cons (ew_op (R := .i q1.t) (ew_op (ew_var rfl) ew_int (o_ixLz rfl)) ew_int (o_ixTz rfl)) (ea_cons (ew_op (R := .d (.tuple (srcsD q1.l))) (ew_op (ew_var rfl) ew_int (o_ixLz rfl)) ew_int (o_ixTz rfl)) (ea_cons (ew_var rfl) ea_nil))) ⟨q1.t, q1.l, put q0.t q0.l cs, rfl, Q1.1, t1n, by omega, by omega, Q1.2.2.2, rfl, rfl⟩) ?_)
    have lal := put_len (l := q1.l) Q1.1 t1n
    have lai := put_in (t := q1.t) dui Q1.2.2.2
    have eb : put (plus c0 c1).1 (plus c0 c1).2 cs = put q1.t q1.l (put q0.t q0.l cs) := by
      rw [put_plus E0' E1' (by omega) (by rw [ap0]; omega), ap0, put1 _ t1n]
    have appd : ∀ {ρ : AS} {μ : AM} {i : Nat} {a : Int × List Src} {cs : List Int} {E : XK} {tb : TE}, ρ[i]? = some (some (effA ad.C_Effect a)) → EvW K tb ρ μ (.d (tupI cs)) μ → okE a.1 a.2 → a.1 ≤ cs.length → okS cs → EvW K (tCall (spP K (SApplied ad.C_Effect)) [] E (tCons (tVar i) (tCons tb tNil))) ρ μ (.d (tupI (put a.1 a.2 cs))) μ := fun {ρ μ i a cs E tb} h1 h2 h3 h4 h5 => ew_fn (S := SApplied ad.C_Effect) (ea_cons (ew_var h1) (ea_cons h2 ea_nil)) ⟨a, cs, rfl, h3.1, h4, by have := h3.2.2.1; omega, h3.2.2.2, h5, rfl, rfl⟩
    have rp1 : ∀ μ, OpN K (rRepr K) [.d (tupI (put q1.t q1.l (put q0.t q0.l cs)))] μ (.s (tupI (put q1.t q1.l (put q0.t q0.l cs))).shown) μ := fun μ => n_reprT (sml_in lai) (by omega)
    refine s_seq (s_if (b := false) (et_is (et_and (b := false) (et_test (ew_op (ew_cb (ea_cons (ew_var rfl) ea_nil) n_len) ew_int o_B0)) (fun _ => et_is (et_test (ew_op (ew_cb (ea_cons (ew_is (appd (a := plus c0 c1) rfl (ew_var rfl) okb (by omega) csk) (by rw [eb])) ea_nil) (rp1 _)) (ew_cb (ea_cons (ew_var rfl) ea_nil) (rp1 _)) o_neS)) (by simp))) (by simp)) nofun (fun _ => s_next ?_))
    -- whole
    have tyE : ∀ a : Int × List Src, TyA K (effA ad.C_Effect a) (.ref ad.C_Effect) := fun a => tyE T a
    have sq : ∀ (μ : AM) (a b : Int × List Src), SEq K ad.C_Effect [effA ad.C_Effect a, effA ad.C_Effect b] μ (fun R' μ' => R' = .b (decide (a = b)) ∧ μ' = μ) := fun μ a b => .inl ⟨a, b, rfl, rfl, rfl⟩
    have ne0 : ∀ {ta tb : TE} {ρ : AS} {μ : AM} {a b : Int × List Src}, EvW K ta ρ μ (effA ad.C_Effect a) μ → EvW K tb ρ μ (effA ad.C_Effect b) μ → a = b → EvT K (tTest (tOp (rNeA K ad.C_Effect (spP K (SEq K ad.C_Effect))) ta tb)) ρ μ false μ := fun h1 h2 e => et_is (et_test (ew_op h1 h2 (o_ownNe (tyE _) T.nfC_Effect (sq _ _ _)))) (by rw [e]; simp)
    refine s_seq (s_if (b := false) (et_orF (ne0 (a := plus (plus c0 c1) c2) (b := plus c0 (plus c1 c2)) (ew_var rfl) (ew_plus (ew_var rfl) (ew_plus (ew_var rfl) (ew_var rfl) ok1 ok2 ok12) ok0 ok12 okw2) (plus_assoc E0' E1' E2')) (et_is (et_test (ew_op (ew_growth (ew_var rfl)) (ew_op (ew_growth (ew_var rfl)) (ew_growth (ew_var rfl)) o_I0) o_neI)) (by simp only [Bool.not_eq_false', decide_eq_true_eq]; exact plus_growth E1'))) nofun (fun _ => s_next ?_))
    -- depth by depth
    have g5 := grow1 (n := 10 ^ 30) s4_ok (by decide)
    have k5 := g5.c
    have d5 := drawn_lo s4 (n := 10 ^ 30) (by decide)
    have pw : ∀ n : Nat, n ≤ 100 → CPowX 10 (n : Int) := fun n h => pow_ok (b := 4) (by decide +kernel) (by decide) (by omega)
    have Eb := plus_eff E0' E1'
    have obl := okb.2.2.1
    have it := ew_trk (ew_op (K := K) (ρ := [some (.r p), some (.i m), some (.d (.list [mvD q0.t q0.l, mvD q1.t q1.l, mvD q2.t q2.l])), some (effA ad.C_Effect c0), some (effA ad.C_Effect c1), some (effA ad.C_Effect c2), some (.i (n : Int)), some (.d (tupI cs)), some (.d (tupI (put q0.t q0.l cs))), some (effA ad.C_Effect (plus c0 c1)), some (effA ad.C_Effect (plus (plus c0 c1) c2)), some (.d (tupI (put q1.t q1.l (put q0.t q0.l cs)))), none, none, none, none, none, none, none, none]) (μ := updM μ p (kO s4)) (ew_listRg (te := tOp (rI0 fun i j => .int (i + j)) (tCB (fun xs H Q => ∃ a dx fs, xs = [.ref a] ∧ H a = some (.ins ad.C_Effect dx fs) ∧ spP K (SLen ad.C_Effect) [.ref a] H (fun v H' => ∃ i, v = .int i ∧ 0 ≤ i ∧ i < 2 ^ 63 ∧ Q v H') E0) (tCons (tVar 9) tNil)) (tC (.int 3))) (n := ((plus c0 c1).2.length : Int) + 3) (ew_op (ew_cb (ea_cons (ew_var rfl) ea_nil) (n_lenOwn (S := SLen ad.C_Effect) (i := ((plus c0 c1).2.length : Int)) (by omega) ⟨_, rfl, rfl, rfl⟩)) ew_int o_I0) (by omega)) (ew_lstT (ta := tCons (tCall (spP K SScoop) [] E0 (tCons (tVar 0) (tCons (tOp (rI CPowX fun i j => .int (i ^ j.toNat)) (tC (.int 10)) (tC (.int 30))) tNil))) tNil) (ds := [.int (drawn s4 (10 ^ 30))]) (ea_cons (ew_scoop (n := 10 ^ 30) rfl (ew_op ew_int ew_int (o_powz (pw 30 (by decide)))) (by decide +kernel) s4_ok (by omega)) ea_nil) (by simp)) (o_cat (by unfold upto; simp only [List.length_map, List.length_range, List.length_cons, List.length_nil]; omega)))
    have hD : ∀ d ∈ upto (((plus c0 c1).2.length : Int) + 3) ++ [PyData.int (drawn s4 (10 ^ 30))], ∃ k : Nat, d = .int (k : Int) ∧ (k : Int) ≤ 10 ^ 70 := by
      intro d hd
      rcases List.mem_append.mp hd with h | h
      · unfold upto at h
        obtain ⟨i, hi, rfl⟩ := List.mem_map.mp h
        have := List.mem_range.mp hi
        exact ⟨i, rfl, by omega⟩
      · have h' : d = .int (drawn s4 (10 ^ 30)) := by simpa using h
        subst h'
        exact ⟨(drawn s4 (10 ^ 30)).toNat, by congr 1; omega, by omega⟩
    have s5_ok := g5.ok
    have s5_c : (after s4 (10 ^ 30)).c ≤ s.c + 1202 := by omega
    generalize upto (((plus c0 c1).2.length : Int) + 3) ++ [PyData.int (drawn s4 (10 ^ 30))] = ds at hD it
    generalize after s4 (10 ^ 30) = s5 at s5_ok s5_c it
    refine s_seqM (fun ρ' μ' => ∃ v12 v13 v14, ρ' = [some (.r p), some (.i m), some (.d (.list [mvD q0.t q0.l, mvD q1.t q1.l, mvD q2.t q2.l])), some (effA ad.C_Effect c0), some (effA ad.C_Effect c1), some (effA ad.C_Effect c2), some (.i (n : Int)), some (.d (tupI cs)), some (.d (tupI (put q0.t q0.l cs))), some (effA ad.C_Effect (plus c0 c1)), some (effA ad.C_Effect (plus (plus c0 c1) c2)), some (.d (tupI (put q1.t q1.l (put q0.t q0.l cs)))), v12, v13, v14, none, none, none, none, none] ∧ μ' = updM μ p (kO s5))
      (s_for (it_l it) (fun _ ρ' μ' => ∃ v12 v13 v14, ρ' = [some (.r p), some (.i m), some (.d (.list [mvD q0.t q0.l, mvD q1.t q1.l, mvD q2.t q2.l])), some (effA ad.C_Effect c0), some (effA ad.C_Effect c1), some (effA ad.C_Effect c2), some (.i (n : Int)), some (.d (tupI cs)), some (.d (tupI (put q0.t q0.l cs))), some (effA ad.C_Effect (plus c0 c1)), some (effA ad.C_Effect (plus (plus c0 c1) c2)), some (.d (tupI (put q1.t q1.l (put q0.t q0.l cs)))), v12, v13, v14, none, none, none, none, none] ∧ μ' = updM μ p (kO s5)) ⟨none, none, none, rfl, rfl⟩ ?_ (fun ρ' μ' h => h)) ?_
    · rintro i x ρ' μ' hx ⟨v12, v13, v14, rfl, rfl⟩
      obtain ⟨d, hd, rfl⟩ := List.mem_map.mp (List.mem_of_getElem? hx)
      obtain ⟨k, rfl, hk⟩ := hD d hd
      refine ⟨_, gw_name, s_seq (s_asg (R := .d (source c1.1 c1.2 k).d) (ew_meth (S := SSrc ad.C_Effect) (ew_var rfl) (lk_no (by decide +kernel)) (ea_cons (ew_var rfl) ea_nil) ⟨c1, k, rfl, rfl, rfl⟩) ?_)⟩
      have hps := plus_source (a := c0) E1' k
      have hin : ∀ d, source c1.1 c1.2 k = .inp d → 0 ≤ d := fun d e => by
        have := source_ok E1'.t0 E1'.good (u := (k : Int) + 1) k (by omega)
        rw [e] at this
        exact (srcOk_inp this).1
      have hsml : Src.sml (source (plus c0 c1).1 (plus c0 c1).2 k) := by
        have h1 := source_ok Eb.t0 Eb.good (u := (k : Int) + 1) k (by omega)
        cases h : source (plus c0 c1).1 (plus c0 c1).2 k with
        | inp e =>
          rw [h] at h1
          have := srcOk_inp h1
          unfold joinD at this
          have := okb.2.1
          exact isml_of (i := e) (by omega)
        | lit e =>
          rw [h] at h1
          have := srcOk_lit h1
          exact isml_of (i := e) (by omega)
      refine s_seq (s_asg (R := .d (source (plus c0 c1).1 (plus c0 c1).2 k).d) (μ1 := updM μ p (kO s5)) ?_ ?_)
      · refine ew_if (b := decide (Src.tag (source c1.1 c1.2 k) = sIn)) (μ1 := updM μ p (kO s5)) (et_test (ew_op (ew_op (R := .s (Src.tag (source c1.1 c1.2 k))) (ew_var rfl) ew_int (by rw [src_pair]; exact o_ixTz rfl)) ew_str o_eqS)) (fun h => ?_) (fun h => ?_)
        · have h := of_decide_eq_true h
          rw [hps]
          cases hq : source c1.1 c1.2 k with
          | inp e =>
            have he := hin e hq
            obtain ⟨j, rfl⟩ := Int.eq_ofNat_of_zero_le he
            refine ew_meth (S := SSrc ad.C_Effect) (ew_var rfl) (lk_no (by decide +kernel)) (ea_cons (ew_op (R := .i (j : Int)) (ew_var rfl) ew_int (o_ixTz rfl)) ea_nil) ⟨c0, j, rfl, ?_, rfl⟩
            rfl
          | lit c => rw [hq] at h; exact absurd h (show ¬ sLit = sIn by decide +kernel)
        · have h := of_decide_eq_false h
          rw [hps]
          cases hq : source c1.1 c1.2 k with
          | inp e => rw [hq] at h; exact absurd rfl h
          | lit c => exact ew_var rfl
      · exact s_if (b := false) (et_is (et_test (ew_op (ew_cb (ea_cons (ew_meth (S := SSrc ad.C_Effect) (ew_var rfl) (lk_no (by decide +kernel)) (ea_cons (ew_var rfl) ea_nil) ⟨plus c0 c1, k, rfl, rfl, rfl⟩) ea_nil) (n_reprS hsml)) (ew_cb (ea_cons (ew_var rfl) ea_nil) (n_reprS hsml)) o_neS)) (by simp)) nofun (fun _ => s_next ⟨_, _, _, rfl, rfl⟩)
    rintro ρ' μ' ⟨v12, v13, v14, rfl, rfl⟩
    -- the effect that does nothing
    have e0 := ew_effT (K := K) (C := ad.C_Effect) (E := E0) (ρ := [some (.r p), some (.i m), some (.d (.list [mvD q0.t q0.l, mvD q1.t q1.l, mvD q2.t q2.l])), some (effA ad.C_Effect c0), some (effA ad.C_Effect c1), some (effA ad.C_Effect c2), some (.i (n : Int)), some (.d (tupI cs)), some (.d (tupI (put q0.t q0.l cs))), some (effA ad.C_Effect (plus c0 c1)), some (effA ad.C_Effect (plus (plus c0 c1) c2)), some (.d (tupI (put q1.t q1.l (put q0.t q0.l cs)))), v12, v13, v14, none, none, none, none, none]) (μ := updM μ p (kO s5)) (t := 0) (l := []) (ea_cons ew_int (ea_cons (ew_tup (ds := []) ea_nil (by simp)) ea_nil)) ⟨by decide, by decide, by decide, rfl⟩
    refine s_seq (s_asg (R := effA ad.C_Effect (0, [])) e0 ?_)
    have okS0 : okE ((0, []) : Int × List Src).1 ((0, []) : Int × List Src).2 := ⟨by decide, by decide, by decide, rfl⟩
    have ps := plus_still E0'
    have okp1 : okE (plus c0 (0, [])).1 (plus c0 (0, [])).2 := by rw [ps.1]; exact ok0
    have okp2 : okE (plus (0, []) c0).1 (plus (0, []) c0).2 := by rw [ps.2]; exact ok0
    have rpc : ∀ μ, OpN K (rRepr K) [.d (tupI cs)] μ (.s (tupI cs).shown) μ := fun μ => n_reprT (sml_in csi) (by omega)
    refine s_seq (s_if (b := false) (et_orF (ne0 (a := plus c0 (0, [])) (b := c0) (ew_plus (ew_var rfl) (ew_var rfl) ok0 okS0 okp1) (ew_var rfl) ps.1) (et_orF (ne0 (a := plus (0, []) c0) (b := c0) (ew_plus (ew_var rfl) (ew_var rfl) okS0 ok0 okp2) (ew_var rfl) ps.2) (et_is (et_test (ew_op (ew_cb (ea_cons (ew_is (R2 := .d (tupI cs)) (appd (a := (0, [])) rfl (ew_var rfl) okS0 (by show (0 : Int) ≤ _; omega) csk) (by rw [put_still])) ea_nil) (rpc _)) (ew_cb (ea_cons (ew_var rfl) ea_nil) (rpc _)) o_neS)) (by simp)))) nofun (fun _ => s_next ?_))
    -- low
    obtain ⟨a, ha⟩ := Int.eq_ofNat_of_zero_le z0
    have lc4 := ew_lcM (K := K) (ρ := [some (.r p), some (.i m), some (.d (.list [mvD q0.t q0.l, mvD q1.t q1.l, mvD q2.t q2.l])), some (effA ad.C_Effect c0), some (effA ad.C_Effect c1), some (effA ad.C_Effect c2), some (.i (n : Int)), some (.d (tupI cs)), some (.d (tupI (put q0.t q0.l cs))), some (effA ad.C_Effect (plus c0 c1)), some (effA ad.C_Effect (plus (plus c0 c1) c2)), some (.d (tupI (put q1.t q1.l (put q0.t q0.l cs)))), v12, v13, v14, some (effA ad.C_Effect (0, [])), none, none, none, none]) (μ := updM μ p (kO s5)) (μ1 := updM μ p (kO s5)) (g := gName 19) (te := tOp (rI0 fun i j => .int (i - j)) (tOp (rI0 fun i j => .int (i - j)) (tC (.int 0)) (tC (.int 1))) (tVar 19)) (vs := [19]) (List.range a) (fun (i : Nat) => .i (0 + (i : Int))) (fun (i : Nat) => .int (-1 - (i : Int))) (it_map (it_r1 (ta := tCons (tProp ad.C_Effect (spP K (STaken ad.C_Effect)) [] E0 (tVar 3)) tNil) (n := c0.1) (ea_cons (ew_taken (ew_var rfl)) ea_nil) (by omega) (by omega)) (by rw [show c0.1.toNat = a by omega])) (fun i hi => ⟨_, gc_name (by simp), ew_isI (ew_op (ew_op ew_int ew_int o_I0) (ew_var rfl) o_I0) (by omega)⟩) (by simp; omega)
    have ec4 : (List.range a).map (fun (i : Nat) => PyData.int (-1 - (i : Int))) = ((List.range a).map fun (i : Nat) => -1 - (i : Int)).map .int := by rw [List.map_map]; rfl
    rw [ec4] at lc4
    have lowl : ((List.range a).map fun (i : Nat) => -1 - (i : Int)).length = a := by simp
    have lowi : ∀ c ∈ (List.range a).map fun (i : Nat) => -1 - (i : Int), -(10 ^ 30) ≤ c ∧ c ≤ 10 ^ 30 := fun c h => by
      obtain ⟨i, hi, rfl⟩ := List.mem_map.mp h
      have := List.mem_range.mp hi
      omega
    generalize (List.range a).map (fun (i : Nat) => -1 - (i : Int)) = low at lc4 lowl lowi
    refine s_seq (s_asg (R := .d (tupI low)) (μ1 := updM μ p (kO s5)) (ew_cb (ea_cons lc4 ea_nil) n_tupL) ?_)
    have lk : okS low := ⟨by omega, lowi⟩
    have lpl := put_len (l := c0.2) z0 (show c0.1 ≤ low.length by omega)
    have rpl : ∀ μ, OpN K (rRepr K) [.d (tupI (put c0.1 c0.2 low))] μ (.s (tupI (put c0.1 c0.2 low)).shown) μ := fun μ => n_reprT (sml_in (put_in lowi E0'.good)) (by omega)
    refine s_seq (s_if (b := false) (et_is (et_test (ew_op (ew_cb (ea_cons (appd (a := c0) rfl (ew_var rfl) ok0 (by omega) lk) ea_nil) (rpl _)) (ew_cb (ea_cons (ew_fn (S := SPut) (ea_cons (ew_taken (ew_var rfl)) (ea_cons (ew_left (ew_var rfl)) (ea_cons (ew_var rfl) ea_nil))) ⟨c0.1, c0.2, low, rfl, z0, by omega, by omega, by omega, E0'.good, rfl, rfl⟩) ea_nil) (rpl _)) o_neS)) (by simp)) nofun (fun _ => s_next ?_))
    refine s_ret (ew_is (R2 := .b true) (ew_op (R1 := .d (dueD c0)) (R2 := .d (dueD c0)) (ew_tup (ds := [.int c0.1, .tuple (srcsD c0.2)]) (ea_cons (ew_taken (ew_var rfl)) (ea_cons (ew_left (ew_var rfl)) ea_nil)) (by simp)) (cutq (ea_cons (ew_op (R := .i q0.t) (ew_op (ew_var rfl) ew_int (o_ixLz rfl)) ew_int (o_ixTz rfl)) (ea_cons (ew_op (R := .d (.tuple (srcsD q0.l))) (ew_op (ew_var rfl) ew_int (o_ixLz rfl)) ew_int (o_ixTz rfl)) ea_nil))) (o_eqD (due_shaped c0) (due_shaped c0))) ?_) ⟨_, hp s5 s5_ok (by omega), Sub.refl _⟩
    rw [due_eqv]
    simp
end
end K15

set_option Elab.async false
set_option linter.all false
set_option maxRecDepth 100000
set_option maxHeartbeats 4000000
namespace Lw
open PySem PySem.Spec PyProof.Rows L2
/-- x = [..], owned -/
theorem s_asgOwn {K : Fr} {ρ : AS} {μ μ1 : AM} {P : Po} {Rs : List AV} {ta : TA} {j : Nat} (h : EvA K ta ρ μ Rs μ1) (hz : Rs.length ≤ 100000) (p : ∀ l, μ1 l = none → P.nx (ρ.set j (some (.r l))) (updM μ1 l (.lst Rs))) : StW K (tAsg (tLst ta) (gName j)) ρ μ P := fun F D B H σ w sl r =>
  ew_lstR h hz F B H σ w sl _ fun l B2 H2 e hm w2 => r.nx _ _ B2 H2 _ (p l hm) e w2 (Sl.set (R := .r l) (v := .ref l) (show V.ref l = V.ref l from rfl) j (sl.mono e))
end Lw
namespace K15
open PySem PySem.Spec PyProof.Rows L2 Lw
def SWide : Spc := fun As μ Post => ∃ (p : Addr) (s : Kl), As = [.r p] ∧ μ p = some (kO s) ∧ s.ok ∧ s.c < 10 ^ 18 ∧ ∀ s' : Kl, s'.ok → s'.c ≤ s.c + 2000 → Post (.b true) (updM μ p (kO s'))
section
variable {P : Program} {w : World} {K : Fr} {mg : Str → Option Value} {base : Heap} {ad : Ad}
theorem ok__law_wide_right (T : Txt K mg ad) : FnG P w K mg base 13 ad.f__law_wide_right ad.fd__law_wide_right ["kiln"] (spP K SWide) := by
  have nd := sc__law_wide_right.nd
  refine fnG_ok (k := 12) T.F__law_wide_right sc__law_wide_right (fun As μ Post h => ?_) (fun cdv A outer s H E hg hr => ?_)
  · obtain ⟨p, s, rfl, _⟩ := h
    rfl
  · have hu := hr.un
    have hu64 : A.units + 3 + 64 < cLine := by
      have : A.units + 3 + 200 < cLine := by simp at hu; omega
      omega
    have hu66 : A.units + 3 + 66 < cLine := by
      have : A.units + 3 + 200 < cLine := by simp at hu; omega
      omega
    refine ⟨_, (pss_cons (ps_asg (pe_call (ok__law_made T) (hr.mono (by decide)) rfl T.mg__law_made T.k__law_made T.b__law_made .nil pass0 (pa_cons (pv 0) (pa_cons pe_int pa_nil))) (pg_tup rfl (pgs_cons (pg_name (i := 1) nd rfl (Or.inl rfl)) (pgs_cons (pg_name (i := 2) nd rfl (Or.inl rfl)) pgs_nil))))
 (pss_cons (ps_set (i := 3) nd rfl (Or.inl rfl) (pe_call (ok__law_scoop T) (hr.mono (by decide)) rfl T.mg__law_scoop T.k__law_scoop T.b__law_scoop .nil pass0 (pa_cons (pv 0) (pa_cons (pe_op op_add (pe_callB call_len_seq (by rfl) T.z_len PySem.boot_len (pa_cons (pv 2) pa_nil)) pe_int) pa_nil))))
 (pss_cons (ps_set (i := 4) nd rfl (Or.inl rfl) (pe_lst pa_nil))
 (pss_cons (ps_for PassesOwn.never rfl (pi_range1 rfl T.z_range (pa_cons (pe_call (ok__law_scoop T) (hr.mono (by decide)) rfl T.mg__law_scoop T.k__law_scoop T.b__law_scoop .nil pass0 (pa_cons (pv 0) (pa_cons (pe_op op_add (pe_op op_sub pe_int (pe_callB call_len_seq (by rfl) T.z_len PySem.boot_len (pa_cons (pv 2) pa_nil))) (pv 3)) pa_nil))) pa_nil)) (pg_name (i := 5) nd rfl (Or.inl rfl))
 (pss_cons (ps_par (i := 6) (j := 7) rfl nd rfl rfl (by decide) rfl rfl (pa_cons (pe_call (ok__law_scoop T) (hr.mono (by decide)) rfl T.mg__law_scoop T.k__law_scoop T.b__law_scoop .nil pass0 (pa_cons (pv 0) (pa_cons pe_int pa_nil))) (pa_cons (pe_op op_mod (pv 5) (pe_callB (call_max2 rfl) (by rfl) T.z_max (by decide +kernel) (pa_cons pe_int (pa_cons (pv 3) pa_nil)))) pa_nil)) rfl)
 (pss_cons (ps_if (PW.pt (pw_and (pt_cmpR op_eq (pe_op op_mod (pv 6) pe_int) pe_int (nomark _)) (pw_and1 (pt_cmpR op_gt (pv 3) pe_int (nomark _)))))
 (pss_one (ps_set (i := 7) nd rfl (Or.inl rfl) (pe_call (ok__law_scoop T) (hr.mono (by decide)) rfl T.mg__law_scoop T.k__law_scoop T.b__law_scoop .nil pass0 (pa_cons (pv 0) (pa_cons (pv 3) pa_nil)))))
 pss_nil)
 (pss_one (ps_expr (pe_bm PySem.F.plainAttrs_list PySem.F.slot_list_append PySem.F.type_list_append mt_append (pv 4) (pa_cons (pe_ifExp (PW.pt (pw_and (pt_cmpR op_gt (pv 3) pe_int (nomark _)) (pw_and1 (pt_cmpR op_lt (pv 6) pe_int (nomark _))))) (pe_tup (pa_cons pe_str (pa_cons (pv 7) pa_nil))) (pe_tup (pa_cons pe_str (pa_cons (pv 5) pa_nil)))) pa_nil)))))))
 (pss_cons (ps_par (i := 8) (j := 9) rfl nd rfl rfl (by decide) rfl rfl (pa_cons (pe_make T.mk_Effect (ok_Effect_init T) (hr.mono (by decide)) rfl T.mgC_Effect T.b_Effect_init .nil pass0 (pa_cons (pv 1) (pa_cons (pv 2) pa_nil))) (pa_cons (pe_make T.mk_Effect (ok_Effect_init T) (hr.mono (by decide)) rfl T.mgC_Effect T.b_Effect_init .nil pass0 (pa_cons (pv 3) (pa_cons (pe_callTy call_tuple_of (by rfl) T.z_tuple (by decide +kernel) (pa_cons (pv 4) pa_nil)) pa_nil))) pa_nil)) rfl)
 (pss_cons (ps_set (i := 10) nd rfl (Or.inl rfl) (pe_callTy call_tuple_of (by rfl) T.z_tuple (by decide +kernel) (pa_cons (pe_lc (own := [("place", 16)]) (by rfl) nd (pi_range1 rfl T.z_range (pa_cons (pe_op op_add (pv 1) (pe_call (ok__law_scoop T) (hr.mono (by decide)) rfl T.mg__law_scoop T.k__law_scoop T.b__law_scoop .nil pass0 (pa_cons (pv 0) (pa_cons (pe_op op_sub pe_int (pv 1)) pa_nil)))) pa_nil)) (blkOk_by (N := ["kiln", "taken_here", "left_here", "later", "rows", "turn", "way", "spot", "one", "two", "cells", "due", "both", "depth_here", "middle", "told", "place"]) (sc := defScope s__law_wide_right) (by decide +kernel)) (fun _ _ _ _ _ => (pg_name (i := 16) nd rfl (Or.inl rfl))) (fun _ _ _ _ _ => pts_nil) (fun _ _ _ _ _ => (pe_op op_add pe_int (pv 16)))) pa_nil)))
 (pss_cons (ps_set (i := 11) nd rfl (Or.inl rfl) (pe_call (ok__law_put T) (hr.mono (by decide)) rfl T.mg__law_put T.k__law_put T.b__law_put .nil pass0 (pa_cons (pv 3) (pa_cons (pe_callTy call_tuple_of (by rfl) T.z_tuple (by decide +kernel) (pa_cons (pv 4) pa_nil)) (pa_cons (pe_call (ok__law_put T) (hr.mono (by decide)) rfl T.mg__law_put T.k__law_put T.b__law_put .nil pass0 (pa_cons (pv 1) (pa_cons (pv 2) (pa_cons (pv 10) pa_nil)))) pa_nil)))))
 (pss_cons (ps_set (i := 12) nd rfl (Or.inl rfl) (pe_op (op_binA (op := .Add) T.sf_Effect T.h_Effect_add T.i_Effect_add (ok_Effect_add T) T.b_Effect_add (hr.mono (by decide))) (pv 8) (pv 9)))
 (pss_cons (ps_if (PW.pt (pw_or (pt_cmpR op_ne (pe_callB (call_reprD hu66 hg) (by rfl) T.z_repr (by decide +kernel) (pa_cons (pe_call (ok__law_applied T) (hr.mono (by decide)) rfl T.mg__law_applied T.k__law_applied T.b__law_applied .nil pass0 (pa_cons (pv 12) (pa_cons (pv 10) pa_nil))) pa_nil)) (pe_callB (call_reprD hu66 hg) (by rfl) T.z_repr (by decide +kernel) (pa_cons (pv 11) pa_nil)) (nomark _)) (pw_or1 (pt_cmpR op_ne (pe_prop (pv 12) T.cl_Effect T.pr_Effect_growth (ok_Effect_growth T) (hr.mono (by decide)) T.b_Effect_growth .nil pass0 rfl) (pe_op op_add (pe_prop (pv 8) T.cl_Effect T.pr_Effect_growth (ok_Effect_growth T) (hr.mono (by decide)) T.b_Effect_growth .nil pass0 rfl) (pe_prop (pv 9) T.cl_Effect T.pr_Effect_growth (ok_Effect_growth T) (hr.mono (by decide)) T.b_Effect_growth .nil pass0 rfl)) (nomark _)))))
 (pss_one (ps_ret pe_bl))
 pss_nil)
 (pss_cons (ps_for PassesOwn.never rfl (pi_range1 rfl T.z_range (pa_cons (pe_op op_add (pe_callB (call_lenOwn T.h_Effect_len T.i_Effect_len (ok_Effect_len T) T.b_Effect_len (hr.mono (by decide))) (by rfl) T.z_len PySem.boot_len (pa_cons (pv 12) pa_nil)) pe_int) pa_nil)) (pg_name (i := 13) nd rfl (Or.inl rfl))
 (pss_cons (ps_set (i := 14) nd rfl (Or.inl rfl) (pe_meth (pv 9) T.cl_Effect T.m_Effect_source (ok_Effect_source T) (hr.mono (by decide)) T.b_Effect_source .nil pass0 (pa_cons (pv 13) pa_nil)))
 (pss_cons (ps_set (i := 15) nd rfl (Or.inl rfl) (pe_ifExp (pt_cmpR op_eq (pe_ix ix_tup (pv 14) pe_int (fun _ _ => rfl)) pe_str (nomark _)) (pe_meth (pv 8) T.cl_Effect T.m_Effect_source (ok_Effect_source T) (hr.mono (by decide)) T.b_Effect_source .nil pass0 (pa_cons (pe_ix ix_tup (pv 14) pe_int (fun _ _ => rfl)) pa_nil)) (pv 14)))
 (pss_one (ps_if (pt_cmpR op_ne (pe_callB (call_reprD hu66 hg) (by rfl) T.z_repr (by decide +kernel) (pa_cons (pe_meth (pv 12) T.cl_Effect T.m_Effect_source (ok_Effect_source T) (hr.mono (by decide)) T.b_Effect_source .nil pass0 (pa_cons (pv 13) pa_nil)) pa_nil)) (pe_callB (call_reprD hu66 hg) (by rfl) T.z_repr (by decide +kernel) (pa_cons (pv 15) pa_nil)) (nomark _))
 (pss_one (ps_ret pe_bl))
 pss_nil)))))
 (pss_one (ps_ret (pe_cmpR op_eq (pe_callB (call_reprD hu66 hg) (by rfl) T.z_repr (by decide +kernel) (pa_cons (pe_call (ok__law_applied T) (hr.mono (by decide)) rfl T.mg__law_applied T.k__law_applied T.b__law_applied .nil pass0 (pa_cons (pv 8) (pa_cons (pv 10) pa_nil))) pa_nil)) (pe_callB (call_reprD hu66 hg) (by rfl) T.z_repr (by decide +kernel) (pa_cons (pe_call (ok__law_put T) (hr.mono (by decide)) rfl T.mg__law_put T.k__law_put T.b__law_put .nil pass0 (pa_cons (pv 1) (pa_cons (pv 2) (pa_cons (pv 10) pa_nil)))) pa_nil)) (nomark _)))))))))))))), ?_⟩
    rintro As μ Post ⟨p, s, rfl, hp0, hs, hc, hp⟩
    have mk := made_ok2 (m := 100) hs (by decide)
    refine s_seq (s_asgG (ew_fn (S := SMade) (ea_cons (ew_var rfl) (ea_cons ew_int ea_nil)) ⟨p, s, 100, rfl, hp0, by decide, by decide, hs, by omega, rfl, rfl⟩) (gw_tup rfl (gs_cons gw_name (gs_cons gw_name gs_nil))) ?_)
    generalize made s 100 = q at mk
    obtain ⟨t, l, s1⟩ := q
    obtain ⟨⟨ok, t1, l1⟩, s1_ok, s1_c⟩ := mk
    simp only at ok t1 l1 s1_ok s1_c ⊢
    obtain ⟨o1, o2, o3, o4⟩ := id ok
    have hlen : ∀ {ρ : AS} {μ : AM}, ρ[2]? = some (some (.d (.tuple (srcsD l)))) → EvW K (tCB (fun xs H Q => ∃ p ys, xs = [.ref p] ∧ (SqL K H p ys ∨ SqT K H p ys) ∧ Q (.int ys.length) H) (tCons (tVar 2) tNil)) ρ μ (.i (l.length : Int)) μ := fun h => ew_isI (ew_cb (ea_cons (ew_var h) ea_nil) n_len) (by rw [srcsD_len])
    -- later
    have g2 := grow1 (n := (l.length : Int) + 1) s1_ok (by omega)
    have k2 := g2.c
    have d2 := drawn_lo s1 (n := (l.length : Int) + 1) (by omega)
    refine s_seq (s_asg (μ1 := updM μ p (kO (after s1 ((l.length : Int) + 1)))) (ew_scoop rfl (ew_op (hlen rfl) ew_int o_I0) (by omega) s1_ok (by omega)) ?_)
    have s2_ok := g2.ok
    have s2_c : (after s1 ((l.length : Int) + 1)).c ≤ s.c + 401 := by omega
    generalize after s1 ((l.length : Int) + 1) = s2 at s2_ok s2_c
    generalize drawn s1 ((l.length : Int) + 1) = u at d2
    -- rows = []
    refine s_seq (s_asgOwn ea_nil (by simp) (fun lr hlr => ?_))
    have hne : p ≠ lr := fun e => by rw [← e, updM_same] at hlr; cases hlr
    have hlr0 : μ lr = none := by rw [updM_ne hne.symm] at hlr; exact hlr
    rw [updM_comm hne]
    have g3 := grow1 (n := 101 - (l.length : Int) + u) s2_ok (by omega)
    have k3 := g3.c
    have d3 := drawn_lo s2 (n := 101 - (l.length : Int) + u) (by omega)
    have s3_ok := g3.ok
    have s3_c : (after s2 (101 - (l.length : Int) + u)).c ≤ s.c + 402 := by omega
    have itw := it_r1 (K := K) (ρ := [some (.r p), some (.i t), some (.d (.tuple (srcsD l))), some (.i u), some (.r lr), none, none, none, none, none, none, none, none, none, none, none, none]) (μ := updM (updM μ lr (.lst [])) p (kO s2)) (n := drawn s2 (101 - (l.length : Int) + u)) (ta := tCons (tCall (spP K SScoop) [] E0 (tCons (tVar 0) (tCons (tOp (rI0 fun i j => .int (i + j)) (tOp (rI0 fun i j => .int (i - j)) (tC (.int 101)) (tCB (fun xs H Q => ∃ p ys, xs = [.ref p] ∧ (SqL K H p ys ∨ SqT K H p ys) ∧ Q (.int ys.length) H) (tCons (tVar 2) tNil))) (tVar 3)) tNil))) tNil) (ea_cons (ew_scoop (n := 101 - (l.length : Int) + u) rfl (ew_op (ew_op ew_int (hlen rfl) o_I0) (ew_var rfl) o_I0) (by omega) s2_ok (by omega)) ea_nil) (by omega) (by omega)
    obtain ⟨n, hn⟩ := Int.eq_ofNat_of_zero_le d3.1
    rw [hn] at itw d3
    generalize after s2 (101 - (l.length : Int) + u) = s3 at s3_ok s3_c itw
    refine s_seqM (fun ρ' μ' => ∃ v5 v6 v7 s4 rs, ρ' = [some (.r p), some (.i t), some (.d (.tuple (srcsD l))), some (.i u), some (.r lr), v5, v6, v7, none, none, none, none, none, none, none, none, none] ∧ μ' = updM (updM μ lr (.lst ((srcsD rs).map .d))) p (kO s4) ∧ s4.ok ∧ s4.c ≤ s.c + 1000 ∧ rs.length = n ∧ rs.all (srcOk u) = true)
      (s_for itw (fun i ρ' μ' => ∃ v5 v6 v7 s4 rs, ρ' = [some (.r p), some (.i t), some (.d (.tuple (srcsD l))), some (.i u), some (.r lr), v5, v6, v7, none, none, none, none, none, none, none, none, none] ∧ μ' = updM (updM μ lr (.lst ((srcsD rs).map .d))) p (kO s4) ∧ s4.ok ∧ s4.c ≤ s.c + 402 + 2 * i ∧ rs.length = i ∧ rs.all (srcOk u) = true) ⟨none, none, none, s3, [], rfl, rfl, s3_ok, by omega, rfl, rfl⟩ ?_ ?_) ?_
    · rintro i x ρ' μ' hx ⟨v5, v6, v7, s4, rs, rfl, rfl, s4_ok, s4_c, rl, rg⟩
      have hlt : i < n := by
        have := (List.getElem?_eq_some_iff.mp hx).1
        simpa using this
      rw [List.getElem?_map, List.getElem?_range (by simpa using hlt)] at hx
      have ex : x = .i (0 + (i : Int)) := (Option.some.inj hx).symm
      rw [Int.zero_add] at ex
      subst ex
      have g5 := grow1 (n := 6) s4_ok (by decide)
      have k5 := g5.c
      refine ⟨_, gw_name, s_seq (s_par (R1 := .i (drawn s4 6)) (R2 := .i ((i : Int) % max 1 u)) (μ1 := updM (updM μ lr (.lst ((srcsD rs).map .d))) p (kO (after s4 6))) (ea_cons (ew_scoop rfl ew_int (by decide) s4_ok (by omega)) (ea_cons (ew_op (ew_var rfl) (ew_cb (ea_cons ew_int (ea_cons (ew_var rfl) ea_nil)) n_max2) (o_mod (by omega))) ea_nil)) ?_)⟩
      have s5_ok := g5.ok
      have s5_c : (after s4 6).c ≤ s.c + 403 + 2 * i := by omega
      generalize after s4 6 = s5 at s5_ok s5_c
      generalize drawn s4 6 = way
      have m1 := Int.emod_nonneg (i : Int) (show max 1 u ≠ 0 by omega)
      have m2 := Int.emod_lt_of_pos (i : Int) (show 0 < max 1 u by omega)
      refine s_seqM (fun ρ' μ' => ∃ spot s6, ρ' = [some (.r p), some (.i t), some (.d (.tuple (srcsD l))), some (.i u), some (.r lr), some (.i (i : Int)), some (.i way), some (.i spot), none, none, none, none, none, none, none, none, none] ∧ μ' = updM (updM μ lr (.lst ((srcsD rs).map .d))) p (kO s6) ∧ s6.ok ∧ s6.c ≤ s.c + 404 + 2 * i ∧ 0 ≤ spot ∧ (0 < u → spot < u)) (s_if (b := decide (way % 2 = 1) && decide (0 < u)) (et_and (et_test (ew_op (ew_op (ew_var rfl) ew_int (o_mod (by decide))) ew_int o_eqI)) (fun _ => et_test (ew_op (ew_var rfl) ew_int o_B0))) (fun h => ?_) (fun h => s_next ⟨_, s5, rfl, rfl, s5_ok, by omega, m1, fun h => by omega⟩)) ?_
      · have hu0 : 0 < u := by
          simp only [Bool.and_eq_true, decide_eq_true_eq] at h
          exact h.2
        have g6 := grow1 (n := u) s5_ok hu0
        have k6 := g6.c
        have d6 := drawn_lo s5 (n := u) hu0
        exact s_asg (ew_scoop rfl (ew_var rfl) (by omega) s5_ok (by omega)) ⟨_, _, rfl, rfl, g6.ok, by omega, d6.1, fun _ => d6.2⟩
      · rintro ρ' μ' ⟨spot, s6, rfl, rfl, s6_ok, s6_c, h1, h2⟩
        have hlf : (updM (updM μ lr (.lst ((srcsD rs).map .d))) p (kO s6)) lr = some (.lst ((srcsD rs).map .d)) := by rw [updM_ne hne.symm, updM_same]
        have fin : ∀ (x : Src), srcOk u x = true → True → ∃ v5 v6 v7 s4 rs', ([some (.r p), some (.i t), some (.d (.tuple (srcsD l))), some (.i u), some (.r lr), some (.i (i : Int)), some (.i way), some (.i spot), none, none, none, none, none, none, none, none, none] : AS) = [some (.r p), some (.i t), some (.d (.tuple (srcsD l))), some (.i u), some (.r lr), v5, v6, v7, none, none, none, none, none, none, none, none, none] ∧ updM (updM (updM μ lr (.lst ((srcsD rs).map .d))) p (kO s6)) lr (.lst ((srcsD rs).map .d ++ [.d x.d])) = updM (updM μ lr (.lst ((srcsD rs').map .d))) p (kO s4) ∧ s4.ok ∧ s4.c ≤ s.c + 402 + 2 * ((i + 1 : Nat) : Int) ∧ rs'.length = i + 1 ∧ rs'.all (srcOk u) = true := fun x hx _ => by
          refine ⟨_, _, _, s6, rs ++ [x], rfl, ?_, s6_ok, by push_cast; omega, by simp [rl], by rw [List.all_append, rg]; simp [hx]⟩
          have ea : ∀ X Y : AO, updM (updM (updM μ lr X) p (kO s6)) lr Y = updM (updM μ lr Y) p (kO s6) := fun X Y => by rw [updM_comm hne, updM_updM, updM_comm hne.symm]
          rw [ea]
          congr 3
          unfold srcsD
          simp
        by_cases hb : (decide (0 < u) && decide (way < 5)) = true
        · have hu0 : 0 < u := by
            simp only [Bool.and_eq_true, decide_eq_true_eq] at hb
            exact hb.1
          refine s_app (l := lr) (xs := (srcsD rs).map .d) (R := .d (Src.inp spot).d) (ew_var rfl) (ew_if (b := true) (et_is (et_and (et_test (ew_op (ew_var rfl) ew_int o_B0)) (fun _ => et_test (ew_op (ew_var rfl) ew_int o_B0))) hb) (fun _ => ew_tup (ds := [.str sIn, .int spot]) (ea_cons ew_str (ea_cons (ew_var rfl) ea_nil)) (by simp)) nofun) ⟨_, hlf⟩ hlf (by rw [List.length_map, srcsD_len]; omega) (fin _ (inp_ok ⟨h1, h2 hu0⟩) trivial)
        · have hb' : (decide (0 < u) && decide (way < 5)) = false := by simpa using hb
          refine s_app (l := lr) (xs := (srcsD rs).map .d) (R := .d (Src.lit (i : Int)).d) (ew_var rfl) (ew_if (b := false) (et_is (et_and (et_test (ew_op (ew_var rfl) ew_int o_B0)) (fun _ => et_test (ew_op (ew_var rfl) ew_int o_B0))) hb') nofun (fun _ => ew_tup (ds := [.str sLit, .int (i : Int)]) (ea_cons ew_str (ea_cons (ew_var rfl) ea_nil)) (by simp))) ⟨_, hlf⟩ hlf (by rw [List.length_map, srcsD_len]; omega) (fin _ (lit_ok (by omega)) trivial)
    · rintro ρ' μ' ⟨v5, v6, v7, s4, rs, rfl, rfl, s4_ok, s4_c, rl, rg⟩
      have e : (List.map (fun (i : Nat) => AV.i (0 + (i : Int))) (List.range ((n : Nat) : Int).toNat)).length = n := by simp
      rw [e] at s4_c rl
      exact ⟨v5, v6, v7, s4, rs, rfl, rfl, s4_ok, by omega, rl, rg⟩
    rintro ρ' μ' ⟨v5, v6, v7, s4, rs, rfl, rfl, s4_ok, s4_c, rl, rg⟩
    have subP : ∀ s' : Kl, Sub (updM μ p (kO s')) (updM (updM μ lr (.lst ((srcsD rs).map .d))) p (kO s')) := fun s' x o e => by
      by_cases hx : x = p
      · subst hx
        rw [updM_same] at e ⊢
        exact e
      · rw [updM_ne hx] at e ⊢
        rw [updM_ne (fun q => by rw [q, hlr0] at e; cases e)]
        exact e
    have rowsT : ∀ {ρ : AS} {s' : Kl}, ρ[4]? = some (some (.r lr)) → EvW K (tCB (fun xs H Q => ∃ p ys, xs = [.ref p] ∧ ((SqL K H p ys ∧ ∀ l, H l = none → Q (.ref l) (upd H l (.tup ys))) ∨ (SqT K H p ys ∧ Q (.ref p) H))) (tCons (tVar 4) tNil)) ρ (updM (updM μ lr (.lst ((srcsD rs).map .d))) p (kO s')) (.d (.tuple (srcsD rs))) (updM (updM μ lr (.lst ((srcsD rs).map .d))) p (kO s')) := fun h => ew_cb (ea_cons (ew_var h) ea_nil) (n_tupO (l := lr) (by rw [updM_ne hne.symm, updM_same]))
    have okr : okE u rs := ⟨d2.1, by omega, by omega, rg⟩
    -- one, two
    refine s_seq (s_par (ea_cons (ew_effT (ea_cons (ew_var rfl) (ea_cons (ew_var rfl) ea_nil)) ok) (ea_cons (ew_effT (ea_cons (ew_var rfl) (ea_cons (rowsT rfl) ea_nil)) okr) ea_nil)) ?_)
    have E0' := Eff.of o1 o4
    have E1' := Eff.of okr.1 rg
    have ok0 := cut_okE ok
    have ok1 := cut_okE okr
    have put0 : ∀ cs : List Int, t ≤ cs.length → put (cut t l).1 (cut t l).2 cs = put t l cs := fun cs h => put_cut o1 o4 h
    have put1 : ∀ cs : List Int, u ≤ cs.length → put (cut u rs).1 (cut u rs).2 cs = put u rs cs := fun cs h => put_cut okr.1 rg h
    have gr0 := cut_growth t l
    have gr1 := cut_growth u rs
    have le0 := cut_le t l
    have le1 := cut_le u rs
    generalize cut t l = c0 at E0' ok0 put0 gr0 le0
    generalize cut u rs = c1 at E1' ok1 put1 gr1 le1
    generalize updM μ lr (.lst ((srcsD rs).map .d)) = μr at subP rowsT
    -- cells
    have g6 := grow1 (n := 101 - t) s4_ok (by omega)
    have k6 := g6.c
    have d6 := drawn_lo s4 (n := 101 - t) (by omega)
    have itc := it_r1 (K := K) (ρ := [some (.r p), some (.i t), some (.d (.tuple (srcsD l))), some (.i u), some (.r lr), v5, v6, v7, some (effA ad.C_Effect c0), some (effA ad.C_Effect c1), none, none, none, none, none, none, none]) (μ := updM μr p (kO s4)) (n := t + drawn s4 (101 - t)) (ta := tCons (tOp (rI0 fun i j => .int (i + j)) (tVar 1) (tCall (spP K SScoop) [] E0 (tCons (tVar 0) (tCons (tOp (rI0 fun i j => .int (i - j)) (tC (.int 101)) (tVar 1)) tNil)))) tNil) (ea_cons (ew_op (ew_var rfl) (ew_scoop (n := 101 - t) rfl (ew_op ew_int (ew_var rfl) o_I0) (by omega) s4_ok (by omega)) o_I0) ea_nil) (by omega) (by omega)
    obtain ⟨b, hb⟩ := Int.eq_ofNat_of_zero_le (show 0 ≤ t + drawn s4 (101 - t) by omega)
    have b1 : t ≤ b := by omega
    have b2 : b ≤ 100 := by omega
    rw [hb] at itc
    have s5_ok := g6.ok
    have s5_c : (after s4 (101 - t)).c ≤ s.c + 1001 := by omega
    generalize after s4 (101 - t) = s5 at s5_ok s5_c itc
    have lc3 := ew_lcM (K := K) (ρ := [some (.r p), some (.i t), some (.d (.tuple (srcsD l))), some (.i u), some (.r lr), v5, v6, v7, some (effA ad.C_Effect c0), some (effA ad.C_Effect c1), none, none, none, none, none, none, none]) (g := gName 16) (te := tOp (rI0 fun i j => .int (i + j)) (tC (.int 1000)) (tVar 16)) (vs := [16]) (List.range b) (fun (i : Nat) => .i (0 + (i : Int))) (fun (i : Nat) => .int (1000 + (i : Int))) (it_map itc (by simp)) (fun i hi => ⟨_, gc_name (by simp), ew_isI (ew_op ew_int (ew_var rfl) o_I0) (by omega)⟩) (by simp; omega)
    have ec : (List.range b).map (fun (i : Nat) => PyData.int (1000 + (i : Int))) = (stk b).map .int := by unfold stk; rw [List.map_map]; rfl
    rw [ec] at lc3
    refine s_seq (s_asg (R := .d (tupI (stk b))) (μ1 := updM μr p (kO s5)) (ew_cb (ea_cons lc3 ea_nil) n_tupL) ?_)
    clear lc3 itc
    have csl := stk_len b
    have csi : ∀ c ∈ stk b, -(10 ^ 30) ≤ c ∧ c ≤ 10 ^ 30 := fun c h => by have := stk_in h; omega
    generalize stk b = cs at csl csi
    have csk : okS cs := ⟨by omega, csi⟩
    -- due
    have t0n : t ≤ cs.length := by omega
    have dul := put_len (l := l) o1 t0n
    have dui := put_in (t := t) csi o4
    have u1n : u ≤ (put t l cs).length := by omega
    have lal := put_len (l := rs) d2.1 u1n
    have lai := put_in (t := u) dui rg
    have putq : ∀ {ρ : AS} {μ : AM} {E : XK}, ρ[1]? = some (some (.i t)) → ρ[2]? = some (some (.d (.tuple (srcsD l)))) → ρ[10]? = some (some (.d (tupI cs))) → EvW K (tCall (spP K SPut) [] E (tCons (tVar 1) (tCons (tVar 2) (tCons (tVar 10) tNil)))) ρ μ (.d (tupI (put t l cs))) μ := fun h1 h2 h3 => ew_fn (S := SPut) (ea_cons (ew_var h1) (ea_cons (ew_var h2) (ea_cons (ew_var h3) ea_nil))) ⟨t, l, cs, rfl, o1, t0n, by omega, by omega, o4, rfl, rfl⟩
    refine s_seq (s_asg (R := .d (tupI (put u rs (put t l cs)))) (μ1 := updM μr p (kO s5)) (ew_fn (S := SPut) (ea_cons (ew_var rfl) (ea_cons (rowsT rfl) (ea_cons (putq rfl rfl rfl) ea_nil))) ⟨u, rs, put t l cs, rfl, d2.1, u1n, by omega, by omega, rg, rfl, rfl⟩) ?_)
    -- both
    have z0 := E0'.t0
    have z1 := E1'.t0
    have P01 := plus_le (a := c0) E1'
    have okb := plus_okE E0' E1' (by omega) (by omega)
    refine s_seq (s_asg (ew_plus (ew_var rfl) (ew_var rfl) ok0 ok1 okb) ?_)
    have ap0 := put0 cs t0n
    have eb : put (plus c0 c1).1 (plus c0 c1).2 cs = put u rs (put t l cs) := by
      rw [put_plus E0' E1' (by omega) (by rw [ap0]; omega), ap0, put1 _ u1n]
    have appd : ∀ {ρ : AS} {μ : AM} {i : Nat} {a : Int × List Src} {cs : List Int} {E : XK} {tb : TE}, ρ[i]? = some (some (effA ad.C_Effect a)) → EvW K tb ρ μ (.d (tupI cs)) μ → okE a.1 a.2 → a.1 ≤ cs.length → okS cs → EvW K (tCall (spP K (SApplied ad.C_Effect)) [] E (tCons (tVar i) (tCons tb tNil))) ρ μ (.d (tupI (put a.1 a.2 cs))) μ := fun {ρ μ i a cs E tb} h1 h2 h3 h4 h5 => ew_fn (S := SApplied ad.C_Effect) (ea_cons (ew_var h1) (ea_cons h2 ea_nil)) ⟨a, cs, rfl, h3.1, h4, by have := h3.2.2.1; omega, h3.2.2.2, h5, rfl, rfl⟩
    have rp1 : ∀ μ, OpN K (rRepr K) [.d (tupI (put u rs (put t l cs)))] μ (.s (tupI (put u rs (put t l cs))).shown) μ := fun μ => n_reprT (sml_in lai) (by omega)
    have rp0 : ∀ μ, OpN K (rRepr K) [.d (tupI (put t l cs))] μ (.s (tupI (put t l cs)).shown) μ := fun μ => n_reprT (sml_in dui) (by omega)
    refine s_seq (s_if (b := false) (et_orF (et_is (et_test (ew_op (ew_cb (ea_cons (ew_is (R2 := .d (tupI (put u rs (put t l cs)))) (appd (a := plus c0 c1) rfl (ew_var rfl) okb (by omega) csk) (by rw [eb])) ea_nil) (rp1 _)) (ew_cb (ea_cons (ew_var rfl) ea_nil) (rp1 _)) o_neS)) (by simp)) (et_is (et_test (ew_op (ew_growth (ew_var rfl)) (ew_op (ew_growth (ew_var rfl)) (ew_growth (ew_var rfl)) o_I0) o_neI)) (by simp only [Bool.not_eq_false', decide_eq_true_eq]; exact plus_growth E1'))) nofun (fun _ => s_next ?_))
    have Eb := plus_eff E0' E1'
    have obl := okb.2.2.1
    refine s_seqM (fun ρ' μ' => ∃ v13 v14 v15, ρ' = [some (.r p), some (.i t), some (.d (.tuple (srcsD l))), some (.i u), some (.r lr), v5, v6, v7, some (effA ad.C_Effect c0), some (effA ad.C_Effect c1), some (.d (tupI cs)), some (.d (tupI (put u rs (put t l cs)))), some (effA ad.C_Effect (plus c0 c1)), v13, v14, v15, none] ∧ μ' = updM μr p (kO s5))
      (s_for (it_r1 (n := ((plus c0 c1).2.length : Int) + 2) (ea_cons (ew_op (ew_cb (ea_cons (ew_var rfl) ea_nil) (n_lenOwn (S := SLen ad.C_Effect) (i := ((plus c0 c1).2.length : Int)) (by omega) ⟨_, rfl, rfl, rfl⟩)) ew_int o_I0) ea_nil) (by omega) (by omega)) (fun _ ρ' μ' => ∃ v13 v14 v15, ρ' = [some (.r p), some (.i t), some (.d (.tuple (srcsD l))), some (.i u), some (.r lr), v5, v6, v7, some (effA ad.C_Effect c0), some (effA ad.C_Effect c1), some (.d (tupI cs)), some (.d (tupI (put u rs (put t l cs)))), some (effA ad.C_Effect (plus c0 c1)), v13, v14, v15, none] ∧ μ' = updM μr p (kO s5)) ⟨none, none, none, rfl, rfl⟩ ?_ (fun ρ' μ' h => h)) ?_
    · rintro k x ρ' μ' hx ⟨v13, v14, v15, rfl, rfl⟩
      have hlt : k < (((plus c0 c1).2.length : Int) + 2).toNat := by
        have := (List.getElem?_eq_some_iff.mp hx).1
        simpa using this
      rw [List.getElem?_map, List.getElem?_range hlt] at hx
      have ex : x = .i (0 + (k : Int)) := (Option.some.inj hx).symm
      rw [Int.zero_add] at ex
      subst ex
      refine ⟨_, gw_name, s_seq (s_asg (R := .d (source c1.1 c1.2 k).d) (ew_meth (S := SSrc ad.C_Effect) (ew_var rfl) (lk_no (by decide +kernel)) (ea_cons (ew_var rfl) ea_nil) ⟨c1, k, rfl, rfl, rfl⟩) ?_)⟩
      have hps := plus_source (a := c0) E1' k
      have hin : ∀ d, source c1.1 c1.2 k = .inp d → 0 ≤ d := fun d e => by
        have := source_ok E1'.t0 E1'.good (u := (k : Int) + 1) k (by omega)
        rw [e] at this
        exact (srcOk_inp this).1
      have hsml : Src.sml (source (plus c0 c1).1 (plus c0 c1).2 k) := by
        have h1 := source_ok Eb.t0 Eb.good (u := (k : Int) + 1) k (by omega)
        cases h : source (plus c0 c1).1 (plus c0 c1).2 k with
        | inp e =>
          rw [h] at h1
          have := srcOk_inp h1
          unfold joinD at this
          have := okb.2.1
          exact isml_of (i := e) (by omega)
        | lit e =>
          rw [h] at h1
          have := srcOk_lit h1
          exact isml_of (i := e) (by omega)
      refine s_seq (s_asg (R := .d (source (plus c0 c1).1 (plus c0 c1).2 k).d) (μ1 := updM μr p (kO s5)) ?_ ?_)
      · refine ew_if (b := decide (Src.tag (source c1.1 c1.2 k) = sIn)) (μ1 := updM μr p (kO s5)) (et_test (ew_op (ew_op (R := .s (Src.tag (source c1.1 c1.2 k))) (ew_var rfl) ew_int (by rw [src_pair]; exact o_ixTz rfl)) ew_str o_eqS)) (fun h => ?_) (fun h => ?_)
        · have h := of_decide_eq_true h
          rw [hps]
          cases hq : source c1.1 c1.2 k with
          | inp e =>
            have he := hin e hq
            obtain ⟨j, rfl⟩ := Int.eq_ofNat_of_zero_le he
            refine ew_meth (S := SSrc ad.C_Effect) (ew_var rfl) (lk_no (by decide +kernel)) (ea_cons (ew_op (R := .i (j : Int)) (ew_var rfl) ew_int (o_ixTz rfl)) ea_nil) ⟨c0, j, rfl, ?_, rfl⟩
            rfl
          | lit c => rw [hq] at h; exact absurd h (show ¬ sLit = sIn by decide +kernel)
        · have h := of_decide_eq_false h
          rw [hps]
          cases hq : source c1.1 c1.2 k with
          | inp e => rw [hq] at h; exact absurd rfl h
          | lit c => exact ew_var rfl
      · exact s_if (b := false) (et_is (et_test (ew_op (ew_cb (ea_cons (ew_meth (S := SSrc ad.C_Effect) (ew_var rfl) (lk_no (by decide +kernel)) (ea_cons (ew_var rfl) ea_nil) ⟨plus c0 c1, k, rfl, rfl, rfl⟩) ea_nil) (n_reprS hsml)) (ew_cb (ea_cons (ew_var rfl) ea_nil) (n_reprS hsml)) o_neS)) (by simp)) nofun (fun _ => s_next ⟨_, _, _, rfl, rfl⟩)
    rintro ρ' μ' ⟨v13, v14, v15, rfl, rfl⟩
    refine s_ret (ew_is (R2 := .b true) (ew_op (ew_cb (ea_cons (ew_is (R2 := .d (tupI (put t l cs))) (appd (a := c0) rfl (ew_var rfl) ok0 (by omega) csk) (by rw [ap0])) ea_nil) (rp0 _)) (ew_cb (ea_cons (putq rfl rfl rfl) ea_nil) (rp0 _)) o_eqS) (by simp)) ⟨_, hp s5 s5_ok (by omega), subP s5⟩
end
end K15

set_option Elab.async false
set_option linter.all false
set_option maxRecDepth 100000
set_option maxHeartbeats 4000000
namespace K15
open PySem PySem.Spec PyProof.Rows L2 Lw
def trn : Int × List Src := (3, [.inp 1, .inp 0, .inp 2])
section
variable {P : Program} {w : World} {K : Fr} {mg : Str → Option Value} {base : Heap} {ad : Ad}
theorem ok_law (T : Txt K mg ad) : FnG P w K mg base 15 ad.f_law ad.fd_law ["script"] (spP K (SLaw 63)) := by
  have nd := sc_law.nd
  refine fnG_ok (k := 14) T.F_law sc_law (fun As μ Post h => ?_) (fun cdv A outer s H E hg hr => ?_)
  · obtain ⟨ns, rfl, _⟩ := h
    rfl
  · have hu := hr.un
    have hu64 : A.units + 3 + 64 < cLine := by
      have : A.units + 3 + 200 < cLine := by simp at hu; omega
      omega
    have hu66 : A.units + 3 + 66 < cLine := by
      have : A.units + 3 + 200 < cLine := by simp at hu; omega
      omega
    refine ⟨_, (pss_cons (ps_for PassesOwn.never rfl (pi_range1 rfl T.z_range (pa_cons (pe_callB (call_max2 rfl) (by rfl) T.z_max (by decide +kernel) (pa_cons pe_int (pa_cons (pe_callB (call_min2 rfl) (by rfl) T.z_min (by decide +kernel) (pa_cons pe_int (pa_cons (pe_callB call_len_seq (by rfl) T.z_len PySem.boot_len (pa_cons (pv 0) pa_nil)) pa_nil))) pa_nil))) pa_nil)) (pg_name (i := 1) nd rfl (Or.inl rfl))
 (pss_cons (ps_set (i := 2) nd rfl (Or.inl rfl) (pe_call (ok__law_kiln T) (hr.mono (by decide)) rfl T.mg__law_kiln T.k__law_kiln T.b__law_kiln .nil pass0 (pa_cons (pv 0) (pa_cons (pv 1) pa_nil))))
 (pss_cons (ps_if (pt_not (pt_val (pe_callG (ok__law_wide_right T) hg (hr.mono (by decide)) rfl T.mg__law_wide_right T.k__law_wide_right T.b__law_wide_right pass0 (pa_cons (pv 2) pa_nil))))
 (pss_one (ps_ret pe_bl))
 pss_nil)
 (pss_one (ps_for PassesOwn.never rfl (pi_list (pe_lst (pa_cons pe_int (pa_cons pe_int (pa_cons pe_int pa_nil))))) (pg_name (i := 3) nd rfl (Or.inl rfl))
 (pss_one (ps_if (pt_not (pt_val (pe_callG (ok__law_right T) hg (hr.mono (by decide)) rfl T.mg__law_right T.k__law_right T.b__law_right pass0 (pa_cons (pv 2) (pa_cons (pv 3) pa_nil)))))
 (pss_one (ps_ret pe_bl))
 pss_nil)))))))
 (pss_cons (ps_set (i := 4) nd rfl (Or.inl rfl) (pe_make T.mk_Effect (ok_Effect_init T) (hr.mono (by decide)) rfl T.mgC_Effect T.b_Effect_init .nil pass0 (pa_cons pe_int (pa_cons (pe_tup (pa_cons (pe_tup (pa_cons pe_str (pa_cons pe_int pa_nil))) (pa_cons (pe_tup (pa_cons pe_str (pa_cons pe_int pa_nil))) (pa_cons (pe_tup (pa_cons pe_str (pa_cons pe_int pa_nil))) pa_nil)))) pa_nil))))
 (pss_one (ps_ret (pe_and (pe_cmpR op_eq (pe_prop (pe_op (op_binA (op := .Add) T.sf_Effect T.h_Effect_add T.i_Effect_add (ok_Effect_add T) T.b_Effect_add (hr.mono (by decide))) (pe_op (op_binA (op := .Add) T.sf_Effect T.h_Effect_add T.i_Effect_add (ok_Effect_add T) T.b_Effect_add (hr.mono (by decide))) (pv 4) (pv 4)) (pv 4)) T.cl_Effect T.pr_Effect_taken (ok_Effect_taken T) (hr.mono (by decide)) T.b_Effect_taken .nil pass0 rfl) pe_int (nomark _)) (pe_one (pe_cmpR (op_eqD hu64) (pe_inst T.h_Effect_call T.i_Effect_call T.fnI_Effect (ok_Effect_call T) T.b_Effect_call (hr.mono (by decide)) (pv 4) (pa_cons (pe_tup (pa_cons pe_int (pa_cons pe_int (pa_cons pe_int pa_nil)))) pa_nil)) (pe_tup (pa_cons pe_int (pa_cons pe_int (pa_cons pe_int pa_nil)))) (nomark _)))))))), ?_⟩
    rintro As μ Post ⟨ns, rfl, hn, hp⟩
    refine s_seqM (fun ρ' μ' => ∃ v1 v2 v3, ρ' = [some (.d (.list (ns.map .int))), v1, v2, v3, none] ∧ Sub μ μ')
      (s_for (it_r1 (n := max 1 (min 8 (ns.length : Int))) (ea_cons (ew_cb (ea_cons ew_int (ea_cons (ew_cb (ea_cons ew_int (ea_cons (ew_isI (ew_cb (ea_cons (ew_var rfl) ea_nil) n_lenL) (by rw [List.length_map])) ea_nil)) n_min2) ea_nil)) n_max2) ea_nil) (by omega) (by omega))
        (fun _ ρ' μ' => ∃ v1 v2 v3, ρ' = [some (.d (.list (ns.map .int))), v1, v2, v3, none] ∧ Sub μ μ') ⟨none, none, none, rfl, Sub.refl _⟩ ?_ (fun ρ' μ' h => h)) ?_
    · rintro i x ρ' μ' hx ⟨v1, v2, v3, rfl, hsub⟩
      have hlt : i < (max 1 (min 8 (ns.length : Int))).toNat := by
        have := (List.getElem?_eq_some_iff.mp hx).1
        simpa using this
      rw [List.getElem?_map, List.getElem?_range hlt] at hx
      have ex : x = .i (0 + (i : Int)) := (Option.some.inj hx).symm
      rw [Int.zero_add] at ex
      subst ex
      refine ⟨_, gw_name, s_seq (s_asgC (Post := fun R μ2 => ∃ l, μ' l = none ∧ R = .r l ∧ μ2 = updM μ' l (kO (kil ns i))) (ea_cons (ew_var rfl) (ea_cons (ew_var rfl) ea_nil)) ⟨ns, i, rfl, hn, by omega, fun l hl => ⟨l, hl, rfl, rfl⟩⟩ ?_)⟩
      rintro R μ2 ⟨l, hl, rfl, rfl⟩
      have k0 := kil_ok ns (k := i) (by omega)
      have kc : (kil ns i).c = 0 := by simp [kil]
      generalize kil ns i = s1 at k0 kc
      refine s_seq (s_ifNotC (S := SWide) (Post := fun R μ2 => R = .b true ∧ ∃ s5 : Kl, s5.ok ∧ s5.c ≤ 2000 ∧ μ2 = updM (updM μ' l (kO s1)) l (kO s5)) (ea_cons (ew_var rfl) ea_nil) ⟨l, s1, rfl, updM_same, k0, by omega, fun s' h1 h2 => ⟨rfl, s', h1, by omega, rfl⟩⟩ ?_)
      rintro R μ5 ⟨rfl, s5, h1, h2, rfl⟩
      refine ⟨rfl, s_next ?_⟩
      rw [updM_updM]
      refine s_for (it_l (ds := [.int 5, .int 12, .int 30]) (ew_lst (ea_cons ew_int (ea_cons ew_int (ea_cons ew_int ea_nil))) (by simp)))
        (fun j ρ' μ3 => ∃ v3 s3, ρ' = [some (.d (.list (ns.map .int))), some (.i (i : Int)), some (.r l), v3, none] ∧ μ3 = updM μ' l (kO s3) ∧ s3.ok ∧ s3.c ≤ 2000 + 2000 * j) ⟨v3, s5, rfl, rfl, h1, by omega⟩ ?_ ?_
      · rintro j x ρ' μ3 hx ⟨v3, s3, rfl, rfl, s3_ok, s3_c⟩
        have hj : j < 3 := (List.getElem?_eq_some_iff.mp hx).1
        obtain ⟨m, rfl, hm⟩ : ∃ m : Int, x = .i m ∧ 3 ≤ m ∧ m ≤ 30 := by
          have h : x = .i 5 ∨ x = .i 12 ∨ x = .i 30 := by simpa using List.mem_of_getElem? hx
          rcases h with rfl | rfl | rfl
          · exact ⟨5, rfl, by decide⟩
          · exact ⟨12, rfl, by decide⟩
          · exact ⟨30, rfl, by decide⟩
        refine ⟨_, gw_name, s_ifNotC (S := SRight) (Post := fun R μ2 => R = .b true ∧ ∃ s5 : Kl, s5.ok ∧ s5.c ≤ s3.c + 2000 ∧ μ2 = updM (updM μ' l (kO s3)) l (kO s5)) (ea_cons (ew_var rfl) (ea_cons (ew_var rfl) ea_nil)) ⟨l, s3, m, rfl, updM_same, hm.1, hm.2, s3_ok, by omega, fun s' h1 h2 => ⟨rfl, s', h1, h2, rfl⟩⟩ ?_⟩
        rintro R μ5 ⟨rfl, s5, h1, h2, rfl⟩
        exact ⟨rfl, s_next ⟨_, s5, rfl, updM_updM, h1, by push_cast; omega⟩⟩
      · rintro ρ' μ3 ⟨v3, s3, rfl, rfl, _, _⟩
        exact ⟨_, _, _, rfl, hsub.trans (Sub.upd hl)⟩
    rintro ρ' μ' ⟨v1, v2, v3, rfl, hsub⟩
    have okt : okE trn.1 trn.2 := ⟨by decide, by decide, by decide, by decide +kernel⟩
    have ct : cut 3 [.inp 1, .inp 0, .inp 2] = trn := by decide +kernel
    have e1 := ew_effT (K := K) (C := ad.C_Effect) (E := E0) (ρ := [some (.d (.list (ns.map .int))), v1, v2, v3, none]) (μ := μ') (t := 3) (l := [.inp 1, .inp 0, .inp 2]) (ea_cons ew_int (ea_cons (ew_tup (ds := [(Src.inp 1).d, (Src.inp 0).d, (Src.inp 2).d]) (ea_cons (ew_tup (ds := [.str sIn, .int 1]) (ea_cons ew_str (ea_cons ew_int ea_nil)) (by simp)) (ea_cons (ew_tup (ds := [.str sIn, .int 0]) (ea_cons ew_str (ea_cons ew_int ea_nil)) (by simp)) (ea_cons (ew_tup (ds := [.str sIn, .int 2]) (ea_cons ew_str (ea_cons ew_int ea_nil)) (by simp)) ea_nil))) (by simp)) ea_nil)) okt
    rw [ct] at e1
    refine s_seq (s_asg e1 ?_)
    have ok2 : okE (plus trn trn).1 (plus trn trn).2 := ⟨by decide +kernel, by decide +kernel, by decide +kernel, by decide +kernel⟩
    have ok3 : okE (plus (plus trn trn) trn).1 (plus (plus trn trn) trn).2 := ⟨by decide +kernel, by decide +kernel, by decide +kernel, by decide +kernel⟩
    have z3 : (plus (plus trn trn) trn).1 = 0 := by decide +kernel
    have pt : put trn.1 trn.2 [4, 5, 6] = [5, 6, 4] := by decide +kernel
    refine s_ret (ew_is (R2 := .b true) (ew_and (a := true) (b := true) (ew_is (ew_op (ew_isI (ew_taken (ew_plus (ew_plus (ew_var rfl) (ew_var rfl) okt okt ok2) (ew_var rfl) ok2 okt ok3)) z3) ew_int o_eqI) (by simp)) (fun _ => ew_is (ew_op (R1 := .d (tupI [5, 6, 4])) (R2 := .d (tupI [5, 6, 4])) (ew_is (ew_inst (S := SCallE ad.C_Effect) (R := .d (tupI (put trn.1 trn.2 [4, 5, 6]))) (ew_var rfl) (ea_cons (ew_tup (ds := [.int 4, .int 5, .int 6]) (ea_cons ew_int (ea_cons ew_int (ea_cons ew_int ea_nil))) (by simp)) ea_nil) ⟨trn, [4, 5, 6], rfl, by decide, by decide, by decide, okt.2.2.2, ⟨by decide, by decide⟩, rfl, rfl⟩) (by rw [pt])) (ew_tup (ds := [.int 5, .int 6, .int 4]) (ea_cons ew_int (ea_cons ew_int (ea_cons ew_int ea_nil))) (by simp)) (o_eqD (tupI_shaped _) (tupI_shaped _))) (congrArg AV.b (by decide +kernel)))) rfl) ⟨μ, hp, hsub⟩
end
end K15

set_option Elab.async false
set_option linter.all false
set_option maxRecDepth 100000
set_option maxHeartbeats 4000000
namespace K15
open PySem PySem.Spec PyProof.Rows L2 Lw

theorem kit_no {K : PySem.W.Frag} {U : String} {C : Addr} {b : Bool} (h1 : PySem.W.isClsIn K C = true) (h2 : PySem.W.typeIn K (.ref C) = some (.type "type")) (h3 : PySem.W.subIn K (.type U) (.ref C) = some b) : PySem.W.kitOne K (.type U) (.ref C) = some b := by
  unfold PySem.W.isClsIn at h1
  have e : (Value.type U == Value.ref C) = false := rfl
  unfold PySem.W.kitOne PySem.W.kitCls
  simp [e, h1, h2, h3]
theorem all_mk {l : PySem.W.OpenLaw} {w : World} {K : PySem.W.Frag} {h : Heap} {mg : Str → Option Value} {fa C_Effect f0 f1 f2 f3 f4 f5 f6 f7 f8 f9 f10 f11 f12 f13 p13 f14 p14 f15 p15 f16 f17 f18 f19 f20 f21 f22 f23 f24 f25 f26 f27 f28 f29 f30 f31 f32 f33 f34 f35 f36 f37 f38 f39 aT_NO_MOVE aT_NO_MOVE_1 : Addr} {od0 an0 od1 an1 od2 an2 od3 an3 od4 an4 od5 an5 od6 an6 od7 an7 od8 an8 od9 an9 od10 an10 od11 an11 od12 an12 od13 an13 od14 an14 od15 an15 od16 an16 od17 an17 od18 an18 od19 an19 od20 an20 od21 an21 od22 an22 od23 an23 od24 an24 od25 an25 od26 an26 od27 an27 od28 an28 od29 an29 od30 an30 od31 an31 od32 an32 od33 an33 od34 an34 od35 an35 od36 an36 od37 an37 od38 an38 od39 an39 odT_NO_MOVE odT_NO_MOVE_1 : Option Addr} {sl0 sl1 sl2 sl3 sl4 sl5 sl6 sl7 sl8 sl9 sl10 sl11 sl12 sl13 sl14 sl15 sl16 sl17 sl18 sl19 sl20 sl21 sl22 sl23 sl24 sl25 sl26 sl27 sl28 sl29 sl30 sl31 sl32 sl33 sl34 sl35 sl36 sl37 sl38 sl39 slT_NO_MOVE slT_NO_MOVE_1 : Array (Option Value)} {oc0 kV0 dc0 pm0 cd0 ct0 oc1 kV1 dc1 pm1 cd1 ct1 oc2 kV2 dc2 pm2 cd2 ct2 oc3 kV3 dc3 pm3 cd3 ct3 oc4 kV4 dc4 pm4 cd4 ct4 oc5 kV5 dc5 pm5 cd5 ct5 oc6 kV6 dc6 pm6 cd6 ct6 oc7 kV7 dc7 pm7 cd7 ct7 oc8 kV8 dc8 pm8 cd8 ct8 oc9 kV9 dc9 pm9 cd9 ct9 oc10 kV10 dc10 pm10 cd10 ct10 oc11 kV11 dc11 pm11 cd11 ct11 oc12 kV12 dc12 pm12 cd12 ct12 oc13 kV13 dc13 pm13 cd13 ct13 oc14 kV14 dc14 pm14 cd14 ct14 oc15 kV15 dc15 pm15 cd15 ct15 oc16 kV16 dc16 pm16 cd16 ct16 oc17 kV17 dc17 pm17 cd17 ct17 oc18 kV18 dc18 pm18 cd18 ct18 oc19 kV19 dc19 pm19 cd19 ct19 oc20 kV20 dc20 pm20 cd20 ct20 oc21 kV21 dc21 pm21 cd21 ct21 oc22 kV22 dc22 pm22 cd22 ct22 oc23 kV23 dc23 pm23 cd23 ct23 oc24 kV24 dc24 pm24 cd24 ct24 oc25 kV25 dc25 pm25 cd25 ct25 oc26 kV26 dc26 pm26 cd26 ct26 oc27 kV27 dc27 pm27 cd27 ct27 oc28 kV28 dc28 pm28 cd28 ct28 oc29 kV29 dc29 pm29 cd29 ct29 oc30 kV30 dc30 pm30 cd30 ct30 oc31 kV31 dc31 pm31 cd31 ct31 oc32 kV32 dc32 pm32 cd32 ct32 oc33 kV33 dc33 pm33 cd33 ct33 oc34 kV34 dc34 pm34 cd34 ct34 oc35 kV35 dc35 pm35 cd35 ct35 oc36 kV36 dc36 pm36 cd36 ct36 oc37 kV37 dc37 pm37 cd37 ct37 oc38 kV38 dc38 pm38 cd38 ct38 oc39 kV39 dc39 pm39 cd39 ct39 : Value} {t_LARGEST t_MOST_CELLS tT_NO_MOVE_0 : Tok} {rs13 rs14 rs15 : List Value} {nT_NO_MOVE nT_NO_MOVE_1 : Nat} (X : K.In h) (G : h.Ns mainGlobals mg) (hfa : mg "law" = some (.ref fa))
    (aC_Effect : PySem.W.nsIn K mainGlobals "Effect" = some (some (.ref C_Effect)))
    (a0 : PySem.W.nsIn K mainGlobals "inputs" = some (some (.ref f0)))
    (l0 : K.lookup f0 = some ⟨oc0, od0, .func (PySem.W.fnOf "inputs" "inputs" (defArgs s_inputs) (defBody s_inputs) (defScope s_inputs) .none kV0 dc0 pm0 an0 cd0 ct0), sl0⟩)
    (c0 : PySem.W.codeIn K cd0 "inputs" = true)
    (k0 : PySem.W.keepIn K (.ref f0) = true)
    (a1 : PySem.W.nsIn K mainGlobals "cut_move" = some (some (.ref f1)))
    (l1 : K.lookup f1 = some ⟨oc1, od1, .func (PySem.W.fnOf "cut_move" "cut_move" (defArgs s_cut_move) (defBody s_cut_move) (defScope s_cut_move) .none kV1 dc1 pm1 an1 cd1 ct1), sl1⟩)
    (c1 : PySem.W.codeIn K cd1 "cut_move" = true)
    (k1 : PySem.W.keepIn K (.ref f1) = true)
    (a2 : PySem.W.nsIn K mainGlobals "moved_cells" = some (some (.ref f2)))
    (l2 : K.lookup f2 = some ⟨oc2, od2, .func (PySem.W.fnOf "moved_cells" "moved_cells" (defArgs s_moved_cells) (defBody s_moved_cells) (defScope s_moved_cells) .none kV2 dc2 pm2 an2 cd2 ct2), sl2⟩)
    (c2 : PySem.W.codeIn K cd2 "moved_cells" = true)
    (k2 : PySem.W.keepIn K (.ref f2) = true)
    (a3 : PySem.W.nsIn K mainGlobals "joined_move" = some (some (.ref f3)))
    (l3 : K.lookup f3 = some ⟨oc3, od3, .func (PySem.W.fnOf "joined_move" "joined_move" (defArgs s_joined_move) (defBody s_joined_move) (defScope s_joined_move) .none kV3 dc3 pm3 an3 cd3 ct3), sl3⟩)
    (c3 : PySem.W.codeIn K cd3 "joined_move" = true)
    (k3 : PySem.W.keepIn K (.ref f3) = true)
    (a4 : PySem.W.nsIn K mainGlobals "repeated_move" = some (some (.ref f4)))
    (l4 : K.lookup f4 = some ⟨oc4, od4, .func (PySem.W.fnOf "repeated_move" "repeated_move" (defArgs s_repeated_move) (defBody s_repeated_move) (defScope s_repeated_move) .none kV4 dc4 pm4 an4 cd4 ct4), sl4⟩)
    (c4 : PySem.W.codeIn K cd4 "repeated_move" = true)
    (k4 : PySem.W.keepIn K (.ref f4) = true)
    (a5 : PySem.W.nsIn K mainGlobals "squared_move" = some (some (.ref f5)))
    (l5 : K.lookup f5 = some ⟨oc5, od5, .func (PySem.W.fnOf "squared_move" "squared_move" (defArgs s_squared_move) (defBody s_squared_move) (defScope s_squared_move) .none kV5 dc5 pm5 an5 cd5 ct5), sl5⟩)
    (c5 : PySem.W.codeIn K cd5 "squared_move" = true)
    (k5 : PySem.W.keepIn K (.ref f5) = true)
    (a6 : PySem.W.nsIn K mainGlobals "ways_of" = some (some (.ref f6)))
    (l6 : K.lookup f6 = some ⟨oc6, od6, .func (PySem.W.fnOf "ways_of" "ways_of" (defArgs s_ways_of) (defBody s_ways_of) (defScope s_ways_of) .none kV6 dc6 pm6 an6 cd6 ct6), sl6⟩)
    (c6 : PySem.W.codeIn K cd6 "ways_of" = true)
    (k6 : PySem.W.keepIn K (.ref f6) = true)
    (a7 : PySem.W.nsIn K mainGlobals "settled_move" = some (some (.ref f7)))
    (l7 : K.lookup f7 = some ⟨oc7, od7, .func (PySem.W.fnOf "settled_move" "settled_move" (defArgs s_settled_move) (defBody s_settled_move) (defScope s_settled_move) .none kV7 dc7 pm7 an7 cd7 ct7), sl7⟩)
    (c7 : PySem.W.codeIn K cd7 "settled_move" = true)
    (k7 : PySem.W.keepIn K (.ref f7) = true)
    (a8 : PySem.W.nsIn K mainGlobals "is_integer" = some (some (.ref f8)))
    (l8 : K.lookup f8 = some ⟨oc8, od8, .func (PySem.W.fnOf "is_integer" "is_integer" (defArgs s_is_integer) (defBody s_is_integer) (defScope s_is_integer) .none kV8 dc8 pm8 an8 cd8 ct8), sl8⟩)
    (c8 : PySem.W.codeIn K cd8 "is_integer" = true)
    (k8 : PySem.W.keepIn K (.ref f8) = true)
    (a9 : PySem.W.nsIn K mainGlobals "is_between" = some (some (.ref f9)))
    (l9 : K.lookup f9 = some ⟨oc9, od9, .func (PySem.W.fnOf "is_between" "is_between" (defArgs s_is_between) (defBody s_is_between) (defScope s_is_between) .none kV9 dc9 pm9 an9 cd9 ct9), sl9⟩)
    (c9 : PySem.W.codeIn K cd9 "is_between" = true)
    (k9 : PySem.W.keepIn K (.ref f9) = true)
    (a10 : PySem.W.nsIn K mainGlobals "is_constant" = some (some (.ref f10)))
    (l10 : K.lookup f10 = some ⟨oc10, od10, .func (PySem.W.fnOf "is_constant" "is_constant" (defArgs s_is_constant) (defBody s_is_constant) (defScope s_is_constant) .none kV10 dc10 pm10 an10 cd10 ct10), sl10⟩)
    (c10 : PySem.W.codeIn K cd10 "is_constant" = true)
    (k10 : PySem.W.keepIn K (.ref f10) = true)
    (a11 : PySem.W.nsIn K mainGlobals "check_times" = some (some (.ref f11)))
    (l11 : K.lookup f11 = some ⟨oc11, od11, .func (PySem.W.fnOf "check_times" "check_times" (defArgs s_check_times) (defBody s_check_times) (defScope s_check_times) .none kV11 dc11 pm11 an11 cd11 ct11), sl11⟩)
    (c11 : PySem.W.codeIn K cd11 "check_times" = true)
    (k11 : PySem.W.keepIn K (.ref f11) = true)
    (a12 : PySem.W.findIn K (.ref C_Effect) "__init__" = some (some (.ref f12)))
    (i12 : PySem.W.isFn K (.ref f12) = true)
    (l12 : K.lookup f12 = some ⟨oc12, od12, .func (PySem.W.fnOf "__init__" "Effect.__init__" (defArgs s_Effect_init) (defBody s_Effect_init) (defScope s_Effect_init) .none kV12 dc12 pm12 an12 cd12 ct12), sl12⟩)
    (c12 : PySem.W.codeIn K cd12 "Effect.__init__" = true)
    (k12 : PySem.W.keepIn K (.ref f12) = true)
    (a13 : PySem.W.findIn K (.ref C_Effect) "taken" = some (some (.ref p13)))
    (g13 : PySem.W.specialIn K (.ref p13) "__get__" = some (some (.builtin "property.__get__")))
    (e13 : PySem.W.takesIn K (.ref p13) = some true)
    (r13 : PySem.W.recIn K p13 "property" = some (.ref f13 :: rs13))
    (l13 : K.lookup f13 = some ⟨oc13, od13, .func (PySem.W.fnOf "taken" "Effect.taken" (defArgs s_Effect_taken) (defBody s_Effect_taken) (defScope s_Effect_taken) .none kV13 dc13 pm13 an13 cd13 ct13), sl13⟩)
    (c13 : PySem.W.codeIn K cd13 "Effect.taken" = true)
    (k13 : PySem.W.keepIn K (.ref f13) = true)
    (a14 : PySem.W.findIn K (.ref C_Effect) "left" = some (some (.ref p14)))
    (g14 : PySem.W.specialIn K (.ref p14) "__get__" = some (some (.builtin "property.__get__")))
    (e14 : PySem.W.takesIn K (.ref p14) = some true)
    (r14 : PySem.W.recIn K p14 "property" = some (.ref f14 :: rs14))
    (l14 : K.lookup f14 = some ⟨oc14, od14, .func (PySem.W.fnOf "left" "Effect.left" (defArgs s_Effect_left) (defBody s_Effect_left) (defScope s_Effect_left) .none kV14 dc14 pm14 an14 cd14 ct14), sl14⟩)
    (c14 : PySem.W.codeIn K cd14 "Effect.left" = true)
    (k14 : PySem.W.keepIn K (.ref f14) = true)
    (a15 : PySem.W.findIn K (.ref C_Effect) "growth" = some (some (.ref p15)))
    (g15 : PySem.W.specialIn K (.ref p15) "__get__" = some (some (.builtin "property.__get__")))
    (e15 : PySem.W.takesIn K (.ref p15) = some true)
    (r15 : PySem.W.recIn K p15 "property" = some (.ref f15 :: rs15))
    (l15 : K.lookup f15 = some ⟨oc15, od15, .func (PySem.W.fnOf "growth" "Effect.growth" (defArgs s_Effect_growth) (defBody s_Effect_growth) (defScope s_Effect_growth) .none kV15 dc15 pm15 an15 cd15 ct15), sl15⟩)
    (c15 : PySem.W.codeIn K cd15 "Effect.growth" = true)
    (k15 : PySem.W.keepIn K (.ref f15) = true)
    (a16 : PySem.W.findIn K (.ref C_Effect) "__call__" = some (some (.ref f16)))
    (i16 : PySem.W.isFn K (.ref f16) = true)
    (l16 : K.lookup f16 = some ⟨oc16, od16, .func (PySem.W.fnOf "__call__" "Effect.__call__" (defArgs s_Effect_call) (defBody s_Effect_call) (defScope s_Effect_call) .none kV16 dc16 pm16 an16 cd16 ct16), sl16⟩)
    (c16 : PySem.W.codeIn K cd16 "Effect.__call__" = true)
    (k16 : PySem.W.keepIn K (.ref f16) = true)
    (a17 : PySem.W.findIn K (.ref C_Effect) "source" = some (some (.ref f17)))
    (i17 : PySem.W.isFn K (.ref f17) = true)
    (l17 : K.lookup f17 = some ⟨oc17, od17, .func (PySem.W.fnOf "source" "Effect.source" (defArgs s_Effect_source) (defBody s_Effect_source) (defScope s_Effect_source) .none kV17 dc17 pm17 an17 cd17 ct17), sl17⟩)
    (c17 : PySem.W.codeIn K cd17 "Effect.source" = true)
    (k17 : PySem.W.keepIn K (.ref f17) = true)
    (a18 : PySem.W.findIn K (.ref C_Effect) "__len__" = some (some (.ref f18)))
    (i18 : PySem.W.isFn K (.ref f18) = true)
    (l18 : K.lookup f18 = some ⟨oc18, od18, .func (PySem.W.fnOf "__len__" "Effect.__len__" (defArgs s_Effect_len) (defBody s_Effect_len) (defScope s_Effect_len) .none kV18 dc18 pm18 an18 cd18 ct18), sl18⟩)
    (c18 : PySem.W.codeIn K cd18 "Effect.__len__" = true)
    (k18 : PySem.W.keepIn K (.ref f18) = true)
    (a19 : PySem.W.findIn K (.ref C_Effect) "__eq__" = some (some (.ref f19)))
    (i19 : PySem.W.isFn K (.ref f19) = true)
    (l19 : K.lookup f19 = some ⟨oc19, od19, .func (PySem.W.fnOf "__eq__" "Effect.__eq__" (defArgs s_Effect_eq) (defBody s_Effect_eq) (defScope s_Effect_eq) .none kV19 dc19 pm19 an19 cd19 ct19), sl19⟩)
    (c19 : PySem.W.codeIn K cd19 "Effect.__eq__" = true)
    (k19 : PySem.W.keepIn K (.ref f19) = true)
    (a20 : PySem.W.findIn K (.ref C_Effect) "__add__" = some (some (.ref f20)))
    (i20 : PySem.W.isFn K (.ref f20) = true)
    (l20 : K.lookup f20 = some ⟨oc20, od20, .func (PySem.W.fnOf "__add__" "Effect.__add__" (defArgs s_Effect_add) (defBody s_Effect_add) (defScope s_Effect_add) .none kV20 dc20 pm20 an20 cd20 ct20), sl20⟩)
    (c20 : PySem.W.codeIn K cd20 "Effect.__add__" = true)
    (k20 : PySem.W.keepIn K (.ref f20) = true)
    (a21 : PySem.W.findIn K (.ref C_Effect) "__mul__" = some (some (.ref f21)))
    (i21 : PySem.W.isFn K (.ref f21) = true)
    (l21 : K.lookup f21 = some ⟨oc21, od21, .func (PySem.W.fnOf "__mul__" "Effect.__mul__" (defArgs s_Effect_mul) (defBody s_Effect_mul) (defScope s_Effect_mul) .none kV21 dc21 pm21 an21 cd21 ct21), sl21⟩)
    (c21 : PySem.W.codeIn K cd21 "Effect.__mul__" = true)
    (k21 : PySem.W.keepIn K (.ref f21) = true)
    (a22 : PySem.W.nsIn K mainGlobals "are_sources" = some (some (.ref f22)))
    (l22 : K.lookup f22 = some ⟨oc22, od22, .func (PySem.W.fnOf "are_sources" "are_sources" (defArgs s_are_sources) (defBody s_are_sources) (defScope s_are_sources) .none kV22 dc22 pm22 an22 cd22 ct22), sl22⟩)
    (c22 : PySem.W.codeIn K cd22 "are_sources" = true)
    (k22 : PySem.W.keepIn K (.ref f22) = true)
    (a23 : PySem.W.nsIn K mainGlobals "is_source" = some (some (.ref f23)))
    (l23 : K.lookup f23 = some ⟨oc23, od23, .func (PySem.W.fnOf "is_source" "is_source" (defArgs s_is_source) (defBody s_is_source) (defScope s_is_source) .none kV23 dc23 pm23 an23 cd23 ct23), sl23⟩)
    (c23 : PySem.W.codeIn K cd23 "is_source" = true)
    (k23 : PySem.W.keepIn K (.ref f23) = true)
    (a24 : PySem.W.nsIn K mainGlobals "is_stack" = some (some (.ref f24)))
    (l24 : K.lookup f24 = some ⟨oc24, od24, .func (PySem.W.fnOf "is_stack" "is_stack" (defArgs s_is_stack) (defBody s_is_stack) (defScope s_is_stack) .none kV24 dc24 pm24 an24 cd24 ct24), sl24⟩)
    (c24 : PySem.W.codeIn K cd24 "is_stack" = true)
    (k24 : PySem.W.keepIn K (.ref f24) = true)
    (a25 : PySem.W.nsIn K mainGlobals "check_stack" = some (some (.ref f25)))
    (l25 : K.lookup f25 = some ⟨oc25, od25, .func (PySem.W.fnOf "check_stack" "check_stack" (defArgs s_check_stack) (defBody s_check_stack) (defScope s_check_stack) .none kV25 dc25 pm25 an25 cd25 ct25), sl25⟩)
    (c25 : PySem.W.codeIn K cd25 "check_stack" = true)
    (k25 : PySem.W.keepIn K (.ref f25) = true)
    (a26 : PySem.W.nsIn K mainGlobals "check_height" = some (some (.ref f26)))
    (l26 : K.lookup f26 = some ⟨oc26, od26, .func (PySem.W.fnOf "check_height" "check_height" (defArgs s_check_height) (defBody s_check_height) (defScope s_check_height) .none kV26 dc26 pm26 an26 cd26 ct26), sl26⟩)
    (c26 : PySem.W.codeIn K cd26 "check_height" = true)
    (k26 : PySem.W.keepIn K (.ref f26) = true)
    (a27 : PySem.W.nsIn K mainGlobals "check_effect" = some (some (.ref f27)))
    (l27 : K.lookup f27 = some ⟨oc27, od27, .func (PySem.W.fnOf "check_effect" "check_effect" (defArgs s_check_effect) (defBody s_check_effect) (defScope s_check_effect) .none kV27 dc27 pm27 an27 cd27 ct27), sl27⟩)
    (c27 : PySem.W.codeIn K cd27 "check_effect" = true)
    (k27 : PySem.W.keepIn K (.ref f27) = true)
    (a28 : PySem.W.nsIn K mainGlobals "check_depth" = some (some (.ref f28)))
    (l28 : K.lookup f28 = some ⟨oc28, od28, .func (PySem.W.fnOf "check_depth" "check_depth" (defArgs s_check_depth) (defBody s_check_depth) (defScope s_check_depth) .none kV28 dc28 pm28 an28 cd28 ct28), sl28⟩)
    (c28 : PySem.W.codeIn K cd28 "check_depth" = true)
    (k28 : PySem.W.keepIn K (.ref f28) = true)
    (a29 : PySem.W.nsIn K mainGlobals "stack_behind" = some (some (.ref f29)))
    (l29 : K.lookup f29 = some ⟨oc29, od29, .func (PySem.W.fnOf "stack_behind" "stack_behind" (defArgs s_stack_behind) (defBody s_stack_behind) (defScope s_stack_behind) .none kV29 dc29 pm29 an29 cd29 ct29), sl29⟩)
    (c29 : PySem.W.codeIn K cd29 "stack_behind" = true)
    (k29 : PySem.W.keepIn K (.ref f29) = true)
    (a30 : PySem.W.nsIn K mainGlobals "effect_with" = some (some (.ref f30)))
    (l30 : K.lookup f30 = some ⟨oc30, od30, .func (PySem.W.fnOf "effect_with" "effect_with" (defArgs s_effect_with) (defBody s_effect_with) (defScope s_effect_with) .none kV30 dc30 pm30 an30 cd30 ct30), sl30⟩)
    (c30 : PySem.W.codeIn K cd30 "effect_with" = true)
    (k30 : PySem.W.keepIn K (.ref f30) = true)
    (a31 : PySem.W.nsIn K mainGlobals "_law_kiln" = some (some (.ref f31)))
    (l31 : K.lookup f31 = some ⟨oc31, od31, .func (PySem.W.fnOf "_law_kiln" "_law_kiln" (defArgs s__law_kiln) (defBody s__law_kiln) (defScope s__law_kiln) .none kV31 dc31 pm31 an31 cd31 ct31), sl31⟩)
    (c31 : PySem.W.codeIn K cd31 "_law_kiln" = true)
    (k31 : PySem.W.keepIn K (.ref f31) = true)
    (a32 : PySem.W.nsIn K mainGlobals "_law_scoop" = some (some (.ref f32)))
    (l32 : K.lookup f32 = some ⟨oc32, od32, .func (PySem.W.fnOf "_law_scoop" "_law_scoop" (defArgs s__law_scoop) (defBody s__law_scoop) (defScope s__law_scoop) .none kV32 dc32 pm32 an32 cd32 ct32), sl32⟩)
    (c32 : PySem.W.codeIn K cd32 "_law_scoop" = true)
    (k32 : PySem.W.keepIn K (.ref f32) = true)
    (a33 : PySem.W.nsIn K mainGlobals "_law_cut" = some (some (.ref f33)))
    (l33 : K.lookup f33 = some ⟨oc33, od33, .func (PySem.W.fnOf "_law_cut" "_law_cut" (defArgs s__law_cut) (defBody s__law_cut) (defScope s__law_cut) .none kV33 dc33 pm33 an33 cd33 ct33), sl33⟩)
    (c33 : PySem.W.codeIn K cd33 "_law_cut" = true)
    (k33 : PySem.W.keepIn K (.ref f33) = true)
    (a34 : PySem.W.nsIn K mainGlobals "_law_made" = some (some (.ref f34)))
    (l34 : K.lookup f34 = some ⟨oc34, od34, .func (PySem.W.fnOf "_law_made" "_law_made" (defArgs s__law_made) (defBody s__law_made) (defScope s__law_made) .none kV34 dc34 pm34 an34 cd34 ct34), sl34⟩)
    (c34 : PySem.W.codeIn K cd34 "_law_made" = true)
    (k34 : PySem.W.keepIn K (.ref f34) = true)
    (a35 : PySem.W.nsIn K mainGlobals "_law_put" = some (some (.ref f35)))
    (l35 : K.lookup f35 = some ⟨oc35, od35, .func (PySem.W.fnOf "_law_put" "_law_put" (defArgs s__law_put) (defBody s__law_put) (defScope s__law_put) .none kV35 dc35 pm35 an35 cd35 ct35), sl35⟩)
    (c35 : PySem.W.codeIn K cd35 "_law_put" = true)
    (k35 : PySem.W.keepIn K (.ref f35) = true)
    (a36 : PySem.W.nsIn K mainGlobals "_law_applied" = some (some (.ref f36)))
    (l36 : K.lookup f36 = some ⟨oc36, od36, .func (PySem.W.fnOf "_law_applied" "_law_applied" (defArgs s__law_applied) (defBody s__law_applied) (defScope s__law_applied) .none kV36 dc36 pm36 an36 cd36 ct36), sl36⟩)
    (c36 : PySem.W.codeIn K cd36 "_law_applied" = true)
    (k36 : PySem.W.keepIn K (.ref f36) = true)
    (a37 : PySem.W.nsIn K mainGlobals "_law_right" = some (some (.ref f37)))
    (l37 : K.lookup f37 = some ⟨oc37, od37, .func (PySem.W.fnOf "_law_right" "_law_right" (defArgs s__law_right) (defBody s__law_right) (defScope s__law_right) .none kV37 dc37 pm37 an37 cd37 ct37), sl37⟩)
    (c37 : PySem.W.codeIn K cd37 "_law_right" = true)
    (k37 : PySem.W.keepIn K (.ref f37) = true)
    (a38 : PySem.W.nsIn K mainGlobals "_law_wide_right" = some (some (.ref f38)))
    (l38 : K.lookup f38 = some ⟨oc38, od38, .func (PySem.W.fnOf "_law_wide_right" "_law_wide_right" (defArgs s__law_wide_right) (defBody s__law_wide_right) (defScope s__law_wide_right) .none kV38 dc38 pm38 an38 cd38 ct38), sl38⟩)
    (c38 : PySem.W.codeIn K cd38 "_law_wide_right" = true)
    (k38 : PySem.W.keepIn K (.ref f38) = true)
    (a39 : PySem.W.nsIn K mainGlobals "law" = some (some (.ref f39)))
    (l39 : K.lookup f39 = some ⟨oc39, od39, .func (PySem.W.fnOf "law" "law" (defArgs s_law) (defBody s_law) (defScope s_law) .none kV39 dc39 pm39 an39 cd39 ct39), sl39⟩)
    (c39 : PySem.W.codeIn K cd39 "law" = true)
    (k39 : PySem.W.keepIn K (.ref f39) = true)
    (pg_Effect : PySem.W.plainGet K C_Effect Str.empty = true)
    (hd_Effect : PySem.W.hasDictIn K C_Effect = true)
    (po_Effect : PySem.W.plainOver K C_Effect = true)
    (sa_Effect : PySem.W.findIn K (.ref C_Effect) "__setattr__" = some (some (.builtin "object.__setattr__")))
    (mk_Effect : PySem.W.makesIn K C_Effect = true)
    (kc_Effect : PySem.W.keepIn K (.ref C_Effect) = true)
    (n_cut_Effect : PySem.W.findIn K (.ref C_Effect) "cut" = some none)
    (hne_Effect : PySem.W.findIn K (.ref C_Effect) "__ne__" = some (some (.builtin "object.__ne__")))
    (hobj_Effect : PySem.W.subIn K (.ref C_Effect) (.type "object") = some true)
    (hcl_Effect : PySem.W.findIn K (.ref C_Effect) "__class__" = some (some (.builtin "object.__class__")))
    (hmr_Effect : PySem.W.mroIn K C_Effect (.type "object") = some true)
    (nfNoneType_Effect : PySem.W.notFirst K C_Effect (.type "NoneType") = true)
    (nftuple_Effect : PySem.W.notFirst K C_Effect (.type "tuple") = true)
    (nfint_Effect : PySem.W.notFirst K C_Effect (.type "int") = true)
    (nfstr_Effect : PySem.W.notFirst K C_Effect (.type "str") = true)
    (nflist_Effect : PySem.W.notFirst K C_Effect (.type "list") = true)
    (ic_Effect : PySem.W.isClsIn K C_Effect = true)
    (ty_Effect : PySem.W.typeIn K (.ref C_Effect) = some (.type "type"))
    (sbNoneType_Effect : PySem.W.subIn K (.type "NoneType") (.ref C_Effect) = some false)
    (sbtuple_Effect : PySem.W.subIn K (.type "tuple") (.ref C_Effect) = some false)
    (sbint_Effect : PySem.W.subIn K (.type "int") (.ref C_Effect) = some false)
    (sbstr_Effect : PySem.W.subIn K (.type "str") (.ref C_Effect) = some false)
    (sblist_Effect : PySem.W.subIn K (.type "list") (.ref C_Effect) = some false)
    (sf_Effect : PySem.W.selfFirst K C_Effect = true)
    (fi_Effect : PySem.W.fnIn K f16 = true)
    (hgt : PySem.W.specialIn K (.builtin "object.__class__") "__get__" = some (some (.builtin "getset_descriptor.__get__")))
    (htk : PySem.W.takesIn K (.builtin "object.__class__") = some true)
    (v_LARGEST : PySem.W.nsIn K mainGlobals "LARGEST" = some (some (.int 1000000000000000000000000000000 t_LARGEST)))
    (v_MOST_CELLS : PySem.W.nsIn K mainGlobals "MOST_CELLS" = some (some (.int 100 t_MOST_CELLS)))
    (g_NO_MOVE : PySem.W.nsIn K mainGlobals "NO_MOVE" = some (some (.ref aT_NO_MOVE)))
    (lT_NO_MOVE : K.lookup aT_NO_MOVE = some ⟨.type "tuple", odT_NO_MOVE, .seq #[.int (0) tT_NO_MOVE_0, .ref aT_NO_MOVE_1] nT_NO_MOVE, slT_NO_MOVE⟩)
    (lT_NO_MOVE_1 : K.lookup aT_NO_MOVE_1 = some ⟨.type "tuple", odT_NO_MOVE_1, .seq #[] nT_NO_MOVE_1, slT_NO_MOVE_1⟩)
    (z_isinstance : PySem.W.nsIn K mainGlobals "isinstance" = some none)
    (z_int : PySem.W.nsIn K mainGlobals "int" = some none)
    (z_bool : PySem.W.nsIn K mainGlobals "bool" = some none)
    (z_str : PySem.W.nsIn K mainGlobals "str" = some none)
    (z_tuple : PySem.W.nsIn K mainGlobals "tuple" = some none)
    (z_len : PySem.W.nsIn K mainGlobals "len" = some none)
    (z_all : PySem.W.nsIn K mainGlobals "all" = some none)
    (z_max : PySem.W.nsIn K mainGlobals "max" = some none)
    (z_min : PySem.W.nsIn K mainGlobals "min" = some none)
    (z_range : PySem.W.nsIn K mainGlobals "range" = some none)
    (z_list : PySem.W.nsIn K mainGlobals "list" = some none)
    (z_repr : PySem.W.nsIn K mainGlobals "repr" = some none)
    (z_abs : PySem.W.nsIn K mainGlobals "abs" = some none)
    (z_enumerate : PySem.W.nsIn K mainGlobals "enumerate" = some none)
    (z_reversed : PySem.W.nsIn K mainGlobals "reversed" = some none)
    (z_super : PySem.W.nsIn K mainGlobals "super" = some none)
    (z_ValueError : PySem.W.nsIn K mainGlobals "ValueError" = some none) :
    ∃ fd : FuncData, (∀ (s : Shared) (v : Value), BindsTo s fd ⟨[v], []⟩ [("script", v)]) ∧ ∀ base : Heap, K.In base → base.Ns mainGlobals mg → FnG l.prog w K mg base 15 fa fd ["script"] (spP K (SLaw 63)) := by
  have e : f39 = fa := by
    have q := (PySem.W.mg_of X G a39).symm.trans hfa
    injection q with q
    injection q
  subst e
  let A : Ad := { f_inputs := f0, fd_inputs := (PySem.W.fnOf "inputs" "inputs" (defArgs s_inputs) (defBody s_inputs) (defScope s_inputs) .none kV0 dc0 pm0 an0 cd0 ct0), f_cut_move := f1, fd_cut_move := (PySem.W.fnOf "cut_move" "cut_move" (defArgs s_cut_move) (defBody s_cut_move) (defScope s_cut_move) .none kV1 dc1 pm1 an1 cd1 ct1), f_moved_cells := f2, fd_moved_cells := (PySem.W.fnOf "moved_cells" "moved_cells" (defArgs s_moved_cells) (defBody s_moved_cells) (defScope s_moved_cells) .none kV2 dc2 pm2 an2 cd2 ct2), f_joined_move := f3, fd_joined_move := (PySem.W.fnOf "joined_move" "joined_move" (defArgs s_joined_move) (defBody s_joined_move) (defScope s_joined_move) .none kV3 dc3 pm3 an3 cd3 ct3), f_repeated_move := f4, fd_repeated_move := (PySem.W.fnOf "repeated_move" "repeated_move" (defArgs s_repeated_move) (defBody s_repeated_move) (defScope s_repeated_move) .none kV4 dc4 pm4 an4 cd4 ct4), f_squared_move := f5, fd_squared_move := (PySem.W.fnOf "squared_move" "squared_move" (defArgs s_squared_move) (defBody s_squared_move) (defScope s_squared_move) .none kV5 dc5 pm5 an5 cd5 ct5), f_ways_of := f6, fd_ways_of := (PySem.W.fnOf "ways_of" "ways_of" (defArgs s_ways_of) (defBody s_ways_of) (defScope s_ways_of) .none kV6 dc6 pm6 an6 cd6 ct6), f_settled_move := f7, fd_settled_move := (PySem.W.fnOf "settled_move" "settled_move" (defArgs s_settled_move) (defBody s_settled_move) (defScope s_settled_move) .none kV7 dc7 pm7 an7 cd7 ct7), f_is_integer := f8, fd_is_integer := (PySem.W.fnOf "is_integer" "is_integer" (defArgs s_is_integer) (defBody s_is_integer) (defScope s_is_integer) .none kV8 dc8 pm8 an8 cd8 ct8), f_is_between := f9, fd_is_between := (PySem.W.fnOf "is_between" "is_between" (defArgs s_is_between) (defBody s_is_between) (defScope s_is_between) .none kV9 dc9 pm9 an9 cd9 ct9), f_is_constant := f10, fd_is_constant := (PySem.W.fnOf "is_constant" "is_constant" (defArgs s_is_constant) (defBody s_is_constant) (defScope s_is_constant) .none kV10 dc10 pm10 an10 cd10 ct10), f_check_times := f11, fd_check_times := (PySem.W.fnOf "check_times" "check_times" (defArgs s_check_times) (defBody s_check_times) (defScope s_check_times) .none kV11 dc11 pm11 an11 cd11 ct11), f_Effect_init := f12, fd_Effect_init := (PySem.W.fnOf "__init__" "Effect.__init__" (defArgs s_Effect_init) (defBody s_Effect_init) (defScope s_Effect_init) .none kV12 dc12 pm12 an12 cd12 ct12), f_Effect_taken := f13, fd_Effect_taken := (PySem.W.fnOf "taken" "Effect.taken" (defArgs s_Effect_taken) (defBody s_Effect_taken) (defScope s_Effect_taken) .none kV13 dc13 pm13 an13 cd13 ct13), p_Effect_taken := p13, f_Effect_left := f14, fd_Effect_left := (PySem.W.fnOf "left" "Effect.left" (defArgs s_Effect_left) (defBody s_Effect_left) (defScope s_Effect_left) .none kV14 dc14 pm14 an14 cd14 ct14), p_Effect_left := p14, f_Effect_growth := f15, fd_Effect_growth := (PySem.W.fnOf "growth" "Effect.growth" (defArgs s_Effect_growth) (defBody s_Effect_growth) (defScope s_Effect_growth) .none kV15 dc15 pm15 an15 cd15 ct15), p_Effect_growth := p15, f_Effect_call := f16, fd_Effect_call := (PySem.W.fnOf "__call__" "Effect.__call__" (defArgs s_Effect_call) (defBody s_Effect_call) (defScope s_Effect_call) .none kV16 dc16 pm16 an16 cd16 ct16), f_Effect_source := f17, fd_Effect_source := (PySem.W.fnOf "source" "Effect.source" (defArgs s_Effect_source) (defBody s_Effect_source) (defScope s_Effect_source) .none kV17 dc17 pm17 an17 cd17 ct17), f_Effect_len := f18, fd_Effect_len := (PySem.W.fnOf "__len__" "Effect.__len__" (defArgs s_Effect_len) (defBody s_Effect_len) (defScope s_Effect_len) .none kV18 dc18 pm18 an18 cd18 ct18), f_Effect_eq := f19, fd_Effect_eq := (PySem.W.fnOf "__eq__" "Effect.__eq__" (defArgs s_Effect_eq) (defBody s_Effect_eq) (defScope s_Effect_eq) .none kV19 dc19 pm19 an19 cd19 ct19), f_Effect_add := f20, fd_Effect_add := (PySem.W.fnOf "__add__" "Effect.__add__" (defArgs s_Effect_add) (defBody s_Effect_add) (defScope s_Effect_add) .none kV20 dc20 pm20 an20 cd20 ct20), f_Effect_mul := f21, fd_Effect_mul := (PySem.W.fnOf "__mul__" "Effect.__mul__" (defArgs s_Effect_mul) (defBody s_Effect_mul) (defScope s_Effect_mul) .none kV21 dc21 pm21 an21 cd21 ct21), f_are_sources := f22, fd_are_sources := (PySem.W.fnOf "are_sources" "are_sources" (defArgs s_are_sources) (defBody s_are_sources) (defScope s_are_sources) .none kV22 dc22 pm22 an22 cd22 ct22), f_is_source := f23, fd_is_source := (PySem.W.fnOf "is_source" "is_source" (defArgs s_is_source) (defBody s_is_source) (defScope s_is_source) .none kV23 dc23 pm23 an23 cd23 ct23), f_is_stack := f24, fd_is_stack := (PySem.W.fnOf "is_stack" "is_stack" (defArgs s_is_stack) (defBody s_is_stack) (defScope s_is_stack) .none kV24 dc24 pm24 an24 cd24 ct24), f_check_stack := f25, fd_check_stack := (PySem.W.fnOf "check_stack" "check_stack" (defArgs s_check_stack) (defBody s_check_stack) (defScope s_check_stack) .none kV25 dc25 pm25 an25 cd25 ct25), f_check_height := f26, fd_check_height := (PySem.W.fnOf "check_height" "check_height" (defArgs s_check_height) (defBody s_check_height) (defScope s_check_height) .none kV26 dc26 pm26 an26 cd26 ct26), f_check_effect := f27, fd_check_effect := (PySem.W.fnOf "check_effect" "check_effect" (defArgs s_check_effect) (defBody s_check_effect) (defScope s_check_effect) .none kV27 dc27 pm27 an27 cd27 ct27), f_check_depth := f28, fd_check_depth := (PySem.W.fnOf "check_depth" "check_depth" (defArgs s_check_depth) (defBody s_check_depth) (defScope s_check_depth) .none kV28 dc28 pm28 an28 cd28 ct28), f_stack_behind := f29, fd_stack_behind := (PySem.W.fnOf "stack_behind" "stack_behind" (defArgs s_stack_behind) (defBody s_stack_behind) (defScope s_stack_behind) .none kV29 dc29 pm29 an29 cd29 ct29), f_effect_with := f30, fd_effect_with := (PySem.W.fnOf "effect_with" "effect_with" (defArgs s_effect_with) (defBody s_effect_with) (defScope s_effect_with) .none kV30 dc30 pm30 an30 cd30 ct30), f__law_kiln := f31, fd__law_kiln := (PySem.W.fnOf "_law_kiln" "_law_kiln" (defArgs s__law_kiln) (defBody s__law_kiln) (defScope s__law_kiln) .none kV31 dc31 pm31 an31 cd31 ct31), f__law_scoop := f32, fd__law_scoop := (PySem.W.fnOf "_law_scoop" "_law_scoop" (defArgs s__law_scoop) (defBody s__law_scoop) (defScope s__law_scoop) .none kV32 dc32 pm32 an32 cd32 ct32), f__law_cut := f33, fd__law_cut := (PySem.W.fnOf "_law_cut" "_law_cut" (defArgs s__law_cut) (defBody s__law_cut) (defScope s__law_cut) .none kV33 dc33 pm33 an33 cd33 ct33), f__law_made := f34, fd__law_made := (PySem.W.fnOf "_law_made" "_law_made" (defArgs s__law_made) (defBody s__law_made) (defScope s__law_made) .none kV34 dc34 pm34 an34 cd34 ct34), f__law_put := f35, fd__law_put := (PySem.W.fnOf "_law_put" "_law_put" (defArgs s__law_put) (defBody s__law_put) (defScope s__law_put) .none kV35 dc35 pm35 an35 cd35 ct35), f__law_applied := f36, fd__law_applied := (PySem.W.fnOf "_law_applied" "_law_applied" (defArgs s__law_applied) (defBody s__law_applied) (defScope s__law_applied) .none kV36 dc36 pm36 an36 cd36 ct36), f__law_right := f37, fd__law_right := (PySem.W.fnOf "_law_right" "_law_right" (defArgs s__law_right) (defBody s__law_right) (defScope s__law_right) .none kV37 dc37 pm37 an37 cd37 ct37), f__law_wide_right := f38, fd__law_wide_right := (PySem.W.fnOf "_law_wide_right" "_law_wide_right" (defArgs s__law_wide_right) (defBody s__law_wide_right) (defScope s__law_wide_right) .none kV38 dc38 pm38 an38 cd38 ct38), f_law := f39, fd_law := (PySem.W.fnOf "law" "law" (defArgs s_law) (defBody s_law) (defScope s_law) .none kV39 dc39 pm39 an39 cd39 ct39), C_Effect := C_Effect, t_LARGEST := t_LARGEST, t_MOST_CELLS := t_MOST_CELLS, a_NO_MOVE := aT_NO_MOVE }
  have T : Txt K mg A := {
    F_inputs := fun_mk (st := s_inputs) l0 c0 k0
    b_inputs := (fun_mk (st := s_inputs) l0 c0 k0).binds (ps := ["low", "high"]) fun _ _ _ _ _ _ us hl => match us, hl with | [_, _], _ => rfl
    k_inputs := k0
    mg_inputs := PySem.W.mg_of X G a0
    F_cut_move := fun_mk (st := s_cut_move) l1 c1 k1
    b_cut_move := (fun_mk (st := s_cut_move) l1 c1 k1).binds (ps := ["move"]) fun _ _ _ _ _ _ us hl => match us, hl with | [_], _ => rfl
    k_cut_move := k1
    mg_cut_move := PySem.W.mg_of X G a1
    F_moved_cells := fun_mk (st := s_moved_cells) l2 c2 k2
    b_moved_cells := (fun_mk (st := s_moved_cells) l2 c2 k2).binds (ps := ["move", "cells"]) fun _ _ _ _ _ _ us hl => match us, hl with | [_, _], _ => rfl
    k_moved_cells := k2
    mg_moved_cells := PySem.W.mg_of X G a2
    F_joined_move := fun_mk (st := s_joined_move) l3 c3 k3
    b_joined_move := (fun_mk (st := s_joined_move) l3 c3 k3).binds (ps := ["first", "second"]) fun _ _ _ _ _ _ us hl => match us, hl with | [_, _], _ => rfl
    k_joined_move := k3
    mg_joined_move := PySem.W.mg_of X G a3
    F_repeated_move := fun_mk (st := s_repeated_move) l4 c4 k4
    b_repeated_move := (fun_mk (st := s_repeated_move) l4 c4 k4).binds (ps := ["move", "times"]) fun _ _ _ _ _ _ us hl => match us, hl with | [_, _], _ => rfl
    k_repeated_move := k4
    mg_repeated_move := PySem.W.mg_of X G a4
    F_squared_move := fun_mk (st := s_squared_move) l5 c5 k5
    b_squared_move := (fun_mk (st := s_squared_move) l5 c5 k5).binds (ps := ["move", "times"]) fun _ _ _ _ _ _ us hl => match us, hl with | [_, _], _ => rfl
    k_squared_move := k5
    mg_squared_move := PySem.W.mg_of X G a5
    F_ways_of := fun_mk (st := s_ways_of) l6 c6 k6
    b_ways_of := (fun_mk (st := s_ways_of) l6 c6 k6).binds (ps := ["move"]) fun _ _ _ _ _ _ us hl => match us, hl with | [_], _ => rfl
    k_ways_of := k6
    mg_ways_of := PySem.W.mg_of X G a6
    F_settled_move := fun_mk (st := s_settled_move) l7 c7 k7
    b_settled_move := (fun_mk (st := s_settled_move) l7 c7 k7).binds (ps := ["move", "times"]) fun _ _ _ _ _ _ us hl => match us, hl with | [_, _], _ => rfl
    k_settled_move := k7
    mg_settled_move := PySem.W.mg_of X G a7
    F_is_integer := fun_mk (st := s_is_integer) l8 c8 k8
    b_is_integer := (fun_mk (st := s_is_integer) l8 c8 k8).binds (ps := ["value"]) fun _ _ _ _ _ _ us hl => match us, hl with | [_], _ => rfl
    k_is_integer := k8
    mg_is_integer := PySem.W.mg_of X G a8
    F_is_between := fun_mk (st := s_is_between) l9 c9 k9
    b_is_between := (fun_mk (st := s_is_between) l9 c9 k9).binds (ps := ["value", "low", "high"]) fun _ _ _ _ _ _ us hl => match us, hl with | [_, _, _], _ => rfl
    k_is_between := k9
    mg_is_between := PySem.W.mg_of X G a9
    F_is_constant := fun_mk (st := s_is_constant) l10 c10 k10
    b_is_constant := (fun_mk (st := s_is_constant) l10 c10 k10).binds (ps := ["value"]) fun _ _ _ _ _ _ us hl => match us, hl with | [_], _ => rfl
    k_is_constant := k10
    mg_is_constant := PySem.W.mg_of X G a10
    F_check_times := fun_mk (st := s_check_times) l11 c11 k11
    b_check_times := (fun_mk (st := s_check_times) l11 c11 k11).binds (ps := ["times"]) fun _ _ _ _ _ _ us hl => match us, hl with | [_], _ => rfl
    k_check_times := k11
    mg_check_times := PySem.W.mg_of X G a11
    F_Effect_init := fun_mk (st := s_Effect_init) l12 c12 k12
    b_Effect_init := (fun_mk (st := s_Effect_init) l12 c12 k12).binds (ps := ["self", "taken", "left"]) fun _ _ _ _ _ _ us hl => match us, hl with | [_, _, _], _ => rfl
    k_Effect_init := k12
    h_Effect_init := a12
    i_Effect_init := i12
    m_Effect_init := ⟨a12, i12, k12⟩
    F_Effect_taken := fun_mk (st := s_Effect_taken) l13 c13 k13
    b_Effect_taken := (fun_mk (st := s_Effect_taken) l13 c13 k13).binds (ps := ["self"]) fun _ _ _ _ _ _ us hl => match us, hl with | [_], _ => rfl
    k_Effect_taken := k13
    pr_Effect_taken := ⟨a13, g13, e13, _, r13⟩
    F_Effect_left := fun_mk (st := s_Effect_left) l14 c14 k14
    b_Effect_left := (fun_mk (st := s_Effect_left) l14 c14 k14).binds (ps := ["self"]) fun _ _ _ _ _ _ us hl => match us, hl with | [_], _ => rfl
    k_Effect_left := k14
    pr_Effect_left := ⟨a14, g14, e14, _, r14⟩
    F_Effect_growth := fun_mk (st := s_Effect_growth) l15 c15 k15
    b_Effect_growth := (fun_mk (st := s_Effect_growth) l15 c15 k15).binds (ps := ["self"]) fun _ _ _ _ _ _ us hl => match us, hl with | [_], _ => rfl
    k_Effect_growth := k15
    pr_Effect_growth := ⟨a15, g15, e15, _, r15⟩
    F_Effect_call := fun_mk (st := s_Effect_call) l16 c16 k16
    b_Effect_call := (fun_mk (st := s_Effect_call) l16 c16 k16).binds (ps := ["self", "stack"]) fun _ _ _ _ _ _ us hl => match us, hl with | [_, _], _ => rfl
    k_Effect_call := k16
    h_Effect_call := a16
    i_Effect_call := i16
    m_Effect_call := ⟨a16, i16, k16⟩
    F_Effect_source := fun_mk (st := s_Effect_source) l17 c17 k17
    b_Effect_source := (fun_mk (st := s_Effect_source) l17 c17 k17).binds (ps := ["self", "depth"]) fun _ _ _ _ _ _ us hl => match us, hl with | [_, _], _ => rfl
    k_Effect_source := k17
    h_Effect_source := a17
    i_Effect_source := i17
    m_Effect_source := ⟨a17, i17, k17⟩
    F_Effect_len := fun_mk (st := s_Effect_len) l18 c18 k18
    b_Effect_len := (fun_mk (st := s_Effect_len) l18 c18 k18).binds (ps := ["self"]) fun _ _ _ _ _ _ us hl => match us, hl with | [_], _ => rfl
    k_Effect_len := k18
    h_Effect_len := a18
    i_Effect_len := i18
    m_Effect_len := ⟨a18, i18, k18⟩
    F_Effect_eq := fun_mk (st := s_Effect_eq) l19 c19 k19
    b_Effect_eq := (fun_mk (st := s_Effect_eq) l19 c19 k19).binds (ps := ["self", "other"]) fun _ _ _ _ _ _ us hl => match us, hl with | [_, _], _ => rfl
    k_Effect_eq := k19
    h_Effect_eq := a19
    i_Effect_eq := i19
    m_Effect_eq := ⟨a19, i19, k19⟩
    F_Effect_add := fun_mk (st := s_Effect_add) l20 c20 k20
    b_Effect_add := (fun_mk (st := s_Effect_add) l20 c20 k20).binds (ps := ["self", "other"]) fun _ _ _ _ _ _ us hl => match us, hl with | [_, _], _ => rfl
    k_Effect_add := k20
    h_Effect_add := a20
    i_Effect_add := i20
    m_Effect_add := ⟨a20, i20, k20⟩
    F_Effect_mul := fun_mk (st := s_Effect_mul) l21 c21 k21
    b_Effect_mul := (fun_mk (st := s_Effect_mul) l21 c21 k21).binds (ps := ["self", "other"]) fun _ _ _ _ _ _ us hl => match us, hl with | [_, _], _ => rfl
    k_Effect_mul := k21
    h_Effect_mul := a21
    i_Effect_mul := i21
    m_Effect_mul := ⟨a21, i21, k21⟩
    F_are_sources := fun_mk (st := s_are_sources) l22 c22 k22
    b_are_sources := (fun_mk (st := s_are_sources) l22 c22 k22).binds (ps := ["left", "taken"]) fun _ _ _ _ _ _ us hl => match us, hl with | [_, _], _ => rfl
    k_are_sources := k22
    mg_are_sources := PySem.W.mg_of X G a22
    F_is_source := fun_mk (st := s_is_source) l23 c23 k23
    b_is_source := (fun_mk (st := s_is_source) l23 c23 k23).binds (ps := ["value"]) fun _ _ _ _ _ _ us hl => match us, hl with | [_], _ => rfl
    k_is_source := k23
    mg_is_source := PySem.W.mg_of X G a23
    F_is_stack := fun_mk (st := s_is_stack) l24 c24 k24
    b_is_stack := (fun_mk (st := s_is_stack) l24 c24 k24).binds (ps := ["value"]) fun _ _ _ _ _ _ us hl => match us, hl with | [_], _ => rfl
    k_is_stack := k24
    mg_is_stack := PySem.W.mg_of X G a24
    F_check_stack := fun_mk (st := s_check_stack) l25 c25 k25
    b_check_stack := (fun_mk (st := s_check_stack) l25 c25 k25).binds (ps := ["stack"]) fun _ _ _ _ _ _ us hl => match us, hl with | [_], _ => rfl
    k_check_stack := k25
    mg_check_stack := PySem.W.mg_of X G a25
    F_check_height := fun_mk (st := s_check_height) l26 c26 k26
    b_check_height := (fun_mk (st := s_check_height) l26 c26 k26).binds (ps := ["stack", "least"]) fun _ _ _ _ _ _ us hl => match us, hl with | [_, _], _ => rfl
    k_check_height := k26
    mg_check_height := PySem.W.mg_of X G a26
    F_check_effect := fun_mk (st := s_check_effect) l27 c27 k27
    b_check_effect := (fun_mk (st := s_check_effect) l27 c27 k27).binds (ps := ["effect"]) fun _ _ _ _ _ _ us hl => match us, hl with | [_], _ => rfl
    k_check_effect := k27
    mg_check_effect := PySem.W.mg_of X G a27
    F_check_depth := fun_mk (st := s_check_depth) l28 c28 k28
    b_check_depth := (fun_mk (st := s_check_depth) l28 c28 k28).binds (ps := ["depth"]) fun _ _ _ _ _ _ us hl => match us, hl with | [_], _ => rfl
    k_check_depth := k28
    mg_check_depth := PySem.W.mg_of X G a28
    F_stack_behind := fun_mk (st := s_stack_behind) l29 c29 k29
    b_stack_behind := (fun_mk (st := s_stack_behind) l29 c29 k29).binds (ps := ["move", "stack"]) fun _ _ _ _ _ _ us hl => match us, hl with | [_, _], _ => rfl
    k_stack_behind := k29
    mg_stack_behind := PySem.W.mg_of X G a29
    F_effect_with := fun_mk (st := s_effect_with) l30 c30 k30
    b_effect_with := (fun_mk (st := s_effect_with) l30 c30 k30).binds (ps := ["move"]) fun _ _ _ _ _ _ us hl => match us, hl with | [_], _ => rfl
    k_effect_with := k30
    mg_effect_with := PySem.W.mg_of X G a30
    F__law_kiln := fun_mk (st := s__law_kiln) l31 c31 k31
    b__law_kiln := (fun_mk (st := s__law_kiln) l31 c31 k31).binds (ps := ["script", "k"]) fun _ _ _ _ _ _ us hl => match us, hl with | [_, _], _ => rfl
    k__law_kiln := k31
    mg__law_kiln := PySem.W.mg_of X G a31
    F__law_scoop := fun_mk (st := s__law_scoop) l32 c32 k32
    b__law_scoop := (fun_mk (st := s__law_scoop) l32 c32 k32).binds (ps := ["kiln", "bound"]) fun _ _ _ _ _ _ us hl => match us, hl with | [_, _], _ => rfl
    k__law_scoop := k32
    mg__law_scoop := PySem.W.mg_of X G a32
    F__law_cut := fun_mk (st := s__law_cut) l33 c33 k33
    b__law_cut := (fun_mk (st := s__law_cut) l33 c33 k33).binds (ps := ["taken_here", "left_here"]) fun _ _ _ _ _ _ us hl => match us, hl with | [_, _], _ => rfl
    k__law_cut := k33
    mg__law_cut := PySem.W.mg_of X G a33
    F__law_made := fun_mk (st := s__law_made) l34 c34 k34
    b__law_made := (fun_mk (st := s__law_made) l34 c34 k34).binds (ps := ["kiln", "most"]) fun _ _ _ _ _ _ us hl => match us, hl with | [_, _], _ => rfl
    k__law_made := k34
    mg__law_made := PySem.W.mg_of X G a34
    F__law_put := fun_mk (st := s__law_put) l35 c35 k35
    b__law_put := (fun_mk (st := s__law_put) l35 c35 k35).binds (ps := ["taken_here", "left_here", "cells"]) fun _ _ _ _ _ _ us hl => match us, hl with | [_, _, _], _ => rfl
    k__law_put := k35
    mg__law_put := PySem.W.mg_of X G a35
    F__law_applied := fun_mk (st := s__law_applied) l36 c36 k36
    b__law_applied := (fun_mk (st := s__law_applied) l36 c36 k36).binds (ps := ["effect_here", "cells"]) fun _ _ _ _ _ _ us hl => match us, hl with | [_, _], _ => rfl
    k__law_applied := k36
    mg__law_applied := PySem.W.mg_of X G a36
    F__law_right := fun_mk (st := s__law_right) l37 c37 k37
    b__law_right := (fun_mk (st := s__law_right) l37 c37 k37).binds (ps := ["kiln", "most"]) fun _ _ _ _ _ _ us hl => match us, hl with | [_, _], _ => rfl
    k__law_right := k37
    mg__law_right := PySem.W.mg_of X G a37
    F__law_wide_right := fun_mk (st := s__law_wide_right) l38 c38 k38
    b__law_wide_right := (fun_mk (st := s__law_wide_right) l38 c38 k38).binds (ps := ["kiln"]) fun _ _ _ _ _ _ us hl => match us, hl with | [_], _ => rfl
    k__law_wide_right := k38
    mg__law_wide_right := PySem.W.mg_of X G a38
    F_law := fun_mk (st := s_law) l39 c39 k39
    b_law := (fun_mk (st := s_law) l39 c39 k39).binds (ps := ["script"]) fun _ _ _ _ _ _ us hl => match us, hl with | [_], _ => rfl
    k_law := k39
    mg_law := PySem.W.mg_of X G a39
    cl_Effect := ⟨pg_Effect, hd_Effect, po_Effect, sa_Effect⟩
    mgC_Effect := PySem.W.mg_of X G aC_Effect
    mk_Effect := ⟨mk_Effect, a12, i12, kc_Effect⟩
    is_Effect := by unfold PySem.W.kitOne; rw [if_pos (by simp)]
    ty_Effect := fun H p dx ws hp => .base (.ins hp ⟨pg_Effect, hd_Effect, po_Effect, sa_Effect⟩ hcl_Effect hgt htk hmr_Effect)
    na_Effect_cut := n_cut_Effect
    hne_Effect := hne_Effect
    hobj_Effect := hobj_Effect
    nfC_Effect := by unfold PySem.W.notFirst; simp
    nf_Effect := fun U hU => by
      simp only [List.mem_cons, List.not_mem_nil, or_false] at hU
      rcases hU with rfl | rfl | rfl | rfl | rfl
      · exact nfNoneType_Effect
      · exact nftuple_Effect
      · exact nfint_Effect
      · exact nfstr_Effect
      · exact nflist_Effect
    isN_Effect := fun U hU => by
      simp only [List.mem_cons, List.not_mem_nil, or_false] at hU
      rcases hU with rfl | rfl | rfl | rfl | rfl
      · exact kit_no ic_Effect ty_Effect sbNoneType_Effect
      · exact kit_no ic_Effect ty_Effect sbtuple_Effect
      · exact kit_no ic_Effect ty_Effect sbint_Effect
      · exact kit_no ic_Effect ty_Effect sbstr_Effect
      · exact kit_no ic_Effect ty_Effect sblist_Effect
    sf_Effect := sf_Effect
    fnI_Effect := fi_Effect
    z_isinstance := PySem.W.mg_none_of X G z_isinstance
    z_int := PySem.W.mg_none_of X G z_int
    z_bool := PySem.W.mg_none_of X G z_bool
    z_str := PySem.W.mg_none_of X G z_str
    z_tuple := PySem.W.mg_none_of X G z_tuple
    z_len := PySem.W.mg_none_of X G z_len
    z_all := PySem.W.mg_none_of X G z_all
    z_max := PySem.W.mg_none_of X G z_max
    z_min := PySem.W.mg_none_of X G z_min
    z_range := PySem.W.mg_none_of X G z_range
    z_list := PySem.W.mg_none_of X G z_list
    z_repr := PySem.W.mg_none_of X G z_repr
    z_abs := PySem.W.mg_none_of X G z_abs
    z_enumerate := PySem.W.mg_none_of X G z_enumerate
    z_reversed := PySem.W.mg_none_of X G z_reversed
    z_super := PySem.W.mg_none_of X G z_super
    z_ValueError := PySem.W.mg_none_of X G z_ValueError
    v_LARGEST := PySem.W.mg_of X G v_LARGEST
    v_MOST_CELLS := PySem.W.mg_of X G v_MOST_CELLS
    g_NO_MOVE := PySem.W.mg_of X G g_NO_MOVE
    dt_NO_MOVE := fun H => (.tup (xs := [.int (0), .ref aT_NO_MOVE_1]) (.inr ⟨_, _, _, lT_NO_MOVE, rfl, rfl, (by show 2 ≤ sizeLine; decide), (.cons ⟨_, rfl⟩ (.cons rfl .nil))⟩) nofun (.cons (.int _) (.cons (.tup (xs := []) (.inr ⟨_, _, _, lT_NO_MOVE_1, rfl, rfl, (by show 0 ≤ sizeLine; decide), .nil⟩) nofun .nil) .nil))) }
  exact ⟨(PySem.W.fnOf "law" "law" (defArgs s_law) (defBody s_law) (defScope s_law) .none kV39 dc39 pm39 an39 cd39 ct39), fun s v => .of_eq rfl, fun base _ _ => ok_law (P := l.prog) (w := w) (base := base) T⟩
end K15
open PySem PySem.W PyProof.Rows in
set_option maxRecDepth 100000 in
set_option maxHeartbeats 0 in
theorem PySem.Challenge.cw_stackworks_k16_effects_put_together_holds : PySem.Challenge.rw_stackworks_k16_effects_put_together.Holds := by
  w_on; o_law; k_head; (case hw => w_witness2)
  k_fill
  refine Lw.walkG (l := PySem.Challenge.rw_stackworks_k16_effects_put_together) (n := 63) (k := 15) (x := "script") rfl (by decide) rfl ⟨rfl, by decide, by decide⟩ (fun w h Y => PySem.W.kIn_of Y) ?F
  case F =>
    intro w mg fa h KX G hmg
    refine' K15.all_mk KX G hmg ?aC_Effect ?a0 ?l0 ?c0 ?k0 ?a1 ?l1 ?c1 ?k1 ?a2 ?l2 ?c2 ?k2 ?a3 ?l3 ?c3 ?k3 ?a4 ?l4 ?c4 ?k4 ?a5 ?l5 ?c5 ?k5 ?a6 ?l6 ?c6 ?k6 ?a7 ?l7 ?c7 ?k7 ?a8 ?l8 ?c8 ?k8 ?a9 ?l9 ?c9 ?k9 ?a10 ?l10 ?c10 ?k10 ?a11 ?l11 ?c11 ?k11 ?a12 ?i12 ?l12 ?c12 ?k12 ?a13 ?g13 ?e13 ?r13 ?l13 ?c13 ?k13 ?a14 ?g14 ?e14 ?r14 ?l14 ?c14 ?k14 ?a15 ?g15 ?e15 ?r15 ?l15 ?c15 ?k15 ?a16 ?i16 ?l16 ?c16 ?k16 ?a17 ?i17 ?l17 ?c17 ?k17 ?a18 ?i18 ?l18 ?c18 ?k18 ?a19 ?i19 ?l19 ?c19 ?k19 ?a20 ?i20 ?l20 ?c20 ?k20 ?a21 ?i21 ?l21 ?c21 ?k21 ?a22 ?l22 ?c22 ?k22 ?a23 ?l23 ?c23 ?k23 ?a24 ?l24 ?c24 ?k24 ?a25 ?l25 ?c25 ?k25 ?a26 ?l26 ?c26 ?k26 ?a27 ?l27 ?c27 ?k27 ?a28 ?l28 ?c28 ?k28 ?a29 ?l29 ?c29 ?k29 ?a30 ?l30 ?c30 ?k30 ?a31 ?l31 ?c31 ?k31 ?a32 ?l32 ?c32 ?k32 ?a33 ?l33 ?c33 ?k33 ?a34 ?l34 ?c34 ?k34 ?a35 ?l35 ?c35 ?k35 ?a36 ?l36 ?c36 ?k36 ?a37 ?l37 ?c37 ?k37 ?a38 ?l38 ?c38 ?k38 ?a39 ?l39 ?c39 ?k39 ?pg_Effect ?hd_Effect ?po_Effect ?sa_Effect ?mk_Effect ?kc_Effect ?n_cut_Effect ?hne_Effect ?hobj_Effect ?hcl_Effect ?hmr_Effect ?nfNoneType_Effect ?nftuple_Effect ?nfint_Effect ?nfstr_Effect ?nflist_Effect ?ic_Effect ?ty_Effect ?sbNoneType_Effect ?sbtuple_Effect ?sbint_Effect ?sbstr_Effect ?sblist_Effect ?sf_Effect ?fi_Effect ?hgt ?htk ?v_LARGEST ?v_MOST_CELLS ?g_NO_MOVE ?lT_NO_MOVE ?lT_NO_MOVE_1 ?z_isinstance ?z_int ?z_bool ?z_str ?z_tuple ?z_len ?z_all ?z_max ?z_min ?z_range ?z_list ?z_repr ?z_abs ?z_enumerate ?z_reversed ?z_super ?z_ValueError
    (case aC_Effect => k_is)
    (case a0 => k_is)
    (case l0 => k_is)
    (case c0 => k_is)
    (case k0 => k_is)
    (case a1 => k_is)
    (case l1 => k_is)
    (case c1 => k_is)
    (case k1 => k_is)
    (case a2 => k_is)
    (case l2 => k_is)
    (case c2 => k_is)
    (case k2 => k_is)
    (case a3 => k_is)
    (case l3 => k_is)
    (case c3 => k_is)
    (case k3 => k_is)
    (case a4 => k_is)
    (case l4 => k_is)
    (case c4 => k_is)
    (case k4 => k_is)
    (case a5 => k_is)
    (case l5 => k_is)
    (case c5 => k_is)
    (case k5 => k_is)
    (case a6 => k_is)
    (case l6 => k_is)
    (case c6 => k_is)
    (case k6 => k_is)
    (case a7 => k_is)
    (case l7 => k_is)
    (case c7 => k_is)
    (case k7 => k_is)
    (case a8 => k_is)
    (case l8 => k_is)
    (case c8 => k_is)
    (case k8 => k_is)
    (case a9 => k_is)
    (case l9 => k_is)
    (case c9 => k_is)
    (case k9 => k_is)
    (case a10 => k_is)
    (case l10 => k_is)
    (case c10 => k_is)
    (case k10 => k_is)
    (case a11 => k_is)
    (case l11 => k_is)
    (case c11 => k_is)
    (case k11 => k_is)
    (case a12 => k_is)
    (case i12 => k_is)
    (case l12 => k_is)
    (case c12 => k_is)
    (case k12 => k_is)
    (case a13 => k_is)
    (case g13 => k_is)
    (case e13 => k_is)
    (case r13 => k_is)
    (case l13 => k_is)
    (case c13 => k_is)
    (case k13 => k_is)
    (case a14 => k_is)
    (case g14 => k_is)
    (case e14 => k_is)
    (case r14 => k_is)
    (case l14 => k_is)
    (case c14 => k_is)
    (case k14 => k_is)
    (case a15 => k_is)
    (case g15 => k_is)
    (case e15 => k_is)
    (case r15 => k_is)
    (case l15 => k_is)
    (case c15 => k_is)
    (case k15 => k_is)
    (case a16 => k_is)
    (case i16 => k_is)
    (case l16 => k_is)
    (case c16 => k_is)
    (case k16 => k_is)
    (case a17 => k_is)
    (case i17 => k_is)
    (case l17 => k_is)
    (case c17 => k_is)
    (case k17 => k_is)
    (case a18 => k_is)
    (case i18 => k_is)
    (case l18 => k_is)
    (case c18 => k_is)
    (case k18 => k_is)
    (case a19 => k_is)
    (case i19 => k_is)
    (case l19 => k_is)
    (case c19 => k_is)
    (case k19 => k_is)
    (case a20 => k_is)
    (case i20 => k_is)
    (case l20 => k_is)
    (case c20 => k_is)
    (case k20 => k_is)
    (case a21 => k_is)
    (case i21 => k_is)
    (case l21 => k_is)
    (case c21 => k_is)
    (case k21 => k_is)
    (case a22 => k_is)
    (case l22 => k_is)
    (case c22 => k_is)
    (case k22 => k_is)
    (case a23 => k_is)
    (case l23 => k_is)
    (case c23 => k_is)
    (case k23 => k_is)
    (case a24 => k_is)
    (case l24 => k_is)
    (case c24 => k_is)
    (case k24 => k_is)
    (case a25 => k_is)
    (case l25 => k_is)
    (case c25 => k_is)
    (case k25 => k_is)
    (case a26 => k_is)
    (case l26 => k_is)
    (case c26 => k_is)
    (case k26 => k_is)
    (case a27 => k_is)
    (case l27 => k_is)
    (case c27 => k_is)
    (case k27 => k_is)
    (case a28 => k_is)
    (case l28 => k_is)
    (case c28 => k_is)
    (case k28 => k_is)
    (case a29 => k_is)
    (case l29 => k_is)
    (case c29 => k_is)
    (case k29 => k_is)
    (case a30 => k_is)
    (case l30 => k_is)
    (case c30 => k_is)
    (case k30 => k_is)
    (case a31 => k_is)
    (case l31 => k_is)
    (case c31 => k_is)
    (case k31 => k_is)
    (case a32 => k_is)
    (case l32 => k_is)
    (case c32 => k_is)
    (case k32 => k_is)
    (case a33 => k_is)
    (case l33 => k_is)
    (case c33 => k_is)
    (case k33 => k_is)
    (case a34 => k_is)
    (case l34 => k_is)
    (case c34 => k_is)
    (case k34 => k_is)
    (case a35 => k_is)
    (case l35 => k_is)
    (case c35 => k_is)
    (case k35 => k_is)
    (case a36 => k_is)
    (case l36 => k_is)
    (case c36 => k_is)
    (case k36 => k_is)
    (case a37 => k_is)
    (case l37 => k_is)
    (case c37 => k_is)
    (case k37 => k_is)
    (case a38 => k_is)
    (case l38 => k_is)
    (case c38 => k_is)
    (case k38 => k_is)
    (case a39 => k_is)
    (case l39 => k_is)
    (case c39 => k_is)
    (case k39 => k_is)
    (case pg_Effect => k_is)
    (case hd_Effect => k_is)
    (case po_Effect => k_is)
    (case sa_Effect => k_is)
    (case mk_Effect => k_is)
    (case kc_Effect => k_is)
    (case n_cut_Effect => k_is)
    (case hne_Effect => k_is)
    (case hobj_Effect => k_is)
    (case hcl_Effect => k_is)
    (case hmr_Effect => k_is)
    (case nfNoneType_Effect => k_is)
    (case nftuple_Effect => k_is)
    (case nfint_Effect => k_is)
    (case nfstr_Effect => k_is)
    (case nflist_Effect => k_is)
    (case ic_Effect => k_is)
    (case ty_Effect => k_is)
    (case sbNoneType_Effect => k_is)
    (case sbtuple_Effect => k_is)
    (case sbint_Effect => k_is)
    (case sbstr_Effect => k_is)
    (case sblist_Effect => k_is)
    (case sf_Effect => k_is)
    (case fi_Effect => k_is)
    (case hgt => k_is)
    (case htk => k_is)
    (case v_LARGEST => k_is)
    (case v_MOST_CELLS => k_is)
    (case g_NO_MOVE => k_is)
    (case lT_NO_MOVE => k_is)
    (case lT_NO_MOVE_1 => k_is)
    (case z_isinstance => k_is)
    (case z_int => k_is)
    (case z_bool => k_is)
    (case z_str => k_is)
    (case z_tuple => k_is)
    (case z_len => k_is)
    (case z_all => k_is)
    (case z_max => k_is)
    (case z_min => k_is)
    (case z_range => k_is)
    (case z_list => k_is)
    (case z_repr => k_is)
    (case z_abs => k_is)
    (case z_enumerate => k_is)
    (case z_reversed => k_is)
    (case z_super => k_is)
    (case z_ValueError => k_is)

