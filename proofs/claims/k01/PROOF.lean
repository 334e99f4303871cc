import PyProof.Rows.All
import Wide.All
import OpenK.AllK
import Wide.FinOn
import HandS.ForMost
import HandS.Exc
import HandS.TryOnly
import HandS.ExcOwn
import HandS.WordsExc
import HandS.ExcInit
import HandS.IsInst
import HandS.FStr
import HandS.StrMore
import HandS.TupAny
import HandS.Wide
import HandS.WideBits
import HandS.RaiseMore
import HandS.Lambda
import HandS.Codes
import HandS.Star
import HandS.Comp
import HandS.Replace
import HandS.Iter
import HandS.Style
import KE.KIsAll
import KE.KTryMore
import HandS.ExcIs
import HandS.ExcField
import HandS.EndTab
import PyProof.P3Eq
import PySem.Challenge.RW_gridfile_k01_names_of_places
-- Pv0
set_option Elab.async false
set_option linter.all false
set_option maxRecDepth 100000
set_option maxHeartbeats 4000000
namespace Pv
open PySem L2

/-! ## choices, errors, values -/
/-- an error of the program: its class, its attributes in the order in which they were stored -/
structure Er where
  cls : Str
  fs : List (Str × PyData)
/-- a run over data: it gives a value, raises, picks a number below n, or is not told -/
inductive T (α : Type) where
  | ret (a : α)
  | err (e : Er)
  | pick (n : Int) (f : Int → T α)
  | stuck
namespace T
def bind {α β : Type} : T α → (α → T β) → T β
  | ret a, f => f a
  | err e, _ => err e
  | pick n g, f => pick n fun i => bind (g i) f
  | stuck, _ => stuck
/-- b: how many picks may still be made -/
def wp {α : Type} : T α → Nat → (α → Nat → Prop) → (Er → Nat → Prop) → Prop
  | ret a, b, Q, _ => Q a b
  | err e, b, _, E => E e b
  | pick _ _, 0, _, _ => False
  | pick n g, b + 1, Q, E => ∀ i, 0 ≤ i → i < n → wp (g i) b Q E
  | stuck, _, _, _ => False
theorem wp_mono {α : Type} {Q Q' : α → Nat → Prop} {E E' : Er → Nat → Prop} : ∀ {t : T α} {b : Nat}, wp t b Q E → (∀ a c, c ≤ b → Q a c → Q' a c) → (∀ e c, c ≤ b → E e c → E' e c) → wp t b Q' E'
  | ret _, b, h, hq, _ => hq _ b (Nat.le_refl _) h
  | err _, b, h, _, he => he _ b (Nat.le_refl _) h
  | pick _ _, 0, h, _, _ => h
  | pick _ g, b + 1, h, hq, he => fun i h0 h1 => wp_mono (t := g i) (b := b) (h i h0 h1) (fun a c hc => hq a c (Nat.le_succ_of_le hc)) (fun e c hc => he e c (Nat.le_succ_of_le hc))
  | stuck, _, h, _, _ => h
theorem wp_bind {α β : Type} {Q : β → Nat → Prop} {E : Er → Nat → Prop} {f : α → T β} : ∀ {t : T α} {b : Nat}, wp (bind t f) b Q E ↔ wp t b (fun a c => wp (f a) c Q E) E
  | ret _, _ => Iff.rfl
  | err _, _ => Iff.rfl
  | pick _ _, 0 => Iff.rfl
  | pick _ g, b + 1 => ⟨fun h i h0 h1 => wp_bind.mp (h i h0 h1), fun h i h0 h1 => wp_bind.mpr (h i h0 h1)⟩
  | stuck, _ => Iff.rfl
theorem bind_ret {α β : Type} {a : α} {f : α → T β} : bind (ret a) f = f a := rfl
theorem bind_err {α β : Type} {e : Er} {f : α → T β} : bind (err e) f = err e := rfl
theorem bind_stuck {α β : Type} {f : α → T β} : bind stuck f = stuck := rfl
theorem bind_assoc {α β γ : Type} {f : α → T β} {g : β → T γ} : ∀ {t : T α}, bind (bind t f) g = bind t fun a => bind (f a) g
  | ret _ => rfl
  | err _ => rfl
  | pick n h => congrArg (pick n) (funext fun i => bind_assoc)
  | stuck => rfl
def ofO {α : Type} : Option α → T α
  | some a => ret a
  | none => stuck
end T

/-! ## the draw: a dict that the law's helpers change -/
def drawO (l c t : Int) : HO := .dK [(.inr "left", .int l), (.inr "cell", .int c), (.inr "turns", .int t)]
def IsDraw (o : HO) : Prop := ∃ l c t : Int, o = drawO l c t
/-- the program's own facts: its written part, the tables of its code objects, where its classes stand -/
structure Pa where
  K : PySem.W.Frag
  Tb : List (Addr × Str)
  cl : Str → Option Addr
  /-- objects that stand as they are -/
  pin : List (Addr × HO)
  /-- slots that keep their values -/
  fz : List (Nat × V)
  /-- heaps that were: the heap has come from them -/
  h0 : List Hp
theorem nd_tup {xs : List V} : ¬ IsDraw (.tup xs) := fun ⟨_, _, _, z⟩ => nomatch z
theorem nd_lst {xs : List V} : ¬ IsDraw (.lst xs) := fun ⟨_, _, _, z⟩ => nomatch z
theorem nd_emp : ¬ IsDraw (.dK []) := fun ⟨_, _, _, z⟩ => nomatch z
/-- what may become of an object -/
def Kept (o o' : HO) : Prop := o' = o ∨ (IsDraw o ∧ IsDraw o') ∨ ∃ ps more, o = .tbl ps ∧ o' = .tbl (ps ++ more)
theorem Kept.trans {a b c : HO} (h : Kept a b) (k : Kept b c) : Kept a c := by
  rcases h with rfl | ⟨h1, h2⟩ | ⟨ps, more, h1, h2⟩
  · exact k
  · rcases k with rfl | ⟨k1, k2⟩ | ⟨qs, more, k1, k2⟩
    · exact .inr (.inl ⟨h1, h2⟩)
    · exact .inr (.inl ⟨h1, k2⟩)
    · obtain ⟨l, c, t, e⟩ := h2
      rw [e] at k1
      cases k1
  · rcases k with rfl | ⟨⟨l, c', t, e⟩, k2⟩ | ⟨qs, more2, k1, k2⟩
    · exact .inr (.inr ⟨ps, more, h1, h2⟩)
    · rw [h2] at e
      cases e
    · rw [h2] at k1
      cases k1
      exact .inr (.inr ⟨ps, more ++ more2, h1, by rw [k2, Array.append_assoc]⟩)
/-- what code of ours does to the heap: draws are drawn from, tables of code objects grow, all else stays -/
def Frm (H H' : Hp) : Prop := ∀ a o, H a = some o → ∃ o', H' a = some o' ∧ Kept o o'
theorem Frm.refl (H : Hp) : Frm H H := fun _ o h => ⟨o, h, .inl rfl⟩
theorem Frm.trans {H H1 H2 : Hp} (h : Frm H H1) (k : Frm H1 H2) : Frm H H2 := fun a o e => by
  obtain ⟨o1, e1, k1⟩ := h a o e
  obtain ⟨o2, e2, k2⟩ := k a o1 e1
  exact ⟨o2, e2, k1.trans k2⟩
theorem Frm.new {H : Hp} {p : Addr} {o : HO} (h : H p = none) : Frm H (upd H p o) := fun a u e => ⟨u, by rw [upd_ne (ne_of_none e h)]; exact e, .inl rfl⟩
theorem Frm.back {H H' : Hp} {p : Addr} (f : Frm H H') (h : H' p = none) : H p = none := by
  cases e : H p with
  | none => rfl
  | some o =>
    obtain ⟨o', e', _⟩ := f p o e
    rw [h] at e'
    cases e'
theorem Frm.of_same {H H' : Hp} (h : ∀ a o, H a = some o → H' a = some o) : Frm H H' := fun a o e => ⟨o, h a o e, .inl rfl⟩
theorem Frm.lst {H H' : Hp} {a : Addr} {xs : List V} (f : Frm H H') (h : H a = some (.lst xs)) : H' a = some (.lst xs) := by
  obtain ⟨o, e, rfl | ⟨⟨_, _, _, z⟩, _⟩ | ⟨_, _, z, _⟩⟩ := f a _ h
  · exact e
  · cases z
  · cases z
theorem Frm.tup {H H' : Hp} {a : Addr} {xs : List V} (f : Frm H H') (h : H a = some (.tup xs)) : H' a = some (.tup xs) := by
  obtain ⟨o, e, rfl | ⟨⟨_, _, _, z⟩, _⟩ | ⟨_, _, z, _⟩⟩ := f a _ h
  · exact e
  · cases z
  · cases z
theorem Frm.frz {H H' : Hp} {a : Addr} {ob : Obj} {u : HO} (f : Frm H H') (h : H a = some (.frz ob u)) : H' a = some (.frz ob u) := by
  obtain ⟨o, e, rfl | ⟨⟨_, _, _, z⟩, _⟩ | ⟨_, _, z, _⟩⟩ := f a _ h
  · exact e
  · cases z
  · cases z
theorem Frm.emp {H H' : Hp} {a : Addr} (f : Frm H H') (h : H a = some (.dK [])) : H' a = some (.dK []) := by
  obtain ⟨o, e, rfl | ⟨⟨_, _, _, z⟩, _⟩ | ⟨_, _, z, _⟩⟩ := f a _ h
  · exact e
  · cases z
  · cases z
theorem Frm.xd {H H' : Hp} {a : Addr} {fs : List (Str × V)} (f : Frm H H') (h : H a = some (.xd fs)) : H' a = some (.xd fs) := by
  obtain ⟨o, e, rfl | ⟨⟨_, _, _, z⟩, _⟩ | ⟨_, _, z, _⟩⟩ := f a _ h
  · exact e
  · cases z
  · cases z
theorem Frm.draw {H H' : Hp} {a : Addr} {o : HO} (f : Frm H H') (h : H a = some o) (d : IsDraw o) : ∃ o', H' a = some o' ∧ IsDraw o' := by
  obtain ⟨o', e, rfl | ⟨_, z⟩ | ⟨_, _, z, _⟩⟩ := f a _ h
  · exact ⟨_, e, d⟩
  · exact ⟨_, e, z⟩
  · obtain ⟨_, _, _, z'⟩ := d
    rw [z'] at z
    cases z
theorem Frm.l {K : PySem.W.Frag} {H H' : Hp} {a : Addr} {xs : List V} (f : Frm H H') (h : SqL K H a xs) : SqL K H' a xs := by
  rcases h with (h | ⟨o, h⟩) | h
  · exact .inl (.inl (f.lst h))
  · exact .inl (.inr ⟨o, f.frz h⟩)
  · exact .inr h
theorem Frm.t {K : PySem.W.Frag} {H H' : Hp} {a : Addr} {xs : List V} (f : Frm H H') (h : SqT K H a xs) : SqT K H' a xs := by
  rcases h with (h | ⟨o, h⟩) | h
  · exact .inl (.inl (f.tup h))
  · exact .inl (.inr ⟨o, f.frz h⟩)
  · exact .inr h

/-- so many picks may still be made: the turns of all draws stay small; the tables of code objects are well -/
def Bud (P : Pa) (b : Nat) (H : Hp) : Prop := (b ≤ 2 ^ 30 ∧ ∀ a l c t, H a = some (drawO l c t) → 0 ≤ t ∧ t + 4 * (b : Int) ≤ 2 ^ 40) ∧ (LamX.Tabs P.Tb H ∧ (∀ q ∈ P.pin, H q.1 = some q.2 ∧ ¬ IsDraw q.2 ∧ ∀ ps, q.2 ≠ .tbl ps) ∧ ∀ B ∈ P.h0, Frm B H)
theorem Bud.le {P : Pa} {b c : Nat} {H : Hp} (h : Bud P b H) (k : c ≤ b) : Bud P c H := ⟨⟨Nat.le_trans k h.1.1, fun a l d t e => by
  obtain ⟨h1, h2⟩ := h.1.2 a l d t e
  exact ⟨h1, by omega⟩⟩, h.2⟩
theorem Bud.new {P : Pa} {b : Nat} {H : Hp} {p : Addr} {o : HO} (h : Bud P b H) (hp : H p = none) (n : ¬ IsDraw o) : Bud P b (upd H p o) := ⟨⟨h.1.1, fun a l c t e => by
  by_cases ha : a = p
  · subst ha
    rw [upd_same] at e
    exact absurd ⟨l, c, t, Option.some.inj e⟩ n
  · rw [upd_ne ha] at e
    exact h.1.2 a l c t e⟩, h.2.1.ext (fun c u e => by rw [upd_ne (ne_of_none e hp)]; exact e), fun q hq => by rw [upd_ne (ne_of_none (h.2.2.1 q hq).1 hp)]; exact h.2.2.1 q hq, fun B hB => (h.2.2.2 B hB).trans (Frm.new hp)⟩
/-! ## what data a value stands for -/
/-- the draw as data: no program of ours has such a dict -/
def drawD : PyData := .dict [(.none, .none)]
mutual
inductive Rp (K : PySem.W.Frag) (H : Hp) : V → PyData → Prop
  | non : Rp K H .non .none
  | bl (b : Bool) : Rp K H (.bl b) (.bool b)
  | int (i : Int) : Rp K H (.int i) (.int i)
  | str (x : Str) : Rp K H (.str x) (.str x)
  | lst {a : Addr} {xs : List V} {ds : List PyData} : SqL K H a xs → RpA K H xs ds → Rp K H (.ref a) (.list ds)
  | tup {a : Addr} {xs : List V} {ds : List PyData} : SqT K H a xs → RpA K H xs ds → Rp K H (.ref a) (.tuple ds)
  | emp {a : Addr} : H a = some (.dK []) → Rp K H (.ref a) (.dict [])
  | drw {a : Addr} {o : HO} : H a = some o → IsDraw o → Rp K H (.ref a) drawD
inductive RpA (K : PySem.W.Frag) (H : Hp) : List V → List PyData → Prop
  | nil : RpA K H [] []
  | cons {v : V} {vs : List V} {d : PyData} {ds : List PyData} : Rp K H v d → RpA K H vs ds → RpA K H (v :: vs) (d :: ds)
end
section
variable {K : PySem.W.Frag} {H H' : Hp}
mutual
theorem Rp.frm (f : Frm H H') : ∀ {v : V} {d : PyData}, Rp K H v d → Rp K H' v d
  | _, _, .non => .non
  | _, _, .bl b => .bl b
  | _, _, .int i => .int i
  | _, _, .str x => .str x
  | _, _, .lst h r => .lst (f.l h) (r.frm f)
  | _, _, .tup h r => .tup (f.t h) (r.frm f)
  | _, _, .emp h => .emp (f.emp h)
  | _, _, .drw h d => by
    obtain ⟨o', e, d'⟩ := f.draw h d
    exact .drw e d'
theorem RpA.frm (f : Frm H H') : ∀ {vs : List V} {ds : List PyData}, RpA K H vs ds → RpA K H' vs ds
  | _, _, .nil => .nil
  | _, _, .cons h r => .cons (h.frm f) (r.frm f)
end
theorem RpA.length : ∀ {vs : List V} {ds : List PyData}, RpA K H vs ds → vs.length = ds.length
  | _, _, .nil => rfl
  | _, _, .cons _ r => by simp only [List.length_cons, r.length]
theorem RpA.get : ∀ {vs : List V} {ds : List PyData} {i : Nat} {d : PyData}, RpA K H vs ds → ds[i]? = some d → ∃ v, vs[i]? = some v ∧ Rp K H v d
  | _, _, _, _, .nil, h => by simp at h
  | _, _, 0, _, .cons h _, e => by
    cases e
    exact ⟨_, rfl, h⟩
  | _, _, i + 1, _, .cons _ r, e => by
    obtain ⟨v, e1, h1⟩ := r.get (i := i) (by simpa using e)
    exact ⟨v, by simpa using e1, h1⟩
theorem RpA.get' : ∀ {vs : List V} {ds : List PyData} {i : Nat} {v : V}, RpA K H vs ds → vs[i]? = some v → ∃ d, ds[i]? = some d ∧ Rp K H v d
  | _, _, _, _, .nil, h => by simp at h
  | _, _, 0, _, .cons h _, e => by
    cases e
    exact ⟨_, rfl, h⟩
  | _, _, i + 1, _, .cons _ r, e => by
    obtain ⟨v, e1, h1⟩ := r.get' (i := i) (by simpa using e)
    exact ⟨v, by simpa using e1, h1⟩
theorem RpA.append : ∀ {vs ws : List V} {ds es : List PyData}, RpA K H vs ds → RpA K H ws es → RpA K H (vs ++ ws) (ds ++ es)
  | _, _, _, _, .nil, s => s
  | _, _, _, _, .cons h r, s => .cons h (r.append s)
theorem RpA.take : ∀ {vs : List V} {ds : List PyData} (n : Nat), RpA K H vs ds → RpA K H (vs.take n) (ds.take n)
  | _, _, 0, _ => .nil
  | _, _, _ + 1, .nil => .nil
  | _, _, n + 1, .cons h r => .cons h (r.take n)
theorem RpA.drop : ∀ {vs : List V} {ds : List PyData} (n : Nat), RpA K H vs ds → RpA K H (vs.drop n) (ds.drop n)
  | _, _, 0, r => r
  | _, _, _ + 1, .nil => .nil
  | _, _, n + 1, .cons _ r => r.drop n
end

/-! ## the names' values -/
abbrev En := List (Option PyData)
def Ren (P : Pa) (H : Hp) (σ : St) (ρ : En) : Prop := σ.length = ρ.length ∧ (∀ (i : Nat) (d : PyData), ρ[i]? = some (some d) → ∃ v, σ[i]? = some (some v) ∧ Rp P.K H v d) ∧ ∀ q ∈ P.fz, σ[q.1]? = some (some q.2)
section
variable {P : Pa} {H H' : Hp} {σ : St} {ρ : En}
theorem Ren.frm (f : Frm H H') (r : Ren P H σ ρ) : Ren P H' σ ρ := ⟨r.1, fun i d e => by
  obtain ⟨v, e1, h⟩ := r.2.1 i d e
  exact ⟨v, e1, h.frm f⟩, r.2.2⟩
theorem Ren.set {i : Nat} {v : V} {d : PyData} (nf : ∀ q ∈ P.fz, q.1 ≠ i) (r : Ren P H σ ρ) (h : Rp P.K H v d) : Ren P H (σ.set i (some v)) (ρ.set i (some d)) := by
  refine ⟨by rw [List.length_set, List.length_set, r.1], fun j e hj => ?_, fun q hq => ?_⟩
  · by_cases hij : i = j
    · subst hij
      rw [List.getElem?_set] at hj ⊢
      by_cases hl : i < ρ.length
      · rw [if_pos rfl, if_pos hl] at hj
        rw [if_pos rfl, if_pos (by rw [r.1]; exact hl)]
        cases hj
        exact ⟨v, rfl, h⟩
      · rw [if_pos rfl, if_neg hl] at hj
        cases hj
    · rw [List.getElem?_set_ne hij] at hj ⊢
      exact r.2.1 j e hj
  · rw [List.getElem?_set_ne (fun e => nf q hq e.symm)]
    exact r.2.2 q hq
theorem Ren.unset {i : Nat} (nf : ∀ q ∈ P.fz, q.1 ≠ i) (r : Ren P H σ ρ) (w : Option V) : Ren P H (σ.set i w) (ρ.set i none) := by
  refine ⟨by rw [List.length_set, List.length_set, r.1], fun j e hj => ?_, fun q hq => ?_⟩
  · by_cases hij : i = j
    · subst hij
      rw [List.getElem?_set] at hj
      by_cases hl : i < ρ.length
      · rw [if_pos rfl, if_pos hl] at hj
        cases hj
      · rw [if_pos rfl, if_neg hl] at hj
        cases hj
    · rw [List.getElem?_set_ne hij] at hj ⊢
      exact r.2.1 j e hj
  · rw [List.getElem?_set_ne (fun e => nf q hq e.symm)]
    exact r.2.2 q hq
end

/-! ## readings over data -/
abbrev FE := En → T PyData
abbrev FT := En → T Bool
abbrev FA := En → T (List PyData)
/-- the wish for a value, for an error, from a heap on -/
def KQ (P : Pa) (H : Hp) (Q : VK) : PyData → Nat → Prop := fun d b => ∀ v H', Frm H H' → Bud P b H' → Rp P.K H' v d → Q v H'
def RpF (K : PySem.W.Frag) (H : Hp) (vs : List (Str × V)) (ds : List (Str × PyData)) : Prop := vs.map (·.1) = ds.map (·.1) ∧ RpA K H (vs.map (·.2)) (ds.map (·.2))
/-- an error as the wish for errors W sees it -/
def KW (P : Pa) (H : Hp) (W : XK) : Er → Nat → Prop := fun x b => ∀ (C d : Addr) (vs : List (Str × V)) (H' : Hp), P.cl x.cls = some C → Frm H H' → Bud P b H' → H' d = some (.xd vs) → RpF P.K H' vs x.fs → W (.ref C) (some d) H'
theorem KQ.frm {P : Pa} {H H' : Hp} {Q : VK} {d : PyData} {b : Nat} (f : Frm H H') (h : KQ P H Q d b) : KQ P H' Q d b := fun v H2 f2 u r => h v H2 (f.trans f2) u r
theorem KW.frm {P : Pa} {H H' : Hp} {W : XK} {x : Er} {b : Nat} (f : Frm H H') (h : KW P H W x b) : KW P H' W x b := fun C d vs H2 e f2 u q r => h C d vs H2 e (f.trans f2) u q r
end Pv

-- Pv1
set_option Elab.async false
set_option linter.all false
set_option maxRecDepth 100000
set_option maxHeartbeats 4000000
namespace Pv
open PySem L2

/-! ## operators over data -/
abbrev big : Nat := 100000
theorem big_line {n : Nat} (h : n ≤ big) : n ≤ sizeLine := Nat.le_trans h (by rw [sizeLine_eq]; decide)
theorem big_lt {n : Nat} (h : n < big) : n < sizeLine := Nat.lt_of_lt_of_le h (big_line (Nat.le_refl _))
mutual
/-- no dict in it -/
def noDict : PyData → Bool
  | .none | .bool _ | .int _ | .str _ => true
  | .list xs | .tuple xs => noDicts xs
  | .dict _ => false
def noDicts : List PyData → Bool
  | [] => true
  | x :: xs => noDict x && noDicts xs
end
section
variable {K : PySem.W.Frag} {H : Hp}
mutual
theorem Rp.dp : ∀ {v : V} {d : PyData}, Rp K H v d → noDict d = true → Dp K H v d
  | _, _, .non, _ => .non
  | _, _, .bl b, _ => .bl b
  | _, _, .int i, _ => .int i
  | _, _, .str x, _ => .str x
  | _, _, .lst h r, n => .lst h (r.dp (by simpa [noDict] using n))
  | _, _, .tup h r, n => .tup h (r.dp (by simpa [noDict] using n))
  | _, _, .emp _, n => by simp [noDict] at n
  | _, _, .drw _ _, n => by simp [noDict, drawD] at n
theorem RpA.dp : ∀ {vs : List V} {ds : List PyData}, RpA K H vs ds → noDicts ds = true → DpAll K H vs ds
  | _, _, .nil, _ => .nil
  | _, _, .cons h r, n => by
    have n' := Bool.and_eq_true_iff.mp (by simpa [noDicts] using n)
    exact .cons (h.dp n'.1) (r.dp n'.2)
end
end
def flatD : PyData → Bool
  | .none | .bool _ | .int _ | .str _ => true
  | _ => false
def isNo : PyData → Bool
  | .none => true
  | _ => false
def opB : Operator → PyData → PyData → T PyData
  | .Add, .int i, .int j => .ret (.int (i + j))
  | .Add, .str a, .str b => if a.length + b.length ≤ big then .ret (.str (a ++ b)) else .stuck
  | .Add, .list a, .list b => if a.length + b.length ≤ big then .ret (.list (a ++ b)) else .stuck
  | .Add, .tuple a, .tuple b => if a.length + b.length ≤ big then .ret (.tuple (a ++ b)) else .stuck
  | .Sub, .int i, .int j => .ret (.int (i - j))
  | .Mult, .int i, .int j => if (-(2 ^ 64) < i ∧ i < 2 ^ 64) ∨ (-(2 ^ 64) < j ∧ j < 2 ^ 64) then .ret (.int (i * j)) else .stuck
  | .FloorDiv, .int i, .int j => if 0 < j ∧ j < 1073741824 then .ret (.int (i / j)) else .stuck
  | .Mod, .int i, .int j => if 0 < j then .ret (.int (i % j)) else .stuck
  | _, _, _ => .stuck
def opC : CmpOp → PyData → PyData → T PyData
  | .Lt, .int i, .int j => .ret (.bool (decide (i < j)))
  | .LtE, .int i, .int j => .ret (.bool (decide (i ≤ j)))
  | .Gt, .int i, .int j => .ret (.bool (decide (j < i)))
  | .GtE, .int i, .int j => .ret (.bool (decide (j ≤ i)))
  | .Lt, .str i, .str j => .ret (.bool (decide (i.cps.toList < j.cps.toList)))
  | .LtE, .str i, .str j => .ret (.bool (!decide (j.cps.toList < i.cps.toList)))
  | .Gt, .str i, .str j => .ret (.bool (decide (j.cps.toList < i.cps.toList)))
  | .GtE, .str i, .str j => .ret (.bool (!decide (i.cps.toList < j.cps.toList)))
  | .Is, d, .none => .ret (.bool (isNo d))
  | .IsNot, d, .none => .ret (.bool (!isNo d))
  | .Eq, d, e => if noDict d && noDict e && SeqAt.shaped d && SeqAt.shaped e then .ret (.bool (PyData.eqv d e)) else .stuck
  | .NotEq, d, e => if noDict d && noDict e && SeqAt.shaped d && SeqAt.shaped e then .ret (.bool (!PyData.eqv d e)) else .stuck
  | .In, d, .tuple es => if flatD d && es.all flatD then .ret (.bool (es.any fun z => PyData.eqv z d)) else .stuck
  | .NotIn, d, .tuple es => if flatD d && es.all flatD then .ret (.bool (!es.any fun z => PyData.eqv z d)) else .stuck
  | .In, d, .list es => if flatD d && es.all flatD then .ret (.bool (es.any fun z => PyData.eqv z d)) else .stuck
  | .NotIn, d, .list es => if flatD d && es.all flatD then .ret (.bool (!es.any fun z => PyData.eqv z d)) else .stuck
  | .In, .str i, .str j => .ret (.bool (!(Builtin.Str.occurrences j i 0 j.length 1).isEmpty))
  | .NotIn, .str i, .str j => .ret (.bool (!(!(Builtin.Str.occurrences j i 0 j.length 1).isEmpty)))
  | _, _, _ => .stuck
/-- a rule by values over data -/
def DOp (P : Pa) (t : PyData → PyData → T PyData) : R2 := fun x y H Q => ∃ d e b, Bud P b H ∧ Rp P.K H x d ∧ Rp P.K H y e ∧ T.wp (t d e) b (KQ P H Q) (fun _ _ => True)
section
variable {P : Pa} {H : Hp} {b : Nat}
theorem KQ.now {Q : VK} {d : PyData} {v : V} (h : KQ P H Q d b) (u : Bud P b H) (r : Rp P.K H v d) : Q v H := h v H (Frm.refl H) u r
theorem KQ.laidT {Q : VK} {ds : List PyData} {vs : List V} {p : Addr} (h : KQ P H Q (.tuple ds) b) (u : Bud P b H) (n : H p = none) (r : RpA P.K H vs ds) : Q (.ref p) (upd H p (.tup vs)) :=
  h _ _ (Frm.new n) (u.new n nd_tup) (.tup (SqT.of upd_same) (r.frm (Frm.new n)))
theorem KQ.laidL {Q : VK} {ds : List PyData} {vs : List V} {p : Addr} (h : KQ P H Q (.list ds) b) (u : Bud P b H) (n : H p = none) (r : RpA P.K H vs ds) : Q (.ref p) (upd H p (.lst vs)) :=
  h _ _ (Frm.new n) (u.new n nd_lst) (.lst (SqL.of upd_same) (r.frm (Frm.new n)))
theorem KQ.bl {Q : VK} {c : Bool} (h : KQ P H Q (.bool c) b) (u : Bud P b H) : Q (.bl c) H := h.now u (.bl c)
theorem KQ.int {Q : VK} {i : Int} (h : KQ P H Q (.int i) b) (u : Bud P b H) : Q (.int i) H := h.now u (.int i)
theorem KQ.str {Q : VK} {i : Str} (h : KQ P H Q (.str i) b) (u : Bud P b H) : Q (.str i) H := h.now u (.str i)
theorem RpA.nil_iff {K : PySem.W.Frag} {vs : List V} {ds : List PyData} (r : RpA K H vs ds) : vs = [] ↔ ds = [] := by
  cases r with
  | nil => exact ⟨fun _ => rfl, fun _ => rfl⟩
  | cons _ _ => exact ⟨fun z => (nomatch z), fun z => (nomatch z)⟩
end
section
variable {X : Cx}
/-- two lists, wherever they stand -/
def rCatL (K : PySem.W.Frag) : R2 := fun x y H Q => ∃ l b xs zs, x = .ref l ∧ y = .ref b ∧ SqL K H l xs ∧ SqL K H b zs ∧ xs.length + zs.length ≤ sizeLine ∧ ∀ p, H p = none → Q (.ref p) (upd H p (.lst (xs ++ zs)))
theorem op_catL : OpR X (binaryOp .Add) (rCatL X.K) := by
  intro pins s σ H x y v u Q I rx ry h
  obtain ⟨l, b, xs, zs, rfl, rfl, hl, hb, hz, q⟩ := h
  cases rx
  cases ry
  obtain ⟨its, r, ⟨⟨c1, d1, dt1, sl1⟩, n, ho, e1, e2, e3⟩, _⟩ := I.list hl
  obtain ⟨its2, r2, ⟨⟨c2, d2, dt2, sl2⟩, n2, ho2, f1, f2, f3⟩, _⟩ := I.list hb
  cases e1; cases e2; cases e3; cases f1; cases f2; cases f3
  have h1 := r.length
  have h2 := r2.length
  refine PySem.concat_meets ⟨_, ho, rfl⟩ ⟨_, ho2, rfl⟩ PySem.noFill_list_add PySem.seq_list_add PySem.F.slot_list_add PySem.F.entry_list_add (PySem.F.args_list_add_2 _ _) (PyProof.Rows.list_addW l b its.toArray its2.toArray n n2 _ _ sl1 sl2 (by simp only [List.size_toArray]; omega)) ⟨ho, ho2, ?_⟩
  have ea : its.toArray ++ its2.toArray = (its ++ its2).toArray := by simp
  rw [ea]
  exact ⟨.ref _, _, I.lnew (t' := s.toks) (r.append r2) (by rw [List.length_append]; omega), rfl, q _ I.fresh⟩
theorem ite_wp {α : Type} {c : Prop} [Decidable c] {t : T α} {b : Nat} {Q : α → Nat → Prop} {E : Er → Nat → Prop} (h : T.wp (if c then t else .stuck) b Q E) : c ∧ T.wp t b Q E := by
  by_cases hc : c
  · rw [if_pos hc] at h
    exact ⟨hc, h⟩
  · rw [if_neg hc] at h
    exact h.elim
theorem ok_opB {P : Pa} (hK : P.K = X.K) (op : Operator) : OpR X (binaryOp op) (DOp P (opB op)) := by
  obtain ⟨Kp, Tp, cp, pp, zp, hp0⟩ := P
  have eK : Kp = X.K := hK
  subst eK
  intro pins s σ H x y v u Q I rx ry h
  obtain ⟨d, e, b, U, hd, he, h⟩ := h
  cases op with
  | Add =>
    cases d with
    | int i =>
      cases e with
      | int j =>
        cases hd; cases he
        exact op_add pins s σ H _ _ v u Q I rx ry ⟨_, _, rfl, rfl, KQ.int h U⟩
      | _ => exact h.elim
    | str i =>
      cases e with
      | str j =>
        cases hd; cases he
        obtain ⟨hc, h⟩ := ite_wp h
        exact op_add_str pins s σ H _ _ v u Q I rx ry ⟨_, _, rfl, rfl, big_line hc, KQ.str h U⟩
      | _ => exact h.elim
    | list i =>
      cases e with
      | list j =>
        cases hd with | lst h1 r1 => cases he with | lst h2 r2 =>
        obtain ⟨hc, h⟩ := ite_wp h
        exact op_catL pins s σ H _ _ v u Q I rx ry ⟨_, _, _, _, rfl, rfl, h1, h2, by rw [r1.length, r2.length]; exact big_line hc, fun p hp => KQ.laidL h U hp (r1.append r2)⟩
      | _ => exact h.elim
    | tuple i =>
      cases e with
      | tuple j =>
        cases hd with | tup h1 r1 => cases he with | tup h2 r2 =>
        obtain ⟨hc, h⟩ := ite_wp h
        refine op_catA pins s σ H _ _ v u Q I rx ry ⟨_, _, _, _, rfl, rfl, h1, h2, by rw [r1.length, r2.length]; exact big_line hc, fun z => ?_, fun _ z => ?_, fun _ _ p hp => KQ.laidT h U hp (r1.append r2)⟩
        · rw [r1.nil_iff.mp z] at h
          exact KQ.now h U (.tup h2 r2)
        · rw [r2.nil_iff.mp z, List.append_nil] at h
          exact KQ.now h U (.tup h1 r1)
      | _ => exact h.elim
    | _ => exact h.elim
  | Sub =>
    cases d with
    | int i =>
      cases e with
      | int j =>
        cases hd; cases he
        exact op_sub pins s σ H _ _ v u Q I rx ry ⟨_, _, rfl, rfl, KQ.int h U⟩
      | _ => exact h.elim
    | _ => exact h.elim
  | Mult =>
    cases d with
    | int i =>
      cases e with
      | int j =>
        cases hd; cases he
        obtain ⟨hc, h⟩ := ite_wp h
        exact op_mul pins s σ H _ _ v u Q I rx ry ⟨_, _, rfl, rfl, hc, KQ.int h U⟩
      | _ => exact h.elim
    | _ => exact h.elim
  | FloorDiv =>
    cases d with
    | int i =>
      cases e with
      | int j =>
        cases hd; cases he
        obtain ⟨hc, h⟩ := ite_wp h
        exact op_fdiv pins s σ H _ _ v u Q I rx ry ⟨_, _, rfl, rfl, hc, KQ.int h U⟩
      | _ => exact h.elim
    | _ => exact h.elim
  | Mod =>
    cases d with
    | int i =>
      cases e with
      | int j =>
        cases hd; cases he
        obtain ⟨hc, h⟩ := ite_wp h
        exact op_mod pins s σ H _ _ v u Q I rx ry ⟨_, _, rfl, rfl, hc, KQ.int h U⟩
      | _ => exact h.elim
    | _ => exact h.elim
  | _ => exact h.elim
theorem flat_of {K : PySem.W.Frag} {H : Hp} {v : V} {d : PyData} (r : Rp K H v d) (h : flatD d = true) : flatV v = true := by
  cases r <;> first | rfl | simp [flatD, drawD] at h
theorem flats_of {K : PySem.W.Frag} {H : Hp} : ∀ {vs : List V} {ds : List PyData}, RpA K H vs ds → ds.all flatD = true → vs.all flatV = true
  | _, _, .nil, _ => rfl
  | _, _, .cons r t, h => by
    rw [List.all_cons, Bool.and_eq_true] at h ⊢
    exact ⟨flat_of r h.1, flats_of t h.2⟩
theorem eqV_of {K : PySem.W.Frag} {H : Hp} {v w : V} {d e : PyData} (r : Rp K H v d) (q : Rp K H w e) (h : flatD d = true) (k : flatD e = true) : eqV v w = PyData.eqv d e := by
  cases r <;> cases q <;> first | rfl | (simp [flatD, drawD] at h; done) | (simp [flatD, drawD] at k; done) | simp [eqV, PyData.eqv]
theorem anyV_of {K : PySem.W.Frag} {H : Hp} {v : V} {d : PyData} (r : Rp K H v d) (h : flatD d = true) : ∀ {vs : List V} {ds : List PyData}, RpA K H vs ds → ds.all flatD = true → inV v vs = ds.any fun z => PyData.eqv z d
  | _, _, .nil, _ => rfl
  | _, _, .cons q t, k => by
    rw [List.all_cons, Bool.and_eq_true] at k
    have e := anyV_of r h t k.2
    unfold inV at e ⊢
    rw [List.any_cons, List.any_cons, e, eqV_of q r k.1 h]
theorem isN_of {K : PySem.W.Frag} {H : Hp} {v : V} {d : PyData} (r : Rp K H v d) : decide (v = .non) = isNo d := by
  cases r <;> first | rfl | exact decide_eq_false fun z => nomatch z
theorem ok_opC {P : Pa} (hK : P.K = X.K) (op : CmpOp) (hu : X.A.units + 64 < cLine) : OpR X (compareOp op) (DOp P (opC op)) := by
  obtain ⟨Kp, Tp, cp, pp, zp, hp0⟩ := P
  have eK : Kp = X.K := hK
  subst eK
  intro pins s σ H x y v u Q I rx ry h
  obtain ⟨d, e, b, U, hd, he, h⟩ := h
  cases op with
  | Lt =>
    cases d with
    | int i =>
      cases e with
      | int j => cases hd; cases he; exact op_lt pins s σ H _ _ v u Q I rx ry ⟨_, _, rfl, rfl, KQ.bl h U⟩
      | _ => exact h.elim
    | str i =>
      cases e with
      | str j => cases hd; cases he; exact op_lt_str pins s σ H _ _ v u Q I rx ry ⟨_, _, rfl, rfl, KQ.bl h U⟩
      | _ => exact h.elim
    | _ => exact h.elim
  | LtE =>
    cases d with
    | int i =>
      cases e with
      | int j => cases hd; cases he; exact op_le pins s σ H _ _ v u Q I rx ry ⟨_, _, rfl, rfl, KQ.bl h U⟩
      | _ => exact h.elim
    | str i =>
      cases e with
      | str j => cases hd; cases he; exact op_le_str pins s σ H _ _ v u Q I rx ry ⟨_, _, rfl, rfl, KQ.bl h U⟩
      | _ => exact h.elim
    | _ => exact h.elim
  | Gt =>
    cases d with
    | int i =>
      cases e with
      | int j => cases hd; cases he; exact op_gt pins s σ H _ _ v u Q I rx ry ⟨_, _, rfl, rfl, KQ.bl h U⟩
      | _ => exact h.elim
    | str i =>
      cases e with
      | str j => cases hd; cases he; exact op_gt_str pins s σ H _ _ v u Q I rx ry ⟨_, _, rfl, rfl, KQ.bl h U⟩
      | _ => exact h.elim
    | _ => exact h.elim
  | GtE =>
    cases d with
    | int i =>
      cases e with
      | int j => cases hd; cases he; exact op_ge pins s σ H _ _ v u Q I rx ry ⟨_, _, rfl, rfl, KQ.bl h U⟩
      | _ => exact h.elim
    | str i =>
      cases e with
      | str j => cases hd; cases he; exact op_ge_str pins s σ H _ _ v u Q I rx ry ⟨_, _, rfl, rfl, KQ.bl h U⟩
      | _ => exact h.elim
    | _ => exact h.elim
  | Is =>
    cases e with
    | none =>
      cases he
      have h' : T.wp (.ret (.bool (isNo d))) b (KQ ⟨X.K, Tp, cp, pp, zp, hp0⟩ H Q) (fun _ _ => True) := by cases d <;> exact h
      exact op_isN pins s σ H _ _ v u Q I rx ry ⟨rfl, by rw [isN_of hd]; exact KQ.bl h' U⟩
    | _ => exact h.elim
  | IsNot =>
    cases e with
    | none =>
      cases he
      have h' : T.wp (.ret (.bool (!isNo d))) b (KQ ⟨X.K, Tp, cp, pp, zp, hp0⟩ H Q) (fun _ _ => True) := by cases d <;> exact h
      exact op_notN pins s σ H _ _ v u Q I rx ry ⟨rfl, by rw [isN_of hd]; exact KQ.bl h' U⟩
    | _ => exact h.elim
  | Eq =>
    obtain ⟨hc, h⟩ := ite_wp h
    simp only [Bool.and_eq_true] at hc
    exact op_eqD hu pins s σ H _ _ v u Q I rx ry ⟨d, e, hd.dp hc.1.1.1, he.dp hc.1.1.2, hc.1.2, hc.2, KQ.bl h U⟩
  | NotEq =>
    obtain ⟨hc, h⟩ := ite_wp h
    simp only [Bool.and_eq_true] at hc
    exact op_neD hu pins s σ H _ _ v u Q I rx ry ⟨d, e, hd.dp hc.1.1.1, he.dp hc.1.1.2, hc.1.2, hc.2, KQ.bl h U⟩
  | In =>
    cases e with
    | tuple es =>
      have h' : T.wp (if (flatD d && es.all flatD) = true then .ret (.bool (es.any fun z => PyData.eqv z d)) else .stuck) b (KQ ⟨X.K, Tp, cp, pp, zp, hp0⟩ H Q) (fun _ _ => True) := by cases d <;> exact h
      obtain ⟨hc, h⟩ := ite_wp h'
      rw [Bool.and_eq_true] at hc
      cases he with | tup h2 r2 =>
      exact op_in_seq pins s σ H _ _ v u Q I rx ry ⟨_, _, rfl, .inr h2, flat_of hd hc.1, flats_of r2 hc.2, by rw [if_neg Bool.false_ne_true, anyV_of hd hc.1 r2 hc.2]; exact KQ.bl h U⟩
    | list es =>
      have h' : T.wp (if (flatD d && es.all flatD) = true then .ret (.bool (es.any fun z => PyData.eqv z d)) else .stuck) b (KQ ⟨X.K, Tp, cp, pp, zp, hp0⟩ H Q) (fun _ _ => True) := by cases d <;> exact h
      obtain ⟨hc, h⟩ := ite_wp h'
      rw [Bool.and_eq_true] at hc
      cases he with | lst h2 r2 =>
      exact op_in_seq pins s σ H _ _ v u Q I rx ry ⟨_, _, rfl, .inl h2, flat_of hd hc.1, flats_of r2 hc.2, by rw [if_neg Bool.false_ne_true, anyV_of hd hc.1 r2 hc.2]; exact KQ.bl h U⟩
    | str j =>
      cases d with
      | str i => cases hd; cases he; exact op_in_str pins s σ H _ _ v u Q I rx ry ⟨_, _, rfl, rfl, KQ.bl h U⟩
      | _ => exact h.elim
    | _ => cases d <;> exact h.elim
  | NotIn =>
    cases e with
    | tuple es =>
      have h' : T.wp (if (flatD d && es.all flatD) = true then .ret (.bool (!es.any fun z => PyData.eqv z d)) else .stuck) b (KQ ⟨X.K, Tp, cp, pp, zp, hp0⟩ H Q) (fun _ _ => True) := by cases d <;> exact h
      obtain ⟨hc, h⟩ := ite_wp h'
      rw [Bool.and_eq_true] at hc
      cases he with | tup h2 r2 =>
      exact op_notIn_seq pins s σ H _ _ v u Q I rx ry ⟨_, _, rfl, .inr h2, flat_of hd hc.1, flats_of r2 hc.2, by rw [if_pos rfl, anyV_of hd hc.1 r2 hc.2]; exact KQ.bl h U⟩
    | list es =>
      have h' : T.wp (if (flatD d && es.all flatD) = true then .ret (.bool (!es.any fun z => PyData.eqv z d)) else .stuck) b (KQ ⟨X.K, Tp, cp, pp, zp, hp0⟩ H Q) (fun _ _ => True) := by cases d <;> exact h
      obtain ⟨hc, h⟩ := ite_wp h'
      rw [Bool.and_eq_true] at hc
      cases he with | lst h2 r2 =>
      exact op_notIn_seq pins s σ H _ _ v u Q I rx ry ⟨_, _, rfl, .inl h2, flat_of hd hc.1, flats_of r2 hc.2, by rw [if_pos rfl, anyV_of hd hc.1 r2 hc.2]; exact KQ.bl h U⟩
    | str j =>
      cases d with
      | str i => cases hd; cases he; exact op_notin_str pins s σ H _ _ v u Q I rx ry ⟨_, _, rfl, rfl, KQ.bl h U⟩
      | _ => exact h.elim
    | _ => cases d <;> exact h.elim
end
end Pv

-- Pv2
set_option Elab.async false
set_option linter.all false
set_option maxRecDepth 100000
set_option maxHeartbeats 4000000
namespace Pv
open PySem L2

/-! ## items, slices -/
def opI : PyData → PyData → T PyData
  | .list xs, .int i => T.ofO (atI' xs i)
  | .tuple xs, .int i => T.ofO (atI' xs i)
  | .str z, .int i => if z.length ≤ big then T.ofO ((atI' z.cps.toList i).map fun c => .str ⟨#[c]⟩) else .stuck
  | _, _ => .stuck
where
  atI' {α : Type} (xs : List α) (i : Int) : Option α := (ixN xs.length i).bind fun j => xs[j]?
def cutD {α : Type} (xs : List α) (lo hi : Option Int) : List α := (xs.drop (HT.sIx xs.length 0 lo)).take (HT.sIx xs.length xs.length hi - HT.sIx xs.length 0 lo)
def opS : PyData → Option Int → Option Int → T PyData
  | .list xs, lo, hi => .ret (.list (cutD xs lo hi))
  | .tuple xs, lo, hi => .ret (.tuple (cutD xs lo hi))
  | .str z, lo, hi => if z.length ≤ big then .ret (.str (cutS z lo hi)) else .stuck
  | _, _, _ => .stuck
def DSl (P : Pa) : V → Option Int → Option Int → Hp → VK → Prop := fun x lo hi H Q => ∃ d b, Bud P b H ∧ Rp P.K H x d ∧ T.wp (opS d lo hi) b (KQ P H Q) (fun _ _ => True)
theorem ofO_wp {α : Type} {o : Option α} {b : Nat} {Q : α → Nat → Prop} {E : Er → Nat → Prop} (h : T.wp (T.ofO o) b Q E) : ∃ a, o = some a ∧ Q a b := by
  cases o with
  | none => exact h.elim
  | some a => exact ⟨a, rfl, h⟩
section
variable {X : Cx}
theorem ok_opI {P : Pa} (hK : P.K = X.K) : IxR X (DOp P opI) := by
  obtain ⟨Kp, Tp, cp, pp, zp, hp0⟩ := P
  have eK : Kp = X.K := hK
  subst eK
  intro value slice pins s σ H x y v u Q I rx ry h hs
  obtain ⟨d, e, b, U, hd, he, h⟩ := h
  cases e with
  | int i =>
    cases he
    cases d with
    | list xs =>
      obtain ⟨a, ha, h⟩ := ofO_wp h
      cases hd with | lst h1 r1 =>
      obtain ⟨j, hj, hx⟩ := Option.bind_eq_some_iff.mp ha
      obtain ⟨w, hw, rw'⟩ := r1.get hx
      exact ix_list value slice pins s σ H _ _ v u Q I rx ry ⟨_, _, i, w, rfl, rfl, h1, by unfold atI; rw [r1.length, hj]; exact hw, KQ.now h U rw'⟩ hs
    | tuple xs =>
      obtain ⟨a, ha, h⟩ := ofO_wp h
      cases hd with | tup h1 r1 =>
      obtain ⟨j, hj, hx⟩ := Option.bind_eq_some_iff.mp ha
      obtain ⟨w, hw, rw'⟩ := r1.get hx
      exact ix_tup value slice pins s σ H _ _ v u Q I rx ry ⟨_, _, i, w, rfl, rfl, h1, by unfold atI; rw [r1.length, hj]; exact hw, KQ.now h U rw'⟩ hs
    | str z =>
      obtain ⟨hz, h⟩ := ite_wp h
      obtain ⟨a, ha, h⟩ := ofO_wp h
      cases hd
      obtain ⟨c, hc, ea⟩ := Option.map_eq_some_iff.mp ha
      subst ea
      exact ix_str value slice pins s σ H _ _ v u Q I rx ry ⟨z, i, c, rfl, rfl, big_line hz, hc, KQ.str h U⟩ hs
    | _ => exact h.elim
  | _ => cases d <;> exact h.elim
theorem RpA.cut {K : PySem.W.Frag} {H : Hp} {vs : List V} {ds : List PyData} (r : RpA K H vs ds) (lo hi : Option Int) : RpA K H (cutV vs lo hi) (cutD ds lo hi) := by
  unfold cutV cutD
  rw [r.length]
  exact (r.drop _).take _
theorem ok_opS {P : Pa} (hK : P.K = X.K) : SlR X (DSl P) := by
  obtain ⟨Kp, Tp, cp, pp, zp, hp0⟩ := P
  have eK : Kp = X.K := hK
  subst eK
  intro pins s σ H x v vl vu lo hi sl Q I rx hs pl pu h
  obtain ⟨d, b, U, hd, h⟩ := h
  cases d with
  | list xs =>
    cases hd with | lst h1 r1 =>
    exact sl_list pins s σ H _ v vl vu lo hi sl Q I rx hs pl pu ⟨_, _, rfl, h1, fun p hp => KQ.laidL h U hp (r1.cut lo hi)⟩
  | tuple xs =>
    cases hd with | tup h1 r1 =>
    refine sl_tupA pins s σ H _ v vl vu lo hi sl Q I rx hs pl pu ⟨_, _, rfl, h1, fun z => ?_, fun _ p hp => KQ.laidT h U hp (r1.cut lo hi)⟩
    have e : cutD xs lo hi = xs := by
      unfold cutD
      rw [r1.length] at z
      rw [z.1, z.2, List.drop_zero, Nat.sub_zero, List.take_length]
    have h' : KQ ⟨X.K, Tp, cp, pp, zp, hp0⟩ H Q (.tuple (cutD xs lo hi)) b := h
    rw [e] at h'
    exact KQ.now h' U (.tup h1 r1)
  | str z =>
    obtain ⟨hz, h⟩ := ite_wp h
    cases hd
    exact sl_str pins s σ H _ v vl vu lo hi sl Q I rx hs pl pu ⟨z, rfl, big_line hz, KQ.str h U⟩
  | _ => exact h.elim
end

/-! ## calls of built-ins -/
def lenD : PyData → T PyData
  | .str z => if z.length ≤ big then .ret (.int z.length) else .stuck
  | .list xs => .ret (.int xs.length)
  | .tuple xs => .ret (.int xs.length)
  | _ => .stuck
def topDict : PyData → Bool
  | .dict [] => true
  | _ => false
def reprD (d : PyData) : T PyData := if (noDict d || topDict d) && d.showable && decide (d.depth ≤ 60) && decide (d.shown.length ≤ big) then .ret (.str d.shown) else .stuck
abbrev FnD := List PyData → T PyData
def f_len : FnD
  | [d] => lenD d
  | _ => .stuck
def f_ord : FnD
  | [.str z] => if z.length = 1 then .ret (.int (z.cps.getD 0 0 : Nat)) else .stuck
  | _ => .stuck
def f_repr : FnD
  | [d] => reprD d
  | _ => .stuck
def f_divmod : FnD
  | [.int i, .int j] => if 0 < j ∧ j < 1073741824 then .ret (.tuple [.int (i / j), .int (i % j)]) else .stuck
  | _ => .stuck
def f_min : FnD
  | [.int i, .int j] => .ret (.int (if j < i then j else i))
  | _ => .stuck
def f_max : FnD
  | [.int i, .int j] => .ret (.int (if j > i then j else i))
  | _ => .stuck
def allInts : List PyData → Option Int
  | [] => some 0
  | .int i :: r => (allInts r).map (i + ·)
  | _ => none
def f_sum : FnD
  | [.list xs] => T.ofO ((allInts xs).map .int)
  | _ => .stuck
def f_str : FnD
  | [.int i] => if i.natAbs.log2 < 1920 then .ret (.str (toString i)) else .stuck
  | _ => .stuck
def f_int : FnD
  | [.int i] => .ret (.int i)
  | [.bool k] => .ret (.int (if k then 1 else 0))
  | [.str a] => if a.length ≤ 640 then T.ofO ((PySem.intText? a).map .int) else .stuck
  | _ => .stuck
def f_list : FnD
  | [.list xs] => .ret (.list xs)
  | [.tuple xs] => .ret (.list xs)
  | _ => .stuck
def f_tuple : FnD
  | [.list xs] => .ret (.tuple xs)
  | [.tuple xs] => .ret (.tuple xs)
  | _ => .stuck
/-- the built-in functions, the built-in classes that are called -/
def bltFn (f : Str) : Option (String × FnD) :=
  if f = "len" then some ("len", f_len) else if f = "ord" then some ("ord", f_ord) else if f = "divmod" then some ("divmod", f_divmod)
  else if f = "min" then some ("min", f_min) else if f = "max" then some ("max", f_max) else if f = "sum" then some ("sum", f_sum) else none
def bltTy (f : Str) : Option (String × FnD) :=
  if f = "str" then some ("str", f_str) else if f = "int" then some ("int", f_int) else if f = "list" then some ("list", f_list) else if f = "tuple" then some ("tuple", f_tuple) else none
/-- the name of a value's class -/
def tyD : PyData → String
  | .none => "NoneType" | .bool _ => "bool" | .int _ => "int" | .str _ => "str" | .list _ => "list" | .tuple _ => "tuple" | .dict _ => "dict"
def isiD (c : String) (d : PyData) : T PyData := T.ofO ((kitB (tyD d) c).map .bool)
def DCall (P : Pa) (t : List PyData → T PyData) : List V → Hp → VK → Prop := fun xs H Q => ∃ ds b, Bud P b H ∧ RpA P.K H xs ds ∧ T.wp (t ds) b (KQ P H Q) (fun _ _ => True)
end Pv

-- Pv3
set_option Elab.async false
set_option linter.all false
set_option maxRecDepth 100000
set_option maxHeartbeats 4000000
namespace Pv
open PySem L2
section
variable {X : Cx} {P : Pa}
theorem len1 {K : PySem.W.Frag} {H : Hp} {vs : List V} {d : PyData} (r : RpA K H vs [d]) : ∃ v, vs = [v] ∧ Rp K H v d := by
  cases r with | cons h t => cases t; exact ⟨_, rfl, h⟩
theorem len2 {K : PySem.W.Frag} {H : Hp} {vs : List V} {d e : PyData} (r : RpA K H vs [d, e]) : ∃ v u, vs = [v, u] ∧ Rp K H v d ∧ Rp K H u e := by
  cases r with | cons h t => cases t with | cons k t => cases t; exact ⟨_, _, rfl, h, k⟩
theorem ok_len (hK : P.K = X.K) : CallR X (.builtin "len") (DCall P f_len) := by
  obtain ⟨Kp, Tp, cp, pp, zp, hp0⟩ := P
  have eK : Kp = X.K := hK
  subst eK
  intro pins s σ H xs us Q I r h
  obtain ⟨ds, b, U, rs, h⟩ := h
  match ds, rs, h with
  | [d], rs, h =>
    obtain ⟨v, rfl, hd⟩ := len1 rs
    cases hd with
    | str z =>
      obtain ⟨hz, h⟩ := ite_wp h
      exact call_len pins s σ H _ us Q I r ⟨_, _, rfl, ⟨big_line hz, rfl⟩, KQ.int h U⟩
    | lst h1 r1 => exact call_len pins s σ H _ us Q I r ⟨_, _, rfl, .inl ⟨_, h1, rfl⟩, by rw [r1.length]; exact KQ.int h U⟩
    | tup h1 r1 => exact call_len pins s σ H _ us Q I r ⟨_, _, rfl, .inr ⟨_, h1, rfl⟩, by rw [r1.length]; exact KQ.int h U⟩
    | _ => exact h.elim
theorem ok_ord (hK : P.K = X.K) : CallR X (.builtin "ord") (DCall P f_ord) := by
  intro pins s σ H xs us Q I r h
  obtain ⟨ds, b, U, rs, h⟩ := h
  match ds, rs, h with
  | [.str z], rs, h =>
    obtain ⟨v, rfl, hd⟩ := len1 rs
    cases hd
    obtain ⟨hz, h⟩ := ite_wp h
    exact call_ord pins s σ H _ us Q I r ⟨_, rfl, hz, KQ.int h U⟩
theorem ok_divmod (hK : P.K = X.K) : CallR X (.builtin "divmod") (DCall P f_divmod) := by
  intro pins s σ H xs us Q I r h
  obtain ⟨ds, b, U, rs, h⟩ := h
  match ds, rs, h with
  | [.int i, .int j], rs, h =>
    obtain ⟨v, u, rfl, hd, he⟩ := len2 rs
    cases hd; cases he
    obtain ⟨hz, h⟩ := ite_wp h
    exact call_divmod pins s σ H _ us Q I r ⟨_, _, rfl, hz, fun p hp => KQ.laidT h U hp (.cons (.int _) (.cons (.int _) .nil))⟩
theorem ok_min (hK : P.K = X.K) (hc : X.calm = true) : CallR X (.builtin "min") (DCall P f_min) := by
  intro pins s σ H xs us Q I r h
  obtain ⟨ds, b, U, rs, h⟩ := h
  match ds, rs, h with
  | [.int i, .int j], rs, h =>
    obtain ⟨v, u, rfl, hd, he⟩ := len2 rs
    cases hd; cases he
    exact call_min2 hc pins s σ H _ us Q I r ⟨_, _, rfl, KQ.int h U⟩
theorem ok_max (hK : P.K = X.K) (hc : X.calm = true) : CallR X (.builtin "max") (DCall P f_max) := by
  intro pins s σ H xs us Q I r h
  obtain ⟨ds, b, U, rs, h⟩ := h
  match ds, rs, h with
  | [.int i, .int j], rs, h =>
    obtain ⟨v, u, rfl, hd, he⟩ := len2 rs
    cases hd; cases he
    exact call_max2 hc pins s σ H _ us Q I r ⟨_, _, rfl, KQ.int h U⟩
theorem ints_of {K : PySem.W.Frag} {H : Hp} : ∀ {vs : List V} {ds : List PyData} {n : Int}, RpA K H vs ds → allInts ds = some n → ∃ ns : List Int, vs = ns.map V.int ∧ ns.sum = n
  | _, _, n, .nil, h => ⟨[], rfl, Option.some.inj h⟩
  | _, _, n, .cons (d := d) r t, h => by
    cases d with
    | int i =>
      cases r
      obtain ⟨m, hm, e⟩ := Option.map_eq_some_iff.mp h
      obtain ⟨ns, e1, e2⟩ := ints_of t hm
      exact ⟨i :: ns, by rw [e1]; rfl, by rw [List.sum_cons, e2]; exact e⟩
    | _ => simp [allInts] at h
theorem ok_sum (hK : P.K = X.K) (hc : X.calm = true) : CallR X (.builtin "sum") (DCall P f_sum) := by
  obtain ⟨Kp, Tp, cp, pp, zp, hp0⟩ := P
  have eK : Kp = X.K := hK
  subst eK
  intro pins s σ H xs us Q I r h
  obtain ⟨ds, b, U, rs, h⟩ := h
  match ds, rs, h with
  | [.list ys], rs, h =>
    obtain ⟨v, rfl, hd⟩ := len1 rs
    cases hd with | lst h1 r1 =>
    obtain ⟨d, e, h⟩ := ofO_wp h
    obtain ⟨n, hn, en⟩ := Option.map_eq_some_iff.mp e
    subst en
    obtain ⟨ns, e1, e2⟩ := ints_of r1 hn
    subst e1
    exact cr_sum hc pins s σ H _ us Q I r ⟨_, ns, rfl, h1, by rw [e2]; exact KQ.int h U⟩
theorem ok_str (hK : P.K = X.K) : CallR X (.type "str") (DCall P f_str) := by
  intro pins s σ H xs us Q I r h
  obtain ⟨ds, b, U, rs, h⟩ := h
  match ds, rs, h with
  | [.int i], rs, h =>
    obtain ⟨v, rfl, hd⟩ := len1 rs
    cases hd
    obtain ⟨hz, h⟩ := ite_wp h
    exact call_str_int pins s σ H _ us Q I r ⟨_, rfl, hz, KQ.str h U⟩
theorem ok_int (hK : P.K = X.K) : CallR X (.type "int") (DCall P f_int) := by
  intro pins s σ H xs us Q I r h
  obtain ⟨ds, b, U, rs, h⟩ := h
  match ds, rs, h with
  | [.int i], rs, h =>
    obtain ⟨v, rfl, hd⟩ := len1 rs
    cases hd
    exact call_int1 pins s σ H _ us Q I r (.inl ⟨_, rfl, KQ.int h U⟩)
  | [.bool k], rs, h =>
    obtain ⟨v, rfl, hd⟩ := len1 rs
    cases hd
    exact call_int1 pins s σ H _ us Q I r (.inr ⟨_, rfl, KQ.int h U⟩)
  | [.str a], rs, h =>
    obtain ⟨v, rfl, hd⟩ := len1 rs
    cases hd
    obtain ⟨hz, h⟩ := ite_wp h
    obtain ⟨d, e, h⟩ := ofO_wp h
    obtain ⟨n, hn, en⟩ := Option.map_eq_some_iff.mp e
    subst en
    exact call_int_str pins s σ H _ us Q I r ⟨_, n, rfl, hn, hz, KQ.int h U⟩
theorem ok_list (hK : P.K = X.K) : CallR X (.type "list") (DCall P f_list) := by
  obtain ⟨Kp, Tp, cp, pp, zp, hp0⟩ := P
  have eK : Kp = X.K := hK
  subst eK
  intro pins s σ H xs us Q I r h
  obtain ⟨ds, b, U, rs, h⟩ := h
  match ds, rs, h with
  | [.list ys], rs, h =>
    obtain ⟨v, rfl, hd⟩ := len1 rs
    cases hd with | lst h1 r1 =>
    exact call_list_of pins s σ H _ us Q I r ⟨_, _, rfl, .inl h1, fun p hp => KQ.laidL h U hp r1⟩
  | [.tuple ys], rs, h =>
    obtain ⟨v, rfl, hd⟩ := len1 rs
    cases hd with | tup h1 r1 =>
    exact call_list_of pins s σ H _ us Q I r ⟨_, _, rfl, .inr h1, fun p hp => KQ.laidL h U hp r1⟩
theorem ok_tuple (hK : P.K = X.K) : CallR X (.type "tuple") (DCall P f_tuple) := by
  obtain ⟨Kp, Tp, cp, pp, zp, hp0⟩ := P
  have eK : Kp = X.K := hK
  subst eK
  intro pins s σ H xs us Q I r h
  obtain ⟨ds, b, U, rs, h⟩ := h
  match ds, rs, h with
  | [.list ys], rs, h =>
    obtain ⟨v, rfl, hd⟩ := len1 rs
    cases hd with | lst h1 r1 =>
    exact call_tuple_of pins s σ H _ us Q I r ⟨_, _, rfl, .inl ⟨h1, fun p hp => KQ.laidT h U hp r1⟩⟩
  | [.tuple ys], rs, h =>
    obtain ⟨v, rfl, hd⟩ := len1 rs
    cases hd with | tup h1 r1 =>
    exact call_tuple_of pins s σ H _ us Q I r ⟨_, _, rfl, .inr ⟨h1, KQ.now h U (.tup h1 r1)⟩⟩
/-- isinstance with a built-in class -/
theorem ty_of {K : PySem.W.Frag} {H : Hp} {v : V} {d : PyData} (r : Rp K H v d) : TyX K H v (.type (tyD d)) := by
  cases r with
  | non => exact .base .non
  | bl b => exact .base (.bl b)
  | int i => exact .base (.int i)
  | str x => exact .base (.str x)
  | lst h _ =>
    rcases h with (h | ⟨o, h⟩) | ⟨o, _, _, h, c, _⟩
    · exact .base (.lst h)
    · exact .base (.frz h)
    · exact .kList h c
  | tup h _ =>
    rcases h with (h | ⟨o, h⟩) | ⟨o, _, _, h, c, _⟩
    · exact .base (.tup h)
    · exact .fTuple h
    · exact .kTuple h c
  | emp h => exact .base (.dK h)
  | drw h d =>
    obtain ⟨_, _, _, rfl⟩ := d
    exact .base (.dK h)
theorem ok_isi (hK : P.K = X.K) (c : String) : CallR X (.builtin "isinstance") (fun xs H Q => ∃ v d b, xs = [v, .ty c] ∧ Bud P b H ∧ Rp P.K H v d ∧ T.wp (isiD c d) b (KQ P H Q) (fun _ _ => True)) := by
  obtain ⟨Kp, Tp, cp, pp, zp, hp0⟩ := P
  have eK : Kp = X.K := hK
  subst eK
  intro pins s σ H xs us Q I r h
  obtain ⟨v, d, b, rfl, U, hd, h⟩ := h
  obtain ⟨a, ha, h⟩ := ofO_wp h
  obtain ⟨k, hk, ek⟩ := Option.map_eq_some_iff.mp ha
  subst ek
  exact call_isi pins s σ H _ us Q I r ⟨v, .ty c, _, _, k, rfl, .ty c, ty_of hd, kit_ty hk, KQ.bl h U⟩
theorem ok_bltFn (hK : P.K = X.K) (hc : X.calm = true) {f : Str} {id : String} {m : FnD} (h : bltFn f = some (id, m)) : CallR X (.builtin id) (DCall P m) ∧ bootBuiltins f = some (.builtin id) ∧ f ≠ "__name__" ∧ (f == ("__debug__" : Str)) = false := by
  unfold bltFn at h
  split at h
  · rename_i e; cases h; subst e; exact ⟨ok_len hK, by decide +kernel, by decide, by decide⟩
  split at h
  · rename_i e; cases h; subst e; exact ⟨ok_ord hK, by decide +kernel, by decide, by decide⟩
  split at h
  · rename_i e; cases h; subst e; exact ⟨ok_divmod hK, by decide +kernel, by decide, by decide⟩
  split at h
  · rename_i e; cases h; subst e; exact ⟨ok_min hK hc, by decide +kernel, by decide, by decide⟩
  split at h
  · rename_i e; cases h; subst e; exact ⟨ok_max hK hc, by decide +kernel, by decide, by decide⟩
  split at h
  · rename_i e; cases h; subst e; exact ⟨ok_sum hK hc, by decide +kernel, by decide, by decide⟩
  · cases h
theorem ok_bltTy (hK : P.K = X.K) {f : Str} {id : String} {m : FnD} (h : bltTy f = some (id, m)) : CallR X (.type id) (DCall P m) ∧ bootBuiltins f = some (.type id) ∧ f ≠ "__name__" ∧ (f == ("__debug__" : Str)) = false := by
  unfold bltTy at h
  split at h
  · rename_i e; cases h; subst e; exact ⟨ok_str hK, by decide +kernel, by decide, by decide⟩
  split at h
  · rename_i e; cases h; subst e; exact ⟨ok_int hK, by decide +kernel, by decide, by decide⟩
  split at h
  · rename_i e; cases h; subst e; exact ⟨ok_list hK, by decide +kernel, by decide, by decide⟩
  split at h
  · rename_i e; cases h; subst e; exact ⟨ok_tuple hK, by decide +kernel, by decide, by decide⟩
  · cases h
end
/-! ## repr: the calls that are under way are known -/
section
variable {X : Cx} {pins : List (Addr × Obj)} {σ : St} {H : Hp} {s : Shared}
theorem Rp.reads (I : Inv X pins σ H s) {v : V} {u : Value} {d : PyData} (r : Rp X.K H v d) (q : RelV v u) (n : noDict d = true) : ∃ as, Reads s.heap u d as := Dp.reads I d v u (r.dp n) q
mutual
theorem hasD_of : ∀ {d : PyData}, noDict d = true → d.hasDict = false
  | .none, _ => rfl
  | .bool _, _ => rfl
  | .int _, _ => rfl
  | .str _, _ => rfl
  | .list xs, h => by
    have e := hasDs_of (ds := xs) (by simpa [noDict] using h)
    simpa [PyData.hasDict] using e
  | .tuple xs, h => by
    have e := hasDs_of (ds := xs) (by simpa [noDict] using h)
    simpa [PyData.hasDict] using e
  | .dict _, h => by simp [noDict] at h
theorem hasDs_of : ∀ {ds : List PyData}, noDicts ds = true → PyData.hasDictAll ds = false
  | [], _ => rfl
  | d :: ds, h => by
    have n' := Bool.and_eq_true_iff.mp (by simpa [noDicts] using h)
    have e1 := hasD_of n'.1
    have e2 := hasDs_of n'.2
    simp [PyData.hasDictAll, e1, e2]
end
theorem ok_repr {P : Pa} (hK : P.K = X.K) (hg : X.A.guards = some []) (hu : X.A.units + 70 < cLine) : CallR X (.builtin "repr") (DCall P f_repr) := by
  obtain ⟨Kp, Tp, cp, pp, zp, hp0⟩ := P
  have eK : Kp = X.K := hK
  subst eK
  intro pins s σ H xs us Q I r h
  obtain ⟨ds, b, U, rs, h⟩ := h
  match ds, rs, h with
  | [d], rs, h =>
    obtain ⟨v, rfl, hd⟩ := len1 rs
    obtain ⟨u, rfl, rv⟩ := vals1 r
    obtain ⟨hc, h⟩ := ite_wp h
    simp only [Bool.and_eq_true, decide_eq_true_eq] at hc
    obtain ⟨⟨⟨h1, h2⟩, h3⟩, h4⟩ := hc
    have h5 := big_line h4
    have fin : ∀ (tk : Tok) (s' : Shared), Inv X pins σ H s' → EP X pins σ Q (.str d.shown tk) s' := fun tk s' J => ⟨.str d.shown, H, J, ⟨_, rfl⟩, KQ.str h U⟩
    have byReads : ∀ (a : Addr) (as : List Addr), u = .ref a → Reads s.heap (.ref a) d as → (d.hasDict = true → sysModules ∉ as) → wpAny (model X.prog X.w) X.A (call (.builtin "repr") [u]) (EP X pins σ Q) X.xe s := fun a as e rd hsm => by
      rw [e]
      exact PySem.repr_of_reads' rd h2 hsm hg (by omega) (fun _ _ e => e) (fun h' u' tk k => fin _ _ (I.kept (t' := tk) k)) h5
    cases hd with
    | non => cases rv; exact PySem.P.repr_of_none (fin _ _ (I.tok _))
    | bl c => cases rv; exact PySem.P.repr_of_bool (by cases c <;> exact fin _ _ (I.tok _))
    | int i => obtain ⟨t, rfl⟩ := rv; exact PySem.P.repr_of_int (by simpa [PyData.showable] using h2) (fin _ _ (I.tok _))
    | str z => obtain ⟨t, rfl⟩ := rv; exact PySem.P.repr_of_str (fin _ _ (I.tok _)) h5
    | @lst a ys zs k1 k2 =>
      have n : noDict (.list zs) = true := by simpa [topDict] using h1
      cases rv
      obtain ⟨as, rd⟩ := Rp.reads (u := .ref a) I (.lst k1 k2) rfl n
      exact byReads _ as rfl rd fun z => by rw [hasD_of n] at z; cases z
    | @tup a ys zs k1 k2 =>
      have n : noDict (.tuple zs) = true := by simpa [topDict] using h1
      cases rv
      obtain ⟨as, rd⟩ := Rp.reads (u := .ref a) I (.tup k1 k2) rfl n
      exact byReads _ as rfl rd fun z => by rw [hasD_of n] at z; cases z
    | @emp a k1 =>
      cases rv
      obtain ⟨_, ns, vs, rk, o, es, ep, e1, e2, e3, e4⟩ : ObjOk X.prog X.w H s.heap a (.dK []) := I.hok a _ k1
      cases rk
      have e5 : es.toList = [] := by
        have z := e4.2.1
        generalize es.toList = l at z
        cases z
        rfl
      refine byReads _ [a] rfl ?_ fun _ z => ?_
      · have z := Reads.dict (kvs := []) (as := []) (bs := []) e1 e2.1 e3 (by rw [e5]; exact .nil) (by rw [e5]; exact .nil)
        simpa using z
      · rw [List.mem_singleton] at z
        rw [← z] at ns
        simp at ns
    | drw k1 k2 => simp [drawD, noDict, topDict] at h1
end
end Pv

-- Pv4
set_option Elab.async false
set_option linter.all false
set_option maxRecDepth 100000
set_option maxHeartbeats 4000000
namespace Pv
open PySem L2

/-! ## the shapes of syntax that the rules ask for -/
def isStar : Expr → Bool
  | .Starred .. => true
  | _ => false
theorem star_cons {e : Expr} {es : List Expr} {env : Env} (h : isStar e = false) : starEach (e :: es) env = (false, eval e env) :: starEach es env := by
  cases e <;> first | rfl | simp [isStar] at h
theorem star_any {env : Env} {pos : Pos} : ∀ {es : List Expr}, es.all (fun e => !isStar e) = true → (backTo pos (starEach es env)).any (·.1) = false
  | [], _ => rfl
  | e :: es, h => by
    rw [List.all_cons, Bool.and_eq_true] at h
    have h1 : isStar e = false := by simpa using h.1
    rw [star_cons h1]
    show (false || (backTo pos (starEach es env)).any (·.1)) = false
    rw [star_any h.2]
    rfl
def isSlice : Expr → Bool
  | .Slice .. => true
  | _ => false
theorem plain_ix {b : Expr} (h : isSlice b = false) : PlainIx b := by
  intro o i
  cases b <;> first | rfl | simp [isSlice] at h
def plainT : Expr → Bool
  | .UnaryOp .. | .BoolOp .. | .IfExp .. | .Compare .. => false
  | _ => true
theorem plain_true {e : Expr} {env : Env} (h : plainT e = true) : ∀ whole, isTrue e env whole = (do let v ← whole; standAt e.pos; holding [v] (truthy v)) := by
  intro whole
  cases e <;> first | rfl | simp [plainT] at h
def baseOk : Expr → Bool
  | .Call .. => false
  | _ => true
theorem base_ok {o : Expr} {name : Str} {env : Env} {w : Sem Value} (h : baseOk o = true) : attributeBase o name env w = w := by
  cases o <;> first | rfl | simp [baseOk] at h
def isComp : Expr → Bool
  | .ListComp .. | .SetComp .. | .DictComp .. => true
  | _ => false
theorem swaps_none {e : Expr} {t : Option Expr} {l : Nat} {env : Env} (h : isComp e = false) : swapsWith e t l env = pure false := by
  cases e <;> first | rfl | simp [isComp] at h

/-! ## the surroundings of a def's body -/
/-- the fields of errors -/
def fldNames : List Str := ["given", "at", "place", "most", "ring", "path", "done", "word"]
structure FnI where
  n : Nat
  m : FnD
structure Ga where
  N : List Str
  sc : Scope
  fns : List (Str × FnI)
  con : List (Str × PyData)
  rep : Bool
  calm : Bool
  /-- names that are never stored to -/
  fz : List Str
  /-- the caught error, by its name -/
  exn : Option (Str × Er)
  /-- the parameter that is called, and what the call does -/
  thk : Option (Str × T PyData)
  /-- which class of errors lies below which -/
  sub : Str → Str → Option Bool
  /-- defs that take a lambda -/
  lams : List (Str × (T PyData → T PyData))
  /-- what the lambdas' bodies may call -/
  lfns : List (Str × FnI)
  /-- classes of errors that are asked for -/
  ecl : List Str
  tryOk : Bool
  lcOk : Bool
abbrev Ga.mk0 (N : List Str) (sc : Scope) (fns : List (Str × FnI)) (con : List (Str × PyData)) (rep : Bool) : Ga := ⟨N, sc, fns, con, rep, true, [], none, none, fun _ _ => none, [], [], [], false, true⟩
/-- the names of a lambda's body -/
abbrev lamGa (Γ : Ga) (sc : Scope) : Ga := ⟨Γ.N, sc, Γ.lfns, Γ.con, false, true, Γ.fz, none, none, fun _ _ => none, [], [], [], false, false⟩
/-- the names of an except suite -/
abbrev suGa (Γ : Ga) (nm : Str) (er : Er) : Ga := ⟨Γ.N, Γ.sc, [], Γ.con, Γ.rep, false, nm :: Γ.fz, some (nm, er), none, Γ.sub, [], [], Γ.ecl, false, false⟩
/-- the names of a comprehension's block -/
abbrev blkGa (Γ : Ga) (sc : Scope) : Ga := ⟨Γ.N, relS sc Γ.sc, Γ.fns, Γ.con, Γ.rep, true, Γ.fz, none, none, fun _ _ => none, [], [], [], false, false⟩
/-- the block's own names that have slots -/
def lcOwn (N : List Str) (sc : Scope) : List (Str × Nat) := (sc.names.filter fun p => decide (p.2 = .local) || decide (p.2 = .cell)).filterMap fun p => (N.idxOf? p.1).map fun i => (p.1, i)
/-- what stands in an except suite -/
abbrev suP (P : Pa) (dd : Addr) (vs : List (Str × V)) (i : Nat) (a : Addr) (B : Hp) : Pa := ⟨P.K, P.Tb, P.cl, (dd, .xd vs) :: P.pin, (i, .ref a) :: P.fz, B :: P.h0⟩
def slotOf (Γ : Ga) (x : Str) : Option Nat :=
  if (Γ.sc.names.lookup x = some .local ∨ Γ.sc.names.lookup x = some .cell ∨ Γ.sc.names.lookup x = some .free) ∧ (x == ("__debug__" : Str)) = false ∧ (x == ("__classdict__" : Str)) = false then Γ.N.idxOf? x else none
def glob (Γ : Ga) (x : Str) : Bool := decide (Γ.sc.names.lookup x = some .globalImplicit) && !(x == ("__debug__" : Str))
/-- a def's promise by its reading over data -/
def spT (P : Pa) (i : FnI) : Sp := fun vs H Q E => vs.length = i.n ∧ ∃ ds b, Bud P b H ∧ RpA P.K H vs ds ∧ T.wp (i.m ds) b (KQ P H Q) (KW P H E)
/-- the names of built-ins that code of ours may use -/
def bltNames : List Str := ["len", "ord", "divmod", "min", "max", "sum", "str", "int", "list", "tuple", "repr", "isinstance", "bool", "dict", "range", "enumerate", "sorted", "set", "all", "any", "zip"]
/-! ## readings -/
def tEv (P : Pa) (W : WX) (f : FE) : TE := fun σ H Q => ∃ ρ b, Bud P b H ∧ Ren P H σ ρ ∧ T.wp (f ρ) b (KQ P H Q) (KW P H (WE W σ))
def tEvT (P : Pa) (W : WX) (f : FT) : TT := fun σ H Q => ∃ ρ b, Bud P b H ∧ Ren P H σ ρ ∧ T.wp (f ρ) b (fun c b' => ∀ H', Frm H H' → Bud P b' H' → Q c H') (KW P H (WE W σ))
def tEvA (P : Pa) (W : WX) (f : FA) : TA := fun σ H Q => ∃ ρ b, Bud P b H ∧ Ren P H σ ρ ∧ T.wp (f ρ) b (fun ds b' => ∀ vs H', Frm H H' → Bud P b' H' → RpA P.K H' vs ds → Q vs H') (KW P H (WE W σ))
/-- a lambda without parameters, whose names all come from outside -/
def lamOk (sc : Scope) (params : Arguments) (scope : Scope) : Bool :=
  params.posonlyargs.isEmpty && params.args.isEmpty && params.vararg.isNone && params.kwonlyargs.isEmpty && params.kw_defaults.isEmpty && params.kwarg.isNone && params.defaults.isEmpty && LamX.lamSB sc scope
structure XB (P : Pa) (Γ : Ga) (X : Cx) (W : WX) : Prop where
  hK : P.K = X.K
  hN : X.N = Γ.N
  hsc : X.env.scope = Γ.sc
  nd : Γ.N.Nodup
  calm : Γ.calm = true → X.calm = true
  fz : ∀ q ∈ P.fz, ∃ y, Γ.N[q.1]? = some y ∧ y ∈ Γ.fz
  u : X.A.units + 70 < cLine
  con : ∀ x d, Γ.con.lookup x = some d → ∃ v u, X.mg x = some u ∧ RelV v u ∧ ∀ H, Rp P.K H v d
  fns : ∀ x i, Γ.fns.lookup x = some i → ∃ f, X.mg x = some (.ref f) ∧ PySem.W.keepIn X.K (.ref f) = true ∧
    ∀ (pins : List (Addr × Obj)) (σ : St) (H : Hp) (s : Shared) (Q : VK) (us : List Value) (vs : List V), Inv X pins σ H s → Vals vs us → spT P i vs H Q (WE W σ) → wpAny (model X.prog X.w) X.A (call (.ref f) us) (EP X pins σ Q) X.xe s
  blt : ∀ x, x ∈ bltNames → X.mg x = none
  grd : Γ.rep = true → X.A.guards = some []
  fnB : Γ.lcOk = true → ∀ x i, Γ.fns.lookup x = some i → ∃ f, X.mg x = some (.ref f) ∧ PySem.W.keepIn X.K (.ref f) = true ∧
    ∀ (sc : Scope) (s0 : Shared) (H0 : Hp) (ce : Env) (fp : List Addr) (pins : List (Addr × Obj)) (σ : St) (H : Hp) (s : Shared) (Q : VK) (us : List Value) (vs : List V), Inv (X.blk s0 H0 sc ce fp) pins σ H s → Vals vs us → spT P i vs H Q (fun _ _ _ => False) → wpAny (model X.prog X.w) X.A (call (.ref f) us) (EP (X.blk s0 H0 sc ce fp) pins σ Q) (fun _ _ => False) s
  exA : ∀ y er, Γ.exn = some (y, er) → ∀ (f : Str) (d : PyData) (p pos : Pos), f ∈ fldNames → er.fs.lookup f = some d → PE X (.Attribute (.Name y p) f pos) (tEv P W fun _ => .ret d)
  exI : ∀ y er, Γ.exn = some (y, er) → ∀ (c : Str) (b : Bool) (p p1 p2 pos : Pos), c ∈ Γ.ecl → Γ.sub er.cls c = some b → glob Γ "isinstance" = true → glob Γ c = true → PE X (.Call (.Name "isinstance" p) [.Name y p1, .Name c p2] [] pos) (tEv P W fun _ => .ret (.bool b))
  thk : ∀ a th, Γ.thk = some (a, th) → ∀ p pos : Pos, PE X (.Call (.Name a p) [] [] pos) (tEv P W fun _ => th)
structure XO (P : Pa) (Γ : Ga) (X : Cx) (W : WX) : Prop extends XB P Γ X W where
  lam : ∀ x tf, Γ.lams.lookup x = some tf → ∀ (params : Arguments) (body : Expr) (scope : Scope) (fe : FE) (p lpos pos : Pos), lamOk Γ.sc params scope = true → (∀ (X' : Cx) (W' : WX), XB P (lamGa Γ scope) X' W' → PE X' body (tEv P W' fe)) →
    glob Γ x = true → PE X (.Call (.Name x p) [.Lambda params body scope lpos] [] pos) (tEv P W fun ρ => tf (fe ρ))
theorem XB.up {P : Pa} {Γ : Ga} {X : Cx} {W : WX} (x : XB P Γ X W) (h : Γ.lams = []) : XO P Γ X W := ⟨x, fun y tf hl => by rw [h] at hl; cases hl⟩
theorem impE {X : Cx} {e : Expr} {t t' : TE} (h : PE X e t) (k : ∀ σ H Q, t' σ H Q → t σ H Q) : PE X e t' := ⟨fun pins s σ H Q I q => h.run pins s σ H Q I (k σ H Q q)⟩
theorem impT {X : Cx} {e : Expr} {t t' : TT} (h : PT X e t) (k : ∀ σ H Q, t' σ H Q → t σ H Q) : PT X e t' := ⟨fun pins s σ H Q I q => h.run pins s σ H Q I (k σ H Q q)⟩
theorem impA {X : Cx} {es : List Expr} {t t' : TA} (h : PA X es t) (k : ∀ σ H Q, t' σ H Q → t σ H Q) : PA X es t' := ⟨fun pos pins s σ H Q I q => h.run pos pins s σ H Q I (k σ H Q q)⟩
section
variable {P : Pa} {W : WX} {σ : St} {H : Hp} {ρ : En} {b : Nat} {E : XK} {α : Type}
/-- one step of a bind, an expression's -/
theorem stepE {f : FE} {g : PyData → T α} {QQ : α → Nat → Prop} {EE : Er → Nat → Prop} {R : VK} (U : Bud P b H) (r : Ren P H σ ρ) (h : T.wp (T.bind (f ρ) g) b QQ EE)
    (hE : ∀ x c, EE x c → KW P H (WE W σ) x c) (k : ∀ d b1 v H1, Frm H H1 → Bud P b1 H1 → Rp P.K H1 v d → Ren P H1 σ ρ → T.wp (g d) b1 QQ EE → R v H1) : tEv P W f σ H R :=
  ⟨ρ, b, U, r, T.wp_mono (T.wp_bind.mp h) (fun d c _ q v H1 F1 U1 r1 => k d c v H1 F1 U1 r1 (r.frm F1) q) fun x c _ e => hE x c e⟩
theorem stepT {f : FT} {g : Bool → T α} {QQ : α → Nat → Prop} {EE : Er → Nat → Prop} {R : Bool → Hp → Prop} (U : Bud P b H) (r : Ren P H σ ρ) (h : T.wp (T.bind (f ρ) g) b QQ EE)
    (hE : ∀ x c, EE x c → KW P H (WE W σ) x c) (k : ∀ d b1 H1, Frm H H1 → Bud P b1 H1 → Ren P H1 σ ρ → T.wp (g d) b1 QQ EE → R d H1) : tEvT P W f σ H R :=
  ⟨ρ, b, U, r, T.wp_mono (T.wp_bind.mp h) (fun d c _ q H1 F1 U1 => k d c H1 F1 U1 (r.frm F1) q) fun x c _ e => hE x c e⟩
theorem stepA {f : FA} {g : List PyData → T α} {QQ : α → Nat → Prop} {EE : Er → Nat → Prop} {R : List V → Hp → Prop} (U : Bud P b H) (r : Ren P H σ ρ) (h : T.wp (T.bind (f ρ) g) b QQ EE)
    (hE : ∀ x c, EE x c → KW P H (WE W σ) x c) (k : ∀ d b1 vs H1, Frm H H1 → Bud P b1 H1 → RpA P.K H1 vs d → Ren P H1 σ ρ → T.wp (g d) b1 QQ EE → R vs H1) : tEvA P W f σ H R :=
  ⟨ρ, b, U, r, T.wp_mono (T.wp_bind.mp h) (fun d c _ q vs H1 F1 U1 r1 => k d c vs H1 F1 U1 r1 (r.frm F1) q) fun x c _ e => hE x c e⟩
/-- a wish carried over an extension -/
theorem carry {t : T PyData} {H1 : Hp} {Q : VK} (F1 : Frm H H1) (h : T.wp t b (KQ P H Q) (KW P H E)) : T.wp t b (KQ P H1 Q) (KW P H1 E) :=
  T.wp_mono h (fun _ _ _ q => q.frm F1) fun _ _ _ q => q.frm F1
/-- the errors don't matter -/
theorem noErr {t : T α} {Q : α → Nat → Prop} {EE : Er → Nat → Prop} (h : T.wp t b Q EE) : T.wp t b Q (fun _ _ => True) := T.wp_mono h (fun _ _ _ q => q) fun _ _ _ _ => trivial
theorem getSlot {i : Nat} {d : PyData} (r : Ren P H σ ρ) (e : ρ[i]? = some (some d)) : ∃ v, σ[i]? = some (some v) ∧ Rp P.K H v d := r.2.1 i d e
end
def getV (ρ : En) (i : Nat) : T PyData := T.ofO (ρ[i]?).join
def asB : PyData → T Bool
  | .bool b => .ret b
  | _ => .stuck
def truD : PyData → T Bool
  | .none => .ret false
  | .bool b => .ret b
  | .int i => .ret (i != 0)
  | .str y => if y.length ≤ big then .ret ((y.length : Int) != 0) else .stuck
  | .list xs => .ret (!xs.isEmpty)
  | .tuple xs => .ret (!xs.isEmpty)
  | .dict _ => .stuck
def fmtD : PyData → T PyData
  | .str y => if y.length ≤ big then .ret (.str y) else .stuck
  | .int i => if i.natAbs.log2 < 1920 then .ret (.str (toString i)) else .stuck
  | _ => .stuck
def joinD : List FE → Str → En → T PyData
  | [], acc, _ => .ret (.str acc)
  | f :: fs, acc, ρ => T.bind (f ρ) fun d => match d with
    | .str y => if (acc ++ y).length ≤ big then joinD fs (acc ++ y) ρ else .stuck
    | _ => .stuck
def unstar : PyData → T (List PyData)
  | .tuple xs => .ret xs
  | .list xs => .ret xs
  | _ => .stuck
def asI : PyData → T Int
  | .int i => .ret i
  | _ => .stuck
/-- methods of texts with one argument, with none -/
def mthS1 (m : Str) : Option (String × (Str → Str → T PyData)) :=
  if m = "strip" then some ("str.strip", fun a b => if a.length ≤ big then .ret (.str (Txt.stripChars a b)) else .stuck)
  else if m = "rstrip" then some ("str.rstrip", fun a b => if a.length ≤ big then .ret (.str (Txt.rstripChars a b)) else .stuck)
  else if m = "lstrip" then some ("str.lstrip", fun a b => if a.length ≤ big then .ret (.str (Txt.lstripChars a b)) else .stuck)
  else if m = "index" then some ("str.index", fun a b => match Builtin.Str.occurrences a b 0 a.length 1 with | i :: _ => .ret (.int (i : Nat)) | [] => .stuck)
  else if m = "partition" then some ("str.partition", fun a b => if (b.length == 0) = false ∧ a.length ≤ big then .ret (.tuple [.str (Txt.partition a b).1, .str (Txt.partition a b).2.1, .str (Txt.partition a b).2.2]) else .stuck)
  else none
def asS : PyData → T Str
  | .str a => .ret a
  | _ => .stuck
def onS1 (f : Str → Str → T PyData) (a : Str) : PyData → T PyData
  | .str b => f a b
  | _ => .stuck
/-- the built-in classes that isinstance asks for -/
def isiNames : List Str := ["int", "str", "bool", "tuple", "list", "dict"]
def tyName (c : Str) : String := if c = "int" then "int" else if c = "str" then "str" else if c = "bool" then "bool" else if c = "tuple" then "tuple" else if c = "list" then "list" else "dict"
def isiArg : Str → List Expr → Option Str
  | f, [.Name c _] => if f = "isinstance" then some c else none
  | _, _ => none
def itemsD : PyData → T (List PyData)
  | .list xs => .ret xs
  | .tuple xs => .ret xs
  | .str z => .ret (z.cps.toList.map fun c => .str ⟨#[c]⟩)
  | _ => .stuck
/-- no error comes out -/
def noRaise {α : Type} : T α → T α
  | .ret a => .ret a
  | .err _ => .stuck
  | .pick n f => .pick n fun i => noRaise (f i)
  | .stuck => .stuck
/-- what a for goes over, as the rule wants it: no written set -/
def foldOk : Expr → Bool
  | .Set .. => false
  | _ => true
/-- values that refer to nothing -/
def atomD : PyData → Bool
  | .none | .bool _ | .int _ | .str _ => true
  | _ => false
/-- the turns of a list comprehension -/
def lcR (ft : FT) (fe : FE) (i : Nat) (ρ : En) : List PyData → List PyData → T PyData
  | [], acc => .ret (.list acc)
  | d :: r, acc => T.bind (ft (ρ.set i (some d))) fun k => if k = true then T.bind (fe (ρ.set i (some d))) fun y => if atomD y = true ∧ acc.length < big then lcR ft fe i ρ r (acc ++ [y]) else .stuck else lcR ft fe i ρ r acc
def wipeE (ρ : En) : List Nat → En
  | [] => ρ
  | v :: vs => (wipeE ρ vs).set v none
/-- the caught error, as an expression -/
def isE (Γ : Ga) : Expr → Option Er
  | .Name x _ => match Γ.exn with
    | some (y, er) => if x = y then some er else none
    | none => none
  | _ => none
def cAtt (Γ : Ga) (o : Expr) (f : Str) : Option FE := if fldNames.contains f then (isE Γ o).map fun er _ => T.ofO (er.fs.lookup f) else none
def cThk (Γ : Ga) (f : Str) : Option FE := match Γ.thk with
  | some (y, th) => if f = y then some fun _ => th else none
  | none => none
def lamArg : List Expr → Option (Arguments × Expr × Scope)
  | [.Lambda params body scope _] => some (params, body, scope)
  | _ => none
mutual
def cE (Γ : Ga) : Nat → Expr → Option FE
  | 0, _ => none
  | n + 1, e => match e with
    | .Constant .none _ _ => some fun _ => .ret .none
    | .Constant (.bool b) _ _ => some fun _ => .ret (.bool b)
    | .Constant (.int i) _ _ => some fun _ => .ret (.int i)
    | .Constant (.str s) _ _ => some fun _ => .ret (.str s)
    | .Name x _ => match slotOf Γ x with
      | some i => some fun ρ => getV ρ i
      | none => if glob Γ x then (Γ.con.lookup x).map fun d _ => .ret d else none
    | .BinOp a op c _ => (cE Γ n a).bind fun fa => (cE Γ n c).bind fun fc => some fun ρ => T.bind (fa ρ) fun x => T.bind (fc ρ) fun y => opB op x y
    | .UnaryOp .Not a _ => (cE Γ n a).bind fun fa => some fun ρ => T.bind (fa ρ) fun x => T.bind (asB x) fun c => .ret (.bool (!c))
    | .UnaryOp .USub a _ => (cE Γ n a).bind fun fa => some fun ρ => T.bind (fa ρ) fun x => T.bind (asI x) fun i => .ret (.int (-i))
    | .Compare a [op] [c] _ => if behindInMarks op c then none else (cE Γ n a).bind fun fa => (cE Γ n c).bind fun fc => some fun ρ => T.bind (fa ρ) fun x => T.bind (fc ρ) fun y => opC op x y
    | .Compare a [op, op'] [c, d] _ => if behindInMarks op' d then none else (cE Γ n a).bind fun fa => (cE Γ n c).bind fun fc => (cE Γ n d).bind fun fd => some fun ρ => T.bind (fa ρ) fun x => T.bind (fc ρ) fun y => T.bind (opC op x y) fun z => T.bind (asB z) fun k => if k = true then T.bind (fd ρ) fun w => opC op' y w else .ret (.bool false)
    | .BoolOp _ [a] _ => cE Γ n a
    | .BoolOp .And (a :: c :: r) p => (cE Γ n a).bind fun fa => (cE Γ n (.BoolOp .And (c :: r) p)).bind fun fc => some fun ρ => T.bind (fa ρ) fun x => T.bind (asB x) fun k => if k = true then fc ρ else .ret (.bool false)
    | .BoolOp .Or (a :: c :: r) p => (cE Γ n a).bind fun fa => (cE Γ n (.BoolOp .Or (c :: r) p)).bind fun fc => some fun ρ => T.bind (fa ρ) fun x => T.bind (asB x) fun k => if k = true then .ret (.bool true) else fc ρ
    | .IfExp c a d _ => (cT Γ n c).bind fun fc => (cE Γ n a).bind fun fa => (cE Γ n d).bind fun fd => some fun ρ => T.bind (fc ρ) fun k => if k = true then fa ρ else fd ρ
    | .Tuple es _ _ => (cA Γ n es).bind fun fs => some fun ρ => T.bind (fs ρ) fun ds => if ds.length ≤ big then .ret (.tuple ds) else .stuck
    | .List es _ => (cA Γ n es).bind fun fs => some fun ρ => T.bind (fs ρ) fun ds => if ds.length ≤ big then .ret (.list ds) else .stuck
    | .Dict [] [] _ => some fun _ => .ret (.dict [])
    | .Subscript a (.Slice lo hi none _) _ => (cE Γ n a).bind fun fa => (cO Γ n lo).bind fun fl => (cO Γ n hi).bind fun fh => some fun ρ => T.bind (fa ρ) fun x => T.bind (fl ρ) fun l => T.bind (fh ρ) fun h => opS x l h
    | .Subscript a c _ => if isSlice c then none else (cE Γ n a).bind fun fa => (cE Γ n c).bind fun fc => some fun ρ => T.bind (fa ρ) fun x => T.bind (fc ρ) fun y => opI x y
    | .Call (.Name f _) (a :: r) [] _ => match isiArg f r with
      | some c => (match isE Γ a with
        | some er => if glob Γ f && glob Γ c && Γ.ecl.contains c then some fun _ => T.bind (T.ofO (Γ.sub er.cls c)) fun k => .ret (.bool k) else none
        | none => if glob Γ f && glob Γ c && isiNames.contains c && !isStar a then (cE Γ n a).bind fun fa => some fun ρ => T.bind (fa ρ) fun x => isiD (tyName c) x else none)
      | none => cCall Γ n f (a :: r)
    | .ListComp elt [⟨tg, iter, ifs, 0⟩] scope _ => match tg with
      | .Name y _ => if Γ.calm && Γ.lcOk && foldOk iter && blkC Γ.N Γ.sc scope (lcOwn Γ.N scope) && decide (scope.names.lookup y = some .local) && decide ((relS scope Γ.sc).names.lookup y = some .local) && (lcOwn Γ.N scope).all (fun p => !Γ.fz.contains p.1) then
          ((lcOwn Γ.N scope).lookup y).bind fun i => (cE Γ n iter).bind fun fi => (cF (blkGa Γ scope) n ifs).bind fun ft => (cE (blkGa Γ scope) n elt).bind fun fe => some fun ρ => T.bind (fi ρ) fun x => T.bind (itemsD x) fun ds => noRaise (lcR ft fe i (wipeE ρ ((lcOwn Γ.N scope).map (·.2))) ds []) else none
      | _ => none
    | .Call (.Name f _) [] [] _ => cThk Γ f
    | .Attribute o f _ => cAtt Γ o f
    | .Call (.Attribute o m ap) [a] [] cp => if baseOk o && !isStar a && (ap.endLine == cp.line) then (mthS1 m).bind fun i => (cE Γ n o).bind fun fo => (cE Γ n a).bind fun fa => some fun ρ => T.bind (fo ρ) fun x => T.bind (asS x) fun z => T.bind (fa ρ) fun y => onS1 i.2 z y else none
    | .JoinedStr (v :: w :: r) _ => (cJ Γ n (v :: w :: r)).bind fun fs => some fun ρ => joinD fs Str.empty ρ
    | _ => none
def cCall (Γ : Ga) : Nat → Str → List Expr → Option FE
  | 0, _, _ => none
  | n + 1, f, es => match lamArg es with
    | some l => if glob Γ f && lamOk Γ.sc l.1 l.2.2 then (Γ.lams.lookup f).bind fun tf => (cE (lamGa Γ l.2.2) n l.2.1).bind fun fe => some fun ρ => tf (fe ρ) else none
    | none => if glob Γ f && es.all (fun e => !isStar e) then (match Γ.fns.lookup f with
      | some i => (cA Γ n es).bind fun fs => some fun ρ => T.bind (fs ρ) fun ds => if ds.length = i.n then i.m ds else .stuck
      | none => if bltNames.contains f && (Γ.calm || !(bltFn f).isSome) then (match bltFn f with
          | some i => (cA Γ n es).bind fun fs => some fun ρ => T.bind (fs ρ) i.2
          | none => match bltTy f with
            | some i => (cA Γ n es).bind fun fs => some fun ρ => T.bind (fs ρ) i.2
            | none => if f = "repr" && Γ.rep then (cA Γ n es).bind fun fs => some fun ρ => T.bind (fs ρ) f_repr else none) else none) else none
def cT (Γ : Ga) : Nat → Expr → Option FT
  | 0, _ => none
  | n + 1, e => match e with
    | .UnaryOp .Not a _ => (cT Γ n a).bind fun fa => some fun ρ => T.bind (fa ρ) fun c => .ret (!c)
    | .BoolOp _ [a] _ => cT Γ n a
    | .BoolOp .And (a :: c :: r) p => (cT Γ n a).bind fun fa => (cT Γ n (.BoolOp .And (c :: r) p)).bind fun fc => some fun ρ => T.bind (fa ρ) fun k => if k = true then fc ρ else .ret false
    | .BoolOp .Or (a :: c :: r) p => (cT Γ n a).bind fun fa => (cT Γ n (.BoolOp .Or (c :: r) p)).bind fun fc => some fun ρ => T.bind (fa ρ) fun k => if k = true then .ret true else fc ρ
    | .Compare a [op] [c] _ => if behindInMarks op c then none else (cE Γ n a).bind fun fa => (cE Γ n c).bind fun fc => some fun ρ => T.bind (fa ρ) fun x => T.bind (fc ρ) fun y => T.bind (opC op x y) asB
    | .Compare a [op, op'] [c, d] _ => if behindInMarks op' d then none else (cE Γ n a).bind fun fa => (cE Γ n c).bind fun fc => (cE Γ n d).bind fun fd => some fun ρ => T.bind (fa ρ) fun x => T.bind (fc ρ) fun y => T.bind (opC op x y) fun z => T.bind (asB z) fun k => if k = true then T.bind (fd ρ) fun w => T.bind (opC op' y w) asB else .ret false
    | e => if plainT e then (cE Γ n e).bind fun fe => some fun ρ => T.bind (fe ρ) truD else none
def cA (Γ : Ga) : Nat → List Expr → Option FA
  | 0, _ => none
  | n + 1, es => match es with
    | [] => some fun _ => .ret []
    | .Starred e _ :: r => (cE Γ n e).bind fun fe => (cA Γ n r).bind fun fr => some fun ρ => T.bind (fe ρ) fun x => T.bind (unstar x) fun xs => T.bind (fr ρ) fun ys => .ret (xs ++ ys)
    | e :: r => if isStar e then none else (cE Γ n e).bind fun fe => (cA Γ n r).bind fun fr => some fun ρ => T.bind (fe ρ) fun x => T.bind (fr ρ) fun ys => .ret (x :: ys)
def cF (Γ : Ga) : Nat → List Expr → Option FT
  | 0, _ => none
  | n + 1, es => match es with
    | [] => some fun _ => .ret true
    | [c] => cT Γ n c
    | _ => none
def cO (Γ : Ga) : Nat → Option Expr → Option (En → T (Option Int))
  | 0, _ => none
  | n + 1, e => match e with
    | none => some fun _ => .ret none
    | some e => (cE Γ n e).bind fun fe => some fun ρ => T.bind (fe ρ) fun x => T.bind (asI x) fun i => .ret (some i)
def cJ (Γ : Ga) : Nat → List Expr → Option (List FE)
  | 0, _ => none
  | n + 1, es => match es with
    | [] => some []
    | .Constant (.str s) _ _ :: r => (cJ Γ n r).bind fun fs => some ((fun _ => .ret (.str s)) :: fs)
    | .FormattedValue e (-1) none _ :: r => (cE Γ n e).bind fun fe => (cJ Γ n r).bind fun fs => some ((fun ρ => T.bind (fe ρ) fmtD) :: fs)
    | _ => none
end
end Pv

-- Pv5
set_option Elab.async false
set_option linter.all false
set_option maxRecDepth 100000
set_option maxHeartbeats 4000000
namespace Pv
open PySem L2
def tEvO (P : Pa) (W : WX) (f : En → T (Option Int)) : TO := fun σ H Q => ∃ ρ b, Bud P b H ∧ Ren P H σ ρ ∧ T.wp (f ρ) b (fun o b' => ∀ H', Frm H H' → Bud P b' H' → Q o H') (KW P H (WE W σ))
structure Snd (P : Pa) (Γ : Ga) (X : Cx) (W : WX) (n : Nat) : Prop where
  F : ∀ es f, cF Γ n es = some f → PTs X es (tEvT P W f)
  E : ∀ e f, cE Γ n e = some f → PE X e (tEv P W f)
  C : ∀ f e es p pos fe, cCall Γ n f (e :: es) = some fe → PE X (.Call (.Name f p) (e :: es) [] pos) (tEv P W fe)
  B : ∀ op es p f, cT Γ n (.BoolOp op es p) = some f → PW X (.BoolOp op es p) (tEvT P W f)
  T : ∀ e f, cT Γ n e = some f → PT X e (tEvT P W f)
  A : ∀ es f, cA Γ n es = some f → PA X es (tEvA P W f)
  O : ∀ o f, cO Γ n o = some f → PO X o (tEvO P W f)
  J : ∀ es fs, cJ Γ n es = some fs → PJ X es (fs.map (tEv P W))
theorem bnd {α β : Type} {o : Option α} {g : α → Option β} {y : β} (h : o.bind g = some y) : ∃ x, o = some x ∧ g x = some y := Option.bind_eq_some_iff.mp h
theorem itS {c : Prop} [Decidable c] {α : Type} {o : Option α} {y : α} (h : (if c then o else none) = some y) : c ∧ o = some y := by
  by_cases hc : c
  · rw [if_pos hc] at h; exact ⟨hc, h⟩
  · rw [if_neg hc] at h; cases h
theorem itN {c : Prop} [Decidable c] {α : Type} {o : Option α} {y : α} (h : (if c then none else o) = some y) : ¬ c ∧ o = some y := by
  by_cases hc : c
  · rw [if_pos hc] at h; cases h
  · rw [if_neg hc] at h; exact ⟨hc, h⟩
theorem asB_wp {d : PyData} {α : Type} {g : Bool → T α} {b : Nat} {Q : α → Nat → Prop} {E : Er → Nat → Prop} (h : T.wp (T.bind (asB d) g) b Q E) : ∃ c, d = .bool c ∧ T.wp (g c) b Q E := by
  cases d <;> first | exact h.elim | exact ⟨_, rfl, h⟩
theorem asI_wp {d : PyData} {α : Type} {g : Int → T α} {b : Nat} {Q : α → Nat → Prop} {E : Er → Nat → Prop} (h : T.wp (T.bind (asI d) g) b Q E) : ∃ c, d = .int c ∧ T.wp (g c) b Q E := by
  cases d <;> first | exact h.elim | exact ⟨_, rfl, h⟩
section
variable {P : Pa} {Γ : Ga} {X : Cx} {W : WX}
theorem slot_of (x : XO P Γ X W) {y : Str} {i : Nat} (h : slotOf Γ y = some i) : X.N[i]? = some y ∧ Vis X.env.scope y ∧ (y == ("__debug__" : Str)) = false ∧ (y == ("__classdict__" : Str)) = false := by
  obtain ⟨h1, h2⟩ := itS h
  have := List.idxOf?_eq_some_iff.mp h2
  obtain ⟨hi, e, _⟩ := this
  rw [x.hN, x.hsc]
  refine ⟨?_, h1.1, h1.2.1, h1.2.2⟩
  rw [List.getElem?_eq_getElem hi]
  exact congrArg some (by simpa using e)
theorem glob_of (x : XO P Γ X W) {y : Str} (h : glob Γ y = true) : Gl X y ∧ (y == ("__debug__" : Str)) = false := by
  unfold glob at h
  rw [Bool.and_eq_true] at h
  refine ⟨?_, by simpa using h.2⟩
  show X.env.scope.names.lookup y = some .globalImplicit
  rw [x.hsc]
  exact of_decide_eq_true h.1
theorem s_var (x : XO P Γ X W) {y : Str} {p : Pos} {i : Nat} (h : slotOf Γ y = some i) : PE X (.Name y p) (tEv P W fun ρ => getV ρ i) := by
  obtain ⟨h1, h2, h3, h4⟩ := slot_of x h
  refine impE (pe_var (i := i) h1 h2 h3 h4) fun σ H Q q => ?_
  obtain ⟨ρ, b, U, R, q⟩ := q
  obtain ⟨d, hd, q⟩ := ofO_wp q
  cases e : ρ[i]? with
  | none => rw [e] at hd; cases hd
  | some o =>
    rw [e] at hd
    cases o with
    | none => cases hd
    | some d' =>
      cases hd
      obtain ⟨v, hv, r⟩ := R.2.1 i d e
      exact ⟨v, hv, KQ.now q U r⟩
theorem s_con (x : XO P Γ X W) {y : Str} {p : Pos} {d : PyData} (hg : glob Γ y = true) (h : Γ.con.lookup y = some d) : PE X (.Name y p) (tEv P W fun _ => .ret d) := by
  obtain ⟨g1, g2⟩ := glob_of x hg
  obtain ⟨v, u, hm, rv, hr⟩ := x.con y d h
  refine impE (pe_glob g1 hm rv g2) fun σ H Q q => ?_
  obtain ⟨ρ, b, U, R, q⟩ := q
  exact KQ.now q U (hr H)
theorem s_bin (x : XO P Γ X W) {op : Operator} {a c : Expr} {p : Pos} {fa fc : FE} (ha : PE X a (tEv P W fa)) (hc : PE X c (tEv P W fc)) : PE X (.BinOp a op c p) (tEv P W fun ρ => T.bind (fa ρ) fun x => T.bind (fc ρ) fun y => opB op x y) := by
  refine impE (pe_op (ok_opB x.hK op) ha hc) fun σ H Q q => ?_
  obtain ⟨ρ, b, U, R, q⟩ := q
  refine stepE U R q (fun _ _ e => e) fun d b1 v H1 F1 U1 r1 R1 q1 => ?_
  refine stepE U1 R1 q1 (fun _ _ e => e.frm F1) fun e b2 w H2 F2 U2 r2 R2 q2 => ?_
  exact ⟨d, e, b2, U2, r1.frm F2, r2, noErr (carry (F1.trans F2) q2)⟩
theorem s_cmp (x : XO P Γ X W) {op : CmpOp} {a c : Expr} {p : Pos} {fa fc : FE} (hb : behindInMarks op c = false) (ha : PE X a (tEv P W fa)) (hc : PE X c (tEv P W fc)) : PE X (.Compare a [op] [c] p) (tEv P W fun ρ => T.bind (fa ρ) fun x => T.bind (fc ρ) fun y => opC op x y) := by
  refine impE (pe_cmpR (ok_opC x.hK op (by have := x.u; omega)) ha hc hb) fun σ H Q q => ?_
  obtain ⟨ρ, b, U, R, q⟩ := q
  refine stepE U R q (fun _ _ e => e) fun d b1 v H1 F1 U1 r1 R1 q1 => ?_
  refine stepE U1 R1 q1 (fun _ _ e => e.frm F1) fun e b2 w H2 F2 U2 r2 R2 q2 => ?_
  exact ⟨d, e, b2, U2, r1.frm F2, r2, noErr (carry (F1.trans F2) q2)⟩
theorem s_cmpT (x : XO P Γ X W) {op : CmpOp} {a c : Expr} {p : Pos} {fa fc : FE} (hb : behindInMarks op c = false) (ha : PE X a (tEv P W fa)) (hc : PE X c (tEv P W fc)) : PT X (.Compare a [op] [c] p) (tEvT P W fun ρ => T.bind (fa ρ) fun x => T.bind (fc ρ) fun y => T.bind (opC op x y) asB) := by
  refine impT (pt_cmpR (ok_opC x.hK op (by have := x.u; omega)) ha hc hb) fun σ H Q q => ?_
  obtain ⟨ρ, b, U, R, q⟩ := q
  refine stepE U R q (fun _ _ e => e) fun d b1 v H1 F1 U1 r1 R1 q1 => ?_
  refine stepE U1 R1 q1 (fun _ _ e => e.frm F1) fun e b2 w H2 F2 U2 r2 R2 q2 => ?_
  refine ⟨d, e, b2, U2, r1.frm F2, r2, noErr (T.wp_mono (T.wp_bind.mp q2) (fun z c _ qz => ?_) fun _ _ _ e => e)⟩
  intro v' H' F' U' r'
  cases z <;> first | exact qz.elim | skip
  cases r'
  exact ⟨_, rfl, qz H' ((F1.trans F2).trans F') U'⟩
theorem s_chain (x : XO P Γ X W) {op op' : CmpOp} {a c e : Expr} {p : Pos} {fa fc fe : FE} (hb : behindInMarks op' e = false) (ha : PE X a (tEv P W fa)) (hc : PE X c (tEv P W fc)) (he : PE X e (tEv P W fe)) :
    PE X (.Compare a [op, op'] [c, e] p) (tEv P W fun ρ => T.bind (fa ρ) fun x => T.bind (fc ρ) fun y => T.bind (opC op x y) fun z => T.bind (asB z) fun k => if k = true then T.bind (fe ρ) fun w => opC op' y w else .ret (.bool false)) := by
  refine impE (pe_chain (ok_opC x.hK op (by have := x.u; omega)) (ok_opC x.hK op' (by have := x.u; omega)) ha hc he (by show behindInMarks op' e = false; exact hb)) fun σ H Q q => ?_
  obtain ⟨ρ, b, U, R, q⟩ := q
  refine stepE U R q (fun _ _ e => e) fun d b1 v H1 F1 U1 r1 R1 q1 => ?_
  refine stepE U1 R1 q1 (fun _ _ e => e.frm F1) fun e b2 w H2 F2 U2 r2 R2 q2 => ?_
  refine ⟨d, e, b2, U2, r1.frm F2, r2, noErr (T.wp_mono (T.wp_bind.mp q2) (fun z c _ qz => ?_) fun _ _ _ e => e)⟩
  intro v' H' F' U' r'
  obtain ⟨k, ek, qk⟩ := asB_wp qz
  subst ek
  clear qz
  cases r'
  refine ⟨k, rfl, ?_⟩
  have F3 := (F1.trans F2).trans F'
  cases k with
  | false =>
    rw [if_neg Bool.false_ne_true] at qk ⊢
    exact qk _ H' F3 U' (.bl false)
  | true =>
    rw [if_pos rfl] at qk ⊢
    refine stepE U' (R2.frm F') qk (fun _ _ e => e.frm F3) fun g b3 u H4 F4 U4 r4 R4 q4 => ?_
    exact ⟨e, g, b3, U4, (r2.frm F').frm F4, r4, noErr (carry (F3.trans F4) q4)⟩
theorem s_chainT (x : XO P Γ X W) {op op' : CmpOp} {a c e : Expr} {p : Pos} {fa fc fe : FE} (hb : behindInMarks op' e = false) (ha : PE X a (tEv P W fa)) (hc : PE X c (tEv P W fc)) (he : PE X e (tEv P W fe)) :
    PT X (.Compare a [op, op'] [c, e] p) (tEvT P W fun ρ => T.bind (fa ρ) fun x => T.bind (fc ρ) fun y => T.bind (opC op x y) fun z => T.bind (asB z) fun k => if k = true then T.bind (fe ρ) fun w => T.bind (opC op' y w) asB else .ret false) := by
  refine impT (pt_chain (ok_opC x.hK op (by have := x.u; omega)) (ok_opC x.hK op' (by have := x.u; omega)) ha hc he (by show behindInMarks op' e = false; exact hb)) fun σ H Q q => ?_
  obtain ⟨ρ, b, U, R, q⟩ := q
  refine stepE U R q (fun _ _ e => e) fun d b1 v H1 F1 U1 r1 R1 q1 => ?_
  refine stepE U1 R1 q1 (fun _ _ e => e.frm F1) fun e b2 w H2 F2 U2 r2 R2 q2 => ?_
  refine ⟨d, e, b2, U2, r1.frm F2, r2, noErr (T.wp_mono (T.wp_bind.mp q2) (fun z c _ qz => ?_) fun _ _ _ e => e)⟩
  intro v' H' F' U' r'
  obtain ⟨k, ek, qk⟩ := asB_wp qz
  subst ek
  clear qz
  cases r'
  refine ⟨k, rfl, ?_⟩
  have F3 := (F1.trans F2).trans F'
  cases k with
  | false =>
    rw [if_neg Bool.false_ne_true] at qk ⊢
    exact ⟨_, rfl, qk H' F3 U'⟩
  | true =>
    rw [if_pos rfl] at qk ⊢
    refine stepE U' (R2.frm F') qk (fun _ _ e => e.frm F3) fun g b3 u H4 F4 U4 r4 R4 q4 => ?_
    refine ⟨e, g, b3, U4, (r2.frm F').frm F4, r4, noErr (T.wp_mono (T.wp_bind.mp q4) (fun z c _ qz => ?_) fun _ _ _ e => e)⟩
    intro v5 H5 F5 U5 r5
    cases z <;> first | exact qz.elim | skip
    cases r5
    exact ⟨_, rfl, qz H5 ((F3.trans F4).trans F5) U5⟩
theorem s_not (x : XO P Γ X W) {a : Expr} {p : Pos} {fa : FE} (ha : PE X a (tEv P W fa)) : PE X (.UnaryOp .Not a p) (tEv P W fun ρ => T.bind (fa ρ) fun x => T.bind (asB x) fun c => .ret (.bool (!c))) := by
  refine impE (pe_not ha) fun σ H Q q => ?_
  obtain ⟨ρ, b, U, R, q⟩ := q
  refine stepE U R q (fun _ _ e => e) fun d b1 v H1 F1 U1 r1 R1 q1 => ?_
  obtain ⟨k, ek, qz⟩ := asB_wp q1
  subst ek
  cases r1
  exact ⟨k, rfl, qz _ H1 F1 U1 (.bl _)⟩
theorem s_neg (x : XO P Γ X W) {a : Expr} {p : Pos} {fa : FE} (ha : PE X a (tEv P W fa)) : PE X (.UnaryOp .USub a p) (tEv P W fun ρ => T.bind (fa ρ) fun x => T.bind (asI x) fun i => .ret (.int (-i))) := by
  refine impE (pe_un un_neg ha) fun σ H Q q => ?_
  obtain ⟨ρ, b, U, R, q⟩ := q
  refine stepE U R q (fun _ _ e => e) fun d b1 v H1 F1 U1 r1 R1 q1 => ?_
  obtain ⟨k, ek, qz⟩ := asI_wp q1
  subst ek
  cases r1
  exact ⟨k, rfl, qz _ H1 F1 U1 (.int _)⟩
theorem s_and (x : XO P Γ X W) {a c : Expr} {r : List Expr} {p : Pos} {fa fc : FE} (ha : PE X a (tEv P W fa)) (hc : PE X (.BoolOp .And (c :: r) p) (tEv P W fc)) :
    PE X (.BoolOp .And (a :: c :: r) p) (tEv P W fun ρ => T.bind (fa ρ) fun x => T.bind (asB x) fun k => if k = true then fc ρ else .ret (.bool false)) := by
  refine impE (pe_and ha hc) fun σ H Q q => ?_
  obtain ⟨ρ, b, U, R, q⟩ := q
  refine stepE U R q (fun _ _ e => e) fun d b1 v H1 F1 U1 r1 R1 q1 => ?_
  obtain ⟨k, ek, qz⟩ := asB_wp q1
  subst ek
  cases r1
  refine ⟨k, rfl, ?_⟩
  cases k with
  | false =>
    rw [if_neg Bool.false_ne_true] at qz ⊢
    exact qz _ H1 F1 U1 (.bl _)
  | true =>
    rw [if_pos rfl] at qz ⊢
    exact ⟨ρ, b1, U1, R1, carry F1 qz⟩
theorem s_or (x : XO P Γ X W) {a c : Expr} {r : List Expr} {p : Pos} {fa fc : FE} (ha : PE X a (tEv P W fa)) (hc : PE X (.BoolOp .Or (c :: r) p) (tEv P W fc)) :
    PE X (.BoolOp .Or (a :: c :: r) p) (tEv P W fun ρ => T.bind (fa ρ) fun x => T.bind (asB x) fun k => if k = true then .ret (.bool true) else fc ρ) := by
  refine impE (pe_or ha hc) fun σ H Q q => ?_
  obtain ⟨ρ, b, U, R, q⟩ := q
  refine stepE U R q (fun _ _ e => e) fun d b1 v H1 F1 U1 r1 R1 q1 => ?_
  obtain ⟨k, ek, qz⟩ := asB_wp q1
  subst ek
  cases r1
  refine ⟨k, rfl, ?_⟩
  cases k with
  | true =>
    rw [if_pos rfl] at qz ⊢
    exact qz _ H1 F1 U1 (.bl _)
  | false =>
    rw [if_neg Bool.false_ne_true] at qz ⊢
    exact ⟨ρ, b1, U1, R1, carry F1 qz⟩
theorem s_if (x : XO P Γ X W) {c a e : Expr} {p : Pos} {fc : FT} {fa fe : FE} (hc : PT X c (tEvT P W fc)) (ha : PE X a (tEv P W fa)) (he : PE X e (tEv P W fe)) :
    PE X (.IfExp c a e p) (tEv P W fun ρ => T.bind (fc ρ) fun k => if k = true then fa ρ else fe ρ) := by
  refine impE (pe_ifExp hc ha he) fun σ H Q q => ?_
  obtain ⟨ρ, b, U, R, q⟩ := q
  refine stepT U R q (fun _ _ e => e) fun k b1 H1 F1 U1 R1 q1 => ?_
  cases k with
  | true =>
    rw [if_pos rfl] at q1 ⊢
    exact ⟨ρ, b1, U1, R1, carry F1 q1⟩
  | false =>
    rw [if_neg Bool.false_ne_true] at q1 ⊢
    exact ⟨ρ, b1, U1, R1, carry F1 q1⟩
theorem s_tup (x : XO P Γ X W) {es : List Expr} {k : Nat} {p : Pos} {fs : FA} (h : PA X es (tEvA P W fs)) : PE X (.Tuple es k p) (tEv P W fun ρ => T.bind (fs ρ) fun ds => if ds.length ≤ big then .ret (.tuple ds) else .stuck) := by
  refine impE (pe_tup h) fun σ H Q q => ?_
  obtain ⟨ρ, b, U, R, q⟩ := q
  refine stepA U R q (fun _ _ e => e) fun ds b1 vs H1 F1 U1 r1 R1 q1 => ?_
  obtain ⟨hl, q1⟩ := ite_wp q1
  exact ⟨by rw [r1.length]; exact big_line hl, fun p hp => KQ.laidT (KQ.frm F1 q1) U1 hp r1⟩
theorem s_lst (x : XO P Γ X W) {es : List Expr} {p : Pos} {fs : FA} (h : PA X es (tEvA P W fs)) : PE X (.List es p) (tEv P W fun ρ => T.bind (fs ρ) fun ds => if ds.length ≤ big then .ret (.list ds) else .stuck) := by
  refine impE (pe_lst h) fun σ H Q q => ?_
  obtain ⟨ρ, b, U, R, q⟩ := q
  refine stepA U R q (fun _ _ e => e) fun ds b1 vs H1 F1 U1 r1 R1 q1 => ?_
  obtain ⟨hl, q1⟩ := ite_wp q1
  exact ⟨by rw [r1.length]; exact big_line hl, fun p hp => KQ.laidL (KQ.frm F1 q1) U1 hp r1⟩
theorem s_emp (x : XO P Γ X W) {p : Pos} : PE X (.Dict [] [] p) (tEv P W fun _ => .ret (.dict [])) := by
  refine impE pe_dnewK fun σ H Q q => ?_
  obtain ⟨ρ, b, U, R, q⟩ := q
  exact fun p hp => q _ _ (Frm.new hp) (U.new hp nd_emp) (.emp upd_same)
theorem s_ix (x : XO P Γ X W) {a c : Expr} {p : Pos} {fa fc : FE} (hs : isSlice c = false) (ha : PE X a (tEv P W fa)) (hc : PE X c (tEv P W fc)) : PE X (.Subscript a c p) (tEv P W fun ρ => T.bind (fa ρ) fun x => T.bind (fc ρ) fun y => opI x y) := by
  refine impE (pe_ix (ok_opI x.hK) ha hc (plain_ix hs)) fun σ H Q q => ?_
  obtain ⟨ρ, b, U, R, q⟩ := q
  refine stepE U R q (fun _ _ e => e) fun d b1 v H1 F1 U1 r1 R1 q1 => ?_
  refine stepE U1 R1 q1 (fun _ _ e => e.frm F1) fun e b2 w H2 F2 U2 r2 R2 q2 => ?_
  exact ⟨d, e, b2, U2, r1.frm F2, r2, noErr (carry (F1.trans F2) q2)⟩
theorem s_sl (x : XO P Γ X W) {a : Expr} {lo hi : Option Expr} {p p2 : Pos} {fa : FE} {fl fh : En → T (Option Int)} (ha : PE X a (tEv P W fa)) (hl : PO X lo (tEvO P W fl)) (hh : PO X hi (tEvO P W fh)) :
    PE X (.Subscript a (.Slice lo hi none p2) p) (tEv P W fun ρ => T.bind (fa ρ) fun x => T.bind (fl ρ) fun l => T.bind (fh ρ) fun h => opS x l h) := by
  refine impE (pe_slice (ok_opS x.hK) ha hl hh) fun σ H Q q => ?_
  obtain ⟨ρ, b, U, R, q⟩ := q
  refine stepE U R q (fun _ _ e => e) fun d b1 v H1 F1 U1 r1 R1 q1 => ?_
  refine ⟨ρ, b1, U1, R1, T.wp_mono (T.wp_bind.mp q1) (fun l c _ q2 H2 F2 U2 => ?_) fun _ _ _ e => e.frm F1⟩
  refine ⟨ρ, c, U2, R1.frm F2, T.wp_mono (T.wp_bind.mp q2) (fun h c3 _ q3 H3 F3 U3 => ?_) fun _ _ _ e => e.frm (F1.trans F2)⟩
  exact ⟨d, c3, U3, (r1.frm F2).frm F3, noErr (carry ((F1.trans F2).trans F3) q3)⟩
end
end Pv

-- Pv6
set_option Elab.async false
set_option linter.all false
set_option maxRecDepth 100000
set_option maxHeartbeats 4000000
namespace Pv
open PySem L2
section
variable {P : Pa} {Γ : Ga} {X : Cx} {W : WX}
theorem s_nilA : PA X [] (tEvA P W fun _ => .ret []) := by
  refine impA pa_nil fun σ H Q q => ?_
  obtain ⟨ρ, b, U, R, q⟩ := q
  exact q [] H (Frm.refl H) U .nil
theorem s_consA {e : Expr} {es : List Expr} {fe : FE} {fr : FA} (hs : isStar e = false) (he : PE X e (tEv P W fe)) (hr : PA X es (tEvA P W fr)) :
    PA X (e :: es) (tEvA P W fun ρ => T.bind (fe ρ) fun x => T.bind (fr ρ) fun ys => .ret (x :: ys)) := by
  refine impA (pa_cons he hr (star_cons hs)) fun σ H Q q => ?_
  obtain ⟨ρ, b, U, R, q⟩ := q
  refine stepE U R q (fun _ _ e => e) fun d b1 v H1 F1 U1 r1 R1 q1 => ?_
  refine stepA U1 R1 q1 (fun _ _ e => e.frm F1) fun ds b2 vs H2 F2 U2 r2 R2 q2 => ?_
  exact q2 _ H2 (F1.trans F2) U2 (.cons (r1.frm F2) r2)
theorem s_starA (x : XO P Γ X W) {e : Expr} {p : Pos} {es : List Expr} {fe : FE} {fr : FA} (he : PE X e (tEv P W fe)) (hr : PA X es (tEvA P W fr)) :
    PA X (.Starred e p :: es) (tEvA P W fun ρ => T.bind (fe ρ) fun x => T.bind (unstar x) fun xs => T.bind (fr ρ) fun ys => .ret (xs ++ ys)) := by
  have hK := x.hK
  refine impA (StX.pa_star he hr) fun σ H Q q => ?_
  obtain ⟨ρ, b, U, R, q⟩ := q
  refine stepE U R q (fun _ _ e => e) fun d b1 v H1 F1 U1 r1 R1 q1 => ?_
  cases r1 with
  | @lst a vs ds h1 k1 =>
    rw [hK] at h1
    refine ⟨a, vs, rfl, .inr h1, ?_⟩
    refine stepA U1 R1 q1 (fun _ _ e => e.frm F1) fun es' b2 ws H2 F2 U2 r2 R2 q2 => ?_
    exact q2 _ H2 (F1.trans F2) U2 ((k1.frm F2).append r2)
  | @tup a vs ds h1 k1 =>
    rw [hK] at h1
    refine ⟨a, vs, rfl, .inl h1, ?_⟩
    refine stepA U1 R1 q1 (fun _ _ e => e.frm F1) fun es' b2 ws H2 F2 U2 r2 R2 q2 => ?_
    exact q2 _ H2 (F1.trans F2) U2 ((k1.frm F2).append r2)
  | _ => exact q1.elim
theorem s_isi (x : XO P Γ X W) {a : Expr} {c : Str} {p p1 p2 : Pos} {fa : FE} (hg : glob Γ "isinstance" = true) (hc : glob Γ c = true) (hi : c ∈ isiNames) (hs : isStar a = false) (ha : PE X a (tEv P W fa)) :
    PE X (.Call (.Name "isinstance" p1) [a, .Name c p2] [] p) (tEv P W fun ρ => T.bind (fa ρ) fun x => isiD (tyName c) x) := by
  obtain ⟨g1, g2⟩ := glob_of x hg
  obtain ⟨g3, g4⟩ := glob_of x hc
  have hm := x.blt "isinstance" (by decide)
  have key : ∃ t : String, bootBuiltins c = some (.type t) ∧ t = tyName c ∧ X.mg c = none ∧ c ≠ "__name__" := by
    simp only [isiNames, List.mem_cons, List.not_mem_nil, or_false] at hi
    rcases hi with rfl | rfl | rfl | rfl | rfl | rfl
    · exact ⟨"int", by decide +kernel, by decide +kernel, x.blt _ (by decide), by decide⟩
    · exact ⟨"str", by decide +kernel, by decide +kernel, x.blt _ (by decide), by decide⟩
    · exact ⟨"bool", by decide +kernel, by decide +kernel, x.blt _ (by decide), by decide⟩
    · exact ⟨"tuple", by decide +kernel, by decide +kernel, x.blt _ (by decide), by decide⟩
    · exact ⟨"list", by decide +kernel, by decide +kernel, x.blt _ (by decide), by decide⟩
    · exact ⟨"dict", by decide +kernel, by decide +kernel, x.blt _ (by decide), by decide⟩
  obtain ⟨t, h1, rfl, h3, h4⟩ := key
  refine impE (pe_callB (ok_isi x.hK (tyName c)) g1 hm (by decide +kernel) (pa_cons ha (pa_cons (pe_bltn (v := .ty (tyName c)) g3 h3 h1 rfl h4 g4) pa_nil (by rfl)) (star_cons hs)) (by decide) g2 (star_cons hs) (star_any (by rfl))) fun σ H Q q => ?_
  obtain ⟨ρ, b, U, R, q⟩ := q
  refine stepE U R q (fun _ _ e => e) fun d b1 v H1 F1 U1 r1 R1 q1 => ?_
  exact ⟨v, d, b1, rfl, U1, r1, noErr (carry F1 q1)⟩
theorem s_call (x : XO P Γ X W) {f : Str} {i : FnI} {e : Expr} {es : List Expr} {p pos : Pos} {fs : FA} (hg : glob Γ f = true) (hi : Γ.fns.lookup f = some i) (h0 : isStar e = false) (hs : es.all (fun e => !isStar e) = true) (ha : PA X (e :: es) (tEvA P W fs)) :
    PE X (.Call (.Name f p) (e :: es) [] pos) (tEv P W fun ρ => T.bind (fs ρ) fun ds => if ds.length = i.n then i.m ds else .stuck) := by
  obtain ⟨g1, g2⟩ := glob_of x hg
  obtain ⟨a, hm, hk, run⟩ := x.fns f i hi
  refine ⟨fun pins s σ H Q I q => ?_⟩
  obtain ⟨ρ, b, U, R, q⟩ := q
  refine wpAny_Call_Name_kw (ld_glob I g1 hm ?_ g2)
  have go := ha.run pos pins s σ H (fun vs H1 => spT P i vs H1 Q (WE W σ)) I (stepA U R q (fun _ _ e => e) fun ds b1 vs H1 F1 U1 r1 R1 q1 => by
    obtain ⟨hl, q1⟩ := ite_wp q1
    exact ⟨by rw [r1.length, hl], ds, b1, U1, r1, carry F1 q1⟩)
  refine PySem.W.callWith_K (h₀ := X.base) I.ok.mod.kin hk (thn go fun us s1 hh => ?_) (star_cons h0) (star_any hs)
  obtain ⟨vs, H1, I1, r1, q1⟩ := hh
  exact ⟨I1.kIn, run pins σ H1 s1 Q us vs I1 r1 q1⟩
theorem s_bltF (x : XO P Γ X W) {f : Str} {id : String} {m : FnD} {e : Expr} {es : List Expr} {p pos : Pos} {fs : FA} (hg : glob Γ f = true) (hb : f ∈ bltNames) (hv : bootBuiltins f = some (.builtin id)) (hn : f ≠ "__name__") (hm : CallR X (.builtin id) (DCall P m)) (h0 : isStar e = false)
    (hs : es.all (fun e => !isStar e) = true) (ha : PA X (e :: es) (tEvA P W fs)) : PE X (.Call (.Name f p) (e :: es) [] pos) (tEv P W fun ρ => T.bind (fs ρ) m) := by
  obtain ⟨g1, g2⟩ := glob_of x hg
  refine impE (pe_callB hm g1 (x.blt f hb) hv ha hn g2 (star_cons h0) (star_any hs)) fun σ H Q q => ?_
  obtain ⟨ρ, b, U, R, q⟩ := q
  refine stepA U R q (fun _ _ e => e) fun ds b1 vs H1 F1 U1 r1 R1 q1 => ?_
  exact ⟨ds, b1, U1, r1, noErr (carry F1 q1)⟩
theorem s_bltT (x : XO P Γ X W) {f : Str} {id : String} {m : FnD} {e : Expr} {es : List Expr} {p pos : Pos} {fs : FA} (hg : glob Γ f = true) (hb : f ∈ bltNames) (hv : bootBuiltins f = some (.type id)) (hn : f ≠ "__name__") (hm : CallR X (.type id) (DCall P m)) (h0 : isStar e = false)
    (hs : es.all (fun e => !isStar e) = true) (ha : PA X (e :: es) (tEvA P W fs)) : PE X (.Call (.Name f p) (e :: es) [] pos) (tEv P W fun ρ => T.bind (fs ρ) m) := by
  obtain ⟨g1, g2⟩ := glob_of x hg
  refine impE (pe_callTy hm g1 (x.blt f hb) hv ha hn g2 (star_cons h0) (star_any hs)) fun σ H Q q => ?_
  obtain ⟨ρ, b, U, R, q⟩ := q
  refine stepA U R q (fun _ _ e => e) fun ds b1 vs H1 F1 U1 r1 R1 q1 => ?_
  exact ⟨ds, b1, U1, r1, noErr (carry F1 q1)⟩
theorem s_truth (x : XO P Γ X W) {e : Expr} {fe : FE} (hp : plainT e = true) (he : PE X e (tEv P W fe)) : PT X e (tEvT P W fun ρ => T.bind (fe ρ) truD) := by
  have hK := x.hK
  refine impT (pt_truth he (plain_true hp)) fun σ H Q q => ?_
  obtain ⟨ρ, b, U, R, q⟩ := q
  refine stepE U R q (fun _ _ e => e) fun d b1 v H1 F1 U1 r1 R1 q1 => ?_
  cases r1 with
  | non => exact ⟨false, rfl, q1 H1 F1 U1⟩
  | bl c => exact ⟨c, rfl, q1 H1 F1 U1⟩
  | int i => exact ⟨_, rfl, q1 H1 F1 U1⟩
  | str y =>
    obtain ⟨hz, q1⟩ := ite_wp q1
    exact ⟨_, ⟨big_line hz, rfl⟩, q1 H1 F1 U1⟩
  | @lst a vs ds h1 k1 =>
    rw [hK] at h1
    have e : (!vs.isEmpty) = !ds.isEmpty := by cases k1 <;> rfl
    exact ⟨_, .inl ⟨vs, h1, rfl⟩, by rw [e]; exact q1 H1 F1 U1⟩
  | @tup a vs ds h1 k1 =>
    rw [hK] at h1
    have e : (!vs.isEmpty) = !ds.isEmpty := by cases k1 <;> rfl
    exact ⟨_, .inr (.inl ⟨vs, h1, rfl⟩), by rw [e]; exact q1 H1 F1 U1⟩
  | _ => exact q1.elim
theorem s_notT {a : Expr} {p : Pos} {fa : FT} (ha : PT X a (tEvT P W fa)) : PT X (.UnaryOp .Not a p) (tEvT P W fun ρ => T.bind (fa ρ) fun c => .ret (!c)) := by
  refine impT (pt_not ha) fun σ H Q q => ?_
  obtain ⟨ρ, b, U, R, q⟩ := q
  exact stepT U R q (fun _ _ e => e) fun k b1 H1 F1 U1 R1 q1 => q1 H1 F1 U1
theorem impW {e : Expr} {t t' : TT} (h : PW X e t) (k : ∀ σ H Q, t' σ H Q → t σ H Q) : PW X e t' := ⟨fun wh pins s σ H Q I q => h.run wh pins s σ H Q I (k σ H Q q)⟩
theorem carryT {t : T Bool} {H H1 : Hp} {E : XK} {b : Nat} {Q : Bool → Hp → Prop} (F1 : Frm H H1) (h : T.wp t b (fun c b' => ∀ H', Frm H H' → Bud P b' H' → Q c H') (KW P H E)) : T.wp t b (fun c b' => ∀ H', Frm H1 H' → Bud P b' H' → Q c H') (KW P H1 E) :=
  T.wp_mono h (fun _ _ _ q H' F' U' => q H' (F1.trans F') U') fun _ _ _ q => q.frm F1
theorem s_andW {a c : Expr} {r : List Expr} {p : Pos} {fa fc : FT} (ha : PT X a (tEvT P W fa)) (hc : PW X (.BoolOp .And (c :: r) p) (tEvT P W fc)) :
    PW X (.BoolOp .And (a :: c :: r) p) (tEvT P W fun ρ => T.bind (fa ρ) fun k => if k = true then fc ρ else .ret false) := by
  refine impW (pw_and ha hc) fun σ H Q q => ?_
  obtain ⟨ρ, b, U, R, q⟩ := q
  refine stepT U R q (fun _ _ e => e) fun k b1 H1 F1 U1 R1 q1 => ?_
  cases k with
  | false =>
    rw [if_neg Bool.false_ne_true] at q1 ⊢
    exact q1 H1 F1 U1
  | true =>
    rw [if_pos rfl] at q1 ⊢
    exact ⟨ρ, b1, U1, R1, carryT F1 q1⟩
theorem s_orW {a c : Expr} {r : List Expr} {p : Pos} {fa fc : FT} (ha : PT X a (tEvT P W fa)) (hc : PW X (.BoolOp .Or (c :: r) p) (tEvT P W fc)) :
    PW X (.BoolOp .Or (a :: c :: r) p) (tEvT P W fun ρ => T.bind (fa ρ) fun k => if k = true then .ret true else fc ρ) := by
  refine impW (pw_or ha hc) fun σ H Q q => ?_
  obtain ⟨ρ, b, U, R, q⟩ := q
  refine stepT U R q (fun _ _ e => e) fun k b1 H1 F1 U1 R1 q1 => ?_
  cases k with
  | true =>
    rw [if_pos rfl] at q1 ⊢
    exact q1 H1 F1 U1
  | false =>
    rw [if_neg Bool.false_ne_true] at q1 ⊢
    exact ⟨ρ, b1, U1, R1, carryT F1 q1⟩
theorem s_joined {es : List Expr} {fs : List FE} {v w : Expr} {p : Pos} (h : PJ X (v :: w :: es) (fs.map (tEv P W))) : PE X (.JoinedStr (v :: w :: es) p) (tEv P W fun ρ => joinD fs Str.empty ρ) := by
  refine impE (pe_joined h) fun σ H Q q => ?_
  obtain ⟨ρ, b, U, R, q⟩ := q
  have core : ∀ (fs : List FE) (acc : Str) (b : Nat) (H1 : Hp), Frm H H1 → Bud P b H1 → Ren P H1 σ ρ → T.wp (joinD fs acc ρ) b (KQ P H Q) (KW P H (WE W σ)) → tJs (fs.map (tEv P W)) acc σ H1 fun out H1 => Q (.str out) H1 := by
    intro fs
    induction fs with
    | nil => intro acc b H1 F1 U1 R1 q; exact q _ H1 F1 U1 (.str _)
    | cons f fs ih =>
      intro acc b H1 F1 U1 R1 q
      refine stepE U1 R1 q (fun _ _ e => e.frm F1) fun d b2 v H2 F2 U2 r2 R2 q2 => ?_
      cases r2 with
      | str y =>
        obtain ⟨hz, q2⟩ := ite_wp q2
        exact ⟨y, rfl, big_line hz, ih (acc ++ y) b2 H2 (F1.trans F2) U2 R2 q2⟩
      | _ => exact q2.elim
  exact core fs Str.empty b H (Frm.refl H) U R q
theorem s_fmt {e : Expr} {p : Pos} {fe : FE} (he : PE X e (tEv P W fe)) : PE X (.FormattedValue e (-1) none p) (tEv P W fun ρ => T.bind (fe ρ) fmtD) := by
  refine impE (pe_fmt he) fun σ H Q q => ?_
  obtain ⟨ρ, b, U, R, q⟩ := q
  refine stepE U R q (fun _ _ e => e) fun d b2 v H2 F2 U2 r2 R2 q2 => ?_
  cases r2 with
  | str y =>
    obtain ⟨hz, q2⟩ := ite_wp q2
    exact .inl ⟨y, rfl, big_line hz, q2 _ H2 F2 U2 (.str y)⟩
  | int i =>
    obtain ⟨hz, q2⟩ := ite_wp q2
    exact .inr ⟨i, rfl, hz, q2 _ H2 F2 U2 (.str _)⟩
  | _ => exact q2.elim
theorem s_none : PO X none (tEvO P W fun _ => .ret none) := by
  refine ⟨fun pins s σ H Q I q => ?_⟩
  obtain ⟨ρ, b, U, R, q⟩ := q
  exact po_none.run pins s σ H Q I (q H (Frm.refl H) U)
theorem s_some {e : Expr} {fe : FE} (he : PE X e (tEv P W fe)) : PO X (some e) (tEvO P W fun ρ => T.bind (fe ρ) fun x => T.bind (asI x) fun i => .ret (some i)) := by
  refine ⟨fun pins s σ H Q I q => ?_⟩
  obtain ⟨ρ, b, U, R, q⟩ := q
  refine (po_some he).run pins s σ H Q I (stepE U R q (fun _ _ e => e) fun d b2 v H2 F2 U2 r2 R2 q2 => ?_)
  obtain ⟨i, ei, qi⟩ := asI_wp q2
  subst ei
  cases r2
  exact ⟨i, rfl, qi H2 F2 U2⟩
/-- a text's method of one argument -/
theorem s_m1 (x : XO P Γ X W) {m : Str} {id : String} {g : Str → Str → T PyData} {r : V → List V → Hp → VK → Prop} {o a : Expr} {ap p : Pos} {fo fa : FE} (slot : Slot "str" m id) (ty : typeOf (.builtin id) = pure (.type "method_descriptor")) (rule : MtR X id r)
    (hr : ∀ (y z : Str) (b : Nat) (H : Hp) (Q : VK), Bud P b H → T.wp (g y z) b (KQ P H Q) (fun _ _ => True) → r (.str y) [.str z] H Q) (hb : baseOk o = true) (hs : isStar a = false) (hl : (ap.endLine == p.line) = true) (ho : PE X o (tEv P W fo)) (ha : PE X a (tEv P W fa)) :
    PE X (.Call (.Attribute o m ap) [a] [] p) (tEv P W fun ρ => T.bind (fo ρ) fun x => T.bind (asS x) fun z => T.bind (fa ρ) fun y => onS1 g z y) := by
  refine impE (pe_m1 slot ty rule ho ha (star_cons hs) (base_ok hb) hl) fun σ H Q q => ?_
  obtain ⟨ρ, b, U, R, q⟩ := q
  refine stepE U R q (fun _ _ e => e) fun d b1 v H1 F1 U1 r1 R1 q1 => ?_
  cases r1 with
  | str y =>
    refine ⟨⟨y, rfl⟩, ?_⟩
    refine stepE U1 R1 q1 (fun _ _ e => e.frm F1) fun e b2 w H2 F2 U2 r2 R2 q2 => ?_
    cases r2 with
    | str z => exact hr y z b2 H2 Q U2 (noErr (carry (F1.trans F2) q2))
    | _ => exact q2.elim
  | _ => exact q1.elim
theorem s_mth (x : XO P Γ X W) {m : Str} {i : String × (Str → Str → T PyData)} {o a : Expr} {ap p : Pos} {fo fa : FE} (hm : mthS1 m = some i) (hb : baseOk o = true) (hs : isStar a = false) (hl : (ap.endLine == p.line) = true) (ho : PE X o (tEv P W fo)) (ha : PE X a (tEv P W fa)) :
    PE X (.Call (.Attribute o m ap) [a] [] p) (tEv P W fun ρ => T.bind (fo ρ) fun x => T.bind (asS x) fun z => T.bind (fa ρ) fun y => onS1 i.2 z y) := by
  unfold mthS1 at hm
  split at hm
  · rename_i e; cases hm; subst e
    refine s_m1 x PySem.F.slot_str_strip PySem.F.type_str_strip mt_stripChars (fun y z b H Q U q => ?_) hb hs hl ho ha
    obtain ⟨hz, q⟩ := ite_wp q
    exact ⟨y, z, rfl, rfl, big_line hz, KQ.str q U⟩
  split at hm
  · rename_i e; cases hm; subst e
    refine s_m1 x PySem.F.slot_str_rstrip PySem.F.type_str_rstrip mt_rstripChars (fun y z b H Q U q => ?_) hb hs hl ho ha
    obtain ⟨hz, q⟩ := ite_wp q
    exact ⟨y, z, rfl, rfl, big_line hz, KQ.str q U⟩
  split at hm
  · rename_i e; cases hm; subst e
    refine s_m1 x PySem.F.slot_str_lstrip PySem.F.type_str_lstrip mt_lstripChars (fun y z b H Q U q => ?_) hb hs hl ho ha
    obtain ⟨hz, q⟩ := ite_wp q
    exact ⟨y, z, rfl, rfl, big_line hz, KQ.str q U⟩
  split at hm
  · rename_i e; cases hm; subst e
    refine s_m1 x PySem.F.slot_str_index PySem.F.type_str_index mt_sindex (fun y z b H Q U q => ?_) hb hs hl ho ha
    dsimp only at q
    cases ho' : Builtin.Str.occurrences y z 0 y.length 1 with
    | nil => rw [ho'] at q; exact q.elim
    | cons j r => rw [ho'] at q; exact ⟨y, z, j, r, rfl, rfl, ho', KQ.int q U⟩
  split at hm
  · rename_i e; cases hm; subst e
    refine s_m1 x PySem.F.slot_str_partition PySem.F.type_str_partition mt_partition (fun y z b H Q U q => ?_) hb hs hl ho ha
    obtain ⟨hz, q⟩ := ite_wp q
    exact ⟨y, z, rfl, rfl, hz.1, big_line hz.2, fun p hp => KQ.laidT q U hp (.cons (.str _) (.cons (.str _) (.cons (.str _) .nil)))⟩
  · cases hm
end
end Pv

-- Pv6b
set_option Elab.async false
set_option linter.all false
set_option maxRecDepth 100000
set_option maxHeartbeats 8000000
namespace Pv
open PySem L2
/-! ## what a loop goes over -/
/-- the iterator J gives these items, from the heap H on -/
structure ItD (P : Pa) (J : It) (H : Hp) (ds : List PyData) : Prop where
  go : ∀ i H1, Frm H H1 → i < ds.length → J.go i H1
  yld : ∀ i H1 x H2, Frm H H1 → J.yld i H1 x H2 → ∀ d, ds[i]? = some d → Frm H1 H2 ∧ (∀ b, Bud P b H1 → Bud P b H2) ∧ Rp P.K H2 x d
  stop : ∀ i H1, Frm H H1 → ds.length ≤ i → J.stop i H1
section
variable {P : Pa} {H : Hp}
theorem SqL.same {K : PySem.W.Frag} {H : Hp} {a : Addr} {xs ys : List V} (h : SqL K H a xs) (k : SqL K H a ys) (nk : ∀ o, H a = some o → K.lookup a = none) : xs = ys := by
  rcases h with (h | ⟨o, h⟩) | ⟨o, its, n, h1, h2, h3, h4, h5, h6⟩
  · rcases k with (k | ⟨o, k⟩) | ⟨o, its, n, k1, _⟩
    · rw [h] at k; cases k; rfl
    · rw [h] at k; cases k
    · rw [nk _ h] at k1; cases k1
  · rcases k with (k | ⟨o, k⟩) | ⟨o, its, n, k1, _⟩
    · rw [h] at k; cases k
    · rw [h] at k; cases k; rfl
    · rw [nk _ h] at k1; cases k1
  · rcases k with (k | ⟨o, k⟩) | ⟨o', its', n', k1, k2, k3, k4, k5, k6⟩
    · rw [nk _ k] at h1; cases h1
    · rw [nk _ k] at h1; cases h1
    · rw [h1] at k1; cases k1
      rw [h4] at k4; cases k4
      exact Vals.inj h6 k6
def enumD : List PyData → Nat → List PyData
  | [], _ => []
  | d :: r, k => .tuple [.int (k : Nat), d] :: enumD r (k + 1)
theorem enum_len : ∀ (ds : List PyData) (k : Nat), (enumD ds k).length = ds.length
  | [], _ => rfl
  | _ :: r, k => by simp only [enumD, List.length_cons, enum_len r]
theorem enum_get : ∀ (ds : List PyData) (k i : Nat) (e : PyData), (enumD ds k)[i]? = some e → ∃ d, ds[i]? = some d ∧ e = .tuple [.int ((k + i : Nat)), d]
  | [], _, _, _, h => by simp [enumD] at h
  | d :: r, k, 0, e, h => ⟨d, rfl, by simpa [enumD] using h.symm⟩
  | d :: r, k, i + 1, e, h => by
    obtain ⟨d', h1, h2⟩ := enum_get r (k + 1) i e (by simpa [enumD] using h)
    exact ⟨d', by simpa using h1, by rw [h2]; congr 3; omega⟩
theorem it_list {a : Addr} {vs : List V} {ds : List PyData} (h : SqL P.K H a vs) (r : RpA P.K H vs ds) : ItD P (Itl P.K a) H ds where
  go := fun i H1 F hi => by
    have hi' : i < vs.length := by rw [r.length]; exact hi
    exact ⟨vs, vs[i], F.l h, by simp [hi']⟩
  yld := fun i H1 x H2 F y d hd => by
    obtain ⟨rfl, y⟩ := y
    obtain ⟨v, hv, rv⟩ := r.get hd
    have e := y vs (F.l h)
    rw [hv] at e
    cases e
    exact ⟨Frm.refl _, fun b U => U, rv.frm F⟩
  stop := fun i H1 F hi => ⟨vs, F.l h, by rw [r.length]; exact hi⟩
theorem it_tup {a : Addr} {vs : List V} {ds : List PyData} (h : SqT P.K H a vs) (r : RpA P.K H vs ds) : ItD P (Itt P.K a) H ds where
  go := fun i H1 F hi => by
    have hi' : i < vs.length := by rw [r.length]; exact hi
    exact ⟨vs, vs[i], F.t h, by simp [hi']⟩
  yld := fun i H1 x H2 F y d hd => by
    obtain ⟨rfl, y⟩ := y
    obtain ⟨v, hv, rv⟩ := r.get hd
    have e := y vs (F.t h)
    rw [hv] at e
    cases e
    exact ⟨Frm.refl _, fun b U => U, rv.frm F⟩
  stop := fun i H1 F hi => ⟨vs, F.t h, by rw [r.length]; exact hi⟩
theorem it_str {z : Str} : ItD P (Its z) H (z.cps.toList.map fun c => .str ⟨#[c]⟩) where
  go := fun i H1 F hi => by
    show i < z.cps.size
    simpa using hi
  yld := fun i H1 x H2 F y d hd => by
    obtain ⟨rfl, c, hc, rfl⟩ := y
    rw [List.getElem?_map, Array.getElem?_toList, hc] at hd
    cases hd
    exact ⟨Frm.refl _, fun b U => U, .str _⟩
  stop := fun i H1 F hi => by
    show z.cps.size ≤ i
    simpa using hi
theorem it_range {lo : Int} {n : Nat} : ItD P (Itr lo n) H ((List.range n).map fun k => .int (lo + (k : Nat))) where
  go := fun i H1 F hi => by
    show i < n
    simpa using hi
  yld := fun i H1 x H2 F y d hd => by
    obtain ⟨rfl, rfl⟩ := y
    rw [List.getElem?_map] at hd
    cases e : (List.range n)[i]? with
    | none => rw [e] at hd; cases hd
    | some k =>
      rw [e] at hd
      cases hd
      obtain ⟨hk, ek⟩ := List.getElem?_eq_some_iff.mp e
      rw [List.getElem_range] at ek
      subst ek
      exact ⟨Frm.refl _, fun b U => U, .int _⟩
  stop := fun i H1 F hi => by
    show n ≤ i
    simpa using hi
theorem it_enum {a : Addr} {vs : List V} {ds : List PyData} (h : SqL P.K H a vs) (r : RpA P.K H vs ds) : ItD P (Ite P.K a) H (enumD ds 0) where
  go := fun i H1 F hi => by
    rw [enum_len] at hi
    have hi' : i < vs.length := by rw [r.length]; exact hi
    exact ⟨vs, vs[i], F.l h, by simp [hi']⟩
  yld := fun i H1 x H2 F y e he => by
    obtain ⟨d, hd, rfl⟩ := enum_get ds 0 i e he
    obtain ⟨T, w, rfl, hn, rfl, y⟩ := y
    obtain ⟨v, hv, rv⟩ := r.get hd
    have e := y vs (F.l h)
    rw [hv] at e
    cases e
    refine ⟨Frm.new hn, fun b U => U.new hn nd_tup, ?_⟩
    rw [Nat.zero_add]
    exact .tup (SqT.of upd_same) (.cons (.int _) (.cons ((rv.frm F).frm (Frm.new hn)) .nil))
  stop := fun i H1 F hi => ⟨vs, F.l h, by rw [enum_len] at hi; rw [r.length]; exact hi⟩
end
/-- a list, a tuple, a text -/
def iAny (K : PySem.W.Frag) (te : TE) : TI := fun σ H R => te σ H fun x H1 => (∃ a xs, x = .ref a ∧ SqL K H1 a xs ∧ R (Itl K a) H1) ∨ (∃ a xs, x = .ref a ∧ SqT K H1 a xs ∧ R (Itt K a) H1) ∨ ∃ z, x = .str z ∧ R (Its z) H1
theorem pi_any {X : Cx} {tg e : Expr} {te : TE} (he : PE X e te) : PI X tg e (iAny X.K te) := by
  refine ⟨fun pins s σ H R I h => thn (he.run pins s σ H _ I h) fun v s1 hv => ?_⟩
  obtain ⟨y, H1, I1, r1, q⟩ := hv
  rcases q with ⟨a, xs, rfl, hq, q⟩ | ⟨a, xs, rfl, hq, q⟩ | ⟨z, rfl, q⟩
  · cases r1
    obtain ⟨its, rv, p, hz⟩ := I1.list hq
    exact wpAny_pyIter_list p.isList (pi_one (tk := s1.toks) I1 _ (turn_list a _) ⟨_, Heap.get?_push_size _ rfl, rfl, rfl⟩ q)
  · cases r1
    obtain ⟨its, rv, p, hz⟩ := I1.tuple hq
    exact wpAny_pyIter_tuple (show s1.heap.IsTuple a its.toArray from p) (pi_one (tk := s1.toks) I1 _ (turn_tuple a _) ⟨_, Heap.get?_push_size _ rfl, rfl, rfl⟩ q)
  · obtain ⟨t, rfl⟩ := r1
    cases ha : z.cps.all (· < 128)
    · exact wpAny_pyIter_wide ha (pi_one (tk := s1.toks) I1 _ (turn_str _ z t "str_iterator" (.inr rfl)) ⟨_, Heap.get?_push_size _ rfl, rfl, rfl⟩ q)
    · exact wpAny_pyIter_ascii ha (pi_one (tk := s1.toks) I1 _ (turn_str _ z t "str_ascii_iterator" (.inl rfl)) ⟨_, Heap.get?_push_size _ rfl, rfl, rfl⟩ q)
abbrev FI := En → T (List PyData)
def tEvI (P : Pa) (W : WX) (f : FI) : TI := fun σ H R => ∃ ρ b, Bud P b H ∧ Ren P H σ ρ ∧ T.wp (f ρ) b (fun ds b' => ∀ J H', Frm H H' → Bud P b' H' → ItD P J H' ds → R J H') (KW P H (WE W σ))
theorem impI {X : Cx} {tg e : Expr} {t t' : TI} (h : PI X tg e t) (k : ∀ σ H R, t' σ H R → t σ H R) : PI X tg e t' := ⟨fun pins s σ H R I q => h.run pins s σ H R I (k σ H R q)⟩
section
variable {P : Pa} {Γ : Ga} {X : Cx} {W : WX}
theorem s_any (x : XO P Γ X W) {tg e : Expr} {fe : FE} (he : PE X e (tEv P W fe)) : PI X tg e (tEvI P W fun ρ => T.bind (fe ρ) itemsD) := by
  have hK := x.hK
  refine impI (pi_any he) fun σ H R q => ?_
  obtain ⟨ρ, b, U, Re, q⟩ := q
  refine stepE U Re q (fun _ _ e => e) fun d b1 v H1 F1 U1 r1 R1 q1 => ?_
  cases r1 with
  | @lst a vs ds h1 k1 => exact .inl ⟨a, vs, rfl, by rw [← hK]; exact h1, q1 _ H1 F1 U1 (by rw [← hK]; exact it_list h1 k1)⟩
  | @tup a vs ds h1 k1 => exact .inr (.inl ⟨a, vs, rfl, by rw [← hK]; exact h1, q1 _ H1 F1 U1 (by rw [← hK]; exact it_tup h1 k1)⟩)
  | str z => exact .inr (.inr ⟨z, rfl, q1 _ H1 F1 U1 it_str⟩)
  | _ => exact q1.elim
end
end Pv

-- Pv6c
set_option Elab.async false
set_option linter.all false
set_option maxRecDepth 100000
set_option maxHeartbeats 8000000
namespace Pv
open PySem L2
/-! ## list comprehensions whose items refer to nothing -/
theorem wipe_get (σ : St) (j : Nat) : ∀ vs : List Nat, (wipe σ vs)[j]? = if j ∈ vs ∧ j < σ.length then some none else σ[j]?
  | [] => by simp [wipe]
  | v :: vs => by
    show ((wipe σ vs).set v none)[j]? = _
    rw [List.getElem?_set, wipe_get σ j vs, wipe_length]
    by_cases hv : v = j
    · subst hv
      by_cases hl : v < σ.length
      · simp [hl]
      · simp [hl]
    · have hv' : ¬ j = v := fun e => hv e.symm
      simp [hv, hv']
theorem wipe_back {σ : St} {i : Nat} {v : Option V} {vs : List Nat} (h : i ∈ vs) : wipe ((wipe σ vs).set i v) vs = wipe σ vs := List.ext_getElem? fun j => by
  rw [wipe_get, wipe_get, List.length_set, wipe_length, List.getElem?_set, wipe_get]
  by_cases hj : j ∈ vs ∧ j < σ.length
  · rw [if_pos hj, if_pos hj]
  · rw [if_neg hj, if_neg hj]
    by_cases hi : i = j
    · subst hi
      have hl : ¬ i < σ.length := fun z => hj ⟨h, z⟩
      rw [if_pos rfl, if_neg (by rw [wipe_length]; exact hl)]
      rw [List.getElem?_eq_none (by omega)]
    · rw [if_neg hi]
theorem Rp.atom {K : PySem.W.Frag} {H H' : Hp} {v : V} {d : PyData} (h : atomD d = true) (r : Rp K H v d) : Rp K H' v d := by
  cases r with
  | non => exact .non
  | bl b => exact .bl b
  | int i => exact .int i
  | str x => exact .str x
  | _ => cases h
section
variable {P : Pa} {Γ : Ga} {X : Cx} {W : WX}
theorem Ren.wiped {H : Hp} {σ : St} {ρ : En} (R : Ren P H σ ρ) : ∀ {vs : List Nat}, (∀ i ∈ vs, ∀ q ∈ P.fz, q.1 ≠ i) → Ren P H (wipe σ vs) (wipeE ρ vs)
  | [], _ => R
  | v :: vs, nf => (Ren.wiped R fun i hi => nf i (List.mem_cons_of_mem _ hi)).unset (nf v List.mem_cons_self) none
/-- a list that is new since B grows -/
theorem grow_frm {B H : Hp} {D : Addr} {o : HO} (F : Frm B H) (n : B D = none) : Frm B (upd H D o) := fun a u e => by
  obtain ⟨u', e', k⟩ := F a u e
  exact ⟨u', by rw [upd_ne (ne_of_none e n)]; exact e', k⟩
theorem grow_bud {B H : Hp} {D : Addr} {acc ys : List V} {b c : Nat} (U1 : Bud P c B) (F : Frm B H) (n : B D = none) (U : Bud P b H) (h : H D = some (.lst acc)) : Bud P b (upd H D (.lst ys)) := by
  refine ⟨⟨U.1.1, fun a l c t e => ?_⟩, fun p hp => ?_, fun q hq => ?_, fun C hC => (U1.2.2.2 C hC).trans (grow_frm F n)⟩
  · by_cases ha : a = D
    · subst ha
      rw [upd_same] at e
      cases e
    · rw [upd_ne ha] at e
      exact U.1.2 a l c t e
  · obtain ⟨ps, h1, h2, h3⟩ := U.2.1 p hp
    have n1 : p.1 ≠ D := fun z => by
      rw [z, h] at h1
      cases h1
    refine ⟨ps, by rw [upd_ne n1]; exact h1, h2, fun pos cv hc => ?_⟩
    obtain ⟨c0, e1, e2⟩ := h3 pos cv hc
    have n2 : c0 ≠ D := fun z => by
      rw [z, h] at e2
      have e3 := Option.some.inj e2
      unfold LamX.CodeO at e3
      cases e3
    exact ⟨c0, e1, by rw [upd_ne n2]; exact e2⟩
  · obtain ⟨k1, k2, k3⟩ := U1.2.2.1 q hq
    have n1 : q.1 ≠ D := ne_of_none k1 n
    refine ⟨?_, k2, k3⟩
    rw [upd_ne n1]
    exact (U.2.2.1 q hq).1
theorem noRaise_wp {α : Type} {Q : α → Nat → Prop} {EE : Er → Nat → Prop} : ∀ {t : T α} {b : Nat}, T.wp (noRaise t) b Q EE → T.wp t b Q (fun _ _ => False)
  | .ret _, _, h => h
  | .err _, _, h => h.elim
  | .pick _ _, 0, h => h
  | .pick _ _, _ + 1, h => fun i h0 h1 => noRaise_wp (h i h0 h1)
  | .stuck, _, h => h.elim
abbrev WF : WX := fun _ _ _ _ => False
theorem fold_ok {e : Expr} {env : Env} (h : foldOk e = true) : ∀ x, foldedSetIterable e env x = pure x := by
  intro x
  cases e <;> first | rfl | simp [foldOk] at h
theorem own_ix {N : List Str} {sc : Scope} {y : Str} {i : Nat} (h : (lcOwn N sc).lookup y = some i) : (y, i) ∈ lcOwn N sc := by
  have : ∀ {l : List (Str × Nat)}, l.lookup y = some i → (y, i) ∈ l := by
    intro l
    induction l with
    | nil => intro h; cases h
    | cons p l ih =>
      obtain ⟨z, j⟩ := p
      intro h
      rw [List.lookup_cons] at h
      split at h
      · rename_i e
        cases h
        have e' : y = z := by simpa using e
        subst e'
        exact List.mem_cons_self
      · exact List.mem_cons_of_mem _ (ih h)
  exact this h
theorem own_get {N : List Str} {sc : Scope} {p : Str × Nat} (h : p ∈ lcOwn N sc) : N[p.2]? = some p.1 := by
  unfold lcOwn at h
  obtain ⟨q, _, hq⟩ := List.mem_filterMap.mp h
  obtain ⟨i, hi, e⟩ := Option.map_eq_some_iff.mp hq
  subst e
  obtain ⟨hl, e, _⟩ := List.idxOf?_eq_some_iff.mp hi
  rw [List.getElem?_eq_getElem hl]
  exact congrArg some (by simpa using e)
theorem s_lc (x : XO P Γ X W) (cm : Γ.calm = true) {elt iter : Expr} {ifs : List Expr} {scope : Scope} {y : Str} {py pos : Pos} {i : Nat} {fi : FE} {ft : FT} {fe : FE}
    (hf : foldOk iter = true) (hb : blkC Γ.N Γ.sc scope (lcOwn Γ.N scope) = true) (hl : (relS scope Γ.sc).names.lookup y = some .local) (nf : ∀ p ∈ lcOwn Γ.N scope, Γ.fz.contains p.1 = false) (hi : (lcOwn Γ.N scope).lookup y = some i)
    (ei : PE X iter (tEv P W fi)) (et : ∀ (s : Shared) (H : Hp) (C : Addr) (cl : List (Str × Addr)) (fp : List Addr), PTs (X.blk s H scope (compEnvC scope cl C X.env) fp) ifs (tEvT P WF ft)) (ee : ∀ (s : Shared) (H : Hp) (C : Addr) (cl : List (Str × Addr)) (fp : List Addr), PE (X.blk s H scope (compEnvC scope cl C X.env) fp) elt (tEv P WF fe)) :
    PE X (.ListComp elt [⟨.Name y py, iter, ifs, 0⟩] scope pos) (tEv P W fun ρ => T.bind (fi ρ) fun x => T.bind (itemsD x) fun ds => noRaise (lcR ft fe i (wipeE ρ ((lcOwn Γ.N scope).map (·.2))) ds [])) := by
  have mi := own_ix hi
  have ni : X.N[i]? = some y := by
    rw [x.hN]
    exact own_get mi
  have iv : i ∈ (lcOwn Γ.N scope).map (·.2) := List.mem_map.mpr ⟨_, mi, rfl⟩
  have nfz : ∀ j ∈ (lcOwn Γ.N scope).map (·.2), ∀ q ∈ P.fz, q.1 ≠ j := fun j hj q hq z => by
    obtain ⟨p, hp, rfl⟩ := List.mem_map.mp hj
    obtain ⟨z', k1, k2⟩ := x.fz q hq
    rw [z, own_get hp] at k1
    cases k1
    have := nf p hp
    rw [show Γ.fz.contains p.1 = true by simpa using k2] at this
    cases this
  have nd : X.N.Nodup := by
    rw [x.hN]
    exact x.nd
  have hK := x.hK
  have gn : ∀ (s : Shared) (H : Hp) (C : Addr) (cl : List (Str × Addr)) (fp : List Addr), PG (X.blk s H scope (compEnvC scope cl C X.env) fp) (.Name y py) (gName i) := fun s H C cl fp => by
    have hy : (relS scope X.env.scope).names.lookup y = some NameKind.local := by
      rw [x.hsc]
      exact hl
    exact pg_name nd ni (.inl hy) (.inr hy)
  refine impE (pe_lc (x.calm cm) nd (s_any (tg := .Name y py) x ei) (blkOk_by (by rw [x.hN, x.hsc]; exact hb)) gn et ee (fold_ok hf)) fun σ H Q q => ?_
  obtain ⟨ρ, b, U, R, q⟩ := q
  refine ⟨ρ, b, U, R, ?_⟩
  have q : T.wp (T.bind (T.bind (fi ρ) itemsD) fun ds => noRaise (lcR ft fe i (wipeE ρ ((lcOwn Γ.N scope).map (·.2))) ds [])) b (KQ P H Q) (KW P H (WE W σ)) := by
    rw [T.bind_assoc]
    exact q
  refine T.wp_mono (T.wp_bind.mp q) (fun ds b1 _ q1 J H1 F1 U1 itd => ?_) fun _ _ _ e => e
  have q2 := noRaise_wp q1
  intro D hD
  have R1 := (R.frm F1).wiped nfz
  refine ⟨fun t m H2 => m = ds.length - t ∧ t ≤ ds.length ∧ ∃ (acc : List V) (accD : List PyData) (b2 : Nat), Frm H1 H2 ∧ Bud P b2 H2 ∧ H2 D = some (.lst acc) ∧ (∀ H', RpA P.K H' acc accD) ∧ T.wp (lcR ft fe i (wipeE ρ ((lcOwn Γ.N scope).map (·.2))) (ds.drop t) accD) b2 (KQ P H Q) (fun _ _ => False),
    ⟨ds.length, by simp, Nat.zero_le _, [], [], b1, Frm.new hD, U1.new hD nd_lst, upd_same, fun _ => .nil, q2⟩, ?_⟩
  rintro t m H2 ⟨rfl, hle, acc, accD, b2, F2, U2, hDl, ra, w⟩
  by_cases hlt : t < ds.length
  · refine .inr ⟨itd.go t H2 F2 hlt, fun H' => t + 1 ≤ ds.length ∧ ∃ (acc : List V) (accD : List PyData) (b2 : Nat), Frm H1 H' ∧ Bud P b2 H' ∧ H' D = some (.lst acc) ∧ (∀ H'', RpA P.K H'' acc accD) ∧ T.wp (lcR ft fe i (wipeE ρ ((lcOwn Γ.N scope).map (·.2))) (ds.drop (t + 1)) accD) b2 (KQ P H Q) (fun _ _ => False),
      fun H' h => ⟨ds.length - (t + 1), by omega, rfl, h⟩, fun v H3 hy => ?_⟩
    obtain ⟨F3, U3, r3⟩ := itd.yld t H2 v H3 F2 hy ds[t] (by simp [hlt])
    rw [List.drop_eq_getElem_cons hlt] at w
    have F13 := F2.trans F3
    have R3 := (R1.frm F13).set (nfz i iv) r3
    refine ⟨wipe_back iv, ?_⟩
    refine stepT (U3 _ U2) R3 (show T.wp (T.bind (ft _) _) b2 _ _ from w) (fun _ _ e => e.elim) fun k b3 H4 F4 U4 R4 w4 => ?_
    have F14 := F13.trans F4
    cases k with
    | false =>
      rw [if_neg Bool.false_ne_true] at w4 ⊢
      exact ⟨hlt, acc, accD, b3, F14, U4, (F3.trans F4).lst hDl, ra, w4⟩
    | true =>
      rw [if_pos rfl] at w4 ⊢
      refine stepE U4 R4 w4 (fun _ _ e => e.elim) fun d b5 u H5 F5 U5 r5 R5 w5 => ?_
      have F15 := F14.trans F5
      have hD5 := ((F3.trans F4).trans F5).lst hDl
      obtain ⟨⟨h1, h2⟩, w5⟩ := ite_wp w5
      have hlen : acc.length < big := by
        rw [(ra H).length]
        exact h2
      refine ⟨acc, hD5, by rw [sizeLine_eq]; unfold big at hlen; omega, hlt, acc ++ [u], accD ++ [d], b5, grow_frm F15 hD, grow_bud U1 F15 hD U5 hD5, upd_same, fun H' => (ra H').append (.cons (r5.atom h1) .nil), w5⟩
  · refine .inl ⟨itd.stop t H2 F2 (by omega), ?_⟩
    rw [List.drop_eq_nil_of_le (by omega)] at w
    exact (show KQ P H Q (.list accD) b2 from w) _ H2 (F1.trans F2) U2 (.lst (.inl (.inl hDl)) (ra H2))
/-- the surroundings of the block -/
theorem blk_xo (x : XO P Γ X W) (cm : Γ.calm = true) (lc : Γ.lcOk = true) {scope : Scope} (s : Shared) (H : Hp) (C : Addr) (cl : List (Str × Addr)) (fp : List Addr) : XO P (blkGa Γ scope) (X.blk s H scope (compEnvC scope cl C X.env) fp) WF := by
  refine XB.up { hK := x.hK, hN := x.hN, hsc := ?_, nd := x.nd, calm := (fun _ => x.calm cm), fz := x.fz, u := x.u, con := x.con, fns := fun y i hi => ?_, blt := x.blt, grd := x.grd, fnB := (fun z => nomatch z), exA := (fun _ _ h => nomatch h), exI := (fun _ _ h => nomatch h), thk := (fun _ _ h => nomatch h) } rfl
  · show relS scope X.env.scope = relS scope Γ.sc
    rw [x.hsc]
  · obtain ⟨f, k1, k2, k3⟩ := x.fnB lc y i hi
    exact ⟨f, k1, k2, fun pins σ H1 s1 Q us vs I r h => k3 scope s H _ fp pins σ H1 s1 Q us vs I r h⟩
end
end Pv

-- Pv7
set_option Elab.async false
set_option linter.all false
set_option maxRecDepth 100000
set_option maxHeartbeats 8000000
namespace Pv
open PySem L2
section
variable {P : Pa} {Γ : Ga} {X : Cx} {W : WX}
theorem ok_bool {a b : Bool} (h : (a && b) = true) : a = true ∧ b = true := Bool.and_eq_true_iff.mp h
theorem nstar {e : Expr} (h : (!isStar e) = true) : isStar e = false := by simpa using h
theorem snd_A0 (x : XO P Γ X W) {n : Nat} (S : Snd P Γ X W n) {e : Expr} {r : List Expr} {f : FA} (h : (if isStar e then none else (cE Γ n e).bind fun fe => (cA Γ n r).bind fun fr => some fun ρ => T.bind (fe ρ) fun x => T.bind (fr ρ) fun ys => .ret (x :: ys)) = some f) : PA X (e :: r) (tEvA P W f) := by
  have h' := itN h
  obtain ⟨fe, he, h⟩ := bnd h'.2
  obtain ⟨fr, hr, h⟩ := bnd h
  cases h
  exact s_consA (by simpa using h'.1) (S.E _ _ he) (S.A _ _ hr)
theorem snd_A (x : XO P Γ X W) {n : Nat} (S : Snd P Γ X W n) : ∀ es f, cA Γ (n + 1) es = some f → PA X es (tEvA P W f) := by
  intro es f h
  cases es with
  | nil =>
    cases h
    exact s_nilA
  | cons e r =>
    cases e with
    | Starred e p =>
      obtain ⟨fe, he, h⟩ := bnd (show (cE Γ n e).bind _ = _ from h)
      obtain ⟨fr, hr, h⟩ := bnd h
      cases h
      exact s_starA x (S.E _ _ he) (S.A _ _ hr)
    | _ => exact snd_A0 x S h
theorem snd_O (x : XO P Γ X W) {n : Nat} (S : Snd P Γ X W n) : ∀ o f, cO Γ (n + 1) o = some f → PO X o (tEvO P W f) := by
  intro o f h
  cases o with
  | none => cases h; exact s_none
  | some e =>
    obtain ⟨fe, he, h⟩ := bnd (show (cE Γ n e).bind _ = _ from h)
    cases h
    exact s_some (S.E _ _ he)
theorem snd_J (x : XO P Γ X W) {n : Nat} (S : Snd P Γ X W n) : ∀ es fs, cJ Γ (n + 1) es = some fs → PJ X es (fs.map (tEv P W)) := by
  intro es fs h
  cases es with
  | nil => cases h; exact .nil
  | cons e r =>
    cases e with
    | Constant c k p =>
      cases c with
      | str s =>
        obtain ⟨fr, hr, h⟩ := bnd (show (cJ Γ n r).bind _ = _ from h)
        cases h
        refine .cons (impE pe_str fun σ H Q q => ?_) (S.J _ _ hr)
        obtain ⟨ρ, b, U, R, q⟩ := q
        exact KQ.str q U
      | _ => cases h
    | FormattedValue e c sp p =>
      cases sp with
      | some _ => cases c with
        | ofNat k => cases h
        | negSucc k => cases k <;> cases h
      | none =>
        cases c with
        | ofNat k => cases h
        | negSucc k =>
          cases k with
          | succ _ => cases h
          | zero =>
            obtain ⟨fe, he, h⟩ := bnd (show (cE Γ n e).bind _ = _ from h)
            obtain ⟨fr, hr, h⟩ := bnd h
            cases h
            exact .cons (s_fmt (S.E _ _ he)) (S.J _ _ hr)
    | _ => cases h
theorem impTs {es : List Expr} {t t' : TT} (h : PTs X es t) (k : ∀ σ H Q, t' σ H Q → t σ H Q) : PTs X es t' := ⟨fun pins s σ H Q I q => h.run pins s σ H Q I (k σ H Q q)⟩
theorem snd_F (x : XO P Γ X W) {n : Nat} (S : Snd P Γ X W n) : ∀ es f, cF Γ (n + 1) es = some f → PTs X es (tEvT P W f) := by
  intro es f h
  match es, h with
  | [], h =>
    cases h
    exact impTs pts_nil fun σ H Q ⟨ρ, b, U, R, q⟩ => q H (Frm.refl H) U
  | [c], h => exact pts_one (S.T _ _ h)
  | _ :: _ :: _, h => cases h
theorem snd_C (x : XO P Γ X W) {n : Nat} (S : Snd P Γ X W n) (L : ∀ (Γ' : Ga) (X' : Cx) (W' : WX), XO P Γ' X' W' → Snd P Γ' X' W' n) : ∀ f e es p pos fe, cCall Γ (n + 1) f (e :: es) = some fe → PE X (.Call (.Name f p) (e :: es) [] pos) (tEv P W fe) := by
  intro f e es p pos fe h
  unfold cCall at h
  split at h
  · rename_i l hl
    obtain ⟨hc, h⟩ := itS h
    obtain ⟨hg, hlam⟩ := ok_bool hc
    obtain ⟨tf, htf, h⟩ := bnd h
    obtain ⟨fe', he', h⟩ := bnd h
    cases h
    cases es with
    | cons _ _ => cases e <;> cases hl
    | nil =>
      cases e with
      | Lambda params body scope lp =>
        cases hl
        exact x.lam f tf htf params body scope fe' p lp pos hlam (fun X' W' xb => (L _ X' W' (xb.up rfl)).E _ _ he') hg
      | _ => cases hl
  obtain ⟨hc, h⟩ := itS h
  obtain ⟨hg, hs⟩ := ok_bool hc
  rw [List.all_cons, Bool.and_eq_true] at hs
  have h0 := nstar hs.1
  split at h
  · rename_i i hi
    obtain ⟨fs, ha, h⟩ := bnd h
    cases h
    exact s_call x hg hi h0 hs.2 (S.A _ _ ha)
  · obtain ⟨hb, h⟩ := itS h
    obtain ⟨hb, hcm⟩ := ok_bool hb
    have hb' : f ∈ bltNames := by simpa using hb
    split at h
    · rename_i i hi
      obtain ⟨fs, ha, h⟩ := bnd h
      cases h
      rw [hi] at hcm
      obtain ⟨k1, k2, k3, k4⟩ := ok_bltFn x.hK (x.calm (by simpa using hcm)) (id := i.1) (m := i.2) hi
      exact s_bltF x hg hb' k2 k3 k1 h0 hs.2 (S.A _ _ ha)
    · split at h
      · rename_i i hi
        obtain ⟨fs, ha, h⟩ := bnd h
        cases h
        obtain ⟨k1, k2, k3, k4⟩ := ok_bltTy x.hK (id := i.1) (m := i.2) hi
        exact s_bltT x hg hb' k2 k3 k1 h0 hs.2 (S.A _ _ ha)
      · obtain ⟨hr, h2⟩ := itS h
        obtain ⟨fs, ha, h3⟩ := bnd h2
        cases h3
        obtain ⟨hf, hr⟩ := ok_bool hr
        have hf' : f = "repr" := of_decide_eq_true hf
        clear h h2
        subst hf'
        exact s_bltF (id := "repr") x hg hb' (by decide +kernel) (by decide) (ok_repr x.hK (x.grd hr) x.u) h0 hs.2 (S.A _ _ ha)
theorem snd_B (x : XO P Γ X W) {n : Nat} (S : Snd P Γ X W n) : ∀ op es p f, cT Γ (n + 1) (.BoolOp op es p) = some f → PW X (.BoolOp op es p) (tEvT P W f) := by
  intro op es p f h
  cases es with
  | nil => cases op <;> cases h
  | cons a r =>
    cases r with
    | nil =>
      cases op with
      | And => exact pw_and1 (S.T _ _ h)
      | Or => exact pw_or1 (S.T _ _ h)
    | cons c r =>
      cases op with
      | And =>
        obtain ⟨fa, ha, h⟩ := bnd (show (cT Γ n a).bind _ = _ from h)
        obtain ⟨fc, hc, h⟩ := bnd h
        cases h
        exact s_andW (S.T _ _ ha) (S.B _ _ _ _ hc)
      | Or =>
        obtain ⟨fa, ha, h⟩ := bnd (show (cT Γ n a).bind _ = _ from h)
        obtain ⟨fc, hc, h⟩ := bnd h
        cases h
        exact s_orW (S.T _ _ ha) (S.B _ _ _ _ hc)
theorem snd_T0 (x : XO P Γ X W) {n : Nat} (S : Snd P Γ X W n) {e : Expr} {f : FT} (h : (if plainT e then (cE Γ n e).bind fun fe => some fun ρ => T.bind (fe ρ) truD else none) = some f) : PT X e (tEvT P W f) := by
  obtain ⟨hp, h⟩ := itS h
  obtain ⟨fe, he, h⟩ := bnd h
  cases h
  exact s_truth x hp (S.E _ _ he)
theorem snd_T (x : XO P Γ X W) {n : Nat} (S : Snd P Γ X W n) : ∀ e f, cT Γ (n + 1) e = some f → PT X e (tEvT P W f) := by
  intro e f h
  cases e with
  | BoolOp op es p => exact (snd_B x S op es p f h).pt
  | UnaryOp op a p =>
    cases op with
    | Not =>
      obtain ⟨fa, ha, h⟩ := bnd (show (cT Γ n a).bind _ = _ from h)
      cases h
      exact s_notT (S.T _ _ ha)
    | _ => exact snd_T0 x S h
  | Compare a ops cs p =>
    match ops, cs, h with
    | [op], [c], h =>
      obtain ⟨hb, h⟩ := itN h
      obtain ⟨fa, ha, h⟩ := bnd h
      obtain ⟨fc, hc, h⟩ := bnd h
      cases h
      exact s_cmpT x (by simpa using hb) (S.E _ _ ha) (S.E _ _ hc)
    | [op, op'], [c, d], h =>
      obtain ⟨hb, h⟩ := itN h
      obtain ⟨fa, ha, h⟩ := bnd h
      obtain ⟨fc, hc, h⟩ := bnd h
      obtain ⟨fd, hd, h⟩ := bnd h
      cases h
      exact s_chainT x (by simpa using hb) (S.E _ _ ha) (S.E _ _ hc) (S.E _ _ hd)
    | [], [], h => exact snd_T0 x S h
    | [], _ :: _, h => exact snd_T0 x S h
    | [_], [], h => exact snd_T0 x S h
    | [_], _ :: _ :: _, h => exact snd_T0 x S h
    | [_, _], [], h => exact snd_T0 x S h
    | [_, _], [_], h => exact snd_T0 x S h
    | [_, _], _ :: _ :: _ :: _, h => exact snd_T0 x S h
    | _ :: _ :: _ :: _, _, h => exact snd_T0 x S h
  | _ => exact snd_T0 x S h
theorem isE_of {y : Str} {p : Pos} {er : Er} (h : isE Γ (.Name y p) = some er) : ∃ z, Γ.exn = some (z, er) ∧ y = z := by
  have h' : (match Γ.exn with
    | some (z, er) => if y = z then some er else none
    | none => none) = some er := h
  split at h'
  · rename_i z er' hz
    obtain ⟨e, h'⟩ := itS h'
    cases h'
    exact ⟨z, hz, e⟩
  · cases h'
/-- a rule may be chosen when the wish is known -/
theorem impE' {e : Expr} {t : TE} (h : ∀ σ H Q, t σ H Q → ∃ t', PE X e t' ∧ t' σ H Q) : PE X e t := ⟨fun pins s σ H Q I q => by
  obtain ⟨t', k, q'⟩ := h σ H Q q
  exact k.run pins s σ H Q I q'⟩
theorem snd_E (x : XO P Γ X W) {n : Nat} (S : Snd P Γ X W n) (L : ∀ (Γ' : Ga) (X' : Cx) (W' : WX), XO P Γ' X' W' → Snd P Γ' X' W' n) : ∀ e f, cE Γ (n + 1) e = some f → PE X e (tEv P W f) := by
  intro e f h
  cases e with
  | Constant c k p =>
    cases c with
    | none => cases h; exact impE pe_non fun σ H Q ⟨ρ, b, U, R, q⟩ => KQ.now q U .non
    | bool c => cases h; exact impE pe_bl fun σ H Q ⟨ρ, b, U, R, q⟩ => KQ.now q U (.bl c)
    | int i => cases h; exact impE pe_int fun σ H Q ⟨ρ, b, U, R, q⟩ => KQ.now q U (.int i)
    | str s => cases h; exact impE pe_str fun σ H Q ⟨ρ, b, U, R, q⟩ => KQ.now q U (.str s)
    | _ => cases h
  | Name y p =>
    have h' : (match slotOf Γ y with
      | some i => some fun ρ => getV ρ i
      | none => if glob Γ y then (Γ.con.lookup y).map fun d _ => .ret d else none) = some f := h
    split at h'
    · rename_i i hi
      cases h'
      exact s_var x hi
    · obtain ⟨hg, h'⟩ := itS h'
      obtain ⟨d, hd, e⟩ := Option.map_eq_some_iff.mp h'
      subst e
      exact s_con x hg hd
  | BinOp a op c p =>
    obtain ⟨fa, ha, h⟩ := bnd (show (cE Γ n a).bind _ = _ from h)
    obtain ⟨fc, hc, h⟩ := bnd h
    cases h
    exact s_bin x (S.E _ _ ha) (S.E _ _ hc)
  | UnaryOp op a p =>
    cases op with
    | Not =>
      obtain ⟨fa, ha, h⟩ := bnd (show (cE Γ n a).bind _ = _ from h)
      cases h
      exact s_not x (S.E _ _ ha)
    | USub =>
      obtain ⟨fa, ha, h⟩ := bnd (show (cE Γ n a).bind _ = _ from h)
      cases h
      exact s_neg x (S.E _ _ ha)
    | _ => cases h
  | Compare a ops cs p =>
    match ops, cs, h with
    | [op], [c], h =>
      obtain ⟨hb, h⟩ := itN h
      obtain ⟨fa, ha, h⟩ := bnd h
      obtain ⟨fc, hc, h⟩ := bnd h
      cases h
      exact s_cmp x (by simpa using hb) (S.E _ _ ha) (S.E _ _ hc)
    | [op, op'], [c, d], h =>
      obtain ⟨hb, h⟩ := itN h
      obtain ⟨fa, ha, h⟩ := bnd h
      obtain ⟨fc, hc, h⟩ := bnd h
      obtain ⟨fd, hd, h⟩ := bnd h
      cases h
      exact s_chain x (by simpa using hb) (S.E _ _ ha) (S.E _ _ hc) (S.E _ _ hd)
    | [], [], h => cases h
    | [], _ :: _, h => cases h
    | [_], [], h => cases h
    | [_], _ :: _ :: _, h => cases h
    | [_, _], [], h => cases h
    | [_, _], [_], h => cases h
    | [_, _], _ :: _ :: _ :: _, h => cases h
    | _ :: _ :: _ :: _, _, h => cases h
  | BoolOp op es p =>
    cases es with
    | nil => cases op <;> cases h
    | cons a r =>
      cases r with
      | nil => cases op <;> exact pe_one (S.E _ _ h)
      | cons c r =>
        cases op with
        | And =>
          obtain ⟨fa, ha, h⟩ := bnd (show (cE Γ n a).bind _ = _ from h)
          obtain ⟨fc, hc, h⟩ := bnd h
          cases h
          exact s_and x (S.E _ _ ha) (S.E _ _ hc)
        | Or =>
          obtain ⟨fa, ha, h⟩ := bnd (show (cE Γ n a).bind _ = _ from h)
          obtain ⟨fc, hc, h⟩ := bnd h
          cases h
          exact s_or x (S.E _ _ ha) (S.E _ _ hc)
  | IfExp c a d p =>
    obtain ⟨fc, hc, h⟩ := bnd (show (cT Γ n c).bind _ = _ from h)
    obtain ⟨fa, ha, h⟩ := bnd h
    obtain ⟨fd, hd, h⟩ := bnd h
    cases h
    exact s_if x (S.T _ _ hc) (S.E _ _ ha) (S.E _ _ hd)
  | Tuple es k p =>
    obtain ⟨fs, ha, h⟩ := bnd (show (cA Γ n es).bind _ = _ from h)
    cases h
    exact s_tup x (S.A _ _ ha)
  | List es p =>
    obtain ⟨fs, ha, h⟩ := bnd (show (cA Γ n es).bind _ = _ from h)
    cases h
    exact s_lst x (S.A _ _ ha)
  | Dict ks vs p =>
    cases ks with
    | nil => cases vs with
      | nil => cases h; exact s_emp x
      | cons _ _ => cases h
    | cons _ _ => cases h
  | JoinedStr es p =>
    match es, h with
    | v :: w :: r, h =>
      obtain ⟨fs, ha, h⟩ := bnd (show (cJ Γ n (v :: w :: r)).bind _ = _ from h)
      cases h
      exact s_joined (S.J _ _ ha)
    | [], h => cases h
    | [_], h => cases h
  | Subscript a c p =>
    have other : (if isSlice c then none else (cE Γ n a).bind fun fa => (cE Γ n c).bind fun fc => some fun ρ => T.bind (fa ρ) fun x => T.bind (fc ρ) fun y => opI x y) = some f → PE X (.Subscript a c p) (tEv P W f) := fun h => by
      obtain ⟨hs, h⟩ := itN h
      obtain ⟨fa, ha, h⟩ := bnd h
      obtain ⟨fc, hc, h⟩ := bnd h
      cases h
      exact s_ix x (by simpa using hs) (S.E _ _ ha) (S.E _ _ hc)
    cases c with
    | Slice lo hi st p2 =>
      cases st with
      | none =>
        obtain ⟨fa, ha, h⟩ := bnd (show (cE Γ n a).bind _ = _ from h)
        obtain ⟨fl, hl, h⟩ := bnd h
        obtain ⟨fh, hh, h⟩ := bnd h
        cases h
        exact s_sl x (S.E _ _ ha) (S.O _ _ hl) (S.O _ _ hh)
      | some _ => exact other h
    | _ => exact other h
  | Call fn args kws p =>
    cases kws with
    | cons _ _ => rcases args with _ | ⟨a, _ | ⟨b, r⟩⟩ <;> cases fn <;> cases h
    | nil =>
      cases fn with
      | Name g p1 =>
        cases args with
        | nil =>
          have h' : cThk Γ g = some f := h
          unfold cThk at h'
          split at h'
          · rename_i y th ht
            obtain ⟨e, h'⟩ := itS h'
            cases h'
            subst e
            exact x.thk _ _ ht p1 p
          · cases h'
        | cons a r =>
          have h' : (match isiArg g r with
            | some c => (match isE Γ a with
              | some er => if glob Γ g && glob Γ c && Γ.ecl.contains c then some fun _ => T.bind (T.ofO (Γ.sub er.cls c)) fun k => .ret (.bool k) else none
              | none => if glob Γ g && glob Γ c && isiNames.contains c && !isStar a then (cE Γ n a).bind fun fa => some fun ρ => T.bind (fa ρ) fun x => isiD (tyName c) x else none)
            | none => cCall Γ n g (a :: r)) = some f := h
          split at h'
          · rename_i c hc
            split at h'
            · rename_i er her
              obtain ⟨hx, h'⟩ := itS h'
              obtain ⟨hx, h3⟩ := ok_bool hx
              obtain ⟨h1, h2⟩ := ok_bool hx
              cases h'
              match r, hc with
              | [.Name c' p2], hc =>
                obtain ⟨e1, e2⟩ := itS (show (if g = "isinstance" then some c' else none) = some c from hc)
                cases e2
                subst e1
                cases a with
                | Name y py =>
                  obtain ⟨z, hz, ez⟩ := isE_of her
                  subst ez
                  refine impE' fun σ H Q q => ?_
                  obtain ⟨ρ, b, U, R, q⟩ := q
                  obtain ⟨k, hk, q⟩ := ofO_wp (T.wp_bind.mp q)
                  exact ⟨_, x.exI _ er hz c k p1 py p2 p (by simpa using h3) hk h1 h2, ρ, b, U, R, q⟩
                | _ => cases her
            obtain ⟨hx, h'⟩ := itS h'
            obtain ⟨hx, h4⟩ := ok_bool hx
            obtain ⟨hx, h3⟩ := ok_bool hx
            obtain ⟨h1, h2⟩ := ok_bool hx
            obtain ⟨fa, ha, h'⟩ := bnd h'
            cases h'
            match r, hc with
            | [.Name c' p2], hc =>
              obtain ⟨e1, e2⟩ := itS (show (if g = "isinstance" then some c' else none) = some c from hc)
              cases e2
              subst e1
              exact s_isi x h1 h2 (by simpa using h3) (nstar h4) (S.E _ _ ha)
          · exact S.C _ _ _ _ _ _ h'
      | Attribute o m ap =>
        match args, h with
        | [a], h =>
          obtain ⟨hx, h⟩ := itS h
          obtain ⟨hx, h3⟩ := ok_bool hx
          obtain ⟨h1, h2⟩ := ok_bool hx
          obtain ⟨i, hi, h⟩ := bnd h
          obtain ⟨fo, ho, h⟩ := bnd h
          obtain ⟨fa, ha, h⟩ := bnd h
          cases h
          exact s_mth x hi h1 (nstar h2) h3 (S.E _ _ ho) (S.E _ _ ha)
        | [], h => cases h
        | _ :: _ :: _, h => cases h
      | _ => cases h
  | ListComp elt gs scope p =>
    rcases gs with _ | ⟨⟨tg, iter, ifs, k⟩, _ | ⟨g2, gr⟩⟩
    · cases h
    · rcases k with (_ | k) | k
      rotate_left
      · cases h
      · cases h
      · cases tg with
        | Name y py =>
          obtain ⟨hx, h⟩ := itS h
          obtain ⟨hx, h7⟩ := ok_bool hx
          obtain ⟨hx, h6⟩ := ok_bool hx
          obtain ⟨hx, h5⟩ := ok_bool hx
          obtain ⟨hx, h4⟩ := ok_bool hx
          obtain ⟨hx, h3⟩ := ok_bool hx
          obtain ⟨h1, h2⟩ := ok_bool hx
          obtain ⟨i, hi, h⟩ := bnd h
          obtain ⟨fi, ei, h⟩ := bnd h
          obtain ⟨ft, et, h⟩ := bnd h
          obtain ⟨fe, ee, h⟩ := bnd h
          cases h
          refine s_lc x h1 h3 h4 (of_decide_eq_true h6) (fun q hq => ?_) hi (S.E _ _ ei) (fun s H C cl fp => (L _ _ _ (blk_xo x h1 h2 s H C cl fp)).F _ _ et) (fun s H C cl fp => (L _ _ _ (blk_xo x h1 h2 s H C cl fp)).E _ _ ee)
          have := List.all_eq_true.mp h7 q hq
          simpa using this
        | _ => cases h
    · rcases k with (_ | k) | k <;> cases h
  | Attribute o g p =>
    obtain ⟨hfl, h⟩ := itS (show (if fldNames.contains g = true then (isE Γ o).map _ else none) = some f from h)
    obtain ⟨er, her, e⟩ := Option.map_eq_some_iff.mp h
    subst e
    cases o with
    | Name y py =>
      obtain ⟨z, hz, ez⟩ := isE_of her
      subst ez
      refine impE' fun σ H Q q => ?_
      obtain ⟨ρ, b, U, R, q⟩ := q
      obtain ⟨d, hd, q⟩ := ofO_wp q
      exact ⟨_, x.exA _ er hz g d py p (by simpa using hfl) hd, ρ, b, U, R, q⟩
    | _ => cases her
  | _ => cases h
theorem snd_zero : Snd P Γ X W 0 where
  F := fun _ _ h => nomatch h
  E := fun _ _ h => nomatch h
  C := fun _ _ _ _ _ _ h => nomatch h
  B := fun _ _ _ _ h => nomatch h
  T := fun _ _ h => nomatch h
  A := fun _ _ h => nomatch h
  O := fun _ _ h => nomatch h
  J := fun _ _ h => nomatch h
theorem snd_all : ∀ (n : Nat) (Γ : Ga) (X : Cx) (W : WX), XO P Γ X W → Snd P Γ X W n
  | 0, _, _, _, _ => snd_zero
  | n + 1, Γ, X, W, x => ⟨snd_F x (snd_all n Γ X W x), snd_E x (snd_all n Γ X W x) (snd_all n), snd_C x (snd_all n Γ X W x) (snd_all n), snd_B x (snd_all n Γ X W x), snd_T x (snd_all n Γ X W x), snd_A x (snd_all n Γ X W x), snd_O x (snd_all n Γ X W x), snd_J x (snd_all n Γ X W x)⟩
theorem snd (x : XO P Γ X W) (n : Nat) : Snd P Γ X W n := snd_all n Γ X W x
end
end Pv

-- Pv8
set_option Elab.async false
set_option linter.all false
set_option maxRecDepth 100000
set_option maxHeartbeats 8000000
namespace Pv
open PySem L2

def rangeD1 : PyData → T (List PyData)
  | .int j => if -(2 ^ 62) ≤ j ∧ j < 2 ^ 62 then .ret ((List.range j.toNat).map fun k => .int (0 + (k : Nat))) else .stuck
  | _ => .stuck
def rangeD2 : PyData → PyData → T (List PyData)
  | .int i, .int j => if -(2 ^ 62) ≤ i ∧ i < 2 ^ 62 ∧ -(2 ^ 62) ≤ j ∧ j < 2 ^ 62 then .ret ((List.range (j - i).toNat).map fun k => .int (i + (k : Nat))) else .stuck
  | _, _ => .stuck
def enumOf : PyData → T (List PyData)
  | .list xs => .ret (enumD xs 0)
  | _ => .stuck
def isTup : Expr → Bool
  | .Tuple .. => true
  | _ => false
def cI (Γ : Ga) (n : Nat) (tg : Expr) (e : Expr) : Option FI :=
  match e with
  | .Call (.Name f _) [a] [] _ => if f = "range" && glob Γ f && !isStar a then (cE Γ n a).bind fun fa => some fun ρ => T.bind (fa ρ) rangeD1
      else if f = "enumerate" && glob Γ f && !isStar a && isTup tg then (cE Γ n a).bind fun fa => some fun ρ => T.bind (fa ρ) enumOf
      else (cE Γ n e).bind fun fe => some fun ρ => T.bind (fe ρ) itemsD
  | .Call (.Name f _) [a, c] [] _ => if f = "range" && glob Γ f && !isStar a && !isStar c then (cE Γ n a).bind fun fa => (cE Γ n c).bind fun fc => some fun ρ => T.bind (fa ρ) fun x => T.bind (fc ρ) fun y => rangeD2 x y
      else (cE Γ n e).bind fun fe => some fun ρ => T.bind (fe ρ) itemsD
  | e => (cE Γ n e).bind fun fe => some fun ρ => T.bind (fe ρ) itemsD
section
variable {P : Pa} {Γ : Ga} {X : Cx} {W : WX}
theorem star_one {a : Expr} {env : Env} (h : isStar a = false) : starEach [a] env = [(false, eval a env)] := star_cons h
theorem snd_I (x : XO P Γ X W) {n : Nat} {tg e : Expr} {f : FI} (h : cI Γ n tg e = some f) : PI X tg e (tEvI P W f) := by
  have hK := x.hK
  have S := snd x n
  have plain : (cE Γ n e).bind (fun fe => some fun ρ => T.bind (fe ρ) itemsD) = some f → PI X tg e (tEvI P W f) := fun h => by
    obtain ⟨fe, he, h⟩ := bnd h
    cases h
    exact s_any x (S.E _ _ he)
  unfold cI at h
  split at h
  · rename_i g p a pos
    split at h
    · rename_i hc
      obtain ⟨hc, h3⟩ := ok_bool hc
      obtain ⟨h1, h2⟩ := ok_bool hc
      have h1' : g = "range" := of_decide_eq_true h1
      obtain ⟨fa, ha, hf⟩ := bnd h
      cases hf
      clear h plain
      subst h1'
      obtain ⟨g1, g2⟩ := glob_of x h2
      refine impI (pi_range1 g1 (x.blt _ (by decide)) (pa_cons (S.E _ _ ha) pa_nil (star_cons (nstar h3))) (star_one (nstar h3))) fun σ H R q => ?_
      obtain ⟨ρ, b, U, Re, q⟩ := q
      refine stepE U Re q (fun _ _ e => e) fun d b1 v H1 F1 U1 r1 R1 q1 => ?_
      cases r1 with
      | int j =>
        obtain ⟨hj, q1⟩ := ite_wp q1
        exact ⟨j, rfl, hj.1, hj.2, q1 _ H1 F1 U1 it_range⟩
      | _ => exact q1.elim
    · split at h
      · rename_i hc
        obtain ⟨hc, h4⟩ := ok_bool hc
        obtain ⟨hc, h3⟩ := ok_bool hc
        obtain ⟨h1, h2⟩ := ok_bool hc
        have h1' : g = "enumerate" := of_decide_eq_true h1
        obtain ⟨fa, ha, hf⟩ := bnd h
        cases hf
        cases tg with
        | Tuple elts kk tp =>
          clear h plain
          subst h1'
          obtain ⟨g1, g2⟩ := glob_of x h2
          refine impI (pi_enum g1 (x.blt _ (by decide)) (pa_cons (S.E _ _ ha) pa_nil (star_cons (nstar h3))) (star_one (nstar h3))) fun σ H R q => ?_
          obtain ⟨ρ, b, U, Re, q⟩ := q
          refine stepE U Re q (fun _ _ e => e) fun d b1 v H1 F1 U1 r1 R1 q1 => ?_
          cases r1 with
          | @lst a vs ds k1 k2 => exact ⟨a, vs, rfl, by rw [← hK]; exact k1, q1 _ H1 F1 U1 (by rw [← hK]; exact it_enum k1 k2)⟩
          | _ => exact q1.elim
        | _ => simp [isTup] at h4
      · exact plain h
  · rename_i g p a c pos
    split at h
    · rename_i hc
      obtain ⟨hc, h4⟩ := ok_bool hc
      obtain ⟨hc, h3⟩ := ok_bool hc
      obtain ⟨h1, h2⟩ := ok_bool hc
      have h1' : g = "range" := of_decide_eq_true h1
      obtain ⟨fa, ha, hf⟩ := bnd h
      obtain ⟨fc, hc', hf⟩ := bnd hf
      cases hf
      clear h plain
      subst h1'
      obtain ⟨g1, g2⟩ := glob_of x h2
      refine impI (pi_range2 g1 (x.blt _ (by decide)) (pa_cons (S.E _ _ ha) (pa_cons (S.E _ _ hc') pa_nil (star_cons (nstar h4))) (star_cons (nstar h3))) (by rw [star_cons (nstar h3), star_one (nstar h4)]) (star_one (nstar h4))) fun σ H R q => ?_
      obtain ⟨ρ, b, U, Re, q⟩ := q
      refine stepE U Re q (fun _ _ e => e) fun d b1 v H1 F1 U1 r1 R1 q1 => ?_
      refine stepE U1 R1 q1 (fun _ _ e => e.frm F1) fun e b2 w H2 F2 U2 r2 R2 q2 => ?_
      cases r1 with
      | int i =>
        cases r2 with
        | int j =>
          obtain ⟨hj, q2⟩ := ite_wp q2
          exact ⟨i, j, rfl, hj, q2 _ H2 (F1.trans F2) U2 it_range⟩
        | _ => exact q2.elim
      | _ => cases r2 <;> exact q2.elim
    · exact plain h
  · exact plain h
end
end Pv

-- Pv9
set_option Elab.async false
set_option linter.all false
set_option maxRecDepth 100000
set_option maxHeartbeats 8000000
namespace Pv
open PySem L2

/-! ## targets -/
def storeOf (Γ : Ga) (x : Str) : Option Nat := if (Γ.sc.names.lookup x = some .local ∨ Γ.sc.names.lookup x = some .cell) ∧ Γ.fz.contains x = false then Γ.N.idxOf? x else none
def namesOf (Γ : Ga) : List Expr → Option (List Nat)
  | [] => some []
  | .Name x _ :: r => (storeOf Γ x).bind fun i => (namesOf Γ r).bind fun is => some (i :: is)
  | _ => none
def setAll (ρ : En) : List Nat → List PyData → En
  | i :: is, d :: ds => setAll (ρ.set i (some d)) is ds
  | _, _ => ρ
def cG (Γ : Ga) : Expr → Option (PyData → En → T En)
  | .Name x _ => (storeOf Γ x).bind fun i => some fun d ρ => .ret (ρ.set i (some d))
  | .Tuple es _ _ => if Γ.calm then (namesOf Γ es).bind fun is => some fun d ρ => match d with
    | .tuple ds => if ds.length = is.length then .ret (setAll ρ is ds) else .stuck
    | _ => .stuck
    else none
  | _ => none
/-- what a try wants of its surroundings -/
structure XTr (P : Pa) (Γ : Ga) (X : Cx) : Prop where
  hs : X.stack = X.env :: X.outer
  hf : X.env.frame = some X.env.locals
  tr : ∀ (pn : List (Addr × Obj)) (xe : Value → Shared → Prop) (W : WX), Takes (X.tr pn xe) W → PassesOwn (model X.prog X.w) X.A X.env xe → XO P Γ (X.tr pn xe) W
  cat : ∀ c, c ∈ Γ.ecl → glob Γ c = true → ∃ Cc, Names X c (.ref Cc) ∧ ∀ cn b C, Γ.sub cn c = some b → P.cl cn = some C → PySem.W.exmOne X.K (.ref C) (.ref Cc) = some b
  su : ∀ (a : Addr) (oe : Obj) (C dd : Addr) (pn : List (Addr × Obj)) (nm : Str) (i : Nat) (er : Er) (vs : List (Str × V)) (B : Hp), Zc (.ref C) (some dd) oe → (∃ vs, oe.data = .fields vs) → P.cl er.cls = some C → RpF P.K B vs er.fs → slotOf Γ nm = some i →
    XO (suP P dd vs i a B) (suGa Γ nm er) (X.suite a ((a, oe) :: pn)) (fun _ _ _ _ => False)
/-- the surroundings, for statements -/
structure XS (P : Pa) (Γ : Ga) (errs : List (Str × List Str)) (X : Cx) (E : XK) : Prop where
  x : XO P Γ X (fun c d _ H => E c d H)
  fn : ∀ y, X.fn y = true
  bk : X.env.blockKind = .function
  tk : Γ.calm = true → Takes X (fun c d _ H => E c d H)
  own : Γ.calm = true → PassesOwn (model X.prog X.w) X.A X.env X.xe
  try_ : Γ.tryOk = true → XTr P Γ X
  rz : ∀ c fs, errs.lookup c = some fs → ∃ C, P.cl c = some C ∧ ∀ (e : Expr) (es : List Expr) (p pos : Pos) (fa : FA), isStar e = false → es.all (fun e => !isStar e) = true → PA X (e :: es) (tEvA P (fun c d _ H => E c d H) fa) →
    PMk X (.Call (.Name c p) (e :: es) [] pos) (fun σ H Q => tEvA P (fun c d _ H => E c d H) fa σ H fun vs H1 => vs.length = fs.length ∧ ∀ d, H1 d = none → Q (.ref C) (some d) (upd H1 d (.xd (fs.zip vs))))
def tG (P : Pa) (f : PyData → En → T En) : TG := fun v σ H Q => ∃ d ρ b, Bud P b H ∧ Rp P.K H v d ∧ Ren P H σ ρ ∧ T.wp (f d ρ) b (fun ρ' b' => ∀ σ' H', Frm H H' → Bud P b' H' → Ren P H' σ' ρ' → Q σ' H') (fun _ _ => True)
theorem impG {X : Cx} {e : Expr} {t t' : TG} (h : PG X e t) (k : ∀ v σ H Q, t' v σ H Q → t v σ H Q) : PG X e t' := ⟨fun pins s σ H v u Q I r q => h.run pins s σ H v u Q I r (k v σ H Q q)⟩
def gNames : List Nat → TGs
  | [] => gNil
  | i :: is => gCons (gName i) (gNames is)
section
variable {P : Pa} {Γ : Ga} {errs : List (Str × List Str)} {X : Cx} {E : XK}
theorem store_of (S : XS P Γ errs X E) {y : Str} {i : Nat} (h : storeOf Γ y = some i) : X.N[i]? = some y ∧ Loc X.env.scope y ∧ ∀ q ∈ P.fz, q.1 ≠ i := by
  obtain ⟨⟨h1, hf⟩, h2⟩ := itS h
  obtain ⟨hi, e, _⟩ := List.idxOf?_eq_some_iff.mp h2
  rw [S.x.hN, S.x.hsc]
  have ey : Γ.N[i]? = some y := by
    rw [List.getElem?_eq_getElem hi]
    exact congrArg some (by simpa using e)
  refine ⟨ey, h1, fun q hq z => ?_⟩
  obtain ⟨y', k1, k2⟩ := S.x.fz q hq
  rw [z, ey] at k1
  cases k1
  have : Γ.fz.contains y = true := by simpa using k2
  rw [hf] at this
  cases this
theorem pg_of (S : XS P Γ errs X E) {y : Str} {p : Pos} {i : Nat} (h : storeOf Γ y = some i) : PG X (.Name y p) (gName i) := by
  obtain ⟨h1, h2, _⟩ := store_of S h
  exact pg_name (by rw [S.x.hN]; exact S.x.nd) h1 h2 (.inl (S.fn y))
theorem pgs_of (S : XS P Γ errs X E) : ∀ {es : List Expr} {is : List Nat}, namesOf Γ es = some is → PGs X es (gNames is)
  | [], is, h => by
    cases h
    exact pgs_nil
  | e :: es, is, h => by
    cases e with
    | Name y p =>
      obtain ⟨i, hi, h⟩ := bnd (show (storeOf Γ y).bind _ = _ from h)
      obtain ⟨js, hj, h⟩ := bnd h
      cases h
      exact pgs_cons (pg_of S hi) (pgs_of S hj)
    | _ => cases h
theorem names_len : ∀ {es : List Expr} {is : List Nat}, namesOf Γ es = some is → es.length = is.length
  | [], is, h => by cases h; rfl
  | e :: es, is, h => by
    cases e with
    | Name y p =>
      obtain ⟨i, hi, h⟩ := bnd (show (storeOf Γ y).bind _ = _ from h)
      obtain ⟨js, hj, h⟩ := bnd h
      cases h
      simp only [List.length_cons, names_len hj]
    | _ => cases h
theorem names_each {env : Env} : ∀ {es : List Expr} {is : List Nat}, namesOf Γ es = some is → (assignEach es env).length = es.length ∧ (assignEach es env).findIdx? (·.1) = none
  | [], is, h => ⟨rfl, rfl⟩
  | e :: es, is, h => by
    cases e with
    | Name y p =>
      obtain ⟨i, hi, h⟩ := bnd (show (storeOf Γ y).bind _ = _ from h)
      obtain ⟨js, hj, h⟩ := bnd h
      obtain ⟨k1, k2⟩ := names_each (env := env) hj
      have e0 : assignEach (.Name y p :: es) env = (false, assign (.Name y p) env) :: assignEach es env := rfl
      rw [e0]
      refine ⟨by simp only [List.length_cons, k1], ?_⟩
      rw [List.findIdx?_cons, k2]
      rfl
    | _ => cases h
theorem names_nf (S : XS P Γ errs X E) : ∀ {es : List Expr} {is : List Nat}, namesOf Γ es = some is → ∀ i ∈ is, ∀ q ∈ P.fz, q.1 ≠ i
  | [], is, h => by
    cases h
    exact fun i hi => nomatch hi
  | e :: es, is, h => by
    cases e with
    | Name y p =>
      obtain ⟨i, hi, h⟩ := bnd (show (storeOf Γ y).bind _ = _ from h)
      obtain ⟨js, hj, h⟩ := bnd h
      cases h
      intro j hm
      rcases List.mem_cons.mp hm with rfl | hm
      · exact (store_of S hi).2.2
      · exact names_nf S hj j hm
    | _ => cases h
theorem names_run : ∀ {is : List Nat} {ds : List PyData} {vs : List V} {σ : St} {H : Hp} {ρ : En} {Q : St → Hp → Prop}, (∀ i ∈ is, ∀ q ∈ P.fz, q.1 ≠ i) → ds.length = is.length → RpA P.K H vs ds → Ren P H σ ρ → (∀ σ', Ren P H σ' (setAll ρ is ds) → Q σ' H) → gNames is vs σ H Q
  | [], [], _, σ, H, ρ, Q, _, _, .nil, r, q => ⟨rfl, q σ r⟩
  | i :: is, d :: ds, _, σ, H, ρ, Q, nf, hl, .cons r1 rr, r, q => ⟨_, _, rfl, names_run (fun j hj => nf j (List.mem_cons_of_mem _ hj)) (by simpa using hl) rr (r.set (nf i List.mem_cons_self) r1) q⟩
theorem s_tg (S : XS P Γ errs X E) {e : Expr} {f : PyData → En → T En} (h : cG Γ e = some f) : PG X e (tG P f) := by
  have hK := S.x.hK
  cases e with
  | Name y p =>
    obtain ⟨i, hi, h⟩ := bnd (show (storeOf Γ y).bind _ = _ from h)
    cases h
    refine impG (pg_of S hi) fun v σ H Q q => ?_
    obtain ⟨d, ρ, b, U, r, R, q⟩ := q
    exact q _ H (Frm.refl H) U (R.set (store_of S hi).2.2 r)
  | Tuple es k p =>
    obtain ⟨hcm, h⟩ := itS (show (if Γ.calm = true then _ else none) = some f from h)
    obtain ⟨is, hi, h⟩ := bnd (show (namesOf Γ es).bind _ = _ from h)
    cases h
    obtain ⟨e1, e2⟩ := names_each (env := X.env) hi
    refine impG (pg_tup (S.x.calm hcm) (pgs_of S hi) (n := is.length) (by rw [e1, names_len hi]) e2) fun v σ H Q q => ?_
    obtain ⟨d, ρ, b, U, r, R, q⟩ := q
    cases r with
    | @tup a vs ds h1 r1 =>
      obtain ⟨hl, q⟩ := ite_wp q
      refine ⟨a, vs, rfl, by rw [← hK]; exact h1, by rw [r1.length, hl], names_run (names_nf S hi) hl r1 R fun σ' R' => q σ' H (Frm.refl H) U R'⟩
    | _ => exact q.elim
  | _ => cases h
end
/-! ## statements -/
inductive Out where
  | nx (ρ : En) | rt (d : PyData) | bk (ρ : En) | ct (ρ : En)
abbrev FS := Nat → En → T Out
def outQ (P : Pa) (H : Hp) (D : Ends) : Out → Nat → Prop
  | .nx ρ, b => ∀ σ' H', Frm H H' → Bud P b H' → Ren P H' σ' ρ → D.nx σ' H'
  | .rt d, b => KQ P H D.rt d b
  | .bk ρ, b => ∀ σ' H', Frm H H' → Bud P b H' → Ren P H' σ' ρ → D.bk σ' H'
  | .ct ρ, b => ∀ σ' H', Frm H H' → Bud P b H' → Ren P H' σ' ρ → D.ct σ' H'
theorem outQ.frm {P : Pa} {H H1 : Hp} {D : Ends} {o : Out} {b : Nat} (F : Frm H H1) (h : outQ P H D o b) : outQ P H1 D o b := by
  cases o with
  | nx ρ => exact fun σ' H' F' U R => h σ' H' (F.trans F') U R
  | rt d => exact KQ.frm F h
  | bk ρ => exact fun σ' H' F' U R => h σ' H' (F.trans F') U R
  | ct ρ => exact fun σ' H' F' U R => h σ' H' (F.trans F') U R
def tS (P : Pa) (E : XK) (f : FS) : TS := fun D σ H => ∃ n ρ b, Bud P b H ∧ Ren P H σ ρ ∧ T.wp (f n ρ) b (outQ P H D) (KW P H E)
def seqT (o : Out) (g : En → T Out) : T Out := match o with
  | .nx ρ => g ρ
  | o => .ret o
def forL (step : PyData → En → T Out) : List PyData → En → T Out
  | [], ρ => .ret (.nx ρ)
  | d :: r, ρ => T.bind (step d ρ) fun o => match o with
    | .nx ρ' => forL step r ρ'
    | .ct ρ' => forL step r ρ'
    | .bk ρ' => .ret (.nx ρ')
    | .rt d => .ret (.rt d)
def runW (test : FT) (body : En → T Out) : Nat → En → T Out
  | 0, _ => .stuck
  | m + 1, ρ => T.bind (test ρ) fun c => if c = true then T.bind (body ρ) fun o => match o with
      | .nx ρ' => runW test body m ρ'
      | .ct ρ' => runW test body m ρ'
      | .bk ρ' => .ret (.nx ρ')
      | .rt d => .ret (.rt d)
    else .ret (.nx ρ)
/-- two names of the def's own, stored from the right -/
def par2 (Γ : Ga) (x y : Str) (px py : Pos) (es : List Expr) : Bool :=
  decide (Γ.sc.names.lookup x = some .local) && decide (Γ.sc.names.lookup y = some .local) && (py.line == px.line) && !(x == y) && es.all (fun e => !isStar e) && !(es.all (foldedForSure 8)) && !(es.all (constantsAlone 8)) && (es.length == 2) && Γ.calm
def hasCell (Γ : Ga) : List Expr → Bool
  | [] => false
  | .Name x _ :: r => !decide (Γ.sc.names.lookup x = some .local) || hasCell Γ r
  | _ :: _ => false
def isDisp : Expr → Bool
  | .Tuple .. | .List .. => true
  | _ => false
def twoNames : Expr → Expr → Option (Str × Pos × Str × Pos × List Expr)
  | .Tuple [.Name x px, .Name y py] _ _, .Tuple es _ _ => some (x, px, y, py, es)
  | _, _ => none
/-- the errors that a clause takes -/
def tryR (sub : Str → Option Bool) (hd : Er → T Out) : T Out → T Out
  | .ret o => .ret o
  | .err e => match sub e.cls with
    | some true => hd e
    | some false => .err e
    | none => .stuck
  | .pick n f => .pick n fun i => tryR sub hd (f i)
  | .stuck => .stuck
def unsetO (i : Nat) : Out → Out
  | .nx ρ => .nx (ρ.set i none)
  | .rt d => .rt d
  | .bk ρ => .bk (ρ.set i none)
  | .ct ρ => .ct (ρ.set i none)
/-- a statement that does one thing -/
def simpS (Γ : Ga) (n : Nat) : Stmt → Option FS
  | .Assign [.Name y _] e _ => if isComp e then none else (storeOf Γ y).bind fun i => (cE Γ n e).bind fun fe => some fun _ ρ => T.bind (fe ρ) fun d => .ret (.nx (ρ.set i (some d)))
  | .Expr e _ => if isComp e then none else (cE Γ n e).bind fun fe => some fun _ ρ => T.bind (fe ρ) fun _ => .ret (.nx ρ)
  | .Return (some e) _ => (cE Γ n e).bind fun fe => some fun _ ρ => T.bind (fe ρ) fun d => .ret (.rt d)
  | _ => none
def runSu (f : Option FS) (i m : Nat) (ρ : En) : T Out := match f with
  | some fs => noRaise (T.bind (fs m (ρ.set i none)) fun o => .ret (unsetO i o))
  | none => .stuck
mutual
def cS (Γ : Ga) (errs : List (Str × List Str)) : Nat → Stmt → Option FS
  | 0, _ => none
  | n + 1, s => match s with
    | .Assign [tg] e _ => match twoNames tg e with
      | some (x, px, y, py, es) =>
        if par2 Γ x y px py es then (storeOf Γ x).bind fun i => (storeOf Γ y).bind fun j => if i = j then none else (cA Γ n es).bind fun fs => some fun _ ρ => T.bind (fs ρ) fun ds => match ds with
          | [d, e] => .ret (.nx ((ρ.set i (some d)).set j (some e)))
          | _ => .stuck
        else if hasCell Γ [.Name x px, .Name y py] && (es.length == 2) then (cG Γ tg).bind fun g => (cE Γ n e).bind fun fe => some fun _ ρ => T.bind (fe ρ) fun d => T.bind (g d ρ) fun ρ' => .ret (.nx ρ')
        else none
      | none => match tg with
        | .Name x _ => if isComp e then none else (storeOf Γ x).bind fun i => (cE Γ n e).bind fun fe => some fun _ ρ => T.bind (fe ρ) fun d => .ret (.nx (ρ.set i (some d)))
        | .Tuple ts k p => if isComp e || isDisp e then none else (cG Γ (.Tuple ts k p)).bind fun g => (cE Γ n e).bind fun fe => some fun _ ρ => T.bind (fe ρ) fun d => T.bind (g d ρ) fun ρ' => .ret (.nx ρ')
        | _ => none
    | .Expr (.Constant (.str _) _ _) _ => some fun _ ρ => .ret (.nx ρ)
    | .Expr e _ => if isComp e then none else (cE Γ n e).bind fun fe => some fun _ ρ => T.bind (fe ρ) fun _ => .ret (.nx ρ)
    | .Return (some e) _ => (cE Γ n e).bind fun fe => some fun _ ρ => T.bind (fe ρ) fun d => .ret (.rt d)
    | .Return none _ => some fun _ _ => .ret (.rt .none)
    | .If c a b _ => (cT Γ n c).bind fun fc => (cSs Γ errs n a).bind fun fa => (cSs Γ errs n b).bind fun fb => some fun m ρ => T.bind (fc ρ) fun k => if k = true then fa m ρ else fb m ρ
    | .While c b [] _ => (cT Γ n c).bind fun fc => (cSs Γ errs n b).bind fun fb => if Γ.calm then some fun m ρ => runW fc (fb m) m ρ else none
    | .For tg it b [] _ => (cI Γ n tg it).bind fun fi => (cG Γ tg).bind fun g => (cSs Γ errs n b).bind fun fb => if foldOk it && Γ.calm then some fun m ρ => T.bind (fi ρ) fun ds => forL (fun d ρ' => T.bind (g d ρ') (fb m)) ds ρ else none
    | .Raise (some (.Call (.Name c _) (e :: es) [] _)) none _ => if !isStar e && es.all (fun e => !isStar e) && Γ.calm then (errs.lookup c).bind fun fs => (cA Γ n (e :: es)).bind fun fa => some fun _ ρ => T.bind (fa ρ) fun ds => if ds.length = fs.length then .err ⟨c, fs.zip ds⟩ else .stuck else none
    | .Try [s0] [.ExceptHandler (some (.Name c _)) (some nm) (b0 :: su) _] [] [] _ => if Γ.tryOk && Γ.calm && glob Γ c && Γ.ecl.contains c && decide (Γ.sc.names.lookup nm = some .local) && decide (slotOf Γ nm = storeOf Γ nm) then (storeOf Γ nm).bind fun i => (simpS Γ n s0).bind fun f0 =>
        some fun m ρ => tryR (fun cn => Γ.sub cn c) (fun er => runSu (cSs (suGa Γ nm er) [] n (b0 :: su)) i m ρ) (f0 m ρ) else none
    | .Pass _ => some fun _ ρ => .ret (.nx ρ)
    | .Break _ => some fun _ ρ => .ret (.bk ρ)
    | .Continue _ => some fun _ ρ => .ret (.ct ρ)
    | _ => none
def cSs (Γ : Ga) (errs : List (Str × List Str)) : Nat → List Stmt → Option FS
  | 0, _ => none
  | n + 1, ss => match ss with
    | [] => some fun _ ρ => .ret (.nx ρ)
    | s :: r => (cS Γ errs n s).bind fun fs => (cSs Γ errs n r).bind fun fr => some fun m ρ => T.bind (fs m ρ) fun o => seqT o (fr m)
end
end Pv

-- Pv10
set_option Elab.async false
set_option linter.all false
set_option maxRecDepth 100000
set_option maxHeartbeats 8000000
namespace Pv
open PySem L2
theorem impS {X : Cx} {s : Stmt} {t t' : TS} (h : PS X s t) (k : ∀ D σ H, t' D σ H → t D σ H) : PS X s t' := ⟨fun pins s σ H D I q => h.run pins s σ H D I (k D σ H q)⟩
theorem impSs {X : Cx} {s : List Stmt} {t t' : TS} (h : PSs X s t) (k : ∀ D σ H, t' D σ H → t D σ H) : PSs X s t' := ⟨fun pins s σ H D I q => h.run pins s σ H D I (k D σ H q)⟩
theorem star_m (a : Expr) : (match a with | .Starred .. => true | _ => false) = isStar a := by cases a <;> rfl
theorem swap2 {env : Env} {x y : Str} {px py pt p2 : Pos} {kt k2 : Nat} {a b : Expr} (hb : env.blockKind = .function) (hx : env.kindOf x = some .local) (hy : env.kindOf y = some .local) (hl : (py.line == px.line) = true) (hne : (x == y) = false)
    (h0 : isStar a = false) (h1 : isStar b = false) (h2 : [a, b].all (foldedForSure 8) = false) (h3 : [a, b].all (constantsAlone 8) = false) : swappedStores [.Tuple [.Name x px, .Name y py] kt pt] (.Tuple [a, b] k2 p2) env = pure (some [x, y]) := by
  have hne' : ¬ y = x := fun e => by rw [e] at hne; simp at hne
  have hl' : py.line = px.line := by simpa using hl
  unfold swappedStores
  simp only [List.any_cons, List.any_nil, star_m, h0, h1, hb, List.length_cons, List.length_nil, List.head?_cons, Option.map_some, Option.getD_some, List.filterMap_cons, List.filterMap_nil, hx, hy, h2, h3, hl', Expr.pos, beq_self_eq_true, Bool.and_self, if_true]
  have e1 : ([x, y] : List Str).eraseDups = [x, y] := by
    simp [List.eraseDups_cons, hne']
  simp [e1]
  intro h
  exfalso
  rcases h with h | h
  · cases a <;> first | (simp [isStar] at h0; done) | (simp at h; done)
  · cases b <;> first | (simp [isStar] at h1; done) | (simp at h; done)
theorem swapC {env : Env} {x y : Str} {px py pt p2 : Pos} {kt k2 : Nat} {a b : Expr} (hb : env.blockKind = .function) (h : (env.kindOf x = some .local ∧ env.kindOf y = some .local) → False) (h0 : isStar a = false) (h1 : isStar b = false) :
    swappedStores [.Tuple [.Name x px, .Name y py] kt pt] (.Tuple [a, b] k2 p2) env = pure none := by
  unfold swappedStores
  simp only [List.any_cons, List.any_nil, star_m, h0, h1, hb, List.length_cons, List.length_nil, List.head?_cons, Option.map_some, Option.getD_some, List.filterMap_cons, List.filterMap_nil, Expr.pos, beq_self_eq_true, Bool.and_self, if_true]
  by_cases hx : env.kindOf x = some .local
  · have hy : ¬ env.kindOf y = some .local := fun z => h ⟨hx, z⟩
    simp [hx, hy]
  · by_cases hy : env.kindOf y = some .local
    · by_cases hl : py.line = px.line <;> simp [hx, hy, hl]
    · simp [hx, hy]
theorem swapN {ts : List Expr} {k : Nat} {p : Pos} {e : Expr} {env : Env} (h : isDisp e = false) : swappedStores [.Tuple ts k p] e env = pure none := by
  cases e <;> first | rfl | simp [isDisp] at h
section
variable {P : Pa} {Γ : Ga} {errs : List (Str × List Str)} {X : Cx} {E : XK}
structure SndS (P : Pa) (Γ : Ga) (errs : List (Str × List Str)) (X : Cx) (E : XK) (n : Nat) : Prop where
  S : ∀ s f, cS Γ errs n s = some f → PS X s (tS P E f)
  B : ∀ ss f, cSs Γ errs n ss = some f → PSs X ss (tS P E f)
abbrev W0 (E : XK) : WX := fun c d _ H => E c d H
/-- the steps, with errors that stay as they are -/
theorem stE {α : Type} {σ : St} {H H0 : Hp} {ρ : En} {b : Nat} {f : FE} {g : PyData → T α} {QQ : α → Nat → Prop} {R : VK} (F : Frm H0 H) (U : Bud P b H) (r : Ren P H σ ρ) (h : T.wp (T.bind (f ρ) g) b QQ (KW P H0 E))
    (k : ∀ d b1 v H1, Frm H0 H1 → Bud P b1 H1 → Rp P.K H1 v d → Ren P H1 σ ρ → T.wp (g d) b1 QQ (KW P H0 E) → R v H1) : tEv P (W0 E) f σ H R :=
  stepE U r h (fun _ _ e => e.frm F) fun d b1 v H1 F1 U1 r1 R1 q => k d b1 v H1 (F.trans F1) U1 r1 R1 q
theorem stT {α : Type} {σ : St} {H H0 : Hp} {ρ : En} {b : Nat} {f : FT} {g : Bool → T α} {QQ : α → Nat → Prop} {R : Bool → Hp → Prop} (F : Frm H0 H) (U : Bud P b H) (r : Ren P H σ ρ) (h : T.wp (T.bind (f ρ) g) b QQ (KW P H0 E))
    (k : ∀ d b1 H1, Frm H0 H1 → Bud P b1 H1 → Ren P H1 σ ρ → T.wp (g d) b1 QQ (KW P H0 E) → R d H1) : tEvT P (W0 E) f σ H R :=
  stepT U r h (fun _ _ e => e.frm F) fun d b1 H1 F1 U1 R1 q => k d b1 H1 (F.trans F1) U1 R1 q
theorem stA {α : Type} {σ : St} {H H0 : Hp} {ρ : En} {b : Nat} {f : FA} {g : List PyData → T α} {QQ : α → Nat → Prop} {R : List V → Hp → Prop} (F : Frm H0 H) (U : Bud P b H) (r : Ren P H σ ρ) (h : T.wp (T.bind (f ρ) g) b QQ (KW P H0 E))
    (k : ∀ d b1 vs H1, Frm H0 H1 → Bud P b1 H1 → RpA P.K H1 vs d → Ren P H1 σ ρ → T.wp (g d) b1 QQ (KW P H0 E) → R vs H1) : tEvA P (W0 E) f σ H R :=
  stepA U r h (fun _ _ e => e.frm F) fun d b1 vs H1 F1 U1 r1 R1 q => k d b1 vs H1 (F.trans F1) U1 r1 R1 q
theorem errT {α : Type} {t : T α} {b : Nat} {Q : α → Nat → Prop} {EE : Er → Nat → Prop} (h : T.wp t b Q EE) : T.wp t b Q (fun _ _ => True) := T.wp_mono h (fun _ _ _ q => q) fun _ _ _ _ => trivial
/-- a target's store behind the value: the target itself raises nothing -/
def NoErr (g : PyData → En → T En) : Prop := ∀ d ρ, (∃ ρ', g d ρ = .ret ρ') ∨ g d ρ = .stuck
theorem cG_pure {Γ : Ga} {e : Expr} {g : PyData → En → T En} (h : cG Γ e = some g) : NoErr g := by
  intro d ρ
  cases e with
  | Name y p =>
    obtain ⟨i, hi, h⟩ := bnd (show (storeOf Γ y).bind _ = _ from h)
    cases h
    exact .inl ⟨_, rfl⟩
  | Tuple es k p =>
    obtain ⟨_, h⟩ := itS (show (if Γ.calm = true then _ else none) = some g from h)
    obtain ⟨is, hi, h⟩ := bnd (show (namesOf Γ es).bind _ = _ from h)
    cases h
    cases d with
    | tuple ds =>
      by_cases hl : ds.length = is.length
      · exact .inl ⟨_, if_pos hl⟩
      · exact .inr (if_neg hl)
    | _ => exact .inr rfl
  | _ => cases h
/-- v is stored: what follows has the names -/
theorem store_run {α : Type} {σ : St} {H : Hp} {ρ : En} {b : Nat} {g : PyData → En → T En} {k : En → T α} {QQ : α → Nat → Prop} {EE : Er → Nat → Prop} {d : PyData} {v : V} {Q : St → Hp → Prop} (hg : NoErr g) (U : Bud P b H) (r : Ren P H σ ρ) (rv : Rp P.K H v d) (h : T.wp (T.bind (g d ρ) k) b QQ EE)
    (q : ∀ σ' H' ρ', Frm H H' → Bud P b H' → Ren P H' σ' ρ' → T.wp (k ρ') b QQ EE → Q σ' H') : tG P g v σ H Q := by
  refine ⟨d, ρ, b, U, rv, r, ?_⟩
  rcases hg d ρ with ⟨ρ', e⟩ | e
  · rw [e] at h ⊢
    exact fun σ' H' F U' R' => q σ' H' ρ' F U' R' h
  · rw [e] at h
    exact h.elim
theorem s_set (S : XS P Γ errs X E) {y : Str} {p pos : Pos} {e : Expr} {i : Nat} {fe : FE} (hc : isComp e = false) (hi : storeOf Γ y = some i) (he : PE X e (tEv P (W0 E) fe)) :
    PS X (.Assign [.Name y p] e pos) (tS P E fun _ ρ => T.bind (fe ρ) fun d => .ret (.nx (ρ.set i (some d)))) := by
  obtain ⟨h1, h2, nf⟩ := store_of S hi
  refine impS (ps_set (by rw [S.x.hN]; exact S.x.nd) h1 h2 he (swaps_none hc) (.inl (S.fn y))) fun D σ H q => ?_
  obtain ⟨n, ρ, b, U, R, q⟩ := q
  exact stE (Frm.refl H) U R q fun d b1 v H1 F1 U1 r1 R1 q1 => q1 _ H1 F1 U1 (R1.set nf r1)
theorem s_asg (S : XS P Γ errs X E) {tg e : Expr} {pos : Pos} {g : PyData → En → T En} {fe : FE} (hc : isComp e = false) (hg : cG Γ tg = some g) (he : PE X e (tEv P (W0 E) fe)) (hw : swappedStores [tg] e X.env = pure none) :
    PS X (.Assign [tg] e pos) (tS P E fun _ ρ => T.bind (fe ρ) fun d => T.bind (g d ρ) fun ρ' => .ret (.nx ρ')) := by
  refine impS (ps_asg he (s_tg S hg) (swaps_none hc) hw (by cases tg <;> first | rfl | (simp [cG] at hg; done))) fun D σ H q => ?_
  obtain ⟨n, ρ, b, U, R, q⟩ := q
  exact stE (Frm.refl H) U R q fun d b1 v H1 F1 U1 r1 R1 q1 => store_run (cG_pure hg) U1 R1 r1 q1 fun σ' H' ρ' F U' R' q' => q' σ' H' (F1.trans F) U' R'
theorem s_par (S : XS P Γ errs X E) {x y : Str} {px py pt p2 pos : Pos} {kt k2 : Nat} {es : List Expr} {i j : Nat} {fs : FA} (hp : par2 Γ x y px py es = true) (hi : storeOf Γ x = some i) (hj : storeOf Γ y = some j) (hij : ¬ i = j) (ha : PA X es (tEvA P (W0 E) fs)) :
    PS X (.Assign [.Tuple [.Name x px, .Name y py] kt pt] (.Tuple es k2 p2) pos) (tS P E fun _ ρ => T.bind (fs ρ) fun ds => match ds with
      | [d, e] => .ret (.nx ((ρ.set i (some d)).set j (some e)))
      | _ => .stuck) := by
  unfold par2 at hp
  simp only [Bool.and_eq_true, decide_eq_true_eq, Bool.not_eq_true', beq_iff_eq, List.all_eq_true] at hp
  obtain ⟨⟨⟨⟨⟨⟨⟨⟨k1, k2'⟩, k3⟩, k4⟩, k5⟩, k6⟩, k7⟩, k8⟩, kcm⟩ := hp
  match es, k8 with
  | [a, c], _ =>
    obtain ⟨h1, h2, nfi⟩ := store_of S hi
    obtain ⟨h3, h4, nfj⟩ := store_of S hj
    have l1 : X.env.scope.names.lookup x = some .local := by rw [S.x.hsc]; exact k1
    have l2 : X.env.scope.names.lookup y = some .local := by rw [S.x.hsc]; exact k2'
    refine impS (ps_par (S.x.calm kcm) (by rw [S.x.hN]; exact S.x.nd) h1 h3 hij l1 l2 ha (swap2 S.bk l1 l2 (by simpa using k3) k4 (by simpa using k5 a (by simp)) (by simpa using k5 c (by simp)) k6 k7)) fun D σ H q => ?_
    obtain ⟨n, ρ, b, U, R, q⟩ := q
    refine stA (Frm.refl H) U R q fun ds b1 vs H1 F1 U1 r1 R1 q1 => ?_
    match ds, r1, q1 with
    | [d, e], r1, q1 =>
      obtain ⟨v, w, rfl, rd, re⟩ := len2 r1
      exact ⟨v, w, rfl, q1 _ H1 F1 U1 ((R1.set nfi rd).set nfj re)⟩
    | [], _, q1 => exact q1.elim
    | [_], _, q1 => exact q1.elim
    | _ :: _ :: _ :: _, _, q1 => exact q1.elim
theorem s_if2 {c : Expr} {a d : List Stmt} {p : Pos} {fc : FT} {fa fb : FS} (hc : PT X c (tEvT P (W0 E) fc)) (ha : PSs X a (tS P E fa)) (hb : PSs X d (tS P E fb)) :
    PS X (.If c a d p) (tS P E fun m ρ => T.bind (fc ρ) fun k => if k = true then fa m ρ else fb m ρ) := by
  refine impS (ps_if hc ha hb) fun D σ H q => ?_
  obtain ⟨n, ρ, b, U, R, q⟩ := q
  refine stT (Frm.refl H) U R q fun k b1 H1 F1 U1 R1 q1 => ?_
  have go : ∀ t : T Out, T.wp t b1 (outQ P H D) (KW P H E) → T.wp t b1 (outQ P H1 D) (KW P H1 E) := fun t h => T.wp_mono h (fun _ _ _ q => q.frm F1) fun _ _ _ q => q.frm F1
  cases k with
  | true =>
    rw [if_pos rfl] at q1 ⊢
    exact ⟨n, ρ, b1, U1, R1, go _ q1⟩
  | false =>
    rw [if_neg Bool.false_ne_true] at q1 ⊢
    exact ⟨n, ρ, b1, U1, R1, go _ q1⟩
theorem s_while (S : XS P Γ errs X E) (cm : Γ.calm = true) {c : Expr} {body : List Stmt} {p : Pos} {fc : FT} {fb : FS} (hc : PT X c (tEvT P (W0 E) fc)) (hb : PSs X body (tS P E fb)) :
    PS X (.While c body [] p) (tS P E fun m ρ => runW fc (fb m) m ρ) := by
  refine impS (ps_while (S.own cm) hc hb) fun D σ H q => ?_
  obtain ⟨n, ρ, b, U, R, q⟩ := q
  refine ⟨fun m σ1 H1 => ∃ ρ1 b1, Frm H H1 ∧ Bud P b1 H1 ∧ Ren P H1 σ1 ρ1 ∧ T.wp (runW fc (fb n) m ρ1) b1 (outQ P H D) (KW P H E), ⟨n, ρ, b, Frm.refl H, U, R, q⟩, ?_⟩
  rintro m σ1 H1 ⟨ρ1, b1, F1, U1, R1, q1⟩
  cases m with
  | zero => exact q1.elim
  | succ m =>
    refine stT F1 U1 R1 q1 fun k b2 H2 F2 U2 R2 q2 => ?_
    cases k with
    | false =>
      rw [if_neg Bool.false_ne_true] at q2 ⊢
      exact q2 σ1 H2 F2 U2 R2
    | true =>
      rw [if_pos rfl] at q2 ⊢
      refine ⟨fun σ' H' => ∃ ρ3 b3, Frm H H' ∧ Bud P b3 H' ∧ Ren P H' σ' ρ3 ∧ T.wp (runW fc (fb n) m ρ3) b3 (outQ P H D) (KW P H E), fun σ' H' h => ⟨m, Nat.lt_succ_self m, h⟩, ?_⟩
      refine ⟨n, ρ1, b2, U2, R2, T.wp_mono (T.wp_bind.mp q2) (fun o c _ qo => ?_) fun _ _ _ e => e.frm F2⟩
      cases o with
      | nx ρ' => exact fun σ' H' F' U' R' => ⟨ρ', c, F2.trans F', U', R', qo⟩
      | ct ρ' => exact fun σ' H' F' U' R' => ⟨ρ', c, F2.trans F', U', R', qo⟩
      | bk ρ' => exact fun σ' H' F' U' R' => qo σ' H' (F2.trans F') U' R'
      | rt d => exact KQ.frm F2 qo
theorem s_for (S : XS P Γ errs X E) {tg it : Expr} {body : List Stmt} {p : Pos} {fi : FI} {g : PyData → En → T En} {fb : FS} (cm : Γ.calm = true) (hf : foldOk it = true) (hi : PI X tg it (tEvI P (W0 E) fi)) (hg : cG Γ tg = some g) (hb : PSs X body (tS P E fb)) :
    PS X (.For tg it body [] p) (tS P E fun m ρ => T.bind (fi ρ) fun ds => forL (fun d ρ' => T.bind (g d ρ') (fb m)) ds ρ) := by
  refine impS (ps_for (S.own cm) (S.x.calm cm) hi (s_tg S hg) hb (fold_ok hf)) fun D σ H q => ?_
  obtain ⟨n, ρ, b, U, R, q⟩ := q
  refine ⟨ρ, b, U, R, T.wp_mono (T.wp_bind.mp q) (fun ds b1 _ q1 J H1 F1 U1 itd => ?_) fun _ _ _ e => e⟩
  refine ⟨fun i m σ2 H2 => m = ds.length - i ∧ i ≤ ds.length ∧ ∃ ρ2 b2, Frm H1 H2 ∧ Bud P b2 H2 ∧ Ren P H2 σ2 ρ2 ∧ T.wp (forL (fun d ρ' => T.bind (g d ρ') (fb n)) (ds.drop i) ρ2) b2 (outQ P H D) (KW P H E),
    ⟨ds.length, by simp, Nat.zero_le _, ρ, b1, Frm.refl H1, U1, R.frm F1, q1⟩, ?_⟩
  rintro i m σ2 H2 ⟨rfl, hle, ρ2, b2, F2, U2, R2, q2⟩
  by_cases hlt : i < ds.length
  · refine .inr ⟨itd.go i H2 F2 hlt, fun σ' H' => ∃ ρ3 b3, Frm H1 H' ∧ Bud P b3 H' ∧ Ren P H' σ' ρ3 ∧ T.wp (forL (fun d ρ' => T.bind (g d ρ') (fb n)) (ds.drop (i + 1)) ρ3) b3 (outQ P H D) (KW P H E),
      fun σ' H' h => ⟨ds.length - (i + 1), by omega, rfl, hlt, h⟩, fun x H3 hy => ?_⟩
    obtain ⟨F3, U3, r3⟩ := itd.yld i H2 x H3 F2 hy ds[i] (by simp [hlt])
    have F13 := F2.trans F3
    rw [List.drop_eq_getElem_cons hlt] at q2
    have q3 : T.wp (T.bind (T.bind (g ds[i] ρ2) (fb n)) fun o => match o with
        | .nx ρ' => forL (fun d ρ' => T.bind (g d ρ') (fb n)) (ds.drop (i + 1)) ρ'
        | .ct ρ' => forL (fun d ρ' => T.bind (g d ρ') (fb n)) (ds.drop (i + 1)) ρ'
        | .bk ρ' => .ret (.nx ρ')
        | .rt d => .ret (.rt d)) b2 (outQ P H D) (KW P H E) := q2
    rw [T.bind_assoc] at q3
    refine store_run (cG_pure hg) (U3 _ U2) (R2.frm F3) r3 q3 fun σ4 H4 ρ4 F4 U4 R4 q4 => ?_
    refine ⟨n, ρ4, b2, U4, R4, T.wp_mono (T.wp_bind.mp q4) (fun o c _ qo => ?_) fun _ _ _ e => e.frm (F1.trans (F13.trans F4))⟩
    cases o with
    | nx ρ' => exact fun σ' H' F' U' R' => ⟨ρ', c, (F13.trans F4).trans F', U', R', qo⟩
    | ct ρ' => exact fun σ' H' F' U' R' => ⟨ρ', c, (F13.trans F4).trans F', U', R', qo⟩
    | bk ρ' => exact fun σ' H' F' U' R' => qo σ' H' ((F1.trans (F13.trans F4)).trans F') U' R'
    | rt d => exact KQ.frm (F1.trans (F13.trans F4)) qo
  · refine .inl ⟨itd.stop i H2 F2 (by omega), ?_⟩
    rw [List.drop_eq_nil_of_le (by omega)] at q2
    exact q2 σ2 H2 (F1.trans F2) U2 R2
theorem nd_xd {fs : List (Str × V)} : ¬ IsDraw (.xd fs) := fun ⟨_, _, _, z⟩ => nomatch z
theorem zip_fst {α β : Type} : ∀ {xs : List α} {ys : List β}, ys.length = xs.length → (xs.zip ys).map (·.1) = xs
  | [], [], _ => rfl
  | x :: xs, y :: ys, h => by simp only [List.zip_cons_cons, List.map_cons, zip_fst (show ys.length = xs.length by simpa using h)]
theorem zip_snd {α β : Type} : ∀ {xs : List α} {ys : List β}, ys.length = xs.length → (xs.zip ys).map (·.2) = ys
  | [], [], _ => rfl
  | x :: xs, y :: ys, h => by simp only [List.zip_cons_cons, List.map_cons, zip_snd (show ys.length = xs.length by simpa using h)]
theorem s_raise (S : XS P Γ errs X E) {c : Str} {fs : List Str} {e : Expr} {es : List Expr} {p p2 pos : Pos} {fa : FA} (cm : Γ.calm = true) (h0 : isStar e = false) (hs : es.all (fun e => !isStar e) = true) (hl : errs.lookup c = some fs) (ha : PA X (e :: es) (tEvA P (W0 E) fa)) :
    PS X (.Raise (some (.Call (.Name c p) (e :: es) [] p2)) none pos) (tS P E fun _ ρ => T.bind (fa ρ) fun ds => if ds.length = fs.length then .err ⟨c, fs.zip ds⟩ else .stuck) := by
  obtain ⟨C, hC, mk⟩ := S.rz c fs hl
  refine impS (ps_raise (S.x.calm cm) (S.tk cm) (mk e es p p2 _ h0 hs ha)) fun D σ H q => ?_
  obtain ⟨n, ρ, b, U, R, q⟩ := q
  refine stA (Frm.refl H) U R q fun ds b1 vs H1 F1 U1 r1 R1 q1 => ?_
  obtain ⟨hz, q1⟩ := ite_wp q1
  have hv : vs.length = fs.length := by rw [r1.length, hz]
  refine ⟨hv, fun d hd => ?_⟩
  have q2 : KW P H E ⟨c, fs.zip ds⟩ b1 := q1
  refine q2 C d (fs.zip vs) _ hC (F1.trans (Frm.new hd)) (U1.new hd nd_xd) upd_same ⟨by rw [zip_fst hv, zip_fst hz], ?_⟩
  rw [zip_snd hv, zip_snd hz]
  exact r1.frm (Frm.new hd)
theorem s_seq {s : Stmt} {r : List Stmt} {fs fr : FS} (hs : PS X s (tS P E fs)) (hr : PSs X r (tS P E fr)) : PSs X (s :: r) (tS P E fun m ρ => T.bind (fs m ρ) fun o => seqT o (fr m)) := by
  refine impSs (pss_cons hs hr) fun D σ H q => ?_
  obtain ⟨n, ρ, b, U, R, q⟩ := q
  refine ⟨n, ρ, b, U, R, T.wp_mono (T.wp_bind.mp q) (fun o c _ qo => ?_) fun _ _ _ e => e⟩
  cases o with
  | nx ρ' => exact fun σ' H' F' U' R' => ⟨n, ρ', c, U', R', T.wp_mono qo (fun _ _ _ q => q.frm F') fun _ _ _ q => q.frm F'⟩
  | ct ρ' => exact qo
  | bk ρ' => exact qo
  | rt d => exact qo
/-! ### try -/
theorem tryR_wp {sub : Str → Option Bool} {hd : Er → T Out} {Q : Out → Nat → Prop} {EE : Er → Nat → Prop} : ∀ {t : T Out} {b : Nat}, T.wp (tryR sub hd t) b Q EE → T.wp t b Q (fun e c => (sub e.cls = some true ∧ T.wp (hd e) c Q EE) ∨ (sub e.cls = some false ∧ EE e c))
  | .ret _, _, h => h
  | .err e, b, h => by
    have h' : T.wp (match sub e.cls with
      | some true => hd e
      | some false => .err e
      | none => .stuck) b Q EE := h
    show (sub e.cls = some true ∧ _) ∨ (sub e.cls = some false ∧ _)
    cases hs : sub e.cls with
    | none =>
      rw [hs] at h'
      exact h'.elim
    | some k =>
      rw [hs] at h'
      cases k with
      | true => exact .inl ⟨rfl, h'⟩
      | false => exact .inr ⟨rfl, h'⟩
  | .pick _ _, 0, h => h
  | .pick _ _, _ + 1, h => fun i h0 h1 => tryR_wp (h i h0 h1)
  | .stuck, _, h => h.elim
/-- a statement's reading, with the slots seen by the errors -/
def tSW (P : Pa) (W : WX) (f : FS) : TS := fun D σ H => ∃ n ρ b, Bud P b H ∧ Ren P H σ ρ ∧ T.wp (f n ρ) b (outQ P H D) (KW P H (WE W σ))
theorem s_simp {W : WX} (fn : ∀ y, X.fn y = true) (st : ∀ y i, storeOf Γ y = some i → X.N[i]? = some y ∧ Loc X.env.scope y ∧ ∀ q ∈ P.fz, q.1 ≠ i) (x : XO P Γ X W) {n : Nat} {s0 : Stmt} {f : FS} (h : simpS Γ n s0 = some f) : PS X s0 (tSW P W f) := by
  have N := snd x n
  cases s0 with
  | Assign ts e pos =>
    match ts, h with
    | [], h => exact absurd h (by simp [simpS])
    | _ :: _ :: _, h => exact absurd h (by simp [simpS])
    | [tg], h =>
      cases tg with
      | Name y p =>
        obtain ⟨hc, h⟩ := itN (show (if isComp e = true then none else _) = some f from h)
        obtain ⟨i, hi, h⟩ := bnd h
        obtain ⟨fe, he, h⟩ := bnd h
        cases h
        obtain ⟨h1, h2, nf⟩ := st y i hi
        refine impS (ps_set (by rw [x.hN]; exact x.nd) h1 h2 (N.E _ _ he) (swaps_none (by simpa using hc)) (.inl (fn y))) fun D σ H q => ?_
        obtain ⟨m, ρ, b, U, R, q⟩ := q
        exact stepE U R q (fun _ _ e => e) fun d b1 v H1 F1 U1 r1 R1 q1 => q1 _ H1 F1 U1 (R1.set nf r1)
      | _ => cases h
  | Expr e pos =>
    obtain ⟨hc, h⟩ := itN (show (if isComp e = true then none else _) = some f from h)
    obtain ⟨fe, he, h⟩ := bnd h
    cases h
    refine impS (ps_expr (N.E _ _ he) (swaps_none (by simpa using hc))) fun D σ H q => ?_
    obtain ⟨m, ρ, b, U, R, q⟩ := q
    exact stepE U R q (fun _ _ e => e) fun d b1 v H1 F1 U1 r1 R1 q1 => q1 _ H1 F1 U1 R1
  | Return e pos =>
    cases e with
    | none => cases h
    | some e =>
      obtain ⟨fe, he, h⟩ := bnd (show (cE Γ n e).bind _ = _ from h)
      cases h
      refine impS (ps_ret (N.E _ _ he)) fun D σ H q => ?_
      obtain ⟨m, ρ, b, U, R, q⟩ := q
      exact stepE U R q (fun _ _ e => e) fun d b1 v H1 F1 U1 r1 R1 q1 => KQ.now (KQ.frm F1 (show KQ P H D.rt d b1 from q1)) U1 r1
  | _ => cases h
theorem bud_suP {dd a : Addr} {vs : List (Str × V)} {i b : Nat} {B : Hp} {H : Hp} (U : Bud P b H) (h : H dd = some (.xd vs)) (hB : Frm B H) : Bud (suP P dd vs i a B) b H := by
  refine ⟨U.1, U.2.1, fun q hq => ?_, fun C hC => ?_⟩
  · rcases List.mem_cons.mp hq with rfl | hq
    · exact ⟨h, nd_xd, fun ps z => nomatch z⟩
    · exact U.2.2.1 q hq
  · rcases List.mem_cons.mp hC with rfl | hC
    · exact hB
    · exact U.2.2.2 C hC
theorem bud_of_suP {dd a : Addr} {vs : List (Str × V)} {i b : Nat} {B : Hp} {H : Hp} (U : Bud (suP P dd vs i a B) b H) : Bud P b H :=
  ⟨U.1, U.2.1, fun q hq => U.2.2.1 q (List.mem_cons_of_mem _ hq), fun C hC => U.2.2.2 C (List.mem_cons_of_mem _ hC)⟩
theorem ren_suP {dd a : Addr} {vs : List (Str × V)} {i : Nat} {B : Hp} {H : Hp} {σ : St} {ρ : En} (hi : i < σ.length) (nf : ∀ q ∈ P.fz, q.1 ≠ i) (R : Ren P H σ ρ) : Ren (suP P dd vs i a B) H (σ.set i (some (.ref a))) (ρ.set i none) := by
  have R1 := R.unset nf (some (V.ref a))
  refine ⟨R1.1, R1.2.1, fun q hq => ?_⟩
  rcases List.mem_cons.mp hq with rfl | hq
  · show (σ.set i (some (V.ref a)))[i]? = _
    rw [List.getElem?_set, if_pos rfl, if_pos hi]
  · exact R1.2.2 q hq
theorem ren_of_suP {dd a : Addr} {vs : List (Str × V)} {i : Nat} {B : Hp} {H : Hp} {σ : St} {ρ : En} (nf : ∀ q ∈ P.fz, q.1 ≠ i) (R : Ren (suP P dd vs i a B) H σ ρ) : Ren P H (σ.set i none) (ρ.set i none) :=
  Ren.unset nf (⟨R.1, R.2.1, fun q hq => R.2.2 q (List.mem_cons_of_mem _ hq)⟩ : Ren P H σ ρ) none
theorem s_try (S : XS P Γ errs X E) (ht : Γ.tryOk = true) (cm : Γ.calm = true) {n : Nat} {s0 : Stmt} {c nm : Str} {b0 : Stmt} {su : List Stmt} {p1 p2 pos : Pos} {i : Nat} {f0 : FS} (hg : glob Γ c = true) (hc : c ∈ Γ.ecl) (hl : Γ.sc.names.lookup nm = some .local) (hi : storeOf Γ nm = some i) (hsl : slotOf Γ nm = some i) (h0 : simpS Γ n s0 = some f0)
    (IH : ∀ (P' : Pa) (Γ' : Ga) (errs' : List (Str × List Str)) (X' : Cx) (E' : XK), XS P' Γ' errs' X' E' → SndS P' Γ' errs' X' E' n) :
    PS X (.Try [s0] [.ExceptHandler (some (.Name c p1)) (some nm) (b0 :: su) p2] [] [] pos) (tS P E fun m ρ => tryR (fun cn => Γ.sub cn c) (fun er => runSu (cSs (suGa Γ nm er) [] n (b0 :: su)) i m ρ) (f0 m ρ)) := by
  have K := S.try_ ht
  obtain ⟨h1, h2, nf⟩ := store_of S hi
  obtain ⟨Cc, nms, hex⟩ := K.cat c hc hg
  have ni : Γ.N[i]? = some nm := by rw [← S.x.hN]; exact h1
  refine ⟨fun pins s σ H D I q => (ps_try_as (i := i) K.hs K.hf (by rw [S.x.hN]; exact S.x.nd) h1 (show X.env.scope.names.lookup nm = some .local by rw [S.x.hsc]; exact hl) nms (S.tk cm) (tb := fun W => tSW P W f0)
    (ts := fun a cls d D σ H => ∃ (er : Er) (C dd : Addr) (vs : List (Str × V)) (B : Hp) (fs : FS), cls = .ref C ∧ d = some dd ∧ P.cl er.cls = some C ∧ RpF P.K B vs er.fs ∧ cSs (suGa Γ nm er) [] n (b0 :: su) = some fs ∧ tS (suP P dd vs i a B) (fun _ _ _ => False) fs D σ H)
    (fun W pn xe tk own => pss_one (s_simp (X := X.tr pn xe) S.fn (fun y j hj => store_of S hj) (K.tr pn xe W tk own) h0)) (fun a oe cls d pn hz hf => ?_)).run pins s σ H D I ?_⟩
  · refine ⟨fun pins s σ H D I q => ?_⟩
    obtain ⟨er, C, dd, vs, B, fs, rfl, rfl, k1, k2, k3, q⟩ := q
    have xs : XS (suP P dd vs i a B) (suGa Γ nm er) [] (X.suite a ((a, oe) :: pn)) (fun _ _ _ => False) := {
      x := K.su a oe C dd pn nm i er vs B hz hf k1 k2 hsl
      fn := S.fn
      bk := S.bk
      tk := fun z => nomatch z
      own := fun z => nomatch z
      try_ := fun z => nomatch z
      rz := fun c fs h => nomatch h }
    exact ((IH _ _ _ _ _ xs).B _ _ k3).run pins s σ H D I q
  · obtain ⟨m, ρ, b, U, R, q⟩ := q
    refine ⟨m, ρ, b, U, R, T.wp_mono (tryR_wp q) (fun _ _ _ q => q) fun er c' _ qe => ?_⟩
    intro C dd vs H' hC F U' hd rpf
    show wAs X.K (.ref Cc) i _ _ D (.ref C) (some dd) σ H'
    rcases qe with ⟨hs, qe⟩ | ⟨hs, qe⟩
    · refine ⟨true, hex _ _ _ hs hC, fun _ a ha => ?_, fun z => nomatch z⟩
      cases hcs : cSs (suGa Γ nm er) [] n (b0 :: su) with
      | none =>
        rw [hcs] at qe
        exact qe.elim
      | some fs =>
        rw [hcs] at qe
        have qe' := T.wp_bind.mp (noRaise_wp (show T.wp (noRaise (T.bind (fs m (ρ.set i none)) fun o => .ret (unsetO i o))) c' _ _ from qe))
        have hlen : i < σ.length := by
          rw [I.len]
          exact (List.getElem?_eq_some_iff.mp h1).1
        refine ⟨er, C, dd, vs, H', fs, rfl, rfl, hC, rpf, hcs, m, ρ.set i none, c', bud_suP U' hd (Frm.refl _), ren_suP hlen nf (R.frm F), T.wp_mono qe' (fun o c2 _ qo => ?_) fun _ _ _ e => e.elim⟩
        cases o with
        | nx ρ2 => exact fun σ2 H2 F2 U2 R2 => qo _ H2 (F.trans F2) (bud_of_suP U2) (ren_of_suP nf R2)
        | bk ρ2 => exact fun σ2 H2 F2 U2 R2 => qo _ H2 (F.trans F2) (bud_of_suP U2) (ren_of_suP nf R2)
        | ct ρ2 => exact fun σ2 H2 F2 U2 R2 => qo _ H2 (F.trans F2) (bud_of_suP U2) (ren_of_suP nf R2)
        | rt d => exact fun v H2 F2 U2 r2 => qo v H2 (F.trans F2) (bud_of_suP U2) r2
    · exact ⟨false, hex _ _ _ hs hC, fun z => absurd z (by decide), fun _ => qe C dd vs H' hC F U' hd rpf⟩
end
end Pv

-- Pv11
set_option Elab.async false
set_option linter.all false
set_option maxRecDepth 100000
set_option maxHeartbeats 8000000
namespace Pv
open PySem L2
section
variable {P : Pa} {Γ : Ga} {errs : List (Str × List Str)} {X : Cx} {E : XK}
theorem snd_a1 (S : XS P Γ errs X E) {n : Nat} {y : Str} {p pos : Pos} {e : Expr} {f : FS} (h : (if isComp e then none else (storeOf Γ y).bind fun i => (cE Γ n e).bind fun fe => some fun (_ : Nat) ρ => T.bind (fe ρ) fun d => .ret (.nx (ρ.set i (some d)))) = some f) : PS X (.Assign [.Name y p] e pos) (tS P E f) := by
  obtain ⟨hc, h⟩ := itN h
  obtain ⟨i, hi, h⟩ := bnd h
  obtain ⟨fe, he, h⟩ := bnd h
  cases h
  exact s_set S (by simpa using hc) hi ((snd S.x n).E _ _ he)
theorem snd_a2 (S : XS P Γ errs X E) {n : Nat} {ts : List Expr} {k : Nat} {tp pos : Pos} {e : Expr} {f : FS} (h : (if isComp e || isDisp e then none else (cG Γ (.Tuple ts k tp)).bind fun g => (cE Γ n e).bind fun fe => some fun (_ : Nat) ρ => T.bind (fe ρ) fun d => T.bind (g d ρ) fun ρ' => .ret (.nx ρ')) = some f) :
    PS X (.Assign [.Tuple ts k tp] e pos) (tS P E f) := by
  obtain ⟨hc, h⟩ := itN h
  have hc' : isComp e = false ∧ isDisp e = false := by simpa using hc
  obtain ⟨g, hg, h⟩ := bnd h
  obtain ⟨fe, he, h⟩ := bnd h
  cases h
  exact s_asg S hc'.1 hg ((snd S.x n).E _ _ he) (swapN hc'.2)
theorem snd_a3 (S : XS P Γ errs X E) {n : Nat} {x y : Str} {px py pt p2 pos : Pos} {kt k2 : Nat} {es : List Expr} {f : FS} (h : (if par2 Γ x y px py es then (storeOf Γ x).bind fun i => (storeOf Γ y).bind fun j => if i = j then none else (cA Γ n es).bind fun fs => some fun (_ : Nat) ρ => T.bind (fs ρ) fun ds => match ds with
        | [d, e] => .ret (.nx ((ρ.set i (some d)).set j (some e)))
        | _ => .stuck
      else if hasCell Γ [.Name x px, .Name y py] && (es.length == 2) then (cG Γ (.Tuple [.Name x px, .Name y py] kt pt)).bind fun g => (cE Γ n (.Tuple es k2 p2)).bind fun fe => some fun (_ : Nat) ρ => T.bind (fe ρ) fun d => T.bind (g d ρ) fun ρ' => .ret (.nx ρ')
      else none) = some f) : PS X (.Assign [.Tuple [.Name x px, .Name y py] kt pt] (.Tuple es k2 p2) pos) (tS P E f) := by
  split at h
  · rename_i hp
    obtain ⟨i, hi, h⟩ := bnd h
    obtain ⟨j, hj, h⟩ := bnd h
    obtain ⟨hij, h⟩ := itN h
    obtain ⟨fs, ha, h⟩ := bnd h
    cases h
    exact s_par S hp hi hj hij ((snd S.x n).A _ _ ha)
  · obtain ⟨hc, h⟩ := itS h
    obtain ⟨g, hg, h⟩ := bnd h
    obtain ⟨fe, he, h⟩ := bnd h
    cases h
    obtain ⟨h1, h2⟩ := ok_bool hc
    have h1' : ¬ (Γ.sc.names.lookup x = some .local ∧ Γ.sc.names.lookup y = some .local) := by
      intro z
      simp [hasCell, z.1, z.2] at h1
    cases n with
    | zero => cases he
    | succ n =>
      obtain ⟨fs, ha, hf⟩ := bnd (show (cA Γ n es).bind _ = _ from he)
      match es, h2 with
      | [a, c], _ =>
        have key : isStar a = false ∧ isStar c = false ∨ isStar a = true ∨ isStar c = true := by
          cases isStar a <;> cases isStar c <;> simp
        refine s_asg S rfl hg ((snd S.x (n + 1)).E _ _ he) ?_
        rcases key with ⟨ka, kc⟩ | k
        · exact swapC S.bk (fun z => h1' (by rw [← S.x.hsc]; exact z)) ka kc
        · unfold swappedStores
          simp only [List.length_cons, List.length_nil, S.bk]
          rcases k with k | k
          · cases a <;> first | (simp [isStar] at k; done) | rfl
          · cases c <;> first | (simp [isStar] at k; done) | (cases a <;> rfl)
theorem two_inv {tg e : Expr} {x y : Str} {px py : Pos} {es : List Expr} (h : twoNames tg e = some (x, px, y, py, es)) : ∃ kt pt k2 p2, tg = .Tuple [.Name x px, .Name y py] kt pt ∧ e = .Tuple es k2 p2 := by
  unfold twoNames at h
  split at h
  · cases h
    exact ⟨_, _, _, _, rfl, rfl⟩
  · cases h
theorem snd_as (S : XS P Γ errs X E) {n : Nat} {tg e : Expr} {pos : Pos} {f : FS} (h : (match twoNames tg e with
      | some (x, px, y, py, es) =>
        if par2 Γ x y px py es then (storeOf Γ x).bind fun i => (storeOf Γ y).bind fun j => if i = j then none else (cA Γ n es).bind fun fs => some fun (_ : Nat) ρ => T.bind (fs ρ) fun ds => match ds with
          | [d, e] => .ret (.nx ((ρ.set i (some d)).set j (some e)))
          | _ => .stuck
        else if hasCell Γ [.Name x px, .Name y py] && (es.length == 2) then (cG Γ tg).bind fun g => (cE Γ n e).bind fun fe => some fun (_ : Nat) ρ => T.bind (fe ρ) fun d => T.bind (g d ρ) fun ρ' => .ret (.nx ρ')
        else none
      | none => match tg with
        | .Name x _ => if isComp e then none else (storeOf Γ x).bind fun i => (cE Γ n e).bind fun fe => some fun (_ : Nat) ρ => T.bind (fe ρ) fun d => .ret (.nx (ρ.set i (some d)))
        | .Tuple ts k p => if isComp e || isDisp e then none else (cG Γ (.Tuple ts k p)).bind fun g => (cE Γ n e).bind fun fe => some fun (_ : Nat) ρ => T.bind (fe ρ) fun d => T.bind (g d ρ) fun ρ' => .ret (.nx ρ')
        | _ => none) = some f) : PS X (.Assign [tg] e pos) (tS P E f) := by
  split at h
  · rename_i x px y py es ht
    obtain ⟨kt, pt, k2, p2, rfl, rfl⟩ := two_inv ht
    exact snd_a3 S h
  · split at h
    · exact snd_a1 S h
    · exact snd_a2 S h
    · cases h
theorem snd_S (S : XS P Γ errs X E) {n : Nat} (I : SndS P Γ errs X E n) (IH : ∀ (P' : Pa) (Γ' : Ga) (errs' : List (Str × List Str)) (X' : Cx) (E' : XK), XS P' Γ' errs' X' E' → SndS P' Γ' errs' X' E' n) : ∀ s f, cS Γ errs (n + 1) s = some f → PS X s (tS P E f) := by
  intro s f h
  have N := snd S.x n
  cases s with
  | Assign ts e pos =>
    match ts, h with
    | [], h => cases h
    | _ :: _ :: _, h => cases h
    | [tg], h => exact snd_as S h
  | Expr e pos =>
    have other : (if isComp e then none else (cE Γ n e).bind fun fe => some fun (_ : Nat) ρ => T.bind (fe ρ) fun _ => .ret (.nx ρ)) = some f → PS X (.Expr e pos) (tS P E f) := fun h => by
      obtain ⟨hc, h⟩ := itN h
      obtain ⟨fe, he, h⟩ := bnd h
      cases h
      refine impS (ps_expr (N.E _ _ he) (swaps_none (by simpa using hc))) fun D σ H q => ?_
      obtain ⟨m, ρ, b, U, R, q⟩ := q
      exact stE (Frm.refl H) U R q fun d b1 v H1 F1 U1 r1 R1 q1 => q1 _ H1 F1 U1 R1
    cases e with
    | Constant c k p =>
      cases c with
      | str z =>
        cases h
        refine impS ps_doc fun D σ H q => ?_
        obtain ⟨m, ρ, b, U, R, q⟩ := q
        exact q _ H (Frm.refl H) U R
      | _ => exact other h
    | _ => exact other h
  | Return e pos =>
    cases e with
    | none =>
      cases h
      refine impS ps_retN fun D σ H q => ?_
      obtain ⟨m, ρ, b, U, R, q⟩ := q
      exact KQ.now (show KQ P H D.rt .none b from q) U .non
    | some e =>
      obtain ⟨fe, he, h⟩ := bnd (show (cE Γ n e).bind _ = _ from h)
      cases h
      refine impS (ps_ret (N.E _ _ he)) fun D σ H q => ?_
      obtain ⟨m, ρ, b, U, R, q⟩ := q
      exact stE (Frm.refl H) U R q fun d b1 v H1 F1 U1 r1 R1 q1 => KQ.now (KQ.frm F1 (show KQ P H D.rt d b1 from q1)) U1 r1
  | If c a d p =>
    obtain ⟨fc, hc, h⟩ := bnd (show (cT Γ n c).bind _ = _ from h)
    obtain ⟨fa, ha, h⟩ := bnd h
    obtain ⟨fb, hb, h⟩ := bnd h
    cases h
    exact s_if2 (N.T _ _ hc) (I.B _ _ ha) (I.B _ _ hb)
  | While c b o p =>
    cases o with
    | cons _ _ => cases h
    | nil =>
      obtain ⟨fc, hc, h⟩ := bnd (show (cT Γ n c).bind _ = _ from h)
      obtain ⟨fb, hb, h⟩ := bnd h
      obtain ⟨cm, h⟩ := itS h
      cases h
      exact s_while S cm (N.T _ _ hc) (I.B _ _ hb)
  | For tg it b o p =>
    cases o with
    | cons _ _ => cases h
    | nil =>
      obtain ⟨fi, hi, h⟩ := bnd (show (cI Γ n tg it).bind _ = _ from h)
      obtain ⟨g, hg, h⟩ := bnd h
      obtain ⟨fb, hb, h⟩ := bnd h
      obtain ⟨hf, h⟩ := itS h
      obtain ⟨hf, cm⟩ := ok_bool hf
      cases h
      exact s_for S cm hf (snd_I S.x hi) hg (I.B _ _ hb)
  | Raise e c pos =>
    match e, c, h with
    | some (.Call (.Name c p) (e :: es) [] p2), none, h =>
      obtain ⟨hx, h⟩ := itS h
      obtain ⟨hx, cm⟩ := ok_bool hx
      obtain ⟨h0, hs⟩ := ok_bool hx
      obtain ⟨fs, hl, h⟩ := bnd h
      obtain ⟨fa, ha, h⟩ := bnd h
      cases h
      exact s_raise S cm (nstar h0) hs hl (N.A _ _ ha)
  | Try body hs orelse fin pos =>
    match body, hs, orelse, fin, h with
    | [s0], [.ExceptHandler (some (.Name c p1)) (some nm) (b0 :: su) p2], [], [], h =>
      obtain ⟨hx, h⟩ := itS h
      obtain ⟨hx, hsl⟩ := ok_bool hx
      obtain ⟨hx, hl⟩ := ok_bool hx
      obtain ⟨hx, hc⟩ := ok_bool hx
      obtain ⟨hx, hg⟩ := ok_bool hx
      obtain ⟨ht, cm⟩ := ok_bool hx
      obtain ⟨i, hi, h⟩ := bnd h
      obtain ⟨f0, h0, h⟩ := bnd h
      cases h
      exact s_try S ht cm hg (by simpa using hc) (of_decide_eq_true hl) hi ((of_decide_eq_true hsl).trans hi) h0 IH
  | Pass pos =>
    cases h
    refine impS ps_pass fun D σ H q => ?_
    obtain ⟨m, ρ, b, U, R, q⟩ := q
    exact q _ H (Frm.refl H) U R
  | Break pos =>
    cases h
    refine impS ps_break fun D σ H q => ?_
    obtain ⟨m, ρ, b, U, R, q⟩ := q
    exact q _ H (Frm.refl H) U R
  | Continue pos =>
    cases h
    refine impS ps_continue fun D σ H q => ?_
    obtain ⟨m, ρ, b, U, R, q⟩ := q
    exact q _ H (Frm.refl H) U R
  | _ => cases h
theorem snd_B' (S : XS P Γ errs X E) {n : Nat} (I : SndS P Γ errs X E n) : ∀ ss f, cSs Γ errs (n + 1) ss = some f → PSs X ss (tS P E f) := by
  intro ss f h
  cases ss with
  | nil =>
    cases h
    refine impSs pss_nil fun D σ H q => ?_
    obtain ⟨m, ρ, b, U, R, q⟩ := q
    exact q _ H (Frm.refl H) U R
  | cons s r =>
    obtain ⟨fs, hs, h⟩ := bnd (show (cS Γ errs n s).bind _ = _ from h)
    obtain ⟨fr, hr, h⟩ := bnd h
    cases h
    exact s_seq (I.S _ _ hs) (I.B _ _ hr)
theorem sndS_all : ∀ (n : Nat) (P : Pa) (Γ : Ga) (errs : List (Str × List Str)) (X : Cx) (E : XK), XS P Γ errs X E → SndS P Γ errs X E n
  | 0, _, _, _, _, _, _ => SndS.mk (fun _ _ h => nomatch h) (fun _ _ h => nomatch h)
  | n + 1, P, Γ, errs, X, E, S => ⟨snd_S S (sndS_all n P Γ errs X E S) (sndS_all n), snd_B' S (sndS_all n P Γ errs X E S)⟩
theorem sndS (S : XS P Γ errs X E) (n : Nat) : SndS P Γ errs X E n := sndS_all n P Γ errs X E S
/-- a def's reading over data -/
def outD : Out → T PyData
  | .nx _ => .ret .none
  | .rt d => .ret d
  | _ => .stuck
def runDef (N : Nat) (f : FS) (ds : List PyData) : T PyData := T.bind (f 100000 (ds.map some ++ List.replicate (N - ds.length) none)) outD
theorem ren_start {H : Hp} {N : List Str} {vs : List V} {ds : List PyData} (nf : P.fz = []) (r : RpA P.K H vs ds) : Ren P H (L2.start N vs) (ds.map some ++ List.replicate (N.length - ds.length) none) := by
  unfold L2.start
  have hl := r.length
  refine ⟨by simp [hl], fun i d e => ?_, fun q hq => by rw [nf] at hq; cases hq⟩
  by_cases hi : i < ds.length
  · rw [List.getElem?_append_left (by simpa using hi), List.getElem?_map] at e
    obtain ⟨d', hd, e'⟩ := Option.map_eq_some_iff.mp e
    cases e'
    obtain ⟨v, hv, rv⟩ := r.get hd
    refine ⟨v, ?_, rv⟩
    rw [List.getElem?_append_left (by simpa [hl] using hi), List.getElem?_map, hv]
    rfl
  · rw [List.getElem?_append_right (by simpa using hi), List.getElem?_replicate] at e
    split at e <;> cases e
theorem body_run (nf : P.fz = []) {f : FS} {vs : List V} {H : Hp} {Q : VK} {N : List Str} (hsp : spT P ⟨vs.length, runDef N.length f⟩ vs H Q E) : tS P E f { nx := fun _ H' => Q .non H', rt := Q } (L2.start N vs) H := by
  obtain ⟨_, ds, b, U, r, q⟩ := hsp
  refine ⟨100000, _, b, U, ren_start nf r, T.wp_mono (T.wp_bind.mp q) (fun o c _ qo => ?_) fun _ _ _ e => e⟩
  cases o with
  | nx ρ => exact fun σ' H' F U' R => qo _ H' F U' .non
  | rt d => exact qo
  | bk ρ => exact qo.elim
  | ct ρ => exact qo.elim
end
end Pv

-- Pv12
set_option Elab.async false
set_option linter.all false
set_option maxRecDepth 100000
set_option maxHeartbeats 8000000
namespace Pv
open PySem PySem.Spec L2
open PyProof.Rows (envOfC)
/-! ## errors of one field, made -/
def spInit (C : Addr) (f : Str) : Sp := fun vs H Q _ => ∃ (a : Addr) (v : V), vs = [.ref a, v] ∧ H a = some (exo a C none) ∧ ∀ dx, H dx = none → dx ≠ a → Q .non (upd (upd H dx (exd dx [(f, v)])) a (exo a C (some dx)))
section
variable {prog : Program} {w : World} {K : PySem.W.Frag} {mg : Str → Option Value} {base : Heap}
theorem init_ok {f qual : Str} {st : Stmt} {fI C : Addr} {fd : FuncData} {p1 p2 p3 p4 : Pos} (F : Fun K "__init__" qual st fI fd) (hb : defBody st = [.Assign [.Attribute (.Name "self" p1) f p2] (.Name f p3) p4]) (S : FnScope ["self", f] ["self", f] (defScope st))
    (v0 : Vis (defScope st) "self") (v1 : Vis (defScope st) f) (h1 : (f == ("__debug__" : Str)) = false) (h2 : (f == ("__classdict__" : Str)) = false) (no : PySem.W.findIn K (.ref C) f = some none) (T : OexC K C) : FnOk prog w K mg base CX0 1 fI fd ["self", f] (spInit C f) := by
  refine F.ok S (fun vs H Q E h => ?_) fun cdv A outer s H vs Q E hr h => ?_
  · obtain ⟨a, v, rfl, _⟩ := h
    rfl
  · obtain ⟨a, v, rfl, ha, q⟩ := h
    rw [hb]
    refine ⟨_, pss_one (ps_ost (pe_var (i := 0) rfl v0) (pe_var (i := 1) rfl v1 h1 h2)), ?_⟩
    exact ⟨v, rfl, .ref a, rfl, a, C, rfl, T, no, .inl ⟨ha, fun dx hd ne => q dx hd ne⟩⟩
/-- what is known of an error's class: its name, its field, where it stands, its __init__ -/
structure ErC (prog : Program) (w : World) (K : PySem.W.Frag) (mg : Str → Option Value) (base : Heap) (c f : Str) (C : Addr) : Prop where
  g : mg c = some (.ref C)
  o : OexC K C
  ini : ∃ fI fd, PySem.W.findIn K (.ref C) "__init__" = some (some (.ref fI)) ∧ PySem.W.typeIn K (.ref fI) = some (.type "function") ∧ Binds K fd ["self", f] [] ∧ FnOk prog w K mg base CX0 1 fI fd ["self", f] (spInit C f)
  db : (c == ("__debug__" : Str)) = false
end
theorem evA_mono {P : Pa} {W : WX} {fa : FA} {σ : St} {H : Hp} {Q Q' : List V → Hp → Prop} (h : tEvA P W fa σ H Q) (k : ∀ vs H', Frm H H' → Q vs H' → Q' vs H') : tEvA P W fa σ H Q' := by
  obtain ⟨ρ, b, U, R, q⟩ := h
  exact ⟨ρ, b, U, R, T.wp_mono q (fun ds c _ q vs H' F U' r => k vs H' F (q vs H' F U' r)) fun _ _ _ e => e⟩
theorem mk_err {X : Cx} {c f : Str} {C : Addr} {P : Pa} {W : WX} (hg : Gl X c) (hr : Room 2 X.A) (h : ErC X.prog X.w X.K X.mg X.base c f C) {e : Expr} {es : List Expr} {p pos : Pos} {fa : FA} (h0 : isStar e = false) (hs : es.all (fun e => !isStar e) = true) (ha : PA X (e :: es) (tEvA P W fa)) :
    PMk X (.Call (.Name c p) (e :: es) [] pos) (fun σ H Q => tEvA P W fa σ H fun vs H1 => vs.length = ([f] : List Str).length ∧ ∀ d, H1 d = none → Q (.ref C) (some d) (upd H1 d (.xd (([f] : List Str).zip vs)))) := by
  obtain ⟨fI, fd, k1, k2, k3, k4⟩ := h.ini
  have base := pmk_oex (X := X) (x := c) (p := p) (pos := pos) h.o k1 k2 k4 hr k3 .nil pass0 hg h.g ha h.db (star_cons h0) (star_any hs)
  intro pins s σ H Q I q
  refine base pins s σ H Q I ?_
  refine evA_mono q fun vs H1 _ hq => ?_
  obtain ⟨hl, hq⟩ := hq
  match vs, hl with
  | [v], _ =>
    refine ⟨by show 1 ≤ 1000; decide, fun a ha => ⟨a, v, by simp, upd_same, fun dx hd ne => ⟨rfl, ?_⟩⟩⟩
    have hdx : H1 dx = none := by rw [← hd, upd_ne ne]
    refine ⟨dx, [(f, v)], upd_same, by rw [upd_ne ne, upd_same], hdx, ?_⟩
    have e : upd (del (upd (upd (upd H1 a (exo a C none)) dx (exd dx [(f, v)])) a (exo a C (some dx))) a) dx (.xd [(f, v)]) = upd H1 dx (.xd [(f, v)]) := by
      funext b
      by_cases hb : b = dx
      · rw [hb, upd_same, upd_same]
      · rw [upd_ne hb, upd_ne hb]
        by_cases hb2 : b = a
        · rw [hb2, del_same, ha]
        · rw [del_ne hb2, upd_ne hb2, upd_ne hb, upd_ne hb2]
    rw [e]
    exact hq dx hdx
/-! ## the program's facts, and a def's promise -/
structure Pg (P : Pa) (prog : Program) (w : World) (mg : Str → Option Value) (base : Heap) (k : Nat) (fns : List (Str × FnI)) (con : List (Str × PyData)) (errs : List (Str × List Str)) : Prop where
  nf : P.fz = []
  con : ∀ x d, con.lookup x = some d → ∃ v u, mg x = some u ∧ RelV v u ∧ ∀ H, Rp P.K H v d
  fns : ∀ x i, fns.lookup x = some i → ∃ f fd ps, mg x = some (.ref f) ∧ PySem.W.keepIn P.K (.ref f) = true ∧ Binds P.K fd ps [] ∧ FnOk prog w P.K mg base (L2.CX prog w) k f fd ps (spT P i)
  blt : ∀ x, x ∈ bltNames → mg x = none
  errs : ∀ c fs, errs.lookup c = some fs → ∃ f C, fs = [f] ∧ P.cl c = some C ∧ ErC prog w P.K mg base c f C
section
variable {P : Pa} {prog : Program} {w : World} {mg : Str → Option Value} {base : Heap} {k : Nat} {fns : List (Str × FnI)} {con : List (Str × PyData)} {errs : List (Str × List Str)}
/-- the names of errors are global in the def -/
def errsGlob (sc : Scope) (errs : List (Str × List Str)) : Bool := errs.all fun c => decide (sc.names.lookup c.1 = some .globalImplicit) || (sc.names.lookup c.1).isNone
theorem lookup_mem {α : Type} {c : Str} {a : α} : ∀ {l : List (Str × α)}, l.lookup c = some a → (c, a) ∈ l
  | [], h => by cases h
  | (d, b) :: l, h => by
    rw [List.lookup_cons] at h
    split at h
    · rename_i e
      cases h
      have e' : c = d := by simpa using e
      subst e'
      exact List.mem_cons_self
    · exact List.mem_cons_of_mem _ (lookup_mem h)
/-- only the errors that the def itself names -/
def errsOf (sc : Scope) (errs : List (Str × List Str)) : List (Str × List Str) := errs.filter fun c => decide (sc.names.lookup c.1 = some .globalImplicit)
theorem errsOf_ok {sc : Scope} {errs : List (Str × List Str)} {c : Str} {fs : List Str} (nd : (errs.map (·.1)).Nodup) (h : (errsOf sc errs).lookup c = some fs) : errs.lookup c = some fs ∧ sc.names.lookup c = some .globalImplicit := by
  have m := lookup_mem h
  unfold errsOf at m
  obtain ⟨m1, m2⟩ := List.mem_filter.mp m
  refine ⟨?_, of_decide_eq_true m2⟩
  clear h m m2
  induction errs with
  | nil => cases m1
  | cons p l ih =>
    obtain ⟨d, gs⟩ := p
    rw [List.lookup_cons]
    rcases List.mem_cons.mp m1 with e | m2
    · cases e
      simp
    · have nd' : d ∉ l.map (·.1) ∧ (l.map (·.1)).Nodup := by simpa using nd
      have ne : (c == d) = false := by
        by_cases e : c = d
        · subst e
          exact absurd (List.mem_map.mpr ⟨(c, fs), m2, rfl⟩ : c ∈ l.map (·.1)) nd'.1
        · simpa using e
      rw [ne]
      exact ih nd'.2 m2
/-- a def's body in its surroundings -/
theorem xs_of {rep : Bool} (pg : Pg P prog w mg base k fns con errs) (nd : (errs.map (·.1)).Nodup) {N ps : List Str} {qual : Str} {scope : Scope} {f : Addr} {cdv : Value} {A : Around} {outer : List Env} {s : Shared} {H : Hp} {E : XK} (S : FnScope N ps scope) (h2 : 2 ≤ k) (hr : Room k (A.deeper (envOfC qual scope s.heap.objs.size f cdv)))
    (hg : rep = true → (A.deeper (envOfC qual scope s.heap.objs.size f cdv)).guards = some []) :
    XS P (Ga.mk0 N scope fns con rep) (errsOf scope errs) (cxOf (L2.CX prog w) prog w P.K mg base N qual scope f cdv A outer s H E) E where
  x := {
    hK := rfl
    hN := rfl
    hsc := rfl
    nd := S.nd
    calm := fun _ => rfl
    fz := fun q hq => by rw [pg.nf] at hq; cases hq
    exA := fun y er h => nomatch h
    exI := fun y er h => nomatch h
    thk := fun a th h => nomatch h
    lam := fun x tf h => nomatch h
    u := by
      have := hr.un
      show (A.deeper (envOfC qual scope s.heap.objs.size f cdv)).units + 70 < cLine
      omega
    con := pg.con
    fns := fun x i hi => by
      obtain ⟨g, fd, qs, k1, k2, k3, k4⟩ := pg.fns x i hi
      exact ⟨g, k1, k2, fun pins σ H s Q us vs I r h => run_fnS k4 hr k3 (passAt (takes_of rfl rfl rfl rfl) σ) I r h⟩
    fnB := fun _ x i hi => by
      obtain ⟨g, fd, qs, k1, k2, k3, k4⟩ := pg.fns x i hi
      exact ⟨g, k1, k2, fun sc s0 H0 ce fp pins σ H1 s1 Q us vs I r h => run_fnS (X := (cxOf (L2.CX prog w) prog w P.K mg base N qual scope f cdv A outer s H E).blk s0 H0 sc ce fp) (E := fun _ _ _ _ => False) k4 hr k3 (passAt L2.takes0 σ) I r h⟩
    blt := pg.blt
    grd := hg }
  fn := fun _ => rfl
  bk := by
    show (if scope.kind.isAnnotationScope then ScopeKind.function else scope.kind) = .function
    rw [S.kind]
    rfl
  tk := fun _ => takes_of rfl rfl rfl rfl
  own := fun _ => passes_of rfl
  try_ := fun z => nomatch z
  rz := fun c fs h => by
    obtain ⟨h1, h3⟩ := errsOf_ok nd h
    obtain ⟨g, C, rfl, k1, k2⟩ := pg.errs c fs h1
    exact ⟨C, k1, fun e es p pos fa h0 hs ha => mk_err (show Gl (cxOf (L2.CX prog w) prog w P.K mg base N qual scope f cdv A outer s H E) c from h3) (hr.mono h2) k2 h0 hs ha⟩
/-- THE RULE for a def of the program: its body, read over data -/
theorem def_ok (pg : Pg P prog w mg base k fns con errs) (nd : (errs.map (·.1)).Nodup) (h2 : 2 ≤ k) {x qual : Str} {st : Stmt} {f : Addr} {fd : FuncData} {N ps : List Str} {n : Nat} {fs : FS} (F : Fun P.K x qual st f fd) (S : FnScope N ps (defScope st))
    (hc : cSs (Ga.mk0 N (defScope st) fns con false) (errsOf (defScope st) errs) n (defBody st) = some fs) : FnOk prog w P.K mg base (L2.CX prog w) (k + 1) f fd ps (spT P ⟨ps.length, runDef N.length fs⟩) :=
  F.okX S (fun vs H Q E h => h.1) fun cdv A outer s H vs Q E hr h =>
    ⟨tS P E fs, (sndS (xs_of pg nd S h2 hr (fun z => Bool.noConfusion z)) n).B _ _ hc, body_run pg.nf (by rw [h.1]; exact h)⟩
end
end Pv

-- Pv13
set_option Elab.async false
set_option linter.all false
set_option maxRecDepth 100000
set_option maxHeartbeats 8000000
namespace Pv
open PySem PySem.Spec L2
open PyProof.Rows (envOfC)
/-! ## the drawing of numbers: the same three defs in every law -/
section
variable {prog : Program} {w : World} {K : PySem.W.Frag} {mg : Str → Option Value} {base : Heap}
def mixSc : Scope := { kind := .function, names := [("cell", .local), ("k", .local), ("one", .local)], isGenerator := false, isCoroutine := false, more := [] }
def spMix : Sp := fun vs H Q _ => ∃ c t : Int, vs = [.int c, .int t] ∧ 0 ≤ t ∧ t ≤ 2 ^ 41 ∧ ∀ (z : Int) (p : Addr) (xs : List V), H p = none → Q (.int z) (upd H p (.lst xs))
theorem mix_ok {qual : Str} {st : Stmt} {f : Addr} {fd : FuncData} {k : Nat} (F : Fun K "_law_mixed" qual st f fd) (hsc : defScope st = mixSc)
    {q1 q2 q3 q4 q5 q6 q7 q8 q9 q10 q11 q12 q13 q14 q15 q16 q17 q18 q19 q20 q21 q22 q23 q24 q25 q26 q27 q28 q29 : Pos} (hb : defBody st = [ (Stmt.Assign (targets := [(Expr.Name "one" q1)]) (value := (Expr.BinOp (left := (Expr.BinOp (left := (Expr.BinOp (left := (Expr.Name "cell" q2)) (op := Operator.Mod) (right := (Expr.Subscript (value := (Expr.List (elts := [ (Expr.Constant (Const.int 1000000007) 0 q3), (Expr.Constant (Const.int 998244353) 0 q4), (Expr.Constant (Const.int 2147483629) 0 q5), (Expr.Constant (Const.int 1000000009) 0 q6)]) (pos := q7))) (slice := (Expr.BinOp (left := (Expr.Name "k" q8)) (op := Operator.Mod) (right := (Expr.Constant (Const.int 4) 0 q9)) (pos := q10))) (pos := q11))) (pos := q12))) (op := Operator.Add) (right := (Expr.BinOp (left := (Expr.Constant (Const.int 7919) 0 q13)) (op := Operator.Mult) (right := (Expr.Name "k" q14)) (pos := q15))) (pos := q16))) (op := Operator.Add) (right := (Expr.Constant (Const.int 13) 0 q17)) (pos := q18))) (pos := q19)), (Stmt.Return (value := (some (Expr.BinOp (left := (Expr.BinOp (left := (Expr.BinOp (left := (Expr.BinOp (left := (Expr.Name "one" q20)) (op := Operator.Mult) (right := (Expr.Name "one" q21)) (pos := q22))) (op := Operator.Mod) (right := (Expr.Constant (Const.int 2147483647) 0 q23)) (pos := q24))) (op := Operator.Mult) (right := (Expr.Constant (Const.int 48271) 0 q25)) (pos := q26))) (op := Operator.Mod) (right := (Expr.Constant (Const.int 2147483647) 0 q27)) (pos := q28)))) (pos := q29))]) : FnOk prog w K mg base (L2.CX prog w) (k + 1) f fd ["cell", "k"] spMix := by
  have S : FnScope ["cell", "k", "one"] ["cell", "k"] (defScope st) := by
    rw [hsc]
    exact ⟨rfl, rfl, rfl, by decide +kernel, rfl, by decide +kernel, by decide +kernel⟩
  have v0 : Vis (defScope st) "cell" := by rw [hsc]; exact .inl rfl
  have v1 : Vis (defScope st) "k" := by rw [hsc]; exact .inl rfl
  have v2 : Vis (defScope st) "one" := by rw [hsc]; exact .inl rfl
  have l2 : (defScope st).names.lookup ("one" : Str) = some NameKind.local := by rw [hsc]; rfl
  refine F.okX S (fun vs H Q E h => ?_) fun cdv A outer s H vs Q E hr h => ?_
  · obtain ⟨c, t, rfl, _⟩ := h
    rfl
  · obtain ⟨c, t, rfl, h0, h1, q⟩ := h
    rw [hb]
    refine ⟨_, pss_cons (ps_set S.nd (i := 2) rfl (.inl l2) (pe_op op_add (pe_op op_add (pe_op op_mod (pe_var (i := 0) rfl v0) (pe_ix ix_list (pe_lst (pa_cons pe_int (pa_cons pe_int (pa_cons pe_int (pa_cons pe_int pa_nil))))) (pe_op op_mod (pe_var (i := 1) rfl v1) pe_int) (plain_ix rfl))) (pe_op op_mul pe_int (pe_var (i := 1) rfl v1))) pe_int) rfl (.inr l2))
      (pss_one (ps_ret (pe_op op_mod (pe_op op_mul (pe_op op_mod (pe_op op_mul (pe_var (i := 2) rfl v2) (pe_var (i := 2) rfl v2)) pe_int) pe_int) pe_int))), ?_⟩
    refine ⟨_, rfl, ?_⟩
    refine ⟨by show 4 ≤ _; rw [sizeLine_eq]; decide, fun p hp => ?_⟩
    refine ⟨_, rfl, t, 4, rfl, rfl, (by show (0 : Int) < 4; decide), ?_⟩
    have m0 : 0 ≤ t % 4 := Int.emod_nonneg _ (by decide)
    have m1 : t % 4 < 4 := Int.emod_lt_of_pos _ (by decide)
    have at4 : ∃ m : Int, 0 < m ∧ m < 2147483648 ∧ atI [V.int 1000000007, V.int 998244353, V.int 2147483629, V.int 1000000009] (t % 4) = some (.int m) := by
      have : t % 4 = 0 ∨ t % 4 = 1 ∨ t % 4 = 2 ∨ t % 4 = 3 := by omega
      rcases this with e | e | e | e <;> rw [e]
      · exact ⟨1000000007, by decide, by decide, rfl⟩
      · exact ⟨998244353, by decide, by decide, rfl⟩
      · exact ⟨2147483629, by decide, by decide, rfl⟩
      · exact ⟨1000000009, by decide, by decide, rfl⟩
    obtain ⟨m, hm0, hm1, hm⟩ := at4
    refine ⟨p, _, t % 4, .int m, rfl, rfl, .inl (.inl upd_same), hm, ?_⟩
    refine ⟨c, m, rfl, rfl, hm0, ?_⟩
    have r0 : 0 ≤ c % m := Int.emod_nonneg _ (by omega)
    have r1 : c % m < m := Int.emod_lt_of_pos _ hm0
    refine ⟨_, rfl, 7919, t, rfl, rfl, .inl (by decide), ?_⟩
    refine ⟨c % m, 7919 * t, rfl, rfl, ?_⟩
    refine ⟨c % m + 7919 * t, 13, rfl, rfl, ?_⟩
    obtain ⟨o, ho⟩ : ∃ o : Int, o = c % m + 7919 * t + 13 := ⟨_, rfl⟩
    have o0 : 0 ≤ o := by omega
    have o1 : o < 2 ^ 64 := by omega
    refine ⟨_, rfl, _, rfl, o, o, congrArg V.int ho.symm, congrArg V.int ho.symm, .inl ⟨by omega, o1⟩, ?_⟩
    refine ⟨o * o, 2147483647, rfl, rfl, (by show (0 : Int) < 2147483647; decide), ?_⟩
    refine ⟨_, 48271, rfl, rfl, .inr (by decide), ?_⟩
    refine ⟨_, 2147483647, rfl, rfl, (by show (0 : Int) < 2147483647; decide), ?_⟩
    exact q _ p _ hp

/-! ### the draw -/
def drawSc : Scope := { kind := .function, names := [("cell", .local), ("k", .local)], isGenerator := false, isCoroutine := false, more := [] }
def drawM : FnD
  | [.int _, .int k] => if 0 ≤ k ∧ k ≤ 1000000 then .ret drawD else .stuck
  | _ => .stuck
theorem drawM_wp {ds : List PyData} {b : Nat} {Q : PyData → Nat → Prop} {E : Er → Nat → Prop} (q : T.wp (drawM ds) b Q E) : ∃ c i : Int, ds = [.int c, .int i] ∧ 0 ≤ i ∧ i ≤ 1000000 ∧ Q drawD b := by
  unfold drawM at q
  split at q
  · rename_i c i
    refine ⟨c, i, rfl, ?_⟩
    split at q
    · rename_i hi
      exact ⟨hi.1, hi.2, q⟩
    · exact q.elim
  · exact q.elim
theorem nd_of {o : HO} {l c t : Int} (h : ¬ IsDraw o) : o ≠ drawO l c t := fun e => h ⟨l, c, t, e⟩
/-- all but the draw at a stays, and no other draw is new -/
structure DS (a : Addr) (H H' : Hp) : Prop where
  old : ∀ b o, b ≠ a → H b = some o → H' b = some o
  new : ∀ b o, b ≠ a → H' b = some o → IsDraw o → H b = some o
theorem DS.refl {a : Addr} {H : Hp} : DS a H H := ⟨fun _ _ _ h => h, fun _ _ _ h _ => h⟩
theorem DS.put {a : Addr} {H H' : Hp} {o : HO} (d : DS a H H') : DS a H (upd H' a o) := ⟨fun b u n h => by rw [upd_ne n]; exact d.old b u n h, fun b u n h k => by rw [upd_ne n] at h; exact d.new b u n h k⟩
theorem DS.lay {a p : Addr} {H H' : Hp} {o : HO} (d : DS a H H') (hp : H' p = none) (hn : ¬ IsDraw o) : DS a H (upd H' p o) := ⟨fun b u n h => by
  have e := d.old b u n h
  rw [upd_ne (ne_of_none e hp)]
  exact e, fun b u n h k => by
  by_cases hb : b = p
  · subst hb
    rw [upd_same] at h
    cases h
    exact absurd k hn
  · rw [upd_ne hb] at h
    exact d.new b u n h k⟩
theorem DS.frm {a : Addr} {H H' : Hp} {l c t l' c' t' : Int} (d : DS a H H') (h : H a = some (drawO l c t)) (h' : H' a = some (drawO l' c' t')) : Frm H H' := fun b o e => by
  by_cases hb : b = a
  · subst hb
    rw [h] at e
    cases e
    exact ⟨_, h', .inr (.inl ⟨⟨l, c, t, rfl⟩, ⟨l', c', t', rfl⟩⟩)⟩
  · exact ⟨o, d.old b o hb e, .inl rfl⟩
theorem tabs_of {T : List (Addr × Str)} {H H' : Hp} (t : LamX.Tabs T H) (h : ∀ b o, H b = some o → ¬ IsDraw o → H' b = some o) : LamX.Tabs T H' := fun p hp => by
  obtain ⟨ps, h1, h2, h3⟩ := t p hp
  refine ⟨ps, h _ _ h1 (fun ⟨_, _, _, z⟩ => nomatch z), h2, fun pos cv hc => ?_⟩
  obtain ⟨c, e1, e2⟩ := h3 pos cv hc
  exact ⟨c, e1, h _ _ e2 (fun ⟨_, _, _, z⟩ => nomatch z)⟩
theorem DS.bud {P : Pa} {a : Addr} {H H' : Hp} {l c t l' c' t' : Int} {b : Nat} (d : DS a H H') (U : Bud P b H) (h : H a = some (drawO l c t)) (h' : H' a = some (drawO l' c' t')) (h0 : 0 ≤ t') (h1 : t' + 4 * (b : Int) ≤ 2 ^ 40) : Bud P b H' := by
  refine ⟨⟨U.1.1, fun x m e u hx => ?_⟩, tabs_of U.2.1 (fun x o hx hn => ?_), fun q hq => ?_, fun B hB => (U.2.2.2 B hB).trans (d.frm h h')⟩
  · by_cases hb : x = a
    · subst hb
      rw [h'] at hx
      cases hx
      exact ⟨h0, h1⟩
    · exact U.1.2 x m e u (d.new x _ hb hx ⟨m, e, u, rfl⟩)
  · by_cases hb : x = a
    · subst hb
      rw [h] at hx
      cases hx
      exact absurd ⟨l, c, t, rfl⟩ hn
    · exact d.old x o hb hx
  · obtain ⟨k1, k2, k3⟩ := U.2.2.1 q hq
    refine ⟨d.old _ _ (fun z => ?_) k1, k2, k3⟩
    rw [z, h] at k1
    exact k2 ⟨l, c, t, (Option.some.inj k1).symm⟩
theorem draw_ok {P : Pa} {qual : Str} {st : Stmt} {f : Addr} {fd : FuncData} {k : Nat} (hK : P.K = K) (F : Fun K "_law_draw" qual st f fd) (hsc : defScope st = drawSc)
    {q1 q2 q3 q4 q5 q6 q7 q8 q9 q10 q11 q12 q13 q14 q15 q16 q17 : Pos} (hb : defBody st = [ (Stmt.Return (value := (some (Expr.Dict (keys := [ (some (Expr.Constant (Const.str "left") 0 q1)), (some (Expr.Constant (Const.str "cell") 0 q2)), (some (Expr.Constant (Const.str "turns") 0 q3))]) (values := [ (Expr.IfExp (test := (Expr.Compare (left := (Expr.Name "cell" q4)) (ops := [CmpOp.GtE]) (comparators := [ (Expr.BinOp (left := (Expr.Constant (Const.int 10) 0 q5)) (op := Operator.Pow) (right := (Expr.Constant (Const.int 18) 0 q6)) (pos := q7))]) (pos := q8))) (body := (Expr.Name "cell" q9)) (orelse := (Expr.Constant (Const.int 0) 0 q10)) (pos := q11)), (Expr.Name "cell" q12), (Expr.BinOp (left := (Expr.Constant (Const.int 1000) 0 q13)) (op := Operator.Mult) (right := (Expr.Name "k" q14)) (pos := q15))]) (pos := q16)))) (pos := q17))]) : FnOk prog w K mg base (L2.CX prog w) (k + 1) f fd ["cell", "k"] (spT P ⟨2, drawM⟩) := by
  subst hK
  have S : FnScope ["cell", "k"] ["cell", "k"] (defScope st) := by
    rw [hsc]
    exact ⟨rfl, rfl, rfl, by decide +kernel, rfl, by decide +kernel, by decide +kernel⟩
  have v0 : Vis (defScope st) "cell" := by rw [hsc]; exact .inl rfl
  have v1 : Vis (defScope st) "k" := by rw [hsc]; exact .inl rfl
  refine F.okX S (fun vs H Q E h => h.1) fun cdv A outer s H vs Q E hr h => ?_
  obtain ⟨hl, ds, b, U, r, q⟩ := h
  obtain ⟨c, i, rfl, h0, h1, q⟩ := drawM_wp q
  cases r with
  | cons r1 r =>
    cases r with
    | cons r2 r =>
      cases r
      cases r1
      cases r2
      rw [hb]
      refine ⟨_, pss_one (ps_ret (pe_disp (pps_cons pe_str (pe_ifExp (pt_cmp (pc_ge (pe_var (i := 0) rfl v0) (pe_op op_pow pe_int pe_int))) (pe_var (i := 0) rfl v0) pe_int) (pps_cons pe_str (pe_var (i := 0) rfl v0) (pps_cons pe_str (pe_op op_mul pe_int (pe_var (i := 1) rfl v1)) pps_nil))) rfl rfl (by simp) (by show 3 ≤ 15; decide))), ?_⟩
      intro p hp
      refine ⟨_, rfl, 10, 18, rfl, rfl, ⟨by decide, by decide, by decide⟩, c, _, rfl, rfl, _, rfl, ?_⟩
      have fin : ∀ l : Int, Q (.ref p) (upd (upd H p (.dK [])) p (drawO l c (1000 * i))) := fun l => by
        rw [upd_upd]
        have hd : ∀ (x : Addr) (o : HO), H x = some o → upd H p (drawO l c (1000 * i)) x = some o := fun x o e => by
          rw [upd_ne (ne_of_none e hp)]
          exact e
        refine q _ _ (Frm.new hp) ⟨⟨U.1.1, fun x m e u hx => ?_⟩, U.2.1.ext hd, fun q hq => ⟨hd _ _ (U.2.2.1 q hq).1, (U.2.2.1 q hq).2⟩, fun B hB => (U.2.2.2 B hB).trans (Frm.new hp)⟩ (.drw upd_same ⟨l, c, _, rfl⟩)
        by_cases hb : x = p
        · subst hb
          rw [upd_same] at hx
          cases hx
          have := U.1.1
          refine ⟨by omega, ?_⟩
          have : (b : Int) ≤ 2 ^ 30 := by exact_mod_cast U.1.1
          omega
        · rw [upd_ne hb] at hx
          exact U.1.2 x m e u hx
      show ite _ _ _
      split
      · refine ⟨_, rfl, _, rfl, _, rfl, 1000, i, rfl, rfl, .inl (by decide), upd_same, [(.inr "left", .int c), (.inr "cell", .int c), (.inr "turns", .int (1000 * i))], rfl, (by show 3 ≤ 15; decide), fin c⟩
      · refine ⟨_, rfl, _, rfl, 1000, i, rfl, rfl, .inl (by decide), upd_same, [(.inr "left", .int 0), (.inr "cell", .int c), (.inr "turns", .int (1000 * i))], rfl, (by show 3 ≤ 15; decide), fin 0⟩
end
end Pv

-- Pv14
set_option Elab.async false
set_option linter.all false
set_option maxRecDepth 100000
set_option maxHeartbeats 8000000
namespace Pv
open PySem PySem.Spec L2
open PyProof.Rows (envOfC)
section
variable {prog : Program} {w : World} {K : PySem.W.Frag} {mg : Str → Option Value} {base : Heap}
def digSc : Scope := { kind := .function, names := [("draw", .local), ("span", .local), ("j", .local), ("found", .local), ("range", .globalImplicit), ("_law_mixed", .globalImplicit)], isGenerator := false, isCoroutine := false, more := [] }
def isDr : PyData → Bool
  | .dict [(.none, .none)] => true
  | _ => false
theorem isDr_of {d : PyData} (h : isDr d = true) : d = drawD := by
  unfold isDr at h
  split at h
  · rfl
  · cases h
def digM : FnD
  | [d, .int n] => if isDr d = true ∧ 0 < n ∧ n < 1073741824 then .pick n fun i => .ret (.int i) else .stuck
  | _ => .stuck
theorem digM_wp {ds : List PyData} {b : Nat} {Q : PyData → Nat → Prop} {E : Er → Nat → Prop} (q : T.wp (digM ds) b Q E) : ∃ (n : Int) (c : Nat), ds = [drawD, .int n] ∧ 0 < n ∧ n < 1073741824 ∧ b = c + 1 ∧ ∀ i, 0 ≤ i → i < n → Q (.int i) c := by
  unfold digM at q
  split at q
  · rename_i d n
    split at q
    · rename_i hi
      obtain ⟨h1, h2, h3⟩ := hi
      cases isDr_of h1
      cases b with
      | zero => exact q.elim
      | succ c => exact ⟨n, c, rfl, h2, h3, rfl, fun i h0 h1 => q i h0 h1⟩
    · exact q.elim
  · exact q.elim
abbrev kL : Key := Sum.inr "left"
abbrev kC : Key := Sum.inr "cell"
abbrev kT : Key := Sum.inr "turns"
theorem get_l {l c t : Int} : valV (κ := Key) [(kL, V.int l), (kC, .int c), (kT, .int t)] kL = some (.int l) := by rfl
theorem get_c {l c t : Int} : valV (κ := Key) [(kL, V.int l), (kC, .int c), (kT, .int t)] kC = some (.int c) := by rfl
theorem get_t {l c t : Int} : valV (κ := Key) [(kL, V.int l), (kC, .int c), (kT, .int t)] kT = some (.int t) := by rfl
theorem put_l {l c t x : Int} : putK (κ := Key) [(kL, V.int l), (kC, .int c), (kT, .int t)] kL (.int x) = [(kL, V.int x), (kC, .int c), (kT, .int t)] := by rfl
theorem put_t {l c t x : Int} : putK (κ := Key) [(kL, V.int l), (kC, .int c), (kT, .int t)] kT (.int x) = [(kL, V.int l), (kC, .int c), (kT, .int x)] := by rfl
theorem dg {H : Hp} {a : Addr} {l c t : Int} {k : Key} {v : V} (h : H a = some (drawO l c t)) (e : valV (κ := Key) [(kL, V.int l), (kC, .int c), (kT, .int t)] k = some v) : DGet H a (kV k) (some v) := by
  rw [← e]
  exact DGet.k h
theorem dp {H : Hp} {a : Addr} {l c t l' c' t' : Int} {k : Key} {v : V} (h : H a = some (drawO l c t)) (e : putK (κ := Key) [(kL, V.int l), (kC, .int c), (kT, .int t)] k v = [(kL, V.int l'), (kC, .int c'), (kT, .int t')]) : DPut H a (kV k) v (upd H a (drawO l' c' t')) := by
  unfold drawO
  rw [← e]
  exact DPut.k h (by rw [sizeLine_eq]; show 3 < 16777216; decide)
theorem digit_ok {P : Pa} {qual : Str} {st : Stmt} {f g : Addr} {fd gd : FuncData} {k : Nat} (hK : P.K = K) (F : Fun K "_law_digit" qual st f fd) (hsc : defScope st = digSc)
    (hr0 : mg "range" = none) (hm0 : mg "_law_mixed" = some (.ref g)) (hm1 : PySem.W.keepIn K (.ref g) = true) (hm2 : Binds K gd ["cell", "k"] []) (hm3 : FnOk prog w K mg base (L2.CX prog w) k g gd ["cell", "k"] spMix)
    {q1 q2 q3 q4 q5 q6 q7 q8 q9 q10 q11 q12 q13 q14 q15 q16 q17 q18 q19 q20 q21 q22 q23 q24 q25 q26 q27 q28 q29 q30 q31 q32 q33 q34 q35 q36 q37 q38 q39 q40 q41 q42 q43 q44 q45 q46 q47 q48 q49 q50 q51 q52 q53 q54 q55 q56 : Pos} (hb : defBody st = [ (Stmt.If (test := (Expr.Compare (left := (Expr.Subscript (value := (Expr.Name "draw" q1)) (slice := (Expr.Constant (Const.str "left") 0 q2)) (pos := q3))) (ops := [CmpOp.Eq]) (comparators := [(Expr.Constant (Const.int 0) 0 q4)]) (pos := q5))) (body := [ (Stmt.For (target := (Expr.Name "j" q6)) (iter := (Expr.Call (func := (Expr.Name "range" q7)) (args := [(Expr.Constant (Const.int 4) 0 q8)]) (keywords := []) (pos := q9))) (body := [ (Stmt.Assign (targets := [ (Expr.Subscript (value := (Expr.Name "draw" q10)) (slice := (Expr.Constant (Const.str "turns") 0 q11)) (pos := q12))]) (value := (Expr.BinOp (left := (Expr.Subscript (value := (Expr.Name "draw" q13)) (slice := (Expr.Constant (Const.str "turns") 0 q14)) (pos := q15))) (op := Operator.Add) (right := (Expr.Constant (Const.int 1) 0 q16)) (pos := q17))) (pos := q18)), (Stmt.Assign (targets := [ (Expr.Subscript (value := (Expr.Name "draw" q19)) (slice := (Expr.Constant (Const.str "left") 0 q20)) (pos := q21))]) (value := (Expr.BinOp (left := (Expr.BinOp (left := (Expr.Subscript (value := (Expr.Name "draw" q22)) (slice := (Expr.Constant (Const.str "left") 0 q23)) (pos := q24))) (op := Operator.Mult) (right := (Expr.Constant (Const.int 2147483647) 0 q25)) (pos := q26))) (op := Operator.Add) (right := (Expr.Call (func := (Expr.Name "_law_mixed" q27)) (args := [ (Expr.Subscript (value := (Expr.Name "draw" q28)) (slice := (Expr.Constant (Const.str "cell") 0 q29)) (pos := q30)), (Expr.Subscript (value := (Expr.Name "draw" q31)) (slice := (Expr.Constant (Const.str "turns") 0 q32)) (pos := q33))]) (keywords := []) (pos := q34))) (pos := q35))) (pos := q36))]) (orelse := []) (pos := q37))]) (orelse := []) (pos := q38)), (Stmt.Assign (targets := [(Expr.Name "found" q39)]) (value := (Expr.BinOp (left := (Expr.Subscript (value := (Expr.Name "draw" q40)) (slice := (Expr.Constant (Const.str "left") 0 q41)) (pos := q42))) (op := Operator.Mod) (right := (Expr.Name "span" q43)) (pos := q44))) (pos := q45)), (Stmt.Assign (targets := [ (Expr.Subscript (value := (Expr.Name "draw" q46)) (slice := (Expr.Constant (Const.str "left") 0 q47)) (pos := q48))]) (value := (Expr.BinOp (left := (Expr.Subscript (value := (Expr.Name "draw" q49)) (slice := (Expr.Constant (Const.str "left") 0 q50)) (pos := q51))) (op := Operator.FloorDiv) (right := (Expr.Name "span" q52)) (pos := q53))) (pos := q54)), (Stmt.Return (some (Expr.Name "found" q55)) q56)]) : FnOk prog w K mg base (L2.CX prog w) (k + 1) f fd ["draw", "span"] (spT P ⟨2, digM⟩) := by
  subst hK
  have S : FnScope ["draw", "span", "j", "found"] ["draw", "span"] (defScope st) := by
    rw [hsc]
    exact ⟨rfl, rfl, rfl, by decide +kernel, rfl, by decide +kernel, by decide +kernel⟩
  have v0 : Vis (defScope st) "draw" := by rw [hsc]; exact .inl rfl
  have v1 : Vis (defScope st) "span" := by rw [hsc]; exact .inl rfl
  have v3 : Vis (defScope st) "found" := by rw [hsc]; exact .inl rfl
  have l2 : (defScope st).names.lookup ("j" : Str) = some NameKind.local := by rw [hsc]; rfl
  have l3 : (defScope st).names.lookup ("found" : Str) = some NameKind.local := by rw [hsc]; rfl
  have g4 : (defScope st).names.lookup ("range" : Str) = some NameKind.globalImplicit := by rw [hsc]; rfl
  have g5 : (defScope st).names.lookup ("_law_mixed" : Str) = some NameKind.globalImplicit := by rw [hsc]; rfl
  refine F.okX S (fun vs H Q E h => h.1) fun cdv A outer s H vs Q E hr h => ?_
  obtain ⟨hl, ds, b, U, r, q⟩ := h
  obtain ⟨n, b, rfl, n0, n1, rfl, qq⟩ := digM_wp q
  cases r with
  | cons r1 r =>
    cases r with
    | cons r2 r =>
      cases r
      cases r2
      cases r1 with
      | @drw a o ho hd =>
        obtain ⟨l, c, t, rfl⟩ := hd
        have ht := U.1.2 a l c t ho
        have hu : (A.deeper (envOfC qual (defScope st) s.heap.objs.size f cdv)).units + 1 < cLine := by
          have := hr.un
          omega
        rw [hb]
        refine ⟨_, pss_cons (ps_if (pt_cmp (pc_eqI (pe_dget hu (pe_var (i := 0) rfl v0) pe_str (plain_ix rfl)) pe_int))
            (pss_one (ps_for (passes_of rfl) rfl (pi_range1 g4 hr0 (pa_cons pe_int pa_nil)) (pg_name S.nd (i := 2) rfl (.inl l2) (.inr l2))
              (pss_cons (ps_dput hu (pe_var (i := 0) rfl v0) pe_str (pe_op op_add (pe_dget hu (pe_var (i := 0) rfl v0) pe_str (plain_ix rfl)) pe_int) rfl)
              (pss_one (ps_dput hu (pe_var (i := 0) rfl v0) pe_str (pe_op op_add (pe_op op_mul (pe_dget hu (pe_var (i := 0) rfl v0) pe_str (plain_ix rfl)) pe_int)
                (pe_callS (E := fun _ => E) hm3 hr g5 hm0 hm1 hm2 (fun σ => passAt (takes_of rfl rfl rfl rfl) σ) (pa_cons (pe_dget hu (pe_var (i := 0) rfl v0) pe_str (plain_ix rfl)) (pa_cons (pe_dget hu (pe_var (i := 0) rfl v0) pe_str (plain_ix rfl)) pa_nil)))) rfl))))) pss_nil)
          (pss_cons (ps_set S.nd (i := 3) rfl (.inl l3) (pe_op op_mod (pe_dget hu (pe_var (i := 0) rfl v0) pe_str (plain_ix rfl)) (pe_var (i := 1) rfl v1)) rfl (.inr l3))
          (pss_cons (ps_dput hu (pe_var (i := 0) rfl v0) pe_str (pe_op op_fdiv (pe_dget hu (pe_var (i := 0) rfl v0) pe_str (plain_ix rfl)) (pe_var (i := 1) rfl v1)) rfl)
          (pss_one (ps_ret (pe_var (i := 3) rfl v3))))), ?_⟩
        refine ⟨_, rfl, a, _, rfl, dg ho get_l, l, 0, rfl, rfl, _, rfl, ?_⟩
        show ite _ _ _
        split
        · refine ⟨4, rfl, by decide, by decide, ?_⟩
          refine for_range (fun i σ H' => i ≤ 4 ∧ ∃ (x : Option V) (l' : Int), σ = [some (.ref a), some (.int n), x, none] ∧ H' a = some (drawO l' c (t + i)) ∧ DS a H H') ⟨by decide, none, l, rfl, by simpa using ho, DS.refl⟩ ?_ ?_
          · rintro i σ H' hi ⟨hi4, x, l', rfl, e1, d⟩
            refine ⟨_, rfl, a, _, rfl, dg e1 get_t, _, 1, rfl, rfl, _, rfl, a, _, rfl, dp e1 put_t, ?_⟩
            refine ⟨_, rfl, a, _, rfl, dg upd_same get_l, l', 2147483647, rfl, rfl, .inr (by decide), ?_⟩
            refine ⟨_, rfl, a, _, rfl, dg upd_same get_c, _, rfl, a, _, rfl, dg upd_same get_t, c, _, rfl, ?_, ?_, fun z p xs hp => ?_⟩
            · have := ht.1
              omega
            · have h1 := ht.2
              have hc : ((b + 1 : Nat) : Int) = (b : Int) + 1 := by omega
              rw [hc] at h1
              have h2 : i < 4 := hi
              omega
            have pa : a ≠ p := by
              intro z
              subst z
              rw [upd_same] at hp
              cases hp
            have e2 : upd (upd H' a (drawO l' c (t + i + 1))) p (.lst xs) a = some (drawO l' c (t + i + 1)) := by rw [upd_ne pa, upd_same]
            refine ⟨_, z, rfl, rfl, _, rfl, a, _, rfl, dp e2 put_l, ?_⟩
            refine ⟨hi, some (.int (0 + i)), l' * 2147483647 + z, rfl, ?_, (d.put.lay hp nd_lst).put⟩
            rw [upd_same]
            have : t + (i : Int) + 1 = t + ((i + 1 : Nat) : Int) := by omega
            rw [this]
          · rintro σ H' ⟨_, x, l', rfl, e1, d⟩
            have t0 : 0 ≤ t + ((4 : Int).toNat : Int) := by
              have := ht.1
              omega
            obtain ⟨t', et, le4⟩ : ∃ t', t' = t + ((4 : Int).toNat : Int) ∧ t' ≤ t + 4 := ⟨_, rfl, by omega⟩
            rw [← et] at e1 t0
            refine ⟨_, rfl, a, _, rfl, dg e1 get_l, _, rfl, l', n, rfl, rfl, n0, ?_⟩
            refine ⟨_, rfl, a, _, rfl, dg e1 get_l, _, rfl, l', n, rfl, rfl, ⟨n0, n1⟩, _, rfl, a, _, rfl, dp e1 put_l, ?_⟩
            refine ⟨_, rfl, ?_⟩
            have t4 : t' + 4 * (b : Int) ≤ 2 ^ 40 := by
              have := ht.2
              have hc : ((b + 1 : Nat) : Int) = (b : Int) + 1 := by omega
              rw [hc] at this
              omega
            exact qq (l' % n) (Int.emod_nonneg _ (by omega)) (Int.emod_lt_of_pos _ n0) _ _ (d.put.frm ho upd_same) (d.put.bud (U.le (Nat.le_succ b)) ho upd_same t0 t4) (.int _)
        · obtain ⟨l', el⟩ : ∃ l', l' = l := ⟨_, rfl⟩
          obtain ⟨t', et, le4⟩ : ∃ t', t' = t ∧ t' ≤ t + 4 := ⟨_, rfl, by omega⟩
          have e1 : H a = some (drawO l' c t') := by rw [el, et]; exact ho
          have d : DS a H H := DS.refl
          have t0 : 0 ≤ t' := by rw [et]; exact ht.1
          refine ⟨_, rfl, a, _, rfl, dg e1 get_l, _, rfl, l', n, rfl, rfl, n0, ?_⟩
          refine ⟨_, rfl, a, _, rfl, dg e1 get_l, _, rfl, l', n, rfl, rfl, ⟨n0, n1⟩, _, rfl, a, _, rfl, dp e1 put_l, ?_⟩
          refine ⟨_, rfl, ?_⟩
          have t4 : t' + 4 * (b : Int) ≤ 2 ^ 40 := by
            have := ht.2
            have hc : ((b + 1 : Nat) : Int) = (b : Int) + 1 := by omega
            rw [hc] at this
            omega
          exact qq (l' % n) (Int.emod_nonneg _ (by omega)) (Int.emod_lt_of_pos _ n0) _ _ (d.put.frm ho upd_same) (d.put.bud (U.le (Nat.le_succ b)) ho upd_same t0 t4) (.int _)
end
end Pv

-- Pv15
set_option Elab.async false
set_option linter.all false
set_option maxRecDepth 100000
set_option maxHeartbeats 8000000
namespace Pv
open PySem PySem.Spec L2 PyProof.Rows PySem.Calls PySem.W
/-! ## isinstance of a caught error that has fields -/
section
variable {pg : Program} {wd : World} {ar : Around} {Er : Value → Shared → Prop} {st : Shared} {Kf : Frag} {ea ec : Addr} {eo : Obj} {eod : Option Obj}
theorem data_found {nm : Str} {at1 gt1 : Value} (h1 : (clsIn Kf ec).isSome = true) (h2 : findIn Kf (.ref ec) nm = some (some at1)) (h3 : specialIn Kf at1 "__get__" = some (some gt1)) (h4 : takesIn Kf at1 = some true) : findObj Kf ec eod nm = some (.bind gt1 at1) := by
  cases h5 : clsIn Kf ec with
  | none => rw [h5] at h1; cases h1
  | some cd => simp [findObj, h5, h2, h3, h4]
theorem own_cls {Qr : Option Value → Shared → Prop} (Ex : ExcC Kf ec) (Kn : Kf.In st.heap) (Ia : PySem.W.InstAt st.heap ea eo ec eod) (qr : Qr (some (.ref ec)) { st with toks := st.toks + 1 }) :
    wpAny (model pg wd) ar (getAttr? (.ref ea) "__class__") Qr Er st := by
  have isC : (clsIn Kf ec).isSome = true := by
    obtain ⟨c0, e0, _⟩ := any_some Ex.hd
    rw [e0]
    rfl
  have fnd : findObj Kf ec eod "__class__" = _ := data_found isC Ex.ha Ex.hn Ex.ht
  obtain ⟨hp, gs, dw, tk, oo⟩ := st
  have la := Ia.type (M := model pg wd)
  have lb := looks_findIn (M := model pg wd) Kn Ex.hg
  have lc := looks_findIn (M := model pg wd) Kn Ex.hk
  have ld := looks_find (M := model pg wd) Kn Ia fnd
  have le : Looks (model pg wd) hp (isInstance (.ref ea) (.type "BaseException")) true :=
    la.andThen (looks_subIn Kn Ex.hs)
  have n2 : (Value.builtin "BaseException.__getattribute__" == .builtin "object.__getattribute__") = false := by decide +kernel
  have n1 : (onTheHeap (.ref ec) && Value.builtin "BaseException.__getattribute__" == .builtin "object.__getattribute__") = false := by
    rw [n2, Bool.and_false]
  unfold getAttr? getAttrBy? getAttrBy
  refine wpAny_bind (wpAny_mkText (wpAny_bind (wpAny_attempt (wpAny_holding (wpAny_bind (la.at (wpAny_bind (lb.at (?_ : wpAny _ _ (ite _ _ _) _ _ _)))))))))
  rw [n1, if_neg (fun z => nomatch z)]
  unfold getAttrByItsOwn hookBefore
  refine wpAny_bind (?_ : wpAny _ _ (ite _ _ _) _ _ _)
  have hon : onTheHeap (.ref ec) = true := rfl
  rw [if_pos hon]
  refine lc.at (wpAny_bind (wpAny_attempt (wpAny_holding ?_)))
  unfold callGetattribute
  rw [if_neg (show ¬ (false && onTheHeap (Value.builtin "BaseException.__getattribute__")) = true from fun z => nomatch z)]
  unfold boundAndCalled
  rw [PySem.F.excAttr_ValueError.ga.bind]
  refine wpAny_bind (wpAny_pure (?_ : wpAny _ _ (call (.builtin "BaseException.__getattribute__") [.ref ea, .str "__class__" tk]) _ _ _))
  refine wpAny_call (codeAny_call_builtin PySem.F.excAttr_ValueError.ga.plain PySem.F.entry_bexc_ga ?_)
  refine @check_slot (model pg wd) _ _ ⟨hp, gs, dw, tk + 1, oo⟩ "BaseException.__getattribute__" "BaseException" "__getattribute__" (.ref ea) [.str "__class__" tk] [] _ (by decide +kernel) (by decide +kernel) le (PySem.F.args_bexc_ga _ _) ?_
  unfold Builtin.«object.__getattribute__»
  refine wpAny_bind (wpAny_of_eq (a := ((.ref ea : Value), [.str "__class__" tk])) (by first | rfl | (simp only [slotArgs]; rfl)) ?_)
  refine wpAny_bind (wpAny_pure (wpAny_bind (la.at (wpAny_bind (ld.at (?_ : wpAny _ _ (holding [.builtin "object.__class__"] (call (.builtin "getset_descriptor.__get__") [.builtin "object.__class__", .ref ea, .ref ec]) >>= ret) _ _ _))))))
  refine wpAny_bind (wpAny_holding (wpAny_call (class_get (s := ⟨hp, gs, dw, tk + 1, oo⟩) (od := eod) Kn Ia Ex.hm ?_)))
  refine wpAny_pure (?_ : wpAny _ _ (handedOut (.ref ec)) _ _ _)
  rw [handedOut_of (v := .ref ec) rfl]
  first
    | exact wpAny_pure (wpAny_pure qr)
    | exact wpAny_pure qr
    | exact wpAny_pure (wpAny_bind (wpAny_pure (wpAny_pure qr)))
theorem kit_exc (Ex : ExcC Kf ec) : KitX Kf (.ref ea) (.ref ec) (fun h => PySem.W.InstAt h ea eo ec eod) := by
  obtain ⟨c0, e0, _⟩ := any_some Ex.hd
  have there : ∃ o : Obj, Kf.lookup ec = some o ∧ ∃ c, o.data = .cls c := by
    unfold clsIn at e0
    split at e0
    · rename_i hh
      exact ⟨_, hh, _, rfl⟩
    · cases e0
  obtain ⟨o, ho, cc, hc⟩ := there
  refine ⟨fun _ _ _ I => I.type, fun M h Kn _ => ?_, fun h tp dd its n sl Kn htp => ?_, fun Kn I qr => own_cls Ex Kn I qr⟩
  · intro A' Q' E' s' k q
    unfold isType loadHead
    obtain ⟨oc, od, oda, osl⟩ := o
    dsimp only at hc
    subst hc
    exact wpAny_bind (wpAny_loadPart (k _ _ (Kn _ _ ho)) (wpAny_pure q))
  · cases hq : ((Value.ref ec : Value) == .ref tp) with
    | false => rfl
    | true =>
      have e : ec = tp := Value.ref.inj (beq_iff_eq.mp hq)
      subst e
      rw [Kn _ _ ho] at htp
      cases htp
      cases hc
end
/-- isinstance(e, c), e the caught error, c one class -/
theorem isi_exc {X : Cx} {a D dd : Addr} {oe : Obj} {pn : List (Addr × Obj)} {fs : List (Str × V)} (C : ExcC X.K D) (hz : Zc (.ref D) (some dd) oe) (hf : ∃ vs, oe.data = .fields vs) :
    CallR (X.suite a ((a, oe) :: pn)) (.builtin "isinstance") (fun xs H Q => ∃ (c : V) (cv : Value) (b : Bool), xs = [.ref a, c] ∧ (∀ u, RelV c u → u = cv) ∧ PySem.W.kitOne X.K (.ref D) cv = some b ∧ H dd = some (.xd fs) ∧ Q (.bl b) H) := by
  intro pins s σ H xs us Q I r h
  obtain ⟨c, cv, b, rfl, hcv, e, hx, q⟩ := h
  match us, r with
  | [_, t], .cons rx (.cons rt .nil) =>
    cases rx
    obtain rfl := hcv _ rt
    have hp := (I.pin (a, oe) (List.mem_append_left _ List.mem_cons_self)).1
    obtain ⟨vs, hv⟩ := hf
    have ox : ObjOk X.prog X.w H s.heap dd (.xd fs) := I.hok dd _ hx
    obtain ⟨mA, hns, _⟩ := ox
    obtain ⟨od, ho, _⟩ := lookIn_ns hns
    have J : PySem.W.InstAt s.heap a oe D (some od) := ⟨hp, hz.1, by unfold PySem.W.notCls; rw [hv] <;> rfl, by rw [hz.2]; exact ho⟩
    exact PySem.W.kia_one (kit_exc C) I.kIn J e (fun z => nomatch z) fun tk => ⟨.bl b, H, I.kept (t' := tk) fun _ _ z => z, rfl, q⟩
end Pv

-- Pv16
set_option Elab.async false
set_option linter.all false
set_option maxRecDepth 100000
set_option maxHeartbeats 8000000
namespace Pv
open PySem PySem.Spec L2
open PyProof.Rows (envOfC)
/-! ## a def's promise, where no value is being printed -/
structure FnG (prog : Program) (w : World) (K : PySem.W.Frag) (mg : Str → Option Value) (base : Heap) (k : Nat) (f : Addr) (fd : FuncData) (ps : List Str) (sp : Sp) : Prop where
  len : ∀ vs H Q E, sp vs H Q E → vs.length = ps.length
  run : ∀ (A : Around) (outer : List Env) (s : Shared) (H : Hp) (args : Args) (us : List Value) (vs : List V) (Q : VK) (E : XK), Room k A → A.guards = some [] → Env0 prog w K mg base A outer s H → BindsTo s fd args (ps.zip us) → Vals vs us → sp vs H Q E →
    codeAny (model prog w) A (.call (.ref f) args) (CR (L2.CX prog w) outer prog w H s Q E) s
theorem grd_deeper {A : Around} {e : Env} (h : A.guards = some []) : (A.deeper e).guards = some [] := h
theorem FnOk.g {prog : Program} {w : World} {K : PySem.W.Frag} {mg : Str → Option Value} {base : Heap} {k : Nat} {f : Addr} {fd : FuncData} {ps : List Str} {sp : Sp} (h : FnOk prog w K mg base (L2.CX prog w) k f fd ps sp) : FnG prog w K mg base k f fd ps sp :=
  ⟨h.len, fun A outer s H args us vs Q E hr _ => h.run A outer s H args us vs Q E hr⟩
section
variable {X : Cx} {k : Nat} {f : Addr} {fd : FuncData} {ps : List Str} {sp : Sp}
theorem run_fnG {pins : List (Addr × Obj)} {σ : St} {H : Hp} {s : Shared} {Q : VK} {E : XK} {us : List Value} {vs : List V} (F : FnG X.prog X.w X.K X.mg X.base k f fd ps sp) (hr : Room k X.A) (hg : X.A.guards = some []) (hb : Binds X.K fd ps [])
    (hx : PassesAt (L2.CX X.prog X.w) X σ E) (I : Inv X pins σ H s) (r : Vals vs us) (h : sp vs H Q E) : wpAny (model X.prog X.w) X.A (call (.ref f) us) (EP X pins σ Q) X.xe s := by
  have hl : us.length = ps.length := by
    rw [← r.length]
    exact F.len vs H Q E h
  have b := hb s us I.kIn (by simpa using hl)
  rw [List.append_nil] at b
  refine wpAny_call (codeAny_mono (F.run X.A X.stack s H ⟨us, []⟩ us vs Q E hr hg I.env0 b r h) fun out s2 ho => ?_)
  match out, ho with
  | .error e, ho => exact hx pins H s e s2 I ho
  | .ok (.ret u), ho => exact I.after ho
  | .ok .next, ho => exact ho.elim
  | .ok .brk, ho => exact ho.elim
  | .ok .cont, ho => exact ho.elim
end
end Pv

-- Pv17
set_option Elab.async false
set_option linter.all false
set_option maxRecDepth 100000
set_option maxHeartbeats 8000000
namespace Pv
open PySem PySem.Spec L2
open PyProof.Rows (envOfC)
/-! ## a lambda is made: the heap behind it, told in full -/
/-- the heap is as it was, or one more code object stands in the table at tb -/
def OneMore (tb : Addr) (nm : Str) (H : Hp) (co : Addr) (H1 : Hp) : Prop :=
  H1 = H ∨ ∃ (old more : Array Value), H tb = some (.tbl old) ∧ H co = none ∧ H1 = upd (upd H tb (.tbl (old ++ more))) co (LamX.CodeO co nm)
theorem nd_ext {p : Heap → Prop} : ¬ IsDraw (.ext p) := fun ⟨_, _, _, z⟩ => nomatch z
theorem nd_tbl {p : Array Value} : ¬ IsDraw (.tbl p) := fun ⟨_, _, _, z⟩ => nomatch z
theorem nd_code {c : Addr} {q : Str} : ¬ IsDraw (LamX.CodeO c q) := nd_ext
theorem OneMore.frm {tb co : Addr} {nm : Str} {H H1 : Hp} (h : OneMore tb nm H co H1) : Frm H H1 := by
  rcases h with rfl | ⟨old, more, h1, h2, rfl⟩
  · exact Frm.refl _
  · intro a o e
    have nc := ne_of_none e h2
    by_cases ha : a = tb
    · subst ha
      rw [h1] at e
      cases e
      exact ⟨_, by rw [upd_ne nc, upd_same], .inr (.inr ⟨old, more, rfl, rfl⟩)⟩
    · exact ⟨o, by rw [upd_ne nc, upd_ne ha]; exact e, .inl rfl⟩
theorem OneMore.bud {P : Pa} {b : Nat} {tb co : Addr} {nm : Str} {H H1 : Hp} (h : OneMore tb nm H co H1) (U : Bud P b H) (hT : LamX.Tabs P.Tb H1) : Bud P b H1 := by
  have fr := h.frm
  rcases h with rfl | ⟨old, more, h1, h2, rfl⟩
  · exact U
  · refine ⟨⟨U.1.1, fun a l c t e => ?_⟩, hT, fun q hq => ?_, fun B hB => (U.2.2.2 B hB).trans fr⟩
    · by_cases hc : a = co
      · subst hc
        rw [upd_same] at e
        exact absurd ⟨l, c, t, Option.some.inj e⟩ nd_code
      · rw [upd_ne hc] at e
        by_cases ha : a = tb
        · subst ha
          rw [upd_same] at e
          exact absurd ⟨l, c, t, Option.some.inj e⟩ nd_tbl
        · rw [upd_ne ha] at e
          exact U.1.2 a l c t e
    · obtain ⟨k1, k2, k3⟩ := U.2.2.1 q hq
      have ha : q.1 ≠ tb := fun z => by
        rw [z, h1] at k1
        exact k3 old (Option.some.inj k1).symm
      exact ⟨by rw [upd_ne (ne_of_none k1 h2), upd_ne ha]; exact k1, k2, k3⟩
section
variable {X : Cx} {pins : List (Addr × Obj)} {σ : L2.St} {H : Hp} {s : Shared}
open LamX in
theorem lam_mk {tbs : List (Addr × Str)} {co tb : Addr} {pr : Arguments} {bd : Expr} {sc : Scope} {lp : Pos} {Ex Qx : Value → Shared → Prop} (I : Inv X pins σ H s) (B : TabB X.base X.mg co tb) (hco : X.env.code = .ref co)
    (hin : (tb, X.env.qual ++ "<lambda>") ∈ tbs) (one : ∀ q ∈ tbs, q.1 = tb → q.2 = X.env.qual ++ "<lambda>") (hTb : Tabs tbs H) (nodef : defaultsOf pr X.env = ([], [])) (cells : ∀ y ∈ sc.names, y.2 = .free → ∃ c, X.env.cells.lookup y.1 = some c)
    (fin : ∀ (fn cn : Addr) (pm ct : Value) (H1 : Hp) (s1 : Shared), Inv X pins σ H1 s1 → OneMore tb (X.env.qual ++ "<lambda>") H cn H1 → Tabs tbs H1 →
      s1.heap.get? fn = some (PySem.W.kla_obj "<lambda>" (X.env.qual ++ "<lambda>") pr bd sc (cloFrom X.env.cells sc.names []) pm cn ct) → H1 fn = none → fn ∉ frs X.stack → H1 cn = some (CodeO cn (X.env.qual ++ "<lambda>")) → Qx (.ref fn) s1) :
    wpAny (model X.prog X.w) X.A (eval (.Lambda pr bd sc lp) X.env) Qx Ex s := by
  obtain ⟨row, e1, e2, e3⟩ := hTb _ hin
  have onH : s.heap.get? tb = some { cls := .none, data := .fields row } := I.hok tb _ e1
  have hbm : s.heap.BuiltinsAt X.mg tb := B.bm.keeps I.bk
  have new_fr : ∀ q, s.heap.objs.size ≤ q → q ∉ frs X.stack := fun q hq hm => by
    cases List.mem_cons.mp (I.stkSub _ hm) with
    | inl e => exact Nat.lt_irrefl _ (Nat.lt_of_lt_of_le (e ▸ I.lt) hq)
    | inr e => exact I.nofs hq e
  refine PySem.W.kla_eval nodef ?_
  cases known : codeAmong lp row.toList with
  | some v =>
    obtain ⟨cn, rfl, k⟩ := e3 lp v known
    refine PySem.W.kla_makeFunctionHit (mg := X.mg) (c := co) (P := tb) (ps := row) (closure_ok cells) I.ok.glob (I.mod.glob.keeps I.bk) hco (B.code.keeps I.bk) onH e2 known hbm fun ct hp tk kp hs => ?_
    refine fin hp.objs.size cn _ ct H _ (I.kept (t' := tk) fun q o e => Heap.get?_push_of_some _ (kp q o e)) (.inl rfl) hTb (Heap.get?_push_size _ rfl) (I.hok.fresh hs) (new_fr _ hs) k
  | none =>
    refine PySem.W.kla_makeFunction (mg := X.mg) (c := co) (P := tb) (ps := row) (closure_ok cells) I.ok.glob (I.mod.glob.keeps I.bk) hco (B.code.keeps I.bk) onH e2 known B.gP hbm fun cn ct hp tk kp ge lt rec_ grown => ?_
    obtain ⟨cn2, ob, fs, tn, ecn, r1, r2, r3⟩ := rec_
    cases ecn
    have big : s.heap.objs.size ≤ hp.objs.size := Nat.le_trans ge (Nat.le_of_lt lt)
    have free : H cn = none := I.hok.fresh ge
    have tbn : tb ≠ cn := ne_of_none e1 free
    have J := inv_table (t' := tk) (more := #[rawInt lp.line, rawInt lp.col, .ref cn]) (h' := hp.push (PySem.W.kla_obj "<lambda>" (X.env.qual ++ "<lambda>") pr bd sc (cloFrom X.env.cells sc.names []) ((X.mg "__name__").getD .none) cn ct)) I e1
      (fun q o n e => Heap.get?_push_of_some _ (kp q o n e)) (Heap.get?_push_of_some _ grown) ge ⟨ob, fs, tn, Heap.get?_push_of_some _ r1, r2, r3⟩
    have stay : ∀ q o, H q = some o → (∀ u, o ≠ .tbl u) → upd (upd H tb (.tbl (row ++ #[rawInt lp.line, rawInt lp.col, .ref cn]))) cn (CodeO cn (X.env.qual ++ "<lambda>")) q = some o := fun q o e n => by
      have n1 : q ≠ tb := fun z => by
        rw [z, e1] at e
        exact n row (Option.some.inj e).symm
      rw [upd_ne (ne_of_none e free), upd_ne n1, e]
    refine fin hp.objs.size cn _ ct _ _ J (.inr ⟨row, _, e1, free, rfl⟩) (fun q hq => ?_) (Heap.get?_push_size _ rfl) ?_ (new_fr _ big) upd_same
    · by_cases hb : q.1 = tb
      · rw [one q hq hb, hb]
        have eL : (row ++ #[rawInt lp.line, rawInt lp.col, .ref cn]).toList = row.toList ++ [rawInt lp.line, rawInt lp.col, .ref cn] := by simp
        refine ⟨_, by rw [upd_ne tbn, upd_same], by rw [eL]; exact PySem.TriplesOk_snoc _ _ _ _ e2, fun p' v hv => ?_⟩
        rw [eL] at hv
        cases among_app _ e2 hv with
        | inl z =>
          obtain ⟨c0, y1, y2⟩ := e3 p' v z
          exact ⟨c0, y1, stay _ _ y2 codeO_ne⟩
        | inr z => exact ⟨cn, z, upd_same⟩
      · obtain ⟨row2, y1, y2, y3⟩ := hTb q hq
        refine ⟨row2, by rw [upd_ne (ne_of_none y1 free), upd_ne hb]; exact y1, y2, fun p' v hv => ?_⟩
        obtain ⟨c0, z1, z2⟩ := y3 p' v hv
        exact ⟨c0, z1, stay _ _ z2 codeO_ne⟩
    · rw [upd_ne (Nat.ne_of_gt lt), upd_ne (Nat.ne_of_gt (Nat.lt_of_lt_of_le (Heap.lt_size onH) big))]
      exact I.hok.fresh big
end
end Pv

-- Pv18
set_option Elab.async false
set_option linter.all false
set_option maxRecDepth 100000
set_option maxHeartbeats 8000000
namespace Pv
open PySem PySem.Spec L2
open PyProof.Rows (envOfC)
/-! ## the names of an except suite -/
/-- what is known of the classes of errors -/
structure Ecl (P : Pa) (Γ : Ga) (K : PySem.W.Frag) (mg : Str → Option Value) : Prop where
  xf : ∀ cn C, P.cl cn = some C → XfC K C ∧ ExcC K C ∧ ∀ f ∈ fldNames, PySem.W.findIn K (.ref C) f = some none
  cat : ∀ c ∈ Γ.ecl, ∃ Cc, mg c = some (.ref Cc) ∧ (c == ("__debug__" : Str)) = false ∧ ∀ cn b C, Γ.sub cn c = some b → P.cl cn = some C → PySem.W.kitOne K (.ref C) (.ref Cc) = some b ∧ PySem.W.exmOne K (.ref C) (.ref Cc) = some b
theorem rpf_lookup {K : PySem.W.Frag} {H : Hp} {f : Str} {d : PyData} : ∀ {vs : List (Str × V)} {ds : List (Str × PyData)}, RpF K H vs ds → ds.lookup f = some d → ∃ v, vs.lookup f = some v ∧ Rp K H v d
  | [], [], _, h => by cases h
  | [], _ :: _, h, _ => by
    have := h.1
    simp at this
  | _ :: _, [], h, _ => by
    have := h.1
    simp at this
  | (x, v) :: vs, (y, e) :: ds, h, hl => by
    obtain ⟨h1, h2⟩ := h
    simp only [List.map_cons, List.cons.injEq] at h1
    obtain ⟨rfl, h1⟩ := h1
    simp only [List.map_cons] at h2
    cases h2 with
    | cons r rr =>
      rw [List.lookup_cons] at hl ⊢
      cases hx : f == x with
      | true =>
        rw [hx] at hl
        cases hl
        exact ⟨v, rfl, r⟩
      | false =>
        rw [hx] at hl
        exact rpf_lookup ⟨h1, rr⟩ hl
section
variable {P : Pa} {Γ : Ga} {X : Cx} {W : WX}
theorem su_of (x : XO P Γ X W) (c : Ecl P Γ X.K X.mg) {a : Addr} {oe : Obj} {C dd : Addr} {pn : List (Addr × Obj)} {nm : Str} {i : Nat} {er : Er} {vs : List (Str × V)} {B : Hp} (hz : Zc (.ref C) (some dd) oe) (hf : ∃ vs, oe.data = .fields vs) (hC : P.cl er.cls = some C) (rpf : RpF P.K B vs er.fs) (hsl : slotOf Γ nm = some i) :
    XO (suP P dd vs i a B) (suGa Γ nm er) (X.suite a ((a, oe) :: pn)) (fun _ _ _ _ => False) := by
  obtain ⟨s1, s2, s3, s4⟩ := slot_of x hsl
  obtain ⟨xf, xc, xn⟩ := c.xf _ _ hC
  have vr : ∀ p : Pos, PE (X.suite a ((a, oe) :: pn)) (.Name nm p) (tVar i) := fun p => pe_var s1 s2 s3 s4
  refine XB.up { hK := x.hK, hN := x.hN, hsc := x.hsc, nd := x.nd, calm := (fun z => nomatch z), fz := fun q hq => ?_, u := x.u, con := x.con, fns := (fun _ _ h => nomatch h), blt := x.blt, grd := x.grd, fnB := (fun z => nomatch z), exA := fun y e he f d p pos hfl hl => ?_, exI := fun y e he cl b p p1 p2 pos hce hsub g1 g2 => ?_, thk := (fun _ _ h => nomatch h) } rfl
  · rcases List.mem_cons.mp hq with rfl | hq
    · exact ⟨nm, by rw [← x.hN]; exact s1, List.mem_cons_self⟩
    · obtain ⟨y, k1, k2⟩ := x.fz q hq
      exact ⟨y, k1, List.mem_cons_of_mem _ k2⟩
  · cases he
    refine impE (pe_xf xf (xn f hfl) hz hf (vr p)) fun σ H Q q => ?_
    obtain ⟨ρ, b, U, R, q⟩ := q
    obtain ⟨v, hv, rv⟩ := rpf_lookup rpf hl
    refine ⟨.ref a, R.2.2 (i, .ref a) List.mem_cons_self, rfl, rfl, dd, vs, v, rfl, (U.2.2.1 (dd, .xd vs) List.mem_cons_self).1, hv, ?_⟩
    exact KQ.now (show KQ _ H Q d b from q) U (rv.frm (U.2.2.2 B List.mem_cons_self))
  · cases he
    obtain ⟨Cc, m1, m2, m3⟩ := c.cat cl hce
    have ig : X.env.scope.names.lookup ("isinstance" : Str) = some NameKind.globalImplicit := by
      unfold glob at g1
      rw [Bool.and_eq_true] at g1
      rw [x.hsc]
      exact of_decide_eq_true g1.1
    have cg : X.env.scope.names.lookup cl = some .globalImplicit := by
      unfold glob at g2
      rw [Bool.and_eq_true] at g2
      rw [x.hsc]
      exact of_decide_eq_true g2.1
    refine impE (pe_callB (id := "isinstance") (isi_exc (fs := vs) xc hz hf) ig (x.blt "isinstance" (by decide)) (by decide +kernel) (pa_cons (vr p1) (pa_cons (pe_glob (v := .ref Cc) cg m1 rfl m2) pa_nil))) fun σ H Q q => ?_
    obtain ⟨ρ, b', U, R, q⟩ := q
    refine ⟨.ref a, R.2.2 (i, .ref a) List.mem_cons_self, .ref Cc, .ref Cc, b, rfl, fun u r => ?_, (m3 _ _ _ hsub hC).1, (U.2.2.1 (dd, .xd vs) List.mem_cons_self).1, ?_⟩
    · cases r
      rfl
    · exact KQ.now (show KQ _ H Q (.bool b) b' from q) U (.bl b)
end
end Pv

-- Pv19
set_option Elab.async false
set_option linter.all false
set_option maxRecDepth 100000
set_option maxHeartbeats 8000000
namespace Pv
open PySem PySem.Spec L2
open PyProof.Rows (envOfC)
/-! ## the call of a lambda within the def that got it -/
section
variable {X : Cx} {pins : List (Addr × Obj)} {σ : L2.St} {H : Hp} {s : Shared}
/-- the context of the def that got the lambda -/
abbrev toldCx (X : Cx) (Ng : List Str) (qg : Str) (sg : Scope) (g : Addr) (cdg : Value) (s : Shared) (H : Hp) : Cx := cxOf C8.CX0 X.prog X.w X.K X.mg X.base Ng qg sg g cdg X.A X.stack s H C8.E0
open LamX PySem.W PySem.Calls PyProof.Rows in
theorem lam_act {Ng : List Str} {qg : Str} {sg : Scope} {g fn cn : Addr} {cdg pm ct : Value} {pr : Arguments} {bd : Expr} {sc : Scope} {k : Nat} {a : Str} {pn : List (Addr × Obj)} {xe : Value → Shared → Prop} {W : WX} {tb : XK → TE} {p1 p2 : Pos}
    (I : Inv X pins σ H s) (L : LamS X.env.scope sc) (isF : s.heap.get? fn = some (kla_obj "<lambda>" (X.env.qual ++ "<lambda>") pr bd sc (cloFrom X.env.cells sc.names []) pm cn ct)) (un0 : H fn = none) (nofr : fn ∉ frs X.stack)
    (nb : bindArgs (kla_fn "<lambda>" (X.env.qual ++ "<lambda>") pr bd sc (cloFrom X.env.cells sc.names []) pm (.ref cn) ct) ⟨[], []⟩ = pure [])
    (tk : Takes ((toldCx X Ng qg sg g cdg s H).tr pn xe) W) (room : Room (k + 1) (X.A.deeper (envOfC qg sg s.heap.objs.size g cdg)))
    (rd : ∀ (A : Around) (outer : List Env) (s : Shared) (H : Hp) (E : XK), Room k (A.deeper (lamEnv X sc s.heap.objs.size fn cn)) → PE (lamCx X A outer s H E sc fn cn) bd (tb E))
    (hN : Ng[0]? = some a) (hv : Vis sg a) (d1 : (a == ("__debug__" : Str)) = false) (d2 : (a == ("__classdict__" : Str)) = false) :
    PE ((toldCx X Ng qg sg g cdg s H).tr pn xe) (.Call (.Name a p1) [] [] p2) (fun σZ HZ Q => σZ[0]? = some (some (.ref fn)) ∧ HZ cn = some (CodeO cn (X.env.qual ++ "<lambda>")) ∧ tb (WE W σZ) σ HZ Q) := by
  refine ⟨fun pz sz σZ HZ Q J w => ?_⟩
  obtain ⟨w1, w2, w3⟩ := w
  have nm := (pe_var (X := (toldCx X Ng qg sg g cdg s H).tr pn xe) (pos := p1) (i := 0) hN hv d1 d2).run pz sz σZ HZ (fun v H1 => v = .ref fn ∧ H1 = HZ) J ⟨.ref fn, w1, rfl, rfl⟩
  refine wpAny_Call_Name_kw (thn nm fun u s1 ⟨v, H1, J1, rv, ev, eh⟩ => ?_)
  subst ev
  subst eh
  obtain rfl : u = Value.ref fn := rv
  have isF1 : s1.heap.get? fn = some (kla_obj "<lambda>" (X.env.qual ++ "<lambda>") pr bd sc (cloFrom X.env.cells sc.names []) pm cn ct) := J1.base.keep fn _ isF un0 nofr (fun z => nomatch (show fn ∈ ([] : List Addr) from z))
  have kept : Un (frs X.stack) [] H H1 s.heap s1.heap := J1.base
  obtain ⟨⟨oc, cv, tkn, o1, o2, o3⟩, _, _⟩ := J1.hok cn _ w2
  refine callWith_F0 ⟨_, _, _, _, isF1⟩ (wpAny_call (codeAny_mono (?_ : codeAny (model X.prog X.w) (X.A.deeper (envOfC qg sg s.heap.objs.size g cdg)) (.call (.ref fn) ⟨[], []⟩)
    (CR (L2.CX X.prog X.w) (envOfC qg sg s.heap.objs.size g cdg :: X.stack) X.prog X.w H1 s1 Q (WE W σZ)) s1) fun r s2 out => ?_))
  · refine kla_callFunE room.depth isF1 rfl L.co L.gen rfl ⟨cn, oc, cv, tkn, rfl, o1, o2, o3⟩ ?_
    rw [nb]
    refine wpAny_pure (wpAny_newFunctionEnv (fun y hy => (L.own y hy).2) (fun y hy => nomatch hy) (fun h1 hns hsb => ⟨J1.nolimit.fresh _ hsb, ?_⟩) L.kind)
    have grow : ∀ b o, s1.heap.get? b = some o → h1.get? b = some o := fun b o e =>
      hsb.extBut b o (Nat.ne_of_lt (Heap.lt_size e)) (Heap.get?_push_of_some _ e)
    have J2 := lam_start2 (tk := s1.toks) (E := WE W σZ) (c' := cn) (f := fn) I L J1.env0 room.hd kept hns grow
    refine kla_codeExpr (wpAny_mono ((rd _ _ s1 H1 (WE W σZ) (room.deeper _)).run [] _ _ H1 Q J2 w3) (fun v s' ⟨x, H', J3, rx, q⟩ => ?_) fun _ _ q => q)
    exact ⟨x, H', J3.os, J3.bare, J3.base, J3.hok, rx, q⟩
  · match r, out with
    | .error e, out => exact passAt tk σZ pz H1 s1 e s2 J1 out
    | .ok (.ret u), out => exact J1.after out
    | .ok .next, out => exact out.elim
    | .ok .brk, out => exact out.elim
    | .ok .cont, out => exact out.elim
end
end Pv

-- Pv20
set_option Elab.async false
set_option linter.all false
set_option maxRecDepth 100000
set_option maxHeartbeats 8000000
namespace Pv
open PySem PySem.Spec L2
open PyProof.Rows (envOfC)
/-! ## a def that takes a lambda -/
/-- the names of its body; th: what the lambda does -/
abbrev toldGa (Ng : List Str) (sg : Scope) (a : Str) (con : List (Str × PyData)) (sub : Str → Str → Option Bool) (ecl : List Str) (rep : Bool) (th : T PyData) : Ga := ⟨Ng, sg, [], con, rep, true, [a], none, some (a, th), sub, [], [], ecl, true, false⟩
/-- what it makes of the lambda -/
def toldF (n : Nat) (Ng : List Str) (sg : Scope) (a : Str) (con : List (Str × PyData)) (sub : Str → Str → Option Bool) (ecl : List Str) (rep : Bool) (bg : List Stmt) (th : T PyData) : T PyData :=
  match cSs (toldGa Ng sg a con sub ecl rep th) [] n bg with
  | some fs => noRaise (T.bind (fs 100000 (List.replicate Ng.length none)) outD)
  | none => .stuck
abbrev toP (P : Pa) (f cn : Addr) (q : Str) (B : Hp) : Pa := ⟨P.K, P.Tb, P.cl, (cn, LamX.CodeO cn q) :: P.pin, [(0, .ref f)], B :: P.h0⟩
theorem Frm.stay {H H' : Hp} {a : Addr} {o : HO} (F : Frm H H') (h : H a = some o) (n1 : ¬ IsDraw o) (n2 : ∀ ps, o ≠ .tbl ps) : H' a = some o := by
  obtain ⟨o', e, rfl | ⟨z, _⟩ | ⟨ps, _, z, _⟩⟩ := F a o h
  · exact e
  · exact absurd z n1
  · exact absurd z (n2 ps)
theorem code_tbl {c : Addr} {q : Str} (ps : Array Value) : LamX.CodeO c q ≠ .tbl ps := LamX.codeO_ne ps
section
variable {P : Pa} {f cn : Addr} {q : Str} {B H H' : Hp} {b c : Nat}
theorem bud_toP (U : Bud P b H) (h : H cn = some (LamX.CodeO cn q)) (F : Frm B H) : Bud (toP P f cn q B) b H := by
  refine ⟨U.1, U.2.1, fun r hr => ?_, fun C hC => ?_⟩
  · rcases List.mem_cons.mp hr with rfl | hr
    · exact ⟨h, nd_code, code_tbl⟩
    · exact U.2.2.1 r hr
  · rcases List.mem_cons.mp hC with rfl | hC
    · exact F
    · exact U.2.2.2 C hC
theorem bud_of_toP (U : Bud (toP P f cn q B) b H) : Bud P b H := ⟨U.1, U.2.1, fun r hr => U.2.2.1 r (List.mem_cons_of_mem _ hr), fun C hC => U.2.2.2 C (List.mem_cons_of_mem _ hC)⟩
theorem bud_on (U : Bud (toP P f cn q B) b H) (F : Frm H H') (U' : Bud P c H') : Bud (toP P f cn q B) c H' :=
  bud_toP U' (F.stay (U.2.2.1 (cn, LamX.CodeO cn q) List.mem_cons_self).1 nd_code code_tbl) ((U.2.2.2 B List.mem_cons_self).trans F)
end
/-- the call of the lambda, over data: σ ρ are the maker's names -/
theorem thk_conv {P : Pa} {f cn : Addr} {q : Str} {B HZ : Hp} {σ σZ : St} {ρ ρZ : En} {b : Nat} {fe : FE} {W : WX} {Q : VK} (R : Ren P B σ ρ) (U : Bud (toP P f cn q B) b HZ) (RZ : Ren (toP P f cn q B) HZ σZ ρZ) (w : T.wp (fe ρ) b (KQ (toP P f cn q B) HZ Q) (KW (toP P f cn q B) HZ (WE W σZ))) :
    σZ[0]? = some (some (.ref f)) ∧ HZ cn = some (LamX.CodeO cn q) ∧ tEv P (W0 (WE W σZ)) fe σ HZ Q := by
  refine ⟨RZ.2.2 (0, .ref f) List.mem_cons_self, (U.2.2.1 (cn, LamX.CodeO cn q) List.mem_cons_self).1, ρ, b, bud_of_toP U, R.frm (U.2.2.2 B List.mem_cons_self), T.wp_mono w (fun d c _ k => ?_) fun x c _ k => ?_⟩
  · exact fun v H' F U' r => k v H' F (bud_on U F U') r
  · exact fun C d vs H' hC F U' hd rr => k C d vs H' hC F (bud_on U F U') hd rr
section
variable {X : Cx} {P : Pa} {Γ : Ga} {W : WX} {pins : List (Addr × Obj)} {σ : L2.St} {ρ : En} {H : Hp} {s : Shared}
open LamX in
/-- the surroundings of the def's body -/
theorem told_xo {Ng : List Str} {qg : Str} {sg : Scope} {g fn cn : Addr} {cdg pm ct : Value} {pr : Arguments} {bd : Expr} {sc : Scope} {k : Nat} {a : Str} {fe : FE} {sub : Str → Str → Option Bool} {ecl : List Str} {rep : Bool}
    (x : XB P Γ X W) (I : Inv X pins σ H s) (R : Ren P H σ ρ) (L : LamS X.env.scope sc) (isF : s.heap.get? fn = some (PySem.W.kla_obj "<lambda>" (X.env.qual ++ "<lambda>") pr bd sc (cloFrom X.env.cells sc.names []) pm cn ct)) (un0 : H fn = none) (nofr : fn ∉ frs X.stack)
    (nb : bindArgs (PySem.W.kla_fn "<lambda>" (X.env.qual ++ "<lambda>") pr bd sc (cloFrom X.env.cells sc.names []) pm (.ref cn) ct) ⟨[], []⟩ = pure [])
    (room : Room (k + 1) (X.A.deeper (envOfC qg sg s.heap.objs.size g cdg))) (gr : rep = true → (X.A.deeper (envOfC qg sg s.heap.objs.size g cdg)).guards = some [])
    (rd : ∀ (A : Around) (outer : List Env) (s : Shared) (H : Hp) (E : XK), Room k (A.deeper (lamEnv X sc s.heap.objs.size fn cn)) → PE (lamCx X A outer s H E sc fn cn) bd (tEv P (W0 E) fe))
    (nd : Ng.Nodup) (hN : Ng[0]? = some a) (hv : Vis sg a) (d1 : (a == ("__debug__" : Str)) = false) (d2 : (a == ("__classdict__" : Str)) = false)
    (pn : List (Addr × Obj)) (xe : Value → Shared → Prop) (W' : WX) (tk : Takes ((toldCx X Ng qg sg g cdg s H).tr pn xe) W') :
    XO (toP P fn cn (X.env.qual ++ "<lambda>") H) (toldGa Ng sg a Γ.con sub ecl rep (fe ρ)) ((toldCx X Ng qg sg g cdg s H).tr pn xe) W' := by
  refine XB.up { hK := x.hK, hN := rfl, hsc := rfl, nd := nd, calm := (fun _ => rfl), fz := fun q hq => ?_, u := ?_, con := x.con, fns := (fun _ _ h => nomatch h), blt := x.blt, grd := gr, fnB := (fun z => nomatch z), exA := (fun _ _ h => nomatch h), exI := (fun _ _ h => nomatch h), thk := fun a' th h p p2 => ?_ } rfl
  · obtain rfl : q = (0, .ref fn) := by simpa using hq
    exact ⟨a, hN, List.mem_cons_self⟩
  · have := room.un
    show (X.A.deeper (envOfC qg sg s.heap.objs.size g cdg)).units + 70 < cLine
    omega
  · cases h
    exact impE (lam_act I L isF un0 nofr nb tk room rd hN hv d1 d2) fun σZ HZ Q ⟨ρZ, b, U, RZ, w⟩ => thk_conv R U RZ w
end
end Pv

-- Pv21
set_option Elab.async false
set_option linter.all false
set_option maxRecDepth 100000
set_option maxHeartbeats 8000000
namespace Pv
open PySem PySem.Spec L2
open PyProof.Rows (envOfC)
theorem lamOk_inv {sc scope : Scope} {params : Arguments} (h : lamOk sc params scope = true) : params = ⟨[], [], none, [], [], none, []⟩ ∧ LamX.lamSB sc scope = true := by
  unfold lamOk at h
  simp only [Bool.and_eq_true, List.isEmpty_iff, Option.isNone_iff_eq_none] at h
  obtain ⟨⟨⟨⟨⟨⟨⟨h1, h2⟩, h3⟩, h4⟩, h5⟩, h6⟩, h7⟩, h8⟩ := h
  refine ⟨?_, h8⟩
  cases params
  simp_all
section
variable {X : Cx} {P : Pa} {Γ : Ga} {W : WX}
open LamX in
/-- THE RULE: a lambda handed to a def, both read over data -/
theorem lam_rule (xb : XB P Γ X W) {x a : Str} {g co tb : Addr} {k n : Nat} {pg : Arguments} {bg : List Stmt} {sg : Scope} {dV kV doc pm cdv ct oc : Value} {an od : Option Addr} {osl : Array (Option Value)} {Ng : List Str} {sub : Str → Str → Option Bool} {ecl : List Str} {rep : Bool}
    (ec : ∀ th, Ecl P (toldGa Ng sg a Γ.con sub ecl rep th) X.K X.mg) (hm : X.mg x = some (.ref g)) (hk : PySem.W.keepIn X.K (.ref g) = true)
    (lk : X.K.lookup g = some ⟨oc, od, .func (PySem.W.fnOf x x pg bg sg dV kV doc pm an cdv ct), osl⟩) (hcg : PySem.W.codeIn X.K cdv x = true) (hb : L2.Binds X.K (PySem.W.fnOf x x pg bg sg dV kV doc pm an cdv ct) [a] []) (Sg : FnScope Ng [a] sg)
    (hN : Ng[0]? = some a) (hv : Vis sg a) (d1 : (a == ("__debug__" : Str)) = false) (d2 : (a == ("__classdict__" : Str)) = false) (B : TabB X.base X.mg co tb) (hcode : X.env.code = .ref co) (hin : (tb, X.env.qual ++ "<lambda>") ∈ P.Tb) (one : ∀ q ∈ P.Tb, q.1 = tb → q.2 = X.env.qual ++ "<lambda>")
    (room : Room (k + 2) X.A) (gr : rep = true → X.A.guards = some [])
    (lx : ∀ (scope : Scope), LamS X.env.scope scope → ∀ (A : Around) (outer : List Env) (s : Shared) (H : Hp) (E : XK) (f c' : Addr), Room k (A.deeper (lamEnv X scope s.heap.objs.size f c')) → XB P (lamGa Γ scope) (lamCx X A outer s H E scope f c') (W0 E))
    {params : Arguments} {body : Expr} {scope : Scope} {fe : FE} {p lpos pos : Pos} (hl : lamOk Γ.sc params scope = true) (hbd : ∀ (X' : Cx) (W' : WX), XB P (lamGa Γ scope) X' W' → PE X' body (tEv P W' fe)) (hg : glob Γ x = true) :
    PE X (.Call (.Name x p) [.Lambda params body scope lpos] [] pos) (tEv P W fun ρ => toldF n Ng sg a Γ.con sub ecl rep bg (fe ρ)) := by
  obtain ⟨hp, hls⟩ := lamOk_inv hl
  have L : LamS X.env.scope scope := by
    rw [xb.hsc]
    exact lamS_by hls
  have gx : X.env.scope.names.lookup x = some .globalImplicit ∧ (x == ("__debug__" : Str)) = false := by
    unfold glob at hg
    rw [Bool.and_eq_true] at hg
    rw [xb.hsc]
    exact ⟨of_decide_eq_true hg.1, by simpa using hg.2⟩
  refine ⟨fun pins s σ H Q I q => ?_⟩
  obtain ⟨ρ, b, U, R, q⟩ := q
  refine wpAny_Call_Name_kw (ld_glob I gx.1 hm ?_ gx.2)
  refine PySem.W.callWith_K (h₀ := X.base) I.ok.mod.kin hk ?_ (by rfl) (by rfl)
  show wpAny _ _ (spliced ((false, eval (.Lambda params body scope lpos) X.env) :: backTo pos (starEach [] X.env))) _ _ s
  refine Calls.spliced_cons (lam_mk I B hcode hin one U.2.1 (by rw [hp]; rfl) (L.has I.ok) fun f cn pm' ct' H1 s1 I1 om T1 isF un0 nofr code => ?_)
  refine Calls.spliced_nil ⟨I1.kIn, ?_⟩
  have F1 := om.frm
  have U1 := om.bud U T1
  have R1 := R.frm F1
  have rc : codeAny (model X.prog X.w) X.A (.call (.ref g) ⟨[.ref f], []⟩) (CR C8.CX0 X.stack X.prog X.w H1 s1 Q C8.E0) s1 := by
    refine run_ofS (N := Ng) (ps := [a]) (us := [.ref f]) (vs := [.ref f]) lk hcg Sg room I1.env0 (hb s1 [.ref f] I1.kIn rfl) (.cons rfl .nil) rfl fun room1 => ?_
    have rd : ∀ (A : Around) (outer : List Env) (s : Shared) (H : Hp) (E : XK), Room k (A.deeper (lamEnv X scope s.heap.objs.size f cn)) → PE (lamCx X A outer s H E scope f cn) body (tEv P (W0 E) fe) :=
      fun A outer s H E r => hbd _ _ (lx scope L A outer s H E f cn r)
    have xo := fun (pn : List (Addr × Obj)) (xe : Value → Shared → Prop) (W' : WX) (tk : Takes ((toldCx X Ng x sg g cdv s1 H1).tr pn xe) W') =>
      told_xo (sub := sub) (ecl := ecl) (rep := rep) xb I1 R1 L isF un0 nofr (by rw [hp]; rfl) room1 gr rd Sg.nd hN hv d1 d2 pn xe W' tk
    have q1 : T.wp (match cSs (toldGa Ng sg a Γ.con sub ecl rep (fe ρ)) [] n bg with
      | some fs => noRaise (T.bind (fs 100000 (List.replicate Ng.length none)) outD)
      | none => .stuck) b (KQ P H Q) (KW P H (WE W σ)) := q
    cases hcs : cSs (toldGa Ng sg a Γ.con sub ecl rep (fe ρ)) [] n bg with
    | none =>
      rw [hcs] at q1
      exact q1.elim
    | some fs =>
      rw [hcs] at q1
      have q2 := T.wp_bind.mp (noRaise_wp q1)
      have xs : XS (toP P f cn (X.env.qual ++ "<lambda>") H1) (toldGa Ng sg a Γ.con sub ecl rep (fe ρ)) [] (toldCx X Ng x sg g cdv s1 H1).nox (fun _ _ _ => False) := {
        x := xo [] (fun _ _ => False) _ L2.takes0
        fn := fun _ => rfl
        bk := by
          show (if sg.kind.isAnnotationScope then ScopeKind.function else sg.kind) = .function
          rw [Sg.kind]
          rfl
        tk := fun _ => L2.takes0
        own := fun _ => PassesOwn.never
        try_ := fun _ => {
          hs := rfl
          hf := rfl
          tr := fun pn xe W' tk _ => xo pn xe W' tk
          cat := fun c hc gc => by
            obtain ⟨Cc, m1, m2, m3⟩ := (ec (fe ρ)).cat c hc
            refine ⟨Cc, ⟨?_, m2, .inl m1⟩, fun cn b C h1 h2 => (m3 cn b C h1 h2).2⟩
            unfold glob at gc
            rw [Bool.and_eq_true] at gc
            have gc1 : sg.names.lookup c = some NameKind.globalImplicit := of_decide_eq_true gc.1
            exact gc1
          su := fun a' oe C dd pn nm i er vs B' hz hf hC rpf hsl => su_of (xo [] (fun _ _ => False) (fun _ _ _ _ => False) L2.takes0) ⟨(ec (fe ρ)).xf, (ec (fe ρ)).cat⟩ hz hf hC rpf hsl }
        rz := fun c fs h => nomatch h }
      refine ⟨_, ((sndS xs n).B bg fs hcs).nox, 100000, List.replicate Ng.length none, b, bud_toP U1 code (Frm.refl _), ⟨?_, fun i d e => ?_, fun r hr => ?_⟩, T.wp_mono q2 (fun o c _ qo => ?_) fun _ _ _ e => e.elim⟩
      · have hp : 0 < Ng.length := (List.getElem?_eq_some_iff.mp hN).1
        unfold L2.start
        simp
        omega
      · rw [List.getElem?_replicate] at e
        split at e <;> cases e
      · obtain rfl : r = (0, .ref f) := by simpa using hr
        unfold L2.start
        rfl
      · cases o with
        | nx ρ2 => exact fun σ' H' F' U' R' => qo .non H' (F1.trans F') (bud_of_toP U') .non
        | rt d => exact fun v H' F' U' r' => qo v H' (F1.trans F') (bud_of_toP U') r'
        | bk ρ2 => exact qo.elim
        | ct ρ2 => exact qo.elim
  refine wpAny_call (codeAny_mono rc fun r s2 hq => ?_)
  match r, hq with
  | .error e, hq => exact (show False from hq).elim
  | .ok (.ret u), hq => exact I1.after hq
  | .ok .next, hq => exact hq.elim
  | .ok .brk, hq => exact hq.elim
  | .ok .cont, hq => exact hq.elim
end
end Pv

-- Pv22
set_option Elab.async false
set_option linter.all false
set_option maxRecDepth 100000
set_option maxHeartbeats 8000000
namespace Pv
open PySem PySem.Spec L2
open PyProof.Rows (envOfC)
/-! ## a law's own def: it may print values and hand lambdas on -/
/-- what is known of a def that takes a lambda -/
structure LamI (P : Pa) (prog : Program) (w : World) (mg : Str → Option Value) (base : Heap) (con : List (Str × PyData)) (x : Str) (tf : T PyData → T PyData) : Prop where
  ex : ∃ (a : Str) (g : Addr) (n : Nat) (pg : Arguments) (bg : List Stmt) (sg : Scope) (dV kV doc pm cdv ct oc : Value) (an od : Option Addr) (osl : Array (Option Value)) (Ng : List Str) (sub : Str → Str → Option Bool) (ecl : List Str),
    tf = toldF n Ng sg a con sub ecl true bg ∧ (∀ th, Ecl P (toldGa Ng sg a con sub ecl true th) P.K mg) ∧ mg x = some (.ref g) ∧ PySem.W.keepIn P.K (.ref g) = true ∧
    P.K.lookup g = some ⟨oc, od, .func (PySem.W.fnOf x x pg bg sg dV kV doc pm an cdv ct), osl⟩ ∧ PySem.W.codeIn P.K cdv x = true ∧ L2.Binds P.K (PySem.W.fnOf x x pg bg sg dV kV doc pm an cdv ct) [a] [] ∧ FnScope Ng [a] sg ∧ Ng[0]? = some a ∧ Vis sg a ∧ (a == ("__debug__" : Str)) = false ∧ (a == ("__classdict__" : Str)) = false
structure PgL (P : Pa) (prog : Program) (w : World) (mg : Str → Option Value) (base : Heap) (k : Nat) (fns lfns : List (Str × FnI)) (con : List (Str × PyData)) (lams : List (Str × (T PyData → T PyData))) : Prop where
  nf : P.fz = []
  hcon : ∀ x d, con.lookup x = some d → ∃ v u, mg x = some u ∧ RelV v u ∧ ∀ H, Rp P.K H v d
  fns : ∀ x i, fns.lookup x = some i → ∃ f fd ps, mg x = some (.ref f) ∧ PySem.W.keepIn P.K (.ref f) = true ∧ Binds P.K fd ps [] ∧ FnG prog w P.K mg base k f fd ps (spT P i)
  lfns : ∀ x i, lfns.lookup x = some i → ∃ f fd ps, mg x = some (.ref f) ∧ PySem.W.keepIn P.K (.ref f) = true ∧ Binds P.K fd ps [] ∧ FnOk prog w P.K mg base (L2.CX prog w) k f fd ps (spT P i)
  blt : ∀ x, x ∈ bltNames → mg x = none
  lams : ∀ x tf, lams.lookup x = some tf → LamI P prog w mg base con x tf
/-- where the lambdas of a def are written down -/
def LamAt (P : Pa) (mg : Str → Option Value) (base : Heap) (qual : Str) (cdv : Value) : Prop :=
  ∃ co tb, cdv = .ref co ∧ LamX.TabB base mg co tb ∧ (tb, qual ++ ".<locals>." ++ "<lambda>") ∈ P.Tb ∧ ∀ q ∈ P.Tb, q.1 = tb → q.2 = qual ++ ".<locals>." ++ "<lambda>"
abbrev lawGa (N : List Str) (sc : Scope) (fns lfns : List (Str × FnI)) (con : List (Str × PyData)) (lams : List (Str × (T PyData → T PyData))) : Ga := ⟨N, sc, fns, con, true, true, [], none, none, fun _ _ => none, lams, lfns, [], false, true⟩
section
variable {P : Pa} {prog : Program} {w : World} {mg : Str → Option Value} {base : Heap} {k : Nat} {fns lfns : List (Str × FnI)} {con : List (Str × PyData)} {lams : List (Str × (T PyData → T PyData))}
open LamX in
theorem lx_of (pg : PgL P prog w mg base k fns lfns con lams) {N ps : List Str} {qual : Str} {scope : Scope} {f : Addr} {cdv : Value} {A : Around} {outer : List Env} {s : Shared} {H : Hp} {E : XK} (S : FnScope N ps scope)
    (sc : Scope) (L : LamS scope sc) (A' : Around) (outer' : List Env) (s' : Shared) (H' : Hp) (E' : XK) (f' c' : Addr) (hr : Room k (A'.deeper (lamEnv (cxOf (L2.CX prog w) prog w P.K mg base N qual scope f cdv A outer s H E) sc s'.heap.objs.size f' c'))) :
    XB P (lamGa (lawGa N scope fns lfns con lams) sc) (lamCx (cxOf (L2.CX prog w) prog w P.K mg base N qual scope f cdv A outer s H E) A' outer' s' H' E' sc f' c') (W0 E') where
  hK := rfl
  hN := rfl
  hsc := rfl
  nd := S.nd
  calm := fun _ => rfl
  fz := fun q hq => by rw [pg.nf] at hq; cases hq
  u := by
    have := hr.un
    show (A'.deeper (lamEnv (cxOf (L2.CX prog w) prog w P.K mg base N qual scope f cdv A outer s H E) sc s'.heap.objs.size f' c')).units + 70 < cLine
    omega
  con := pg.hcon
  fns := fun x i hi => by
    obtain ⟨g, fd, qs, k1, k2, k3, k4⟩ := pg.lfns x i hi
    exact ⟨g, k1, k2, fun pins σ H s Q us vs I r h => run_fnS k4 hr k3 (passAt (takes_of rfl rfl rfl rfl) σ) I r h⟩
  fnB := fun z => nomatch z
  blt := pg.blt
  grd := fun z => nomatch z
  exA := fun _ _ h => nomatch h
  exI := fun _ _ h => nomatch h
  thk := fun _ _ h => nomatch h
theorem xs_ofG (pg : PgL P prog w mg base (k + 1) fns lfns con lams) {N ps : List Str} {qual : Str} {scope : Scope} {f : Addr} {cdv : Value} {A : Around} {outer : List Env} {s : Shared} {H : Hp} {E : XK} (S : FnScope N ps scope) (la : lams = [] ∨ LamAt P mg base qual cdv)
    (hr : Room (k + 3) (A.deeper (envOfC qual scope s.heap.objs.size f cdv))) (hg : A.guards = some []) :
    XS P (lawGa N scope fns lfns con lams) [] (cxOf (L2.CX prog w) prog w P.K mg base N qual scope f cdv A outer s H E) E := by
  have xb : XB P (lawGa N scope fns lfns con lams) (cxOf (L2.CX prog w) prog w P.K mg base N qual scope f cdv A outer s H E) (fun c d _ H => E c d H) := {
    hK := rfl
    hN := rfl
    hsc := rfl
    nd := S.nd
    calm := fun _ => rfl
    fz := fun q hq => by rw [pg.nf] at hq; cases hq
    u := by
      have := hr.un
      show (A.deeper (envOfC qual scope s.heap.objs.size f cdv)).units + 70 < cLine
      omega
    con := pg.hcon
    fns := fun x i hi => by
      obtain ⟨g, fd, qs, k1, k2, k3, k4⟩ := pg.fns x i hi
      exact ⟨g, k1, k2, fun pins σ H s Q us vs I r h => run_fnG k4 (hr.mono (by omega)) hg k3 (passAt (takes_of rfl rfl rfl rfl) σ) I r h⟩
    fnB := fun _ x i hi => by
      obtain ⟨g, fd, qs, k1, k2, k3, k4⟩ := pg.fns x i hi
      exact ⟨g, k1, k2, fun sc s0 H0 ce fp pins σ H1 s1 Q us vs I r h => run_fnG (X := (cxOf (L2.CX prog w) prog w P.K mg base N qual scope f cdv A outer s H E).blk s0 H0 sc ce fp) (E := fun _ _ _ => False) k4 (hr.mono (by omega)) hg k3 (passAt L2.takes0 σ) I r h⟩
    blt := pg.blt
    grd := fun _ => hg
    exA := fun _ _ h => nomatch h
    exI := fun _ _ h => nomatch h
    thk := fun _ _ h => nomatch h }
  have lam : ∀ x tf, lams.lookup x = some tf → ∀ (params : Arguments) (body : Expr) (sc : Scope) (fe : FE) (p lpos pos : Pos), lamOk scope params sc = true → (∀ (X' : Cx) (W' : WX), XB P (lamGa (lawGa N scope fns lfns con lams) sc) X' W' → PE X' body (tEv P W' fe)) →
      glob (lawGa N scope fns lfns con lams) x = true → PE (cxOf (L2.CX prog w) prog w P.K mg base N qual scope f cdv A outer s H E) (.Call (.Name x p) [.Lambda params body sc lpos] [] pos) (tEv P (fun c d _ H => E c d H) fun ρ => tf (fe ρ)) := by
    intro x tf hl params body sc fe p lpos pos hok hbd hgx
    rcases la with la | ⟨co, tb, ecd, B, hin, one⟩
    · rw [la] at hl
      cases hl
    · obtain ⟨a, g, n, pgs, bg, sg, dV, kV, doc, pm, cdg, ct, oc, an, od, osl, Ng, sub, ecl, etf, ec, hm, hk, lk, hcg, hb, Sg, hN, hv, d1, d2⟩ := (pg.lams x tf hl).ex
      have hco : (cxOf (L2.CX prog w) prog w P.K mg base N qual scope f cdv A outer s H E).env.code = .ref co := ecd
      obtain ⟨qx, eq⟩ : ∃ qx : Str, qx = (cxOf (L2.CX prog w) prog w P.K mg base N qual scope f cdv A outer s H E).env.qual := ⟨_, rfl⟩
      have eq' : qx = qual ++ ".<locals>." := eq
      have hin' : (tb, (cxOf (L2.CX prog w) prog w P.K mg base N qual scope f cdv A outer s H E).env.qual ++ "<lambda>") ∈ P.Tb := by
        rw [← eq, eq']
        exact hin
      have one' : ∀ q ∈ P.Tb, q.1 = tb → q.2 = (cxOf (L2.CX prog w) prog w P.K mg base N qual scope f cdv A outer s H E).env.qual ++ "<lambda>" := by
        rw [← eq, eq']
        exact one
      have key := lam_rule (X := cxOf (L2.CX prog w) prog w P.K mg base N qual scope f cdv A outer s H E) (P := P) (Γ := lawGa N scope fns lfns con lams) (W := fun c d _ H => E c d H) xb (x := x) (a := a) (g := g) (co := co) (tb := tb) (k := k + 1) (n := n) (pg := pgs) (bg := bg) (sg := sg)
        (Ng := Ng) (sub := sub) (ecl := ecl) (rep := true) ec hm hk lk hcg hb Sg hN hv d1 d2 B hco hin' one' hr (fun _ => hg) (fun sc' L A' outer' s' H' E' f' c' r => lx_of pg S sc' L A' outer' s' H' E' f' c' r) (params := params) (body := body) (scope := sc) (fe := fe) (p := p) (lpos := lpos) (pos := pos) hok hbd hgx
      rw [etf]
      exact key
  exact {
    x := ⟨xb, lam⟩
    fn := fun _ => rfl
    bk := by
      show (if scope.kind.isAnnotationScope then ScopeKind.function else scope.kind) = .function
      rw [S.kind]
      rfl
    tk := fun _ => takes_of rfl rfl rfl rfl
    own := fun _ => passes_of rfl
    try_ := fun z => nomatch z
    rz := fun c fs h => nomatch h }
/-- THE RULE for a law's own def -/
theorem defG_ok (pg : PgL P prog w mg base (k + 1) fns lfns con lams) {f : Addr} {name qual : Str} {params : Arguments} {body : List Stmt} {scope : Scope} {dV kV doc pm cdv ct oc : Value} {an od : Option Addr} {osl : Array (Option Value)} {N ps : List Str} {n : Nat} {fs : FS}
    (lk : P.K.lookup f = some ⟨oc, od, .func (PySem.W.fnOf name qual params body scope dV kV doc pm an cdv ct), osl⟩) (hcd : PySem.W.codeIn P.K cdv qual = true) (S : FnScope N ps scope) (la : lams = [] ∨ LamAt P mg base qual cdv)
    (hc : cSs (lawGa N scope fns lfns con lams) [] n body = some fs) : FnG prog w P.K mg base (k + 4) f (PySem.W.fnOf name qual params body scope dV kV doc pm an cdv ct) ps (spT P ⟨ps.length, runDef N.length fs⟩) :=
  ⟨fun vs H Q E h => h.1, fun A outer s H args us vs Q E hr hg e0 hb r h =>
    LamX.run_ofS lk hcd S hr e0 hb r h.1 fun hr' => ⟨tS P E fs, (sndS (xs_ofG pg S la hr' hg) n).B _ _ hc, body_run pg.nf (by rw [h.1]; exact h)⟩⟩
end
end Pv

-- Pv23
set_option Elab.async false
set_option linter.all false
set_option maxRecDepth 100000
set_option maxHeartbeats 8000000
namespace Pv
open PySem PySem.Spec L2 LamX PyProof.Rows
/-! ## the end of a law: its def called with the script, nothing being printed -/
/-- the script's list and the tables of the code objects, the rest untold -/
def startH (a : Addr) (xs : Option HO) (tbs : List Addr) : Hp := fun b => if b ∈ tbs then some (.tbl #[]) else if b = a then xs else none
section
variable {pr : Program} {w : World} {Kf : PySem.W.Frag} {mg mb : Str → Option Value} {k : Nat} {fa a : Addr} {cs : List (Addr × Addr)} {fd : FuncData} {x : Str} {sp : Sp} {st : Shared} {vs : List Value} {ns : List Int}
theorem lawG_call (inK : Kf.In st.heap) (gl : st.heap.Ns mainGlobals mg) (bl : st.heap.Ns builtinsNs mb) (bb : ∀ x : Str, x ≠ "__name__" → mb x = bootBuiltins x) (nolim : st.heap.NoLimit) (nog : st.gens = #[])
    (tE : ∀ p ∈ cs, st.heap.get? p.2 = some { cls := .none, data := .fields #[] }) (tN : ∀ p ∈ cs, Kf.lookup p.2 = none) (cH : ∀ p ∈ cs, PySem.W.CodeHd st.heap p.1 p.2)
    (bm : ∃ (m : Addr) (ob : Obj), mg "__builtins__" = some (.ref m) ∧ m ≠ builtinsNs ∧ st.heap.get? m = some ob ∧ ob.cls = .type "module" ∧ ob.dict = some builtinsNs ∧ ob.data = .plain)
    (sc : st.heap.get? a = some { cls := .type "list", data := .seq vs.toArray }) (whole : IntsAre vs ns) (short : ns.length ≤ sizeLine) (room : Room k callerA)
    (F : ∀ base : Heap, Kf.In base → base.Ns mainGlobals mg → (∀ p ∈ cs, TabB base mg p.1 p.2) → FnG pr w Kf mg base k fa fd [x] sp) (bind1 : ∀ (s : Shared) (u : Value), BindsTo s fd ⟨[u], []⟩ [(x, u)])
    (wish : ∀ H : Hp, (∀ p ∈ cs, H p.2 = some (.tbl #[])) → (∀ b o, H b = some o → ¬ IsDraw o) → SqL Kf H a (ns.map V.int) → sp [.ref a] H (fun v _ => v = .bl true) fun _ _ _ => False) :
    codeAny (model pr w) callerA (.call (.ref fa) ⟨[.ref a], []⟩) (fun r s' => r = .ok (.ret (.bool true)) ∧ OldK st.heap s'.heap ∧ s'.os = st.os ∧ AllBare s'.gens) st := by
  have same := whole.length
  have tabAt : ∀ b ∈ cs.map (·.2), st.heap.get? b = some { cls := .none, data := .fields #[] } := fun b hb => by
    obtain ⟨p, hp, rfl⟩ := List.mem_map.mp hb
    exact tE p hp
  have aNot : a ∉ cs.map (·.2) := fun hm => by
    have := tabAt a hm
    rw [sc] at this
    exact nomatch (congrArg Obj.data (Option.some.inj this) : Data.seq vs.toArray _ = Data.fields #[])
  have mem : ∀ p ∈ cs, p.2 ∈ cs.map (·.2) := fun p hp => List.mem_map.mpr ⟨p, hp, rfl⟩
  obtain ⟨H, hT, hS, hok, hon⟩ : ∃ H : Hp, (∀ p ∈ cs, H p.2 = some (.tbl #[])) ∧ SqL Kf H a (ns.map V.int) ∧ HOk pr w H st.heap ∧
      ∀ b u, H b = some u → (b ∈ cs.map (·.2) ∧ u = .tbl #[]) ∨ (b = a ∧ Kf.lookup a = none ∧ u = .frz { cls := .type "list", data := .seq vs.toArray } (.lst (ns.map V.int))) := by
    cases hk : Kf.lookup a with
    | some o =>
      have eo := inK a o hk
      rw [sc] at eo
      cases eo
      refine ⟨fun b => if b ∈ cs.map (·.2) then some (.tbl #[]) else none, fun p hp => if_pos (mem p hp), .inr ⟨_, vs.toArray, _, hk, rfl, rfl, rfl, by rw [List.size_toArray, same]; exact short, by simpa using vals_ints whole⟩, fun b u e => ?_, fun b u e => ?_⟩
      · by_cases hb : b ∈ cs.map (·.2)
        · cases (if_pos hb).symm.trans e
          exact tabAt b hb
        · cases (if_neg hb).symm.trans e
      · by_cases hb : b ∈ cs.map (·.2)
        · cases (if_pos hb).symm.trans e
          exact .inl ⟨hb, rfl⟩
        · cases (if_neg hb).symm.trans e
    | none =>
      refine ⟨fun b => if b ∈ cs.map (·.2) then some (.tbl #[]) else if b = a then some (.frz { cls := .type "list", data := .seq vs.toArray } (.lst (ns.map V.int))) else none, fun p hp => if_pos (mem p hp), .inl (.inr ⟨{ cls := .type "list", data := .seq vs.toArray }, (if_neg aNot).trans (if_pos rfl)⟩), fun b u e => ?_, fun b u e => ?_⟩
      · by_cases hb : b ∈ cs.map (·.2)
        · cases (if_pos hb).symm.trans e
          exact tabAt b hb
        · have e2 := (if_neg hb).symm.trans e
          by_cases ha : b = a
          · subst ha
            cases (if_pos rfl).symm.trans e2
            exact ⟨sc, by rw [List.length_map]; exact short, vs, _, vals_ints whole, sc⟩
          · cases (if_neg ha).symm.trans e2
      · by_cases hb : b ∈ cs.map (·.2)
        · cases (if_pos hb).symm.trans e
          exact .inl ⟨hb, rfl⟩
        · have e2 := (if_neg hb).symm.trans e
          by_cases ha : b = a
          · subst ha
            cases (if_pos rfl).symm.trans e2
            exact .inr ⟨rfl, rfl, rfl⟩
          · cases (if_neg ha).symm.trans e2
  -- what is neither a table nor the script is not told of
  have away : ∀ {b : Addr} {o : Obj}, st.heap.get? b = some o → (∀ it n, o.data ≠ .seq it n) → o.data ≠ .fields #[] → H b = none := fun {b o} e n1 n2 => by
    cases hb : H b with
    | none => rfl
    | some u =>
      rcases hon b u hb with ⟨hm, _⟩ | ⟨rfl, _, _⟩
      · have e2 := tabAt b hm
        rw [e] at e2
        cases e2
        exact absurd rfl n2
      · rw [sc] at e
        cases e
        exact absurd rfl (n1 _ _)
  have low : ∀ {b : Addr} {o : Obj}, st.heap.get? b = some o → (∀ it n, o.data ≠ .seq it n) → o.data ≠ .fields #[] → (hidT st.heap H).get? b = some o := fun e n1 n2 => hidT_get e (away e n1 n2)
  have lowNs : ∀ {b : Addr} {m : Str → Option Value}, st.heap.Ns b m → (hidT st.heap H).Ns b m := fun {b m} h => by
    obtain ⟨o, es, ep, e, hd, r⟩ := h
    exact ⟨o, es, ep, low e (fun it n z => by rw [hd] at z; cases z) (fun z => by rw [hd] at z; cases z), hd, r⟩
  have lowK : Kf.In (hidT st.heap H) := fun b o e => hidT_get (inK b o e) (by
    cases hb : H b with
    | none => rfl
    | some u =>
      rcases hon b u hb with ⟨hm, _⟩ | ⟨rfl, hn, _⟩
      · obtain ⟨p, hp, rfl⟩ := List.mem_map.mp hm
        rw [tN p hp] at e
        cases e
      · rw [hn] at e
        cases e)
  have md : L2.Mod Kf mg (hidT st.heap H) := ⟨lowK, lowNs gl, ⟨mb, lowNs bl, bb⟩, by
    obtain ⟨mc, h1, h2⟩ := nolim
    exact ⟨mc, lowNs h1, h2⟩⟩
  have tb : ∀ p ∈ cs, TabB (hidT st.heap H) mg p.1 p.2 := fun p hp => by
    refine ⟨?_, ?_, fun z => ?_⟩
    · obtain ⟨o, us, file, tf, flags, tg, inF, text, tt, e1, r1, r2, r3, rest⟩ := cH p hp
      refine ⟨o, us, file, tf, flags, tg, inF, text, tt, low e1 (fun it n z => by rw [r2] at z; cases z) (fun z => ?_), r1, r2, r3, rest⟩
      rw [r2] at z
      cases z
      simp at r3
    · obtain ⟨m, ob, b1, b2, b3, b4, b5, b6⟩ := bm
      refine ⟨m, ob, b1, b2, fun q => ?_, fun q => ?_, low b3 (fun it n z => by rw [b6] at z; cases z) (fun z => by rw [b6] at z; cases z), b4, b5, b6⟩
      · obtain ⟨o, es, ep, e, hd, _⟩ := gl
        rw [← q, b3] at e
        cases e
        rw [b6] at hd
        cases hd
      · rw [q, tE p hp] at b3
        cases b3
        cases b6
    · obtain ⟨o, es, ep, e, hd, _⟩ := gl
      rw [z, tE p hp] at e
      cases e
      cases hd
  have e0 : Env0 pr w Kf mg (hidT st.heap H) callerA [] st H := ⟨rfl, md, fun b o e => of_hidT e, Nat.le_of_eq (hidT_size _ _), trivial, (fun b hb => nomatch (show b ∈ ([] : List Addr) from hb)), hok, .of_eq nog⟩
  refine codeAny_mono ((F _ lowK (lowNs gl) tb).run callerA [] st H ⟨[.ref a], []⟩ [.ref a] [.ref a] _ _ room rfl e0 (bind1 st (.ref a)) (.cons rfl .nil) (wish H hT (fun b o e => ?_) hS)) fun r s' out => ?_
  · rcases hon b o e with ⟨_, rfl⟩ | ⟨_, _, rfl⟩
    · exact fun ⟨_, _, _, z⟩ => nomatch z
    · exact fun ⟨_, _, _, z⟩ => nomatch z
  match r, out with
  | .ok .next, out => exact out.elim
  | .ok .brk, out => exact out.elim
  | .ok .cont, out => exact out.elim
  | .error e, out =>
    obtain ⟨_, _, _, _, _, _, _, _, _, _, _, _, z⟩ := (show L2.CX pr w [] H st (fun _ _ _ => False) e s' from out)
    exact z.elim
  | .ok (.ret u), out =>
    obtain ⟨v, H', os, bare, un, hok', rv, rfl⟩ := out
    obtain rfl : u = Value.bool true := rv
    have keep : ∀ b o, b ∉ cs.map (·.2) → st.heap.get? b = some o → s'.heap.get? b = some o := fun b o nb e => by
      cases hb : H b with
      | none => exact un.keep b o e hb (fun z => nomatch (show b ∈ ([] : List Addr) from z)) (by simp)
      | some u =>
        rcases hon b u hb with ⟨hm, _⟩ | ⟨rfl, _, rfl⟩
        · exact absurd hm nb
        · obtain ⟨e1, _⟩ := hok b _ hb
          obtain ⟨e2, _⟩ := hok' b _ (un.frzs b _ _ hb)
          rw [e] at e1
          cases e1
          exact e2
    have more : ∀ p ∈ cs, ∃ add : Array Value, s'.heap.get? p.2 = some { cls := .none, data := .fields add } := fun p hp => by
      obtain ⟨add, z⟩ := un.tbls p.2 #[] (hT p hp)
      exact ⟨_, hok' p.2 _ z⟩
    refine ⟨rfl, ⟨fun b o e => ?_, fun b o e => ?_⟩, os, bare⟩
    · by_cases hb : b ∈ cs.map (·.2)
      · obtain ⟨p, hp, rfl⟩ := List.mem_map.mp hb
        obtain ⟨add, hm⟩ := more p hp
        rw [tE p hp] at e
        cases e
        exact .inr (.inl ⟨((cH p hp).tab (tE p hp)).isCodeTable, rfl, #[], add, rfl, by rw [Array.empty_append]; exact hm⟩)
      · exact .inl (keep b o hb e)
    · by_cases hb : b ∈ cs.map (·.2)
      · obtain ⟨p, hp, rfl⟩ := List.mem_map.mp hb
        obtain ⟨add, hm⟩ := more p hp
        exact ⟨_, hm⟩
      · exact ⟨o, keep b o hb e⟩
end
/-- what must be known of the law's def at the head's heap -/
def LawG (l : PySem.W.OpenLaw) (w : World) (Kf : PySem.W.Frag) (k n : Nat) (x : Str) (mg : Str → Option Value) (fa : Addr) (h : Heap) : Prop :=
  ∃ (fd : FuncData) (cs : List (Addr × Addr)) (sp : Sp),
    (∀ p ∈ cs, h.get? p.2 = some { cls := .none, data := .fields #[] } ∧ Kf.lookup p.2 = none ∧ PySem.W.CodeHd h p.1 p.2) ∧
    (∀ (s : Shared) (u : Value), BindsTo s fd ⟨[u], []⟩ [(x, u)]) ∧
    (∀ (H : Hp) (a : Addr) (ns : List Int), ns.length ≤ n → (∀ z ∈ ns, Builtin.Int.intBits z ≤ 1048576) → (∀ p ∈ cs, H p.2 = some (.tbl #[])) → (∀ b o, H b = some o → ¬ IsDraw o) → SqL Kf H a (ns.map V.int) → sp [.ref a] H (fun v _ => v = .bl true) fun _ _ _ => False) ∧
    ∀ base : Heap, Kf.In base → base.Ns mainGlobals mg → (∀ p ∈ cs, TabB base mg p.1 p.2) → FnG l.prog w Kf mg base k fa fd [x] sp
theorem walk_G {l : PySem.W.OpenLaw} {n k : Nat} {q : Program} {loose : List Str} {XP : (Str → Option Value) → Heap → Prop} {YP : World → Heap → Prop} {d : DefRec} {Kp : Params → PySem.W.Frag} {x : Str} (most : l.most = some n) (small : n ≤ sizeLine) (nodef : d.params.defaults = []) (room : Room k callerA)
    (inK : ∀ (w : World) (h : Heap), YP w h → (Kp w.params).In h)
    (F : ∀ (w : World) (mg : Str → Option Value) (fa : Addr) (h : Heap), YP w h → (Kp w.params).In h → h.Ns mainGlobals mg → mg d.name = some (.ref fa) → LawG l w (Kp w.params) k n x mg fa h) :
    PySem.W.WalkO q loose XP YP l.row.toRowW d [] (fun f vs => PySem.call f vs) :=
  Att.attach_callB most nodef fun w s0 s1 mg mb fa o pm cd doc a vs ns G Y ho hd hcd hmg hobj whole len bits nog => by
    have h1 := inK w _ Y
    obtain ⟨fd, cs, sp, k1, k2, k3, k4⟩ := F w mg fa _ Y h1 G.T.g hmg
    exact lawG_call h1 G.T.g G.T.b G.T.builtins G.T.nolimit nog (fun p hp => (k1 p hp).1) (fun p hp => (k1 p hp).2.1) (fun p hp => (k1 p hp).2.2) G.T.bmain hobj whole (Nat.le_trans len small) room k4 k2 fun H e1 e2 e3 => k3 H a ns len bits e1 e2 e3
end Pv

-- Pv24
set_option Elab.async false
set_option linter.all false
set_option maxRecDepth 100000
set_option maxHeartbeats 8000000
namespace Pv
open PySem PySem.Spec L2
open PyProof.Rows (envOfC)
/-! ## a def's reading, straight from its text -/
def runC (Γ : Ga) (errs : List (Str × List Str)) (n : Nat) (body : List Stmt) (ds : List PyData) : T PyData := match cSs Γ errs n body with
  | some fs => runDef Γ.N.length fs ds
  | none => .stuck
section
variable {P : Pa} {prog : Program} {w : World} {mg : Str → Option Value} {base : Heap} {k : Nat} {fns lfns : List (Str × FnI)} {con : List (Str × PyData)} {errs : List (Str × List Str)} {lams : List (Str × (T PyData → T PyData))}
theorem spT_stuck {m : FnD} {n : Nat} {vs : List V} {H : Hp} {Q : VK} {E : XK} (hm : ∀ ds, m ds = .stuck) (h : spT P ⟨n, m⟩ vs H Q E) : False := by
  obtain ⟨_, ds, b, _, _, q⟩ := h
  have q' : T.wp (m ds) b (KQ P H Q) (KW P H E) := q
  rw [hm ds] at q'
  exact q'
theorem def_run (pg : Pg P prog w mg base k fns con errs) (nd : (errs.map (·.1)).Nodup) (h2 : 2 ≤ k) {x qual : Str} {st : Stmt} {f : Addr} {fd : FuncData} {N ps : List Str} {n : Nat} (F : Fun P.K x qual st f fd) (S : FnScope N ps (defScope st)) :
    FnOk prog w P.K mg base (L2.CX prog w) (k + 1) f fd ps (spT P ⟨ps.length, runC (Ga.mk0 N (defScope st) fns con false) (errsOf (defScope st) errs) n (defBody st)⟩) := by
  cases hc : cSs (Ga.mk0 N (defScope st) fns con false) (errsOf (defScope st) errs) n (defBody st) with
  | none =>
    have hm : ∀ ds, runC (Ga.mk0 N (defScope st) fns con false) (errsOf (defScope st) errs) n (defBody st) ds = .stuck := fun ds => by
      unfold runC
      rw [hc]
    exact F.okX S (fun vs H Q E h => h.1) fun cdv A outer s H vs Q E hr h => (spT_stuck hm h).elim
  | some fs =>
    have hm : runC (Ga.mk0 N (defScope st) fns con false) (errsOf (defScope st) errs) n (defBody st) = runDef N.length fs := by
      funext ds
      unfold runC
      rw [hc]
    rw [hm]
    exact def_ok pg nd h2 F S hc
theorem defG_run (pg : PgL P prog w mg base (k + 1) fns lfns con lams) {f : Addr} {name qual : Str} {params : Arguments} {body : List Stmt} {scope : Scope} {dV kV doc pm cdv ct oc : Value} {an od : Option Addr} {osl : Array (Option Value)} {N ps : List Str} {n : Nat}
    (lk : P.K.lookup f = some ⟨oc, od, .func (PySem.W.fnOf name qual params body scope dV kV doc pm an cdv ct), osl⟩) (hcd : PySem.W.codeIn P.K cdv qual = true) (S : FnScope N ps scope) (la : lams = [] ∨ LamAt P mg base qual cdv) :
    FnG prog w P.K mg base (k + 4) f (PySem.W.fnOf name qual params body scope dV kV doc pm an cdv ct) ps (spT P ⟨ps.length, runC (lawGa N scope fns lfns con lams) [] n body⟩) := by
  cases hc : cSs (lawGa N scope fns lfns con lams) [] n body with
  | none =>
    have hm : ∀ ds, runC (lawGa N scope fns lfns con lams) [] n body ds = .stuck := fun ds => by
      unfold runC
      rw [hc]
    exact ⟨fun vs H Q E h => h.1, fun A outer s H args us vs Q E hr hg e0 hb r h => (spT_stuck hm h).elim⟩
  | some fs =>
    have hm : runC (lawGa N scope fns lfns con lams) [] n body = runDef N.length fs := by
      funext ds
      unfold runC
      rw [hc]
    rw [hm]
    exact defG_ok pg lk hcd S la hc
/-- the names of a def that have slots: its parameters come first in its scope -/
def locN (sc : Scope) : List Str := (sc.names.filter fun p => decide (p.2 = .local) || decide (p.2 = .cell)).map (·.1)
end
end Pv

-- Pv25
set_option Elab.async false
set_option linter.all false
set_option maxRecDepth 100000
set_option maxHeartbeats 8000000
namespace Pv
open PySem L2
/-! ## running a reading -/
theorem isi_int_none  : isiD (tyName "int") .none = .ret (.bool false) := by rfl
theorem isi_int_bool (x : Bool) : isiD (tyName "int") (.bool x) = .ret (.bool true) := by rfl
theorem isi_int_int (x : Int) : isiD (tyName "int") (.int x) = .ret (.bool true) := by rfl
theorem isi_int_str (x : Str) : isiD (tyName "int") (.str x) = .ret (.bool false) := by rfl
theorem isi_int_list (x : List PyData) : isiD (tyName "int") (.list x) = .ret (.bool false) := by rfl
theorem isi_int_tuple (x : List PyData) : isiD (tyName "int") (.tuple x) = .ret (.bool false) := by rfl
theorem isi_int_dict (x : List (PyData × PyData)) : isiD (tyName "int") (.dict x) = .ret (.bool false) := by rfl
theorem isi_str_none  : isiD (tyName "str") .none = .ret (.bool false) := by rfl
theorem isi_str_bool (x : Bool) : isiD (tyName "str") (.bool x) = .ret (.bool false) := by rfl
theorem isi_str_int (x : Int) : isiD (tyName "str") (.int x) = .ret (.bool false) := by rfl
theorem isi_str_str (x : Str) : isiD (tyName "str") (.str x) = .ret (.bool true) := by rfl
theorem isi_str_list (x : List PyData) : isiD (tyName "str") (.list x) = .ret (.bool false) := by rfl
theorem isi_str_tuple (x : List PyData) : isiD (tyName "str") (.tuple x) = .ret (.bool false) := by rfl
theorem isi_str_dict (x : List (PyData × PyData)) : isiD (tyName "str") (.dict x) = .ret (.bool false) := by rfl
theorem isi_bool_none  : isiD (tyName "bool") .none = .ret (.bool false) := by rfl
theorem isi_bool_bool (x : Bool) : isiD (tyName "bool") (.bool x) = .ret (.bool true) := by rfl
theorem isi_bool_int (x : Int) : isiD (tyName "bool") (.int x) = .ret (.bool false) := by rfl
theorem isi_bool_str (x : Str) : isiD (tyName "bool") (.str x) = .ret (.bool false) := by rfl
theorem isi_bool_list (x : List PyData) : isiD (tyName "bool") (.list x) = .ret (.bool false) := by rfl
theorem isi_bool_tuple (x : List PyData) : isiD (tyName "bool") (.tuple x) = .ret (.bool false) := by rfl
theorem isi_bool_dict (x : List (PyData × PyData)) : isiD (tyName "bool") (.dict x) = .ret (.bool false) := by rfl
theorem isi_tuple_none  : isiD (tyName "tuple") .none = .ret (.bool false) := by rfl
theorem isi_tuple_bool (x : Bool) : isiD (tyName "tuple") (.bool x) = .ret (.bool false) := by rfl
theorem isi_tuple_int (x : Int) : isiD (tyName "tuple") (.int x) = .ret (.bool false) := by rfl
theorem isi_tuple_str (x : Str) : isiD (tyName "tuple") (.str x) = .ret (.bool false) := by rfl
theorem isi_tuple_list (x : List PyData) : isiD (tyName "tuple") (.list x) = .ret (.bool false) := by rfl
theorem isi_tuple_tuple (x : List PyData) : isiD (tyName "tuple") (.tuple x) = .ret (.bool true) := by rfl
theorem isi_tuple_dict (x : List (PyData × PyData)) : isiD (tyName "tuple") (.dict x) = .ret (.bool false) := by rfl
theorem isi_list_none  : isiD (tyName "list") .none = .ret (.bool false) := by rfl
theorem isi_list_bool (x : Bool) : isiD (tyName "list") (.bool x) = .ret (.bool false) := by rfl
theorem isi_list_int (x : Int) : isiD (tyName "list") (.int x) = .ret (.bool false) := by rfl
theorem isi_list_str (x : Str) : isiD (tyName "list") (.str x) = .ret (.bool false) := by rfl
theorem isi_list_list (x : List PyData) : isiD (tyName "list") (.list x) = .ret (.bool true) := by rfl
theorem isi_list_tuple (x : List PyData) : isiD (tyName "list") (.tuple x) = .ret (.bool false) := by rfl
theorem isi_list_dict (x : List (PyData × PyData)) : isiD (tyName "list") (.dict x) = .ret (.bool false) := by rfl
theorem isi_dict_none  : isiD (tyName "dict") .none = .ret (.bool false) := by rfl
theorem isi_dict_bool (x : Bool) : isiD (tyName "dict") (.bool x) = .ret (.bool false) := by rfl
theorem isi_dict_int (x : Int) : isiD (tyName "dict") (.int x) = .ret (.bool false) := by rfl
theorem isi_dict_str (x : Str) : isiD (tyName "dict") (.str x) = .ret (.bool false) := by rfl
theorem isi_dict_list (x : List PyData) : isiD (tyName "dict") (.list x) = .ret (.bool false) := by rfl
theorem isi_dict_tuple (x : List PyData) : isiD (tyName "dict") (.tuple x) = .ret (.bool false) := by rfl
theorem isi_dict_dict (x : List (PyData × PyData)) : isiD (tyName "dict") (.dict x) = .ret (.bool true) := by rfl
theorem bind_ite {α β : Type} {c : Prop} [Decidable c] {a b : T α} {f : α → T β} : T.bind (if c then a else b) f = if c then T.bind a f else T.bind b f := by split <;> rfl
theorem noRaise_ite {α : Type} {c : Prop} [Decidable c] {a b : T α} : noRaise (if c then a else b) = if c then noRaise a else noRaise b := by split <;> rfl
theorem getV_at {ρ : En} {i : Nat} {d : PyData} (h : ρ[i]? = some (some d)) : getV ρ i = .ret d := by
  unfold getV
  rw [h]
  rfl
theorem seqT_nx {ρ : En} {g : En → T Out} : seqT (.nx ρ) g = g ρ := rfl
theorem seqT_rt {d : PyData} {g : En → T Out} : seqT (.rt d) g = .ret (.rt d) := rfl
theorem asB_bool {b : Bool} : asB (.bool b) = .ret b := rfl
theorem asI_int {i : Int} : asI (.int i) = .ret i := rfl
theorem asS_str {s : Str} : asS (.str s) = .ret s := rfl
theorem outD_rt {d : PyData} : outD (.rt d) = .ret d := rfl
theorem outD_nx {ρ : En} : outD (.nx ρ) = .ret .none := rfl
theorem opC_lt {i j : Int} : opC .Lt (.int i) (.int j) = .ret (.bool (decide (i < j))) := rfl
theorem opC_le {i j : Int} : opC .LtE (.int i) (.int j) = .ret (.bool (decide (i ≤ j))) := rfl
theorem opC_gt {i j : Int} : opC .Gt (.int i) (.int j) = .ret (.bool (decide (j < i))) := rfl
theorem opC_ge {i j : Int} : opC .GtE (.int i) (.int j) = .ret (.bool (decide (j ≤ i))) := rfl
theorem opC_isNo {d : PyData} : opC .Is d .none = .ret (.bool (isNo d)) := by cases d <;> rfl
theorem opC_isntNo {d : PyData} : opC .IsNot d .none = .ret (.bool (!isNo d)) := by cases d <;> rfl
theorem opC_eqI {i j : Int} : opC .Eq (.int i) (.int j) = .ret (.bool (PyData.eqv (.int i) (.int j))) := rfl
end Pv

-- Pv26
set_option Elab.async false
set_option linter.all false
set_option linter.unusedSimpArgs false
set_option maxRecDepth 100000
set_option maxHeartbeats 8000000
namespace Pv
open PySem
/-! ## values that laws often ask for -/
theorem eqvI (i j : Int) : PyData.eqv (.int i) (.int j) = decide (i = j) := by
  show (i == j) = _
  by_cases h : i = j <;> simp [h]
abbrev caps : Str := "ABCDEFGHIJKLMNOPQRSTUVWXYZ"
theorem caps_len : caps.length = 26 := by decide +kernel
theorem caps_get : ∀ n, n < 26 → caps.cps.toList[n]? = some (65 + n) := by decide +kernel
theorem caps_size : caps.cps.toList.length = 26 := by decide +kernel
theorem caps_at {i : Int} (h0 : 0 ≤ i) (h1 : i < 26) : Pv.opI (.str caps) (.int i) = .ret (.str ⟨#[65 + i.toNat]⟩) := by
  have hl : caps.length ≤ big := by rw [caps_len]; decide
  have e : Pv.opI.atI' caps.cps.toList i = some (65 + i.toNat) := by
    unfold Pv.opI.atI' L2.ixN
    rw [caps_size, if_pos h0, if_pos (by omega)]
    exact caps_get _ (by omega)
  show (if caps.length ≤ big then T.ofO ((Pv.opI.atI' caps.cps.toList i).map fun c => PyData.str ⟨#[c]⟩) else .stuck) = _
  rw [if_pos hl, e]
  rfl
theorem len_caps : f_len [.str caps] = .ret (.int 26) := by
  show (if caps.length ≤ big then T.ret (PyData.int caps.length) else .stuck) = _
  rw [if_pos (by rw [caps_len]; decide), caps_len]
  rfl
theorem opB_sub {i j : Int} : opB .Sub (.int i) (.int j) = .ret (.int (i - j)) := by rfl
theorem opB_add {i j : Int} : opB .Add (.int i) (.int j) = .ret (.int (i + j)) := by rfl
theorem divmod_26 {i : Int} : f_divmod [.int i, .int 26] = .ret (.tuple [.int (i / 26), .int (i % 26)]) := by
  show (if (0 : Int) < 26 ∧ (26 : Int) < 1073741824 then T.ret (PyData.tuple [.int (i / 26), .int (i % 26)]) else .stuck) = _
  rw [if_pos (by decide)]
/-- a text of these code points -/
theorem cat_one {a b : Nat} : opB .Add (.str ⟨#[a]⟩) (.str ⟨#[b]⟩) = .ret (.str ⟨#[a, b]⟩) := by rfl
theorem opI_0 {d : PyData} {ds : List PyData} : Pv.opI (.tuple (d :: ds)) (.int 0) = .ret d := by
  show T.ofO (Pv.opI.atI' (d :: ds) 0) = _
  simp [Pv.opI.atI', L2.ixN, T.ofO]
end Pv

-- Pv27
set_option Elab.async false
set_option linter.all false
set_option maxRecDepth 100000
set_option maxHeartbeats 8000000
namespace Pv
open PySem PySem.Spec L2
open PyProof.Rows (envOfC)
/-! ## the facts that a program's top leaves, put together -/
/-- a def of the top: where it stands, its code object -/
structure DefA (K : PySem.W.Frag) (x : Str) (st : Stmt) (f : Addr) (cdv : Value) : Prop where
  a : PySem.W.nsIn K mainGlobals x = some (some (.ref f))
  l : ∃ (oc : Value) (od an : Option Addr) (kV doc pm ct : Value) (osl : Array (Option Value)), K.lookup f = some ⟨oc, od, .func (PySem.W.fnOf x x (defArgs st) (defBody st) (defScope st) .none kV doc pm an cdv ct), osl⟩
  c : PySem.W.codeIn K cdv x = true
  k : PySem.W.keepIn K (.ref f) = true
/-- the def's parameters are bound by their places -/
def Plain (x : Str) (st : Stmt) (ps : List Str) : Prop := ∀ (kV doc pm : Value) (an : Option Addr) (cdv ct : Value) (us : List Value), us.length = ps.length → bindArgs (PySem.W.fnOf x x (defArgs st) (defBody st) (defScope st) .none kV doc pm an cdv ct) ⟨us, []⟩ = pure (ps.zip us)
section
variable {P : Pa} {K : PySem.W.Frag} {prog : Program} {w : World} {mg : Str → Option Value} {base h : Heap} {k : Nat} {fns lfns : List (Str × FnI)} {con : List (Str × PyData)} {errs : List (Str × List Str)} {lams : List (Str × (T PyData → T PyData))}
theorem DefA.fn {x : Str} {st : Stmt} {f : Addr} {cdv : Value} (d : DefA K x st f cdv) : ∃ fd, Fun K x x st f fd := by
  obtain ⟨oc, od, an, kV, doc, pm, ct, osl, l⟩ := d.l
  exact ⟨_, fun_mk l d.c d.k⟩
theorem FnG.mono {f : Addr} {fd : FuncData} {ps : List Str} {sp : Sp} {j k : Nat} (F : FnG prog w K mg base j f fd ps sp) (h : j ≤ k) : FnG prog w K mg base k f fd ps sp := ⟨F.len, fun A outer s H args us vs Q E hr => F.run A outer s H args us vs Q E (hr.mono h)⟩
theorem Pg.mono (pg : Pg P prog w mg base k fns con errs) {j : Nat} (h : k ≤ j) : Pg P prog w mg base j fns con errs := ⟨pg.nf, pg.con, fun x i hi => by
  obtain ⟨f, fd, ps, h1, h2, h3, h4⟩ := pg.fns x i hi
  exact ⟨f, fd, ps, h1, h2, h3, h4.mono h⟩, pg.blt, pg.errs⟩
theorem Pg.add (pg : Pg P prog w mg base k fns con errs) {x : Str} {i : FnI} {f : Addr} {fd : FuncData} {ps : List Str} (hm : mg x = some (.ref f)) (hk : PySem.W.keepIn P.K (.ref f) = true) (hb : Binds P.K fd ps []) (F : FnOk prog w P.K mg base (L2.CX prog w) k f fd ps (spT P i)) :
    Pg P prog w mg base k ((x, i) :: fns) con errs := ⟨pg.nf, pg.con, fun y j hj => by
  rw [List.lookup_cons] at hj
  split at hj
  · rename_i e
    cases hj
    have : y = x := by simpa using e
    subst this
    exact ⟨f, fd, ps, hm, hk, hb, F⟩
  · exact pg.fns y j hj, pg.blt, pg.errs⟩
/-- one more def of the program -/
theorem Pg.cons (pg : Pg P prog w mg base k fns con errs) (nd : (errs.map (·.1)).Nodup) (h2 : 2 ≤ k) (X : P.K.In h) (G : h.Ns mainGlobals mg) {x : Str} {st : Stmt} {f : Addr} {cdv : Value} {N ps : List Str} {n nN np : Nat} {fs : FS} (d : DefA P.K x st f cdv) (S : FnScope N ps (defScope st)) (pl : Plain x st ps)
    (hc : cSs (Ga.mk0 N (defScope st) fns con false) (errsOf (defScope st) errs) n (defBody st) = some fs) (hN : N.length = nN) (hp : ps.length = np) : Pg P prog w mg base (k + 1) ((x, ⟨np, runDef nN fs⟩) :: fns) con errs := by
  subst hN hp
  obtain ⟨fd, F⟩ := d.fn
  exact (pg.mono (Nat.le_succ k)).add (PySem.W.mg_of X G d.a) d.k (F.binds pl) (def_ok pg nd h2 F S hc)
theorem PgL.mono (pg : PgL P prog w mg base k fns lfns con lams) {j : Nat} (h : k ≤ j) : PgL P prog w mg base j fns lfns con lams := ⟨pg.nf, pg.hcon, fun x i hi => by
  obtain ⟨f, fd, ps, h1, h2, h3, h4⟩ := pg.fns x i hi
  exact ⟨f, fd, ps, h1, h2, h3, h4.mono h⟩, fun x i hi => by
  obtain ⟨f, fd, ps, h1, h2, h3, h4⟩ := pg.lfns x i hi
  exact ⟨f, fd, ps, h1, h2, h3, h4.mono h⟩, pg.blt, pg.lams⟩
theorem PgL.add (pg : PgL P prog w mg base k fns lfns con lams) {x : Str} {i : FnI} {f : Addr} {fd : FuncData} {ps : List Str} (hm : mg x = some (.ref f)) (hk : PySem.W.keepIn P.K (.ref f) = true) (hb : Binds P.K fd ps []) (F : FnG prog w P.K mg base k f fd ps (spT P i)) :
    PgL P prog w mg base k ((x, i) :: fns) lfns con lams := ⟨pg.nf, pg.hcon, fun y j hj => by
  rw [List.lookup_cons] at hj
  split at hj
  · rename_i e
    cases hj
    have : y = x := by simpa using e
    subst this
    exact ⟨f, fd, ps, hm, hk, hb, F⟩
  · exact pg.fns y j hj, pg.lfns, pg.blt, pg.lams⟩
/-- the program's defs, for a law -/
theorem Pg.toL (pg : Pg P prog w mg base k fns con errs) (lm : ∀ x tf, lams.lookup x = some tf → LamI P prog w mg base con x tf) : PgL P prog w mg base k fns fns con lams := ⟨pg.nf, pg.con, fun x i hi => by
  obtain ⟨f, fd, ps, h1, h2, h3, h4⟩ := pg.fns x i hi
  exact ⟨f, fd, ps, h1, h2, h3, FnOk.g h4⟩, pg.fns, pg.blt, lm⟩
theorem PgL.noLam (pg : PgL P prog w mg base k fns lfns con lams) : PgL P prog w mg base k fns lfns con [] := ⟨pg.nf, pg.hcon, pg.fns, pg.lfns, pg.blt, fun x tf h => nomatch h⟩
theorem defG_of (pg : PgL P prog w mg base (k + 1) fns lfns con lams) {x : Str} {st : Stmt} {f : Addr} {cdv : Value} {N ps : List Str} {n nN np : Nat} {fs : FS} (d : DefA P.K x st f cdv) (S : FnScope N ps (defScope st)) (la : lams = [] ∨ LamAt P mg base x cdv) (pl : Plain x st ps)
    (hc : cSs (lawGa N (defScope st) fns lfns con lams) [] n (defBody st) = some fs) (hN : N.length = nN) (hp : ps.length = np) : ∃ fd, Binds P.K fd ps [] ∧ FnG prog w P.K mg base (k + 4) f fd ps (spT P ⟨np, runDef nN fs⟩) ∧ (∀ (s : Shared) (us : List Value), us.length = ps.length → BindsTo s fd ⟨us, []⟩ (ps.zip us)) := by
  subst hN hp
  obtain ⟨fd, F⟩ := d.fn
  obtain ⟨oc, od, an, kV, doc, pm, ct, osl, l⟩ := d.l
  exact ⟨_, (fun_mk l d.c d.k).binds pl, defG_ok pg l d.c S la hc, fun s us hl => .of_eq (pl kV doc pm an cdv ct us hl)⟩
/-- one more def of the law -/
theorem PgL.cons (pg : PgL P prog w mg base (k + 1) fns lfns con lams) (X : P.K.In h) (G : h.Ns mainGlobals mg) {ls : List (Str × (T PyData → T PyData))} {x : Str} {st : Stmt} {f : Addr} {cdv : Value} {N ps : List Str} {n nN np : Nat} {fs : FS} (d : DefA P.K x st f cdv) (S : FnScope N ps (defScope st)) (hl : ls = [] ∨ ls = lams) (la : ls = [] ∨ LamAt P mg base x cdv) (pl : Plain x st ps)
    (hc : cSs (lawGa N (defScope st) fns lfns con ls) [] n (defBody st) = some fs) (hN : N.length = nN) (hp : ps.length = np) : PgL P prog w mg base (k + 4) ((x, ⟨np, runDef nN fs⟩) :: fns) lfns con lams := by
  have key : ∃ fd, Binds P.K fd ps [] ∧ FnG prog w P.K mg base (k + 4) f fd ps (spT P ⟨np, runDef nN fs⟩) ∧ (∀ (s : Shared) (us : List Value), us.length = ps.length → BindsTo s fd ⟨us, []⟩ (ps.zip us)) := by
    rcases hl with rfl | rfl
    · exact defG_of pg.noLam d S la pl hc hN hp
    · exact defG_of pg d S la pl hc hN hp
  obtain ⟨fd, hb, F, _⟩ := key
  exact (pg.mono (by omega)).add (PySem.W.mg_of X G d.a) d.k hb F
/-! ## classes of errors -/
structure ClsF (K : PySem.W.Frag) (C : Addr) : Prop where
  exC : PySem.W.subIn K (.ref C) (.type "BaseException") = some true
  isC : PySem.W.isClsIn K C = true
  ty : PySem.W.typeIn K (.ref C) = some (.type "type")
theorem kitCls_of {C D : Addr} {b : Bool} (T : ClsF K D) (e : PySem.W.subIn K (.ref C) (.ref D) = some b) : PySem.W.kitCls K (.ref C) (.ref D) = some b := by
  have e2 : ((PySem.W.clsIn K D).isSome && PySem.W.typeIn K (.ref D) == some (.type "type")) = true := by
    have h2' : (PySem.W.clsIn K D).isSome = true := T.isC
    rw [h2', T.ty] <;> rfl
  show (if ((PySem.W.clsIn K D).isSome && PySem.W.typeIn K (.ref D) == some (.type "type")) = true then PySem.W.subIn K (.ref C) (.ref D) else none) = some b
  rw [if_pos e2]
  exact e
theorem exm_of {C D : Addr} {b : Bool} (T : ClsF K D) (e : PySem.W.subIn K (.ref C) (.ref D) = some b) : PySem.W.exmOne K (.ref C) (.ref D) = some b := by
  have e1 : (PySem.W.subIn K (.ref D) (.type "BaseException") == some true) = true := by rw [T.exC] <;> rfl
  show (if (PySem.W.subIn K (.ref D) (.type "BaseException") == some true) = true then PySem.W.kitCls K (.ref C) (.ref D) else none) = some b
  rw [if_pos e1]
  exact kitCls_of T e
theorem kit_of {C D : Addr} {b : Bool} (T : ClsF K D) (e : PySem.W.subIn K (.ref C) (.ref D) = some b) (h : C = D → b = true) : PySem.W.kitOne K (.ref C) (.ref D) = some b := by
  unfold PySem.W.kitOne
  by_cases hc : C = D
  · subst hc
    rw [if_pos (by simp), h rfl]
  · rw [if_neg (by simpa using hc)]
    exact kitCls_of T e
/-- an error's class with one field -/
structure ErF (K : PySem.W.Frag) (c f qi : Str) (st : Stmt) (C fI : Addr) : Prop where
  a : PySem.W.nsIn K mainGlobals c = some (some (.ref C))
  l : ∃ nm q N bs bm sn sub ab col dd k0 k1 k2 k3 k5, K.lookup C = some (excClassObj nm q C N bs bm true sn sub ab col dd k0 k1 k2 k3 k5 "ValueError.__new__") ∧ PySem.HandSPX.refsVE bm = true
  sa : PySem.W.findIn K (.ref C) "__setattr__" = some (some (.builtin "object.__setattr__"))
  ga : PySem.W.findIn K (.ref C) "__getattribute__" = some (some (.builtin "BaseException.__getattribute__"))
  gg : PySem.W.findIn K (.ref C) "__getattr__" = some none
  ac : PySem.W.findIn K (.ref C) "__class__" = some (some (.builtin "object.__class__"))
  hn : PySem.W.specialIn K (.builtin "object.__class__") "__get__" = some (some (.builtin "getset_descriptor.__get__"))
  ht : PySem.W.takesIn K (.builtin "object.__class__") = some true
  hm : PySem.W.mroIn K C (.type "object") = some true
  hd : PySem.W.hasDictIn K C = true
  kC : PySem.W.keepIn K (.ref C) = true
  cl : ClsF K C
  i1 : PySem.W.findIn K (.ref C) "__init__" = some (some (.ref fI))
  t1 : PySem.W.typeIn K (.ref fI) = some (.type "function")
  lI : ∃ (oc : Value) (od an : Option Addr) (kV doc pm cdv ct : Value) (osl : Array (Option Value)), K.lookup fI = some ⟨oc, od, .func (PySem.W.fnOf "__init__" qi (defArgs st) (defBody st) (defScope st) .none kV doc pm an cdv ct), osl⟩ ∧ PySem.W.codeIn K cdv qi = true
  kI : PySem.W.keepIn K (.ref fI) = true
  fl : ∀ g ∈ fldNames, PySem.W.findIn K (.ref C) g = some none
theorem ErF.oex {c f qi : Str} {st : Stmt} {C fI : Addr} (e : ErF K c f qi st C fI) : OexC K C := ⟨e.l, e.sa, e.cl.exC, e.cl.ty, e.kC⟩
theorem ErF.xf {c f qi : Str} {st : Stmt} {C fI : Addr} (e : ErF K c f qi st C fI) : XfC K C ∧ ExcC K C ∧ ∀ g ∈ fldNames, PySem.W.findIn K (.ref C) g = some none :=
  ⟨⟨e.ga, e.gg, e.cl.exC, e.hd⟩, ⟨e.ga, e.gg, e.cl.exC, e.hd, e.ac, e.hn, e.ht, e.hm⟩, e.fl⟩
theorem ErF.er (X : K.In h) (G : h.Ns mainGlobals mg) {c f qi : Str} {st : Stmt} {C fI : Addr} (e : ErF K c f qi st C fI) (hf : f ∈ fldNames) {p1 p2 p3 p4 : Pos} (hb : defBody st = [.Assign [.Attribute (.Name "self" p1) f p2] (.Name f p3) p4]) (S : FnScope ["self", f] ["self", f] (defScope st))
    (v0 : Vis (defScope st) "self") (v1 : Vis (defScope st) f) (h1 : (f == ("__debug__" : Str)) = false) (h2 : (f == ("__classdict__" : Str)) = false) (pl : ∀ (kV doc pm : Value) (an : Option Addr) (cdv ct : Value) (us : List Value), us.length = 2 → bindArgs (PySem.W.fnOf "__init__" qi (defArgs st) (defBody st) (defScope st) .none kV doc pm an cdv ct) ⟨us, []⟩ = pure ((["self", f] : List Str).zip us)) (db : (c == ("__debug__" : Str)) = false) : ErC prog w K mg base c f C := by
  obtain ⟨oc, od, an, kV, doc, pm, cdv, ct, osl, l, cd⟩ := e.lI
  have F := fun_mk (st := st) (x := "__init__") (qual := qi) l cd e.kI
  exact { g := PySem.W.mg_of X G e.a, o := e.oex, ini := ⟨fI, _, e.i1, e.t1, F.binds pl, init_ok F hb S v0 v1 h1 h2 (e.fl f hf) e.oex⟩, db := db }
/-! ## the tables of code objects -/
structure TabF (K : PySem.W.Frag) (c t : Addr) : Prop where
  ex : ∃ (od : Option Addr) (vs : Array Value) (sl : Array (Option Value)) (file : Str) (tf : Tok) (fl : Int) (tg : Tok) (b : Bool) (n : Int) (tt : Tok), K.lookup c = some ⟨.type "code", od, .fields vs, sl⟩ ∧ vs[11]? = some (.ref t) ∧ vs.getD 18 .none = .str file tf ∧ vs.getD 7 .none = .int fl tg ∧ vs.getD 9 .none = .bool b ∧ vs.getD 10 .none = .int n tt
  ne : c ≠ t
  no : K.lookup t = none
theorem TabF.hd {c t : Addr} (X : K.In h) (T : TabF K c t) : PySem.W.CodeHd h c t := by
  obtain ⟨od, vs, sl, file, tf, fl, tg, b, n, tt, l, h11, h18, h7, h9, h10⟩ := T.ex
  exact ⟨_, vs, file, tf, fl, tg, b, n, tt, X _ _ l, rfl, rfl, h11, by rw [Array.getD_eq_getD_getElem?, h11]; rfl, h18, h7, h9, h10, T.ne⟩
end
/-! ## the same, by implicit values (for k_is) -/
section
variable {K : PySem.W.Frag}
theorem defA_mk {x : Str} {st : Stmt} {f : Addr} {cdv oc kV doc pm ct : Value} {od an : Option Addr} {osl : Array (Option Value)} (a : PySem.W.nsIn K mainGlobals x = some (some (.ref f)))
    (l : K.lookup f = some ⟨oc, od, .func (PySem.W.fnOf x x (defArgs st) (defBody st) (defScope st) .none kV doc pm an cdv ct), osl⟩) (c : PySem.W.codeIn K cdv x = true) (k : PySem.W.keepIn K (.ref f) = true) : DefA K x st f cdv := ⟨a, ⟨_, _, _, _, _, _, _, _, l⟩, c, k⟩
theorem clsF_mk {C : Addr} (x1 : PySem.W.subIn K (.ref C) (.type "BaseException") = some true) (x2 : PySem.W.isClsIn K C = true) (x3 : PySem.W.typeIn K (.ref C) = some (.type "type")) : ClsF K C := ⟨x1, x2, x3⟩
theorem tabF_mk {c t : Addr} {od : Option Addr} {vs : Array Value} {sl : Array (Option Value)} {file : Str} {tf : Tok} {fl : Int} {tg : Tok} {b : Bool} {n : Int} {tt : Tok} (l : K.lookup c = some ⟨.type "code", od, .fields vs, sl⟩) (h11 : vs[11]? = some (.ref t)) (h18 : vs.getD 18 .none = .str file tf) (h7 : vs.getD 7 .none = .int fl tg)
    (h9 : vs.getD 9 .none = .bool b) (h10 : vs.getD 10 .none = .int n tt) (ne : c ≠ t) (no : K.lookup t = none) : TabF K c t := ⟨⟨od, vs, sl, file, tf, fl, tg, b, n, tt, l, h11, h18, h7, h9, h10⟩, ne, no⟩
theorem erF_mk {c f qi : Str} {st : Stmt} {C fI N : Addr} {nm q : Str} {bs bm : List Value} {sn : List Str} {sub : List Value} {ab : Bool} {col : Option Bool} {dd od an : Option Addr} {k0 k1 k2 k3 k5 : Option Value} {oc kV doc pm cdv ct : Value} {osl : Array (Option Value)}
    (a : PySem.W.nsIn K mainGlobals c = some (some (.ref C))) (l : K.lookup C = some (excClassObj nm q C N bs bm true sn sub ab col dd k0 k1 k2 k3 k5 "ValueError.__new__")) (r : PySem.HandSPX.refsVE bm = true)
    (sa : PySem.W.findIn K (.ref C) "__setattr__" = some (some (.builtin "object.__setattr__"))) (ga : PySem.W.findIn K (.ref C) "__getattribute__" = some (some (.builtin "BaseException.__getattribute__"))) (gg : PySem.W.findIn K (.ref C) "__getattr__" = some none)
    (ac : PySem.W.findIn K (.ref C) "__class__" = some (some (.builtin "object.__class__"))) (hn : PySem.W.specialIn K (.builtin "object.__class__") "__get__" = some (some (.builtin "getset_descriptor.__get__"))) (ht : PySem.W.takesIn K (.builtin "object.__class__") = some true)
    (hm : PySem.W.mroIn K C (.type "object") = some true) (hd : PySem.W.hasDictIn K C = true) (kC : PySem.W.keepIn K (.ref C) = true) (cl : ClsF K C) (i1 : PySem.W.findIn K (.ref C) "__init__" = some (some (.ref fI))) (t1 : PySem.W.typeIn K (.ref fI) = some (.type "function"))
    (lI : K.lookup fI = some ⟨oc, od, .func (PySem.W.fnOf "__init__" qi (defArgs st) (defBody st) (defScope st) .none kV doc pm an cdv ct), osl⟩) (cI : PySem.W.codeIn K cdv qi = true) (kI : PySem.W.keepIn K (.ref fI) = true) (fl : ∀ g ∈ fldNames, PySem.W.findIn K (.ref C) g = some none) : ErF K c f qi st C fI :=
  { a := a, l := ⟨_, _, _, _, _, _, _, _, _, _, _, _, _, _, _, l, r⟩, sa := sa, ga := ga, gg := gg, ac := ac, hn := hn, ht := ht, hm := hm, hd := hd, kC := kC, cl := cl, i1 := i1, t1 := t1, lI := ⟨_, _, _, _, _, _, _, _, _, lI, cI⟩, kI := kI, fl := fl }
end
end Pv

-- M1
set_option Elab.async false
set_option linter.all false
set_option maxRecDepth 100000
set_option maxHeartbeats 4000000
namespace Pv
open PySem SX PySem.Builtin PySem.Builtin.Str
/-! ## texts as rows of signs: strip, partition, columns -/
def dig (c : Nat) : Bool := decide (48 ≤ c) && decide (c ≤ 57)
def cap (c : Nat) : Bool := decide (65 ≤ c) && decide (c ≤ 90)
theorem digits_S : ("0123456789" : Str) = S [48, 49, 50, 51, 52, 53, 54, 55, 56, 57] := by decide +kernel
theorem caps_S : ("ABCDEFGHIJKLMNOPQRSTUVWXYZ" : Str) = S [65, 66, 67, 68, 69, 70, 71, 72, 73, 74, 75, 76, 77, 78, 79, 80, 81, 82, 83, 84, 85, 86, 87, 88, 89, 90] := by decide +kernel
theorem mem_digits (c : Nat) : ("0123456789" : Str).cps.contains c = dig c := by
  rw [digits_S]
  unfold dig
  rw [Bool.eq_iff_iff]
  simp [S]
  omega
theorem mem_caps (c : Nat) : ("ABCDEFGHIJKLMNOPQRSTUVWXYZ" : Str).cps.contains c = cap c := by
  rw [caps_S]
  unfold cap
  rw [Bool.eq_iff_iff]
  simp [S]
  omega
theorem goes_digits : ("0123456789" : Str).cps.contains = dig := funext mem_digits
theorem goes_caps : ("ABCDEFGHIJKLMNOPQRSTUVWXYZ" : Str).cps.contains = cap := funext mem_caps
theorem dropWhile_take {α : Type} (p : α → Bool) : ∀ l : List α, l.drop (l.takeWhile p).length = l.dropWhile p
  | [] => rfl
  | a :: r => by
    rw [List.takeWhile_cons, List.dropWhile_cons]
    by_cases h : p a = true
    · rw [if_pos h, if_pos h, List.length_cons, List.drop_succ_cons, dropWhile_take p r]
    · rw [if_neg h, if_neg h]
      rfl
theorem take_rev (p : Nat → Bool) (l : List Nat) : l.take (l.length - (l.reverse.takeWhile p).length) = (l.reverse.dropWhile p).reverse := by
  rw [← dropWhile_take, List.reverse_drop]
  simp
theorem mem_tw {p : Nat → Bool} {c : Nat} : ∀ {l : List Nat}, c ∈ l.takeWhile p → p c = true
  | [], h => by cases h
  | a :: r, h => by
    rw [List.takeWhile_cons] at h
    by_cases ha : p a = true
    · rw [if_pos ha] at h
      rcases List.mem_cons.mp h with rfl | h
      · exact ha
      · exact mem_tw h
    · rw [if_neg ha] at h
      cases h
theorem dw_nil {p : Nat → Bool} : ∀ {l : List Nat}, (∀ c ∈ l, p c = true) → l.dropWhile p = []
  | [], _ => rfl
  | a :: r, h => by
    rw [List.dropWhile_cons, if_pos (h a List.mem_cons_self)]
    exact dw_nil fun c hc => h c (List.mem_cons_of_mem _ hc)
theorem dw_head {p : Nat → Bool} {a : Nat} {r : List Nat} : ∀ {l : List Nat}, l.dropWhile p = a :: r → p a = false
  | [], h => by cases h
  | b :: l, h => by
    rw [List.dropWhile_cons] at h
    by_cases hb : p b = true
    · rw [if_pos hb] at h
      exact dw_head h
    · rw [if_neg hb] at h
      cases h
      simpa using hb
def rst (p : Nat → Bool) (l : List Nat) : List Nat := (l.reverse.dropWhile p).reverse
theorem tl_sub (x : Str) (i j : Nat) : strSub x i j = S ((x.cps.toList.drop i).take (j - i)) := TL.ext_tl (TL.tl_strSub x i j)
theorem rstrip_S (l : List Nat) : Txt.rstripChars (S l) "0123456789" = S (rst dig l) := by
  unfold Txt.rstripChars
  rw [PyProof.Rows.stripBy_eq, goes_digits, tl_sub]
  have e : stripLo dig false (S l) = 0 := rfl
  have e2 : stripHi dig true (S l) 0 = l.length - (l.reverse.takeWhile dig).length := by
    unfold stripHi
    simp [S, Str.length]
  rw [e, e2]
  show S ((l.drop 0).take _) = _
  rw [List.drop_zero, Nat.sub_zero, take_rev]
  rfl
/-- nothing is left exactly if all signs are stripped -/
theorem strip_all (l : List Nat) : (Txt.stripChars (S l) "ABCDEFGHIJKLMNOPQRSTUVWXYZ" == Str.empty) = l.all cap := by
  unfold Txt.stripChars
  rw [PyProof.Rows.stripBy_eq, goes_caps, tl_sub]
  have e0 : (Str.empty : Str) = S [] := rfl
  rw [e0, S_beq, Bool.eq_iff_iff, beq_iff_eq, List.all_eq_true]
  have e : stripLo cap true (S l) = (l.takeWhile cap).length := rfl
  rw [e]
  have e2 : stripHi cap true (S l) (l.takeWhile cap).length = l.length - ((l.dropWhile cap).reverse.takeWhile cap).length := by
    unfold stripHi
    simp [S, Str.length, dropWhile_take]
  rw [e2]
  show (l.drop _).take _ = [] ↔ _
  rw [dropWhile_take]
  constructor
  · intro h c hc
    by_cases hd : l.dropWhile cap = []
    · have := List.takeWhile_append_dropWhile (p := cap) (l := l)
      rw [hd, List.append_nil] at this
      rw [← this] at hc
      exact mem_tw hc
    · exfalso
      obtain ⟨a, r, ear⟩ := List.exists_cons_of_ne_nil hd
      have hna : cap a = false := dw_head ear
      have hl : ((l.dropWhile cap).reverse.takeWhile cap).length < (l.dropWhile cap).length := by
        have h1 : ((l.dropWhile cap).reverse.takeWhile cap).length ≤ (l.dropWhile cap).reverse.length := (List.takeWhile_sublist _).length_le
        rw [List.length_reverse] at h1
        rcases Nat.lt_or_ge ((l.dropWhile cap).reverse.takeWhile cap).length (l.dropWhile cap).length with h2 | h2
        · exact h2
        · exfalso
          have h3 : (l.dropWhile cap).reverse.takeWhile cap = (l.dropWhile cap).reverse := (List.takeWhile_sublist _).eq_of_length_le (by rw [List.length_reverse]; exact h2)
          have : a ∈ (l.dropWhile cap).reverse.takeWhile cap := by rw [h3, ear]; simp
          have := mem_tw this
          rw [hna] at this
          cases this
      have hlen : l.length = (l.takeWhile cap).length + (l.dropWhile cap).length := by
        rw [← List.length_append, List.takeWhile_append_dropWhile]
      have h0 := congrArg List.length h
      rw [List.length_take, List.length_nil] at h0
      omega
  · intro h
    rw [dw_nil h, List.take_nil]
end Pv

-- M2
set_option Elab.async false
set_option linter.all false
set_option maxRecDepth 100000
set_option maxHeartbeats 4000000
namespace Pv
open PySem SX TL NumText
/-! ## names of columns and places -/
def colV (A : List Nat) : Nat := A.foldl (fun a c => 26 * a + (c - 64)) 0
def colL (n : Nat) : List Nat := if n ≤ 26 then [64 + n] else [64 + (n - 1) / 26, 65 + (n - 1) % 26]
structure Good (A D : List Nat) : Prop where
  a0 : 1 ≤ A.length
  a1 : A.length ≤ 2
  ac : ∀ c ∈ A, cap c = true
  d0 : 1 ≤ D.length
  d1 : D.length ≤ 4
  dd : ∀ c ∈ D, dig c = true
  dh : D.head? ≠ some 48
theorem cap_iff {c : Nat} : cap c = true ↔ 65 ≤ c ∧ c ≤ 90 := by unfold cap; simp
theorem dig_iff {c : Nat} : dig c = true ↔ 48 ≤ c ∧ c ≤ 57 := by unfold dig; simp
def placeL (l : List Nat) : Option (Nat × Nat) :=
  if ((1 ≤ (l.takeWhile cap).length ∧ (l.takeWhile cap).length ≤ 2) ∧ (1 ≤ (l.dropWhile cap).length ∧ (l.dropWhile cap).length ≤ 4)) ∧ (l.dropWhile cap).all dig = true ∧ (l.dropWhile cap).head? ≠ some 48 then some (digitsVal (l.dropWhile cap), colV (l.takeWhile cap)) else none
theorem tw_app {p : Nat → Bool} : ∀ {A D : List Nat}, (∀ c ∈ A, p c = true) → (∀ c, D.head? = some c → p c = false) → (A ++ D).takeWhile p = A ∧ (A ++ D).dropWhile p = D
  | [], [], _, _ => ⟨rfl, rfl⟩
  | [], d :: D, _, h => by
    have := h d rfl
    simp [List.takeWhile_cons, List.dropWhile_cons, this]
  | a :: A, D, h, k => by
    obtain ⟨h1, h2⟩ := tw_app (A := A) (fun c hc => h c (List.mem_cons_of_mem _ hc)) k
    rw [List.cons_append, List.takeWhile_cons, List.dropWhile_cons, if_pos (h a List.mem_cons_self), if_pos (h a List.mem_cons_self), h1, h2]
    exact ⟨rfl, rfl⟩
theorem Good.cut {A D : List Nat} (g : Good A D) : (A ++ D).takeWhile cap = A ∧ (A ++ D).dropWhile cap = D := tw_app g.ac fun c h => by
  have hc : c ∈ D := List.mem_of_head? h
  have := dig_iff.mp (g.dd c hc)
  have n : ¬ cap c = true := fun z => by
    have := cap_iff.mp z
    omega
  simpa using n
theorem placeL_good {A D : List Nat} (g : Good A D) : placeL (A ++ D) = some (digitsVal D, colV A) := by
  unfold placeL
  rw [g.cut.1, g.cut.2, if_pos ⟨⟨⟨g.a0, g.a1⟩, g.d0, g.d1⟩, List.all_eq_true.mpr g.dd, g.dh⟩]
theorem placeL_inv {l : List Nat} {p : Nat × Nat} (h : placeL l = some p) : ∃ A D, l = A ++ D ∧ Good A D ∧ p = (digitsVal D, colV A) := by
  unfold placeL at h
  split at h
  · rename_i c
    cases h
    exact ⟨_, _, List.takeWhile_append_dropWhile.symm, ⟨c.1.1.1, c.1.1.2, fun c hc => mem_tw hc, c.1.2.1, c.1.2.2, List.all_eq_true.mp c.2.1, c.2.2⟩, rfl⟩
  · cases h
/-- the digits at the end -/
def lastD (l : List Nat) : List Nat := (l.reverse.takeWhile dig).reverse
theorem rst_app (l : List Nat) : rst dig l ++ lastD l = l := by
  unfold rst lastD
  rw [← List.reverse_append, List.takeWhile_append_dropWhile, List.reverse_reverse]
theorem lastD_dig {l : List Nat} : ∀ c ∈ lastD l, dig c = true := fun c hc => mem_tw (List.mem_reverse.mp hc)
theorem Good.rst {A D : List Nat} (g : Good A D) : Pv.rst dig (A ++ D) = A ∧ lastD (A ++ D) = D := by
  have k := tw_app (p := dig) (A := D.reverse) (D := A.reverse) (fun c hc => g.dd c (List.mem_reverse.mp hc)) fun c h => by
    have hc : c ∈ A := List.mem_reverse.mp (List.mem_of_head? h)
    have := cap_iff.mp (g.ac c hc)
    have n : ¬ dig c = true := fun z => by
      have := dig_iff.mp z
      omega
    simpa using n
  unfold Pv.rst lastD
  rw [List.reverse_append, k.1, k.2, List.reverse_reverse, List.reverse_reverse]
  exact ⟨rfl, rfl⟩
theorem drop_rst (l : List Nat) : l.drop (rst dig l).length = lastD l := by
  conv => lhs; rw [← rst_app l]
  rw [show (rst dig (rst dig l ++ lastD l)) = rst dig l by rw [rst_app]]
  exact List.drop_left
/-- what the program asks -/
theorem placeL_rst {l : List Nat} (h : placeL l = none) : ¬ (((1 ≤ (lastD l).length ∧ (lastD l).length ≤ 4) ∧ (lastD l).head? ≠ some 48) ∧ (1 ≤ (rst dig l).length ∧ (rst dig l).length ≤ 2) ∧ (rst dig l).all cap = true) := fun ⟨⟨⟨h1, h2⟩, h3⟩, ⟨h4, h5⟩, h6⟩ => by
  have g : Good (rst dig l) (lastD l) := ⟨h4, h5, List.all_eq_true.mp h6, h1, h2, fun c hc => lastD_dig c hc, h3⟩
  have := placeL_good g
  rw [rst_app, h] at this
  cases this
theorem colV_lt {A : List Nat} (h0 : 1 ≤ A.length) (h1 : A.length ≤ 2) (hc : ∀ c ∈ A, cap c = true) : 1 ≤ colV A ∧ colV A ≤ 702 ∧ colL (colV A) = A := by
  match A, h0, h1 with
  | [a], _, _ =>
    have := cap_iff.mp (hc a (by simp))
    have e : colV [a] = a - 64 := by simp [colV]
    rw [e]
    refine ⟨by omega, by omega, ?_⟩
    unfold colL
    rw [if_pos (by omega)]
    congr 1
    omega
  | [a, b], _, _ =>
    have := cap_iff.mp (hc a (by simp))
    have := cap_iff.mp (hc b (by simp))
    have e : colV [a, b] = 26 * (a - 64) + (b - 64) := by simp [colV]
    rw [e]
    refine ⟨by omega, by omega, ?_⟩
    unfold colL
    rw [if_neg (by omega)]
    have e1 : 64 + (26 * (a - 64) + (b - 64) - 1) / 26 = a := by omega
    have e2 : 65 + (26 * (a - 64) + (b - 64) - 1) % 26 = b := by omega
    rw [e1, e2]
theorem colL_ok {n : Nat} (h0 : 1 ≤ n) (h1 : n ≤ 702) : 1 ≤ (colL n).length ∧ (colL n).length ≤ 2 ∧ (∀ c ∈ colL n, cap c = true) ∧ colV (colL n) = n := by
  unfold colL
  split
  · refine ⟨by simp, by simp, fun c hc => ?_, ?_⟩
    · have : c = 64 + n := by simpa using hc
      exact cap_iff.mpr (by omega)
    · simp [colV]
  · refine ⟨by simp, by simp, fun c hc => ?_, ?_⟩
    · have : c = 64 + (n - 1) / 26 ∨ c = 65 + (n - 1) % 26 := by simpa using hc
      exact cap_iff.mpr (by omega)
    · simp [colV]
      omega
theorem numL_head : ∀ n : Nat, 1 ≤ n → (numL n).head? ≠ some 48 := by
  intro n
  induction n using Nat.strongRecOn with
  | _ n ih =>
    intro h
    by_cases hn : n < 10
    · rw [numL_lt hn]
      simp
      omega
    · rw [numL_step (by omega)]
      have := ih (n / 10) (by omega) (by omega)
      cases e : numL (n / 10) with
      | nil => exact absurd e (numL_ne _)
      | cons a r =>
        rw [e] at this
        simpa using this
theorem num_good {r : Nat} (h0 : 1 ≤ r) (h1 : r ≤ 9999) : 1 ≤ (numL r).length ∧ (numL r).length ≤ 4 ∧ (∀ c ∈ numL r, dig c = true) ∧ (numL r).head? ≠ some 48 := by
  refine ⟨?_, numL_len (by decide) (by omega), fun c hc => dig_iff.mpr (numL_digits r c hc), numL_head r h0⟩
  cases e : numL r with
  | nil => exact absurd e (numL_ne r)
  | cons a l => simp
theorem name_good {r c : Nat} (h0 : 1 ≤ r) (h1 : r ≤ 9999) (h2 : 1 ≤ c) (h3 : c ≤ 702) : Good (colL c) (numL r) := by
  obtain ⟨a0, a1, ac, _⟩ := colL_ok h2 h3
  obtain ⟨d0, d1, dd, dh⟩ := num_good h0 h1
  exact ⟨a0, a1, ac, d0, d1, dd, dh⟩
theorem name_place {r c : Nat} (h0 : 1 ≤ r) (h1 : r ≤ 9999) (h2 : 1 ≤ c) (h3 : c ≤ 702) : placeL (colL c ++ numL r) = some (r, c) := by
  rw [placeL_good (name_good h0 h1 h2 h3), numL_val, (colL_ok h2 h3).2.2.2]
theorem val_bound : ∀ {D : List Nat}, (∀ c ∈ D, dig c = true) → ∀ a, D.foldl (fun acc c => acc * 10 + (c - 48)) a ≤ (a + 1) * 10 ^ D.length - 1 ∧ a * 10 ^ D.length ≤ D.foldl (fun acc c => acc * 10 + (c - 48)) a
  | [], _, a => by simp
  | c :: D, h, a => by
    have hc := dig_iff.mp (h c (by simp))
    obtain ⟨k1, k2⟩ := val_bound (D := D) (fun d hd => h d (List.mem_cons_of_mem _ hd)) (a * 10 + (c - 48))
    rw [List.foldl_cons, List.length_cons, Nat.pow_succ]
    have e1 : (a * 10 + (c - 48) + 1) * 10 ^ D.length ≤ (a + 1) * (10 ^ D.length * 10) := by
      rw [show (a + 1) * (10 ^ D.length * 10) = ((a + 1) * 10) * 10 ^ D.length by rw [Nat.mul_comm (10 ^ D.length) 10, Nat.mul_assoc]]
      exact Nat.mul_le_mul_right _ (by omega)
    have e2 : a * (10 ^ D.length * 10) ≤ (a * 10 + (c - 48)) * 10 ^ D.length := by
      rw [show a * (10 ^ D.length * 10) = (a * 10) * 10 ^ D.length by rw [Nat.mul_comm (10 ^ D.length) 10, Nat.mul_assoc]]
      exact Nat.mul_le_mul_right _ (by omega)
    exact ⟨by omega, by omega⟩
theorem Good.row {A D : List Nat} (g : Good A D) : 1 ≤ digitsVal D ∧ digitsVal D ≤ 9999 := by
  have hb := (val_bound g.dd 0).1
  have hp : 10 ^ D.length ≤ 10 ^ 4 := Nat.pow_le_pow_right (by decide) g.d1
  have e : digitsVal D = D.foldl (fun acc c => acc * 10 + (c - 48)) 0 := rfl
  refine ⟨?_, by rw [e]; omega⟩
  cases hD : D with
  | nil =>
    have := g.d0
    rw [hD] at this
    cases this
  | cons c r =>
    refine digitsVal_pos ?_
    have := dig_iff.mp (g.dd c (by rw [hD]; simp))
    have n := g.dh
    rw [hD] at n
    have : c ≠ 48 := fun z => n (by rw [z]; rfl)
    omega
theorem placeL_bound {l : List Nat} {r c : Nat} (h : placeL l = some (r, c)) : 1 ≤ r ∧ r ≤ 9999 ∧ 1 ≤ c ∧ c ≤ 702 := by
  obtain ⟨A, D, _, g, e⟩ := placeL_inv h
  cases e
  have := colV_lt g.a0 g.a1 g.ac
  exact ⟨g.row.1, g.row.2, this.1, this.2.1⟩
/-- no place's name has a sign that is neither a capital letter nor a digit -/
theorem placeL_free {l : List Nat} {s : Nat} (hs : s ∈ l) (h1 : cap s = false) (h2 : dig s = false) : placeL l = none := by
  cases e : placeL l with
  | none => rfl
  | some p =>
    exfalso
    obtain ⟨A, D, rfl, g, _⟩ := placeL_inv e
    rcases List.mem_append.mp hs with h | h
    · rw [g.ac s h] at h1
      cases h1
    · rw [g.dd s h] at h2
      cases h2
theorem placeL_noCap {l : List Nat} (h : ∀ c ∈ l, cap c = false) : placeL l = none := by
  cases e : placeL l with
  | none => rfl
  | some p =>
    exfalso
    obtain ⟨A, D, rfl, g, _⟩ := placeL_inv e
    match A, g.a0 with
    | a :: A, _ =>
      have h1 := h a (by simp)
      rw [g.ac a (by simp)] at h1
      cases h1
end Pv

-- M3
set_option Elab.async false
set_option linter.all false
set_option maxRecDepth 100000
set_option maxHeartbeats 4000000
namespace Pv
open PySem SX TL NumText L2
/-! ## texts compared, measured -/
def okL (l : List Nat) : Prop := ∀ c ∈ l, c < 128
theorem okL.app {a b : List Nat} (h : okL a) (k : okL b) : okL (a ++ b) := fun c hc => (List.mem_append.mp hc).elim (h c) (k c)
theorem okL.cap {a : List Nat} (h : ∀ c ∈ a, Pv.cap c = true) : okL a := fun c hc => by
  have := cap_iff.mp (h c hc)
  omega
theorem okL.dig {a : List Nat} (h : ∀ c ∈ a, Pv.dig c = true) : okL a := fun c hc => by
  have := dig_iff.mp (h c hc)
  omega
theorem okL.sub {a b : List Nat} (h : okL b) (k : ∀ c ∈ a, c ∈ b) : okL a := fun c hc => h c (k c hc)
/-- what == may be asked of -/
def plD (d : PyData) : Bool := noDict d && SeqAt.shaped d
theorem plD_S {l : List Nat} (h : okL l) : plD (.str (S l)) = true := by
  have e : PyData.strOk (S l) = true := by
    unfold PyData.strOk
    rw [← Array.all_toList, List.all_eq_true]
    intro c hc
    have := h c hc
    exact decide_eq_true (by omega)
  have e2 : (PyData.str (S l)).canLay0 = true := e
  have e3 : PyData.depth (.str (S l)) = 0 := by rfl
  unfold plD SeqAt.shaped
  rw [e2, e3]
  rfl
theorem opC_eqP {d e : PyData} (h : plD d = true) (k : plD e = true) : opC .Eq d e = .ret (.bool (PyData.eqv d e)) := by
  unfold plD at h k
  obtain ⟨h1, h2⟩ := Bool.and_eq_true_iff.mp h
  obtain ⟨k1, k2⟩ := Bool.and_eq_true_iff.mp k
  have ee : (noDict d && noDict e && SeqAt.shaped d && SeqAt.shaped e) = true := by rw [h1, h2, k1, k2]; rfl
  have e0 : opC .Eq d e = if (noDict d && noDict e && SeqAt.shaped d && SeqAt.shaped e) = true then T.ret (.bool (PyData.eqv d e)) else .stuck := by cases d <;> cases e <;> rfl
  rw [e0, if_pos ee]
theorem opC_neP {d e : PyData} (h : plD d = true) (k : plD e = true) : opC .NotEq d e = .ret (.bool (!PyData.eqv d e)) := by
  unfold plD at h k
  obtain ⟨h1, h2⟩ := Bool.and_eq_true_iff.mp h
  obtain ⟨k1, k2⟩ := Bool.and_eq_true_iff.mp k
  have ee : (noDict d && noDict e && SeqAt.shaped d && SeqAt.shaped e) = true := by rw [h1, h2, k1, k2]; rfl
  have e0 : opC .NotEq d e = if (noDict d && noDict e && SeqAt.shaped d && SeqAt.shaped e) = true then T.ret (.bool (!PyData.eqv d e)) else .stuck := by cases d <;> cases e <;> rfl
  rw [e0, if_pos ee]
theorem eqS (a b : List Nat) : PyData.eqv (.str (S a)) (.str (S b)) = decide (a = b) := by
  have e : PyData.eqv (.str (S a)) (.str (S b)) = (S a == S b) := by rfl
  rw [e, S_beq_eq]
theorem opC_eqS {a b : List Nat} (h : okL a) (k : okL b) : opC .Eq (.str (S a)) (.str (S b)) = .ret (.bool (decide (a = b))) := by rw [opC_eqP (plD_S h) (plD_S k), eqS]
theorem opC_neS {a b : List Nat} (h : okL a) (k : okL b) : opC .NotEq (.str (S a)) (.str (S b)) = .ret (.bool (!decide (a = b))) := by rw [opC_neP (plD_S h) (plD_S k), eqS]
theorem strip_sub (l : List Nat) : ∃ l', Txt.stripChars (S l) "ABCDEFGHIJKLMNOPQRSTUVWXYZ" = S l' ∧ (∀ c ∈ l', c ∈ l) ∧ decide (l' = []) = l.all Pv.cap := by
  have e := strip_all l
  unfold Txt.stripChars at e ⊢
  rw [PyProof.Rows.stripBy_eq, tl_sub] at e ⊢
  refine ⟨_, rfl, fun c hc => List.mem_of_mem_drop (List.mem_of_mem_take hc), ?_⟩
  have e0 : (Str.empty : Str) = S [] := rfl
  rw [e0, S_beq_eq] at e
  exact e
theorem len_S {l : List Nat} (h : l.length ≤ big) : f_len [.str (S l)] = .ret (.int l.length) := by
  show (if (S l).length ≤ big then T.ret (PyData.int (S l).length) else .stuck) = _
  rw [S_len, if_pos h]
theorem lb1 : 1 ≤ big := by decide
theorem lb2 : 2 ≤ big := by decide
theorem lb3 : 3 ≤ big := by decide
theorem lb4 : 4 ≤ big := by decide
theorem lb5 : 5 ≤ big := by decide
theorem lb6 : 6 ≤ big := by decide
theorem lb7 : 7 ≤ big := by decide
theorem lb8 : 8 ≤ big := by decide
theorem lb9 : 9 ≤ big := by decide
theorem lb10 : 10 ≤ big := by decide
theorem lb11 : 11 ≤ big := by decide
theorem lb12 : 12 ≤ big := by decide
theorem emp_S : ("" : Str) = S [] := by decide +kernel
theorem zero_S : ("0" : Str) = S [48] := by decide +kernel
theorem one_S : ("1" : Str) = S [49] := by decide +kernel
theorem A_S : ("A" : Str) = S [65] := by decide +kernel
theorem Z_S : ("Z" : Str) = S [90] := by decide +kernel
theorem nine_S : ("9" : Str) = S [57] := by decide +kernel
theorem colon_S : (":" : Str) = S [58] := by decide +kernel
theorem cut_from {l : List Nat} {n : Nat} (h : l.length ≤ big) : opS (.str (S l)) (some (n : Int)) none = .ret (.str (S (l.drop n))) := by
  show (if (S l).length ≤ big then T.ret (PyData.str (cutS (S l) (some (n : Int)) none)) else .stuck) = _
  rw [S_len, if_pos h]
  have e : cutS (S l) (some (n : Int)) none = S (l.drop n) := by
    unfold cutS
    rw [S_len, HT.sIx_nat, HT.sIx_none]
    show S ((l.drop (min n l.length)).take (l.length - min n l.length)) = _
    rw [List.take_of_length_le (by simp)]
    by_cases hn : n ≤ l.length
    · rw [Nat.min_eq_left hn]
    · rw [Nat.min_eq_right (by omega), List.drop_eq_nil_of_le (by omega), List.drop_eq_nil_of_le (by omega)]
  rw [e]
theorem cut_to {l : List Nat} {n : Nat} (h : l.length ≤ big) : opS (.str (S l)) none (some (n : Int)) = .ret (.str (S (l.take n))) := by
  show (if (S l).length ≤ big then T.ret (PyData.str (cutS (S l) none (some (n : Int)))) else .stuck) = _
  rw [S_len, if_pos h]
  have e : cutS (S l) none (some (n : Int)) = S (l.take n) := by
    unfold cutS
    rw [S_len, HT.sIx_nat, HT.sIx_none]
    show S ((l.drop 0).take (min n l.length - 0)) = _
    rw [List.drop_zero, Nat.sub_zero]
    by_cases hn : n ≤ l.length
    · rw [Nat.min_eq_left hn]
    · rw [Nat.min_eq_right (by omega), List.take_of_length_le (by omega), List.take_of_length_le (by omega)]
  rw [e]
theorem at_S {l : List Nat} {n c : Nat} (h : l.length ≤ big) (e : l[n]? = some c) : Pv.opI (.str (S l)) (.int n) = .ret (.str (S [c])) := by
  obtain ⟨hn, _⟩ := List.getElem?_eq_some_iff.mp e
  have e2 : Pv.opI.atI' (S l).cps.toList (n : Int) = some c := by
    unfold Pv.opI.atI' L2.ixN
    rw [if_pos (by omega), if_pos (by show (n : Int) < ((l.length : Nat) : Int); omega)]
    exact e
  show (if (S l).length ≤ big then T.ofO ((Pv.opI.atI' (S l).cps.toList (n : Int)).map fun c => PyData.str ⟨#[c]⟩) else .stuck) = _
  rw [S_len, if_pos h, e2]
  rfl
theorem cat_S {a b : List Nat} (h : a.length + b.length ≤ big) : opB .Add (.str (S a)) (.str (S b)) = .ret (.str (S (a ++ b))) := by
  show (if (S a).length + (S b).length ≤ big then T.ret (PyData.str (S a ++ S b)) else .stuck) = _
  rw [S_len, S_len, if_pos h, S_cat]
theorem items_S (l : List Nat) : itemsD (.str (S l)) = .ret (l.map fun c => .str (S [c])) := rfl
theorem int_D {D : List Nat} (h : ∀ c ∈ D, Pv.dig c = true) (hne : D ≠ []) (hl : D.length ≤ 640) : f_int [.str (S D)] = .ret (.int (digitsVal D)) := by
  show (if (S D).length ≤ 640 then T.ofO ((PySem.intText? (S D)).map PyData.int) else .stuck) = _
  rw [S_len, if_pos hl, int_S (List.all_eq_true.mpr fun c hc => by have := dig_iff.mp (h c hc); simp; omega) hne (by omega)]
  rfl
theorem ord_S (c : Nat) : f_ord [.str (S [c])] = .ret (.int c) := by
  show (if (S [c]).length = 1 then T.ret (PyData.int ((S [c]).cps.getD 0 0 : Nat)) else .stuck) = _
  rw [S_len, if_pos (show ([c] : List Nat).length = 1 from rfl)]
  rfl
theorem lt_one (a b : Nat) : decide (([a] : List Nat) < [b]) = decide (a < b) := by
  rw [decide_eq_decide]
  constructor
  · intro h
    rcases List.cons_lt_cons_iff.mp h with h | ⟨_, h⟩
    · exact h
    · exact absurd h (List.not_lt_nil _)
  · intro h
    exact List.cons_lt_cons_iff.mpr (.inl h)
theorem opC_leS {a b : Nat} : opC .LtE (.str (S [a])) (.str (S [b])) = .ret (.bool (decide (a ≤ b))) := by
  show T.ret (PyData.bool (!decide (([b] : List Nat) < [a]))) = _
  rw [lt_one]
  congr 2
  by_cases h : a ≤ b
  · rw [decide_eq_true h, decide_eq_false (by omega)]
    rfl
  · rw [decide_eq_false h, decide_eq_true (by omega)]
    rfl
/-- a capital letter's number among all -/
theorem idx_caps : ∀ n, n < 26 → Builtin.Str.occurrences ("ABCDEFGHIJKLMNOPQRSTUVWXYZ" : Str) (S [65 + n]) 0 ("ABCDEFGHIJKLMNOPQRSTUVWXYZ" : Str).length 1 = [n] := by decide +kernel
end Pv

-- M4
set_option Elab.async false
set_option linter.all false
set_option maxRecDepth 100000
set_option maxHeartbeats 4000000
namespace Pv
open PySem SX L2
/-! ## runs with picks -/
/-- t ends well with at most n picks -/
def Ok {α : Type} (t : T α) (n : Nat) (Q : α → Prop) : Prop := ∀ b, n ≤ b → T.wp t b (fun a c => b ≤ c + n ∧ Q a) (fun _ _ => False)
section
variable {α β : Type} {t : T α} {n k : Nat} {Q R : α → Prop}
theorem ok_ret {a : α} (h : Q a) : Ok (.ret a) n Q := fun b _ => ⟨by omega, h⟩
theorem ok_mono (h : Ok t n Q) (hn : n ≤ k) (hq : ∀ a, Q a → R a) : Ok t k R := fun b hb => T.wp_mono (h b (by omega)) (fun a c _ q => ⟨by omega, hq a q.2⟩) fun _ _ _ e => e
theorem ok_pick {m : Int} {f : Int → T α} (h : ∀ i, 0 ≤ i → i < m → Ok (f i) n Q) : Ok (.pick m f) (n + 1) Q := fun b hb => by
  cases b with
  | zero => omega
  | succ b => exact fun i h0 h1 => T.wp_mono (h i h0 h1 b (by omega)) (fun a c _ q => ⟨by omega, q.2⟩) fun _ _ _ e => e
theorem ok_bind {f : α → T β} {S : β → Prop} (h : Ok t n Q) (hf : ∀ a, Q a → Ok (f a) k S) : Ok (T.bind t f) (n + k) S := fun b hb => T.wp_bind.mpr (T.wp_mono (h b (by omega)) (fun a c _ q => T.wp_mono (hf a q.2 c (by omega)) (fun a' c' _ q' => ⟨by omega, q'.2⟩) fun _ _ _ e => e) fun _ _ _ e => e)
theorem ok_wp {b : Nat} (h : Ok t n Q) (hn : n ≤ b) : T.wp t b (fun a _ => Q a) (fun _ _ => False) := T.wp_mono (h b hn) (fun _ _ _ q => q.2) fun _ _ _ e => e
theorem bind_pick {m : Int} {f : Int → T α} {g : α → T β} : T.bind (.pick m f) g = .pick m fun i => T.bind (f i) g := rfl
theorem noRaise_ret {a : α} : noRaise (.ret a) = .ret a := rfl
/-- a for, by an invariant over the turns -/
theorem ok_for {step : PyData → En → T Out} {I : Nat → En → Prop} {N : Nat} (hs : ∀ k d ρ, k < N → I k ρ → Ok (step d ρ) n fun o => ∃ ρ', o = .nx ρ' ∧ I (k + 1) ρ') : ∀ (ds : List PyData) (k : Nat) (ρ : En), k + ds.length ≤ N → I k ρ → Ok (forL step ds ρ) (n * ds.length) fun o => ∃ ρ', o = .nx ρ' ∧ I (k + ds.length) ρ'
  | [], k, ρ, _, h => ok_ret ⟨ρ, rfl, h⟩
  | d :: r, k, ρ, hk, h => by
    rw [List.length_cons] at hk
    refine ok_mono (ok_bind (k := n * r.length) (hs k d ρ (by omega) h) (S := fun o => ∃ ρ', o = Out.nx ρ' ∧ I (k + 1 + r.length) ρ') fun o ho => ?_) (by rw [List.length_cons, Nat.mul_succ]; omega) fun o ho => ?_
    · obtain ⟨ρ', rfl, h'⟩ := ho
      exact ok_for hs r (k + 1) ρ' (by omega) h'
    · obtain ⟨ρ', e, h'⟩ := ho
      exact ⟨ρ', e, by rw [List.length_cons, show k + (r.length + 1) = k + 1 + r.length by omega]; exact h'⟩
theorem ok_forIn {step : PyData → En → T Out} {I : En → Prop} {D : PyData → Prop} (hs : ∀ d ρ, D d → I ρ → Ok (step d ρ) n fun o => ∃ ρ', o = .nx ρ' ∧ I ρ') : ∀ (ds : List PyData) (ρ : En), (∀ d ∈ ds, D d) → I ρ → Ok (forL step ds ρ) (n * ds.length) fun o => ∃ ρ', o = .nx ρ' ∧ I ρ'
  | [], ρ, _, h => ok_ret ⟨ρ, rfl, h⟩
  | d :: r, ρ, hd, h => by
    refine ok_mono (ok_bind (k := n * r.length) (hs d ρ (hd d (by simp)) h) (S := fun o => ∃ ρ', o = Out.nx ρ' ∧ I ρ') fun o ho => ?_) (by rw [List.length_cons, Nat.mul_succ]; omega) fun o ho => ho
    obtain ⟨ρ', rfl, h'⟩ := ho
    exact ok_forIn hs r ρ' (fun x hx => hd x (List.mem_cons_of_mem _ hx)) h'
theorem dig_at {m : Int} (h0 : 0 < m) (h1 : m < 1073741824) : digM [drawD, .int m] = .pick m fun i => T.ret (PyData.int i) := by
  have e : isDr drawD = true := rfl
  show (if isDr drawD = true ∧ 0 < m ∧ m < 1073741824 then T.pick m (fun i => T.ret (PyData.int i)) else .stuck) = _
  rw [if_pos ⟨e, h0, h1⟩]
end
theorem opC_ltI {i j : Int} : opC .Lt (.int i) (.int j) = .ret (.bool (decide (i < j))) := rfl
theorem opC_gtI {i j : Int} : opC .Gt (.int i) (.int j) = .ret (.bool (decide (j < i))) := rfl
theorem fdiv_at {i j : Int} (h0 : 0 < j) (h1 : j < 1073741824) : opB .FloorDiv (.int i) (.int j) = .ret (.int (i / j)) := by
  show (if 0 < j ∧ j < 1073741824 then T.ret (PyData.int (i / j)) else .stuck) = _
  rw [if_pos ⟨h0, h1⟩]
theorem mod_at {i j : Int} (h0 : 0 < j) : opB .Mod (.int i) (.int j) = .ret (.int (i % j)) := by
  show (if 0 < j then T.ret (PyData.int (i % j)) else .stuck) = _
  rw [if_pos h0]
theorem mul_at {i j : Int} (h0 : -(2 ^ 64) < i) (h1 : i < 2 ^ 64) : opB .Mult (.int i) (.int j) = .ret (.int (i * j)) := by
  show (if (-(2 ^ 64) < i ∧ i < 2 ^ 64) ∨ (-(2 ^ 64) < j ∧ j < 2 ^ 64) then T.ret (PyData.int (i * j)) else .stuck) = _
  rw [if_pos (.inl ⟨h0, h1⟩)]
theorem at_L {xs : List PyData} {i : Int} {d : PyData} (h0 : 0 ≤ i) (e : xs[i.toNat]? = some d) : Pv.opI (.list xs) (.int i) = .ret d := by
  obtain ⟨hn, _⟩ := List.getElem?_eq_some_iff.mp e
  show T.ofO (Pv.opI.atI' xs i) = _
  unfold Pv.opI.atI' L2.ixN
  rw [if_pos h0, if_pos (by omega)]
  simp only [Option.bind_some, e]
  rfl
theorem at_T {xs : List PyData} {i : Int} {d : PyData} (h0 : 0 ≤ i) (e : xs[i.toNat]? = some d) : Pv.opI (.tuple xs) (.int i) = .ret d := by
  obtain ⟨hn, _⟩ := List.getElem?_eq_some_iff.mp e
  show T.ofO (Pv.opI.atI' xs i) = _
  unfold Pv.opI.atI' L2.ixN
  rw [if_pos h0, if_pos (by omega)]
  simp only [Option.bind_some, e]
  rfl
/-- a sign of a text, by a number -/
theorem at_SI {l : List Nat} {i : Int} {c : Nat} (h : l.length ≤ big) (h0 : 0 ≤ i) (e : l[i.toNat]? = some c) : Pv.opI (.str (S l)) (.int i) = .ret (.str (S [c])) := by
  obtain ⟨n, rfl⟩ := Int.eq_ofNat_of_zero_le h0
  exact at_S h e
end Pv

-- K1
set_option maxRecDepth 100000
set_option maxHeartbeats 4000000
set_option linter.all false
set_option linter.unusedSimpArgs false
namespace K01
open PySem L2 Pv SX
def tops := PySem.Challenge.pw_gridfile_k01_names_of_places.main.body
def top (i : Nat) : Stmt := tops.getD i (.Pass ⟨0,0,0,0⟩)
def con1 : List (Str × PyData) := [("CAPITALS", .str "ABCDEFGHIJKLMNOPQRSTUVWXYZ"), ("DIGITS", .str "0123456789"), ("MOST_ROW", .int 9999), ("MOST_COLUMN", .int 702)]
def errs1 : List (Str × List Str) := [("BadPlace", ["given"]), ("BadRectangle", ["given"])]
abbrev ga (fns : List (Str × FnI)) (i : Nat) : Ga := Ga.mk0 (locN (defScope (top i))) (defScope (top i)) fns con1 false
abbrev er (i : Nat) : List (Str × List Str) := errsOf (defScope (top i)) errs1
abbrev F0 : List (Str × FnI) := []
def cl3 : {fs : FS // cSs (ga F0 3) (er 3) 60 (defBody (top 3)) = some fs} := ⟨_, rfl⟩
def m3 : FnD := runDef 3 cl3.1
abbrev F3 : List (Str × FnI) := ("is_integer", ⟨3, m3⟩) :: F0
def cl4 : {fs : FS // cSs (ga F3 4) (er 4) 60 (defBody (top 4)) = some fs} := ⟨_, rfl⟩
def m4 : FnD := runDef 2 cl4.1
abbrev F4 : List (Str × FnI) := ("is_made_of", ⟨2, m4⟩) :: F3
def cl5 : {fs : FS // cSs (ga F4 5) (er 5) 60 (defBody (top 5)) = some fs} := ⟨_, rfl⟩
def m5 : FnD := runDef 2 cl5.1
abbrev F5 : List (Str × FnI) := ("is_tuple_of", ⟨2, m5⟩) :: F4
def cl13 : {fs : FS // cSs (ga F5 13) (er 13) 60 (defBody (top 13)) = some fs} := ⟨_, rfl⟩
def m13 : FnD := runDef 1 cl13.1
abbrev F13 : List (Str × FnI) := ("is_place", ⟨1, m13⟩) :: F5
def cl14 : {fs : FS // cSs (ga F13 14) (er 14) 60 (defBody (top 14)) = some fs} := ⟨_, rfl⟩
def m14 : FnD := runDef 5 cl14.1
abbrev F14 : List (Str × FnI) := ("is_rectangle", ⟨1, m14⟩) :: F13
def cl15 : {fs : FS // cSs (ga F14 15) (er 15) 60 (defBody (top 15)) = some fs} := ⟨_, rfl⟩
def m15 : FnD := runDef 1 cl15.1
abbrev F15 : List (Str × FnI) := ("check_place", ⟨1, m15⟩) :: F14
def cl16 : {fs : FS // cSs (ga F15 16) (er 16) 60 (defBody (top 16)) = some fs} := ⟨_, rfl⟩
def m16 : FnD := runDef 1 cl16.1
abbrev F16 : List (Str × FnI) := ("check_rectangle", ⟨1, m16⟩) :: F15
def cl17 : {fs : FS // cSs (ga F16 17) (er 17) 60 (defBody (top 17)) = some fs} := ⟨_, rfl⟩
def m17 : FnD := runDef 3 cl17.1
abbrev F17 : List (Str × FnI) := ("column_name", ⟨1, m17⟩) :: F16
def cl18 : {fs : FS // cSs (ga F17 18) (er 18) 60 (defBody (top 18)) = some fs} := ⟨_, rfl⟩
def m18 : FnD := runDef 1 cl18.1
abbrev F18 : List (Str × FnI) := ("place_name", ⟨1, m18⟩) :: F17
def cl19 : {fs : FS // cSs (ga F18 19) (er 19) 60 (defBody (top 19)) = some fs} := ⟨_, rfl⟩
def m19 : FnD := runDef 1 cl19.1
abbrev F19 : List (Str × FnI) := ("rectangle_name", ⟨1, m19⟩) :: F18
def cl23 : {fs : FS // cSs (ga F19 23) (er 23) 60 (defBody (top 23)) = some fs} := ⟨_, rfl⟩
def m23 : FnD := runDef 3 cl23.1
abbrev F23 : List (Str × FnI) := ("_named_column", ⟨1, m23⟩) :: F19
def cl24 : {fs : FS // cSs (ga F23 24) (er 24) 60 (defBody (top 24)) = some fs} := ⟨_, rfl⟩
def m24 : FnD := runDef 4 cl24.1
abbrev F24 : List (Str × FnI) := ("_named_place", ⟨1, m24⟩) :: F23
def cl25 : {fs : FS // cSs (ga F24 25) (er 25) 60 (defBody (top 25)) = some fs} := ⟨_, rfl⟩
def m25 : FnD := runDef 7 cl25.1
abbrev F25 : List (Str × FnI) := ("_named_rectangle", ⟨1, m25⟩) :: F24
def cl20 : {fs : FS // cSs (ga F25 20) (er 20) 60 (defBody (top 20)) = some fs} := ⟨_, rfl⟩
def m20 : FnD := runDef 2 cl20.1
abbrev F20 : List (Str × FnI) := ("column_number", ⟨1, m20⟩) :: F25
def cl21 : {fs : FS // cSs (ga F20 21) (er 21) 60 (defBody (top 21)) = some fs} := ⟨_, rfl⟩
def m21 : FnD := runDef 2 cl21.1
abbrev F21 : List (Str × FnI) := ("place_at", ⟨1, m21⟩) :: F20
def cl22 : {fs : FS // cSs (ga F21 22) (er 22) 60 (defBody (top 22)) = some fs} := ⟨_, rfl⟩
def m22 : FnD := runDef 2 cl22.1
abbrev F22 : List (Str × FnI) := ("rectangle_at", ⟨1, m22⟩) :: F21
end K01

-- K2
set_option maxRecDepth 100000
set_option maxHeartbeats 4000000
set_option linter.all false
set_option linter.unusedSimpArgs false
namespace K01
open PySem L2 Pv SX
abbrev NN (i : Nat) : List Str := locN (defScope (top i))
abbrev lga (fns : List (Str × FnI)) (lams : List (Str × (T PyData → T PyData))) (i : Nat) : Ga := lawGa (NN i) (defScope (top i)) fns F22 con1 lams
def subE (c d : Str) : Option Bool :=
  if c = "BadPlace" then (if d = "GridError" then some true else if d = "BadPlace" then some true else if d = "BadRectangle" then some false else none)
  else if c = "BadRectangle" then (if d = "GridError" then some true else if d = "BadRectangle" then some true else if d = "BadPlace" then some false else none)
  else none
def eclE : List Str := ["GridError", "BadPlace", "BadRectangle"]
abbrev tga (th : T PyData) : Ga := toldGa (NN 34) (defScope (top 34)) "call" con1 subE eclE true th
def told : T PyData → T PyData := toldF 60 (NN 34) (defScope (top 34)) "call" con1 subE eclE true (defBody (top 34))
def clT (th : T PyData) : {fs : FS // cSs (tga th) [] 60 (defBody (top 34)) = some fs} := ⟨_, rfl⟩
abbrev G0 : List (Str × FnI) := ("_law_digit", ⟨2, digM⟩) :: ("_law_draw", ⟨2, drawM⟩) :: F22
def cl30 : {fs : FS // cSs (lga G0 [] 30) [] 60 (defBody (top 30)) = some fs} := ⟨_, rfl⟩
def m30 : FnD := runDef 3 cl30.1
abbrev G30 : List (Str × FnI) := ("_law_number", ⟨2, m30⟩) :: G0
def cl31 : {fs : FS // cSs (lga G30 [] 31) [] 60 (defBody (top 31)) = some fs} := ⟨_, rfl⟩
def m31 : FnD := runDef 4 cl31.1
abbrev G31 : List (Str × FnI) := ("_law_column", ⟨1, m31⟩) :: G30
def cl32 : {fs : FS // cSs (lga G31 [] 32) [] 60 (defBody (top 32)) = some fs} := ⟨_, rfl⟩
def m32 : FnD := runDef 5 cl32.1
abbrev G32 : List (Str × FnI) := ("_law_place_of", ⟨1, m32⟩) :: G31
def cl33 : {fs : FS // cSs (lga G32 [] 33) [] 60 (defBody (top 33)) = some fs} := ⟨_, rfl⟩
def m33 : FnD := runDef 4 cl33.1
abbrev G33 : List (Str × FnI) := ("_law_text", ⟨1, m33⟩) :: G32
abbrev lam1 : List (Str × (T PyData → T PyData)) := [("_law_told", told)]
def cl35 : {fs : FS // cSs (lga G33 lam1 35) [] 60 (defBody (top 35)) = some fs} := ⟨_, rfl⟩
def m35 : FnD := runDef 9 cl35.1
abbrev G35 : List (Str × FnI) := ("_law_texts_right", ⟨1, m35⟩) :: G33
def cl36 : {fs : FS // cSs (lga G35 lam1 36) [] 60 (defBody (top 36)) = some fs} := ⟨_, rfl⟩
def m36 : FnD := runDef 15 cl36.1
end K01

-- K3
set_option maxRecDepth 100000
set_option maxHeartbeats 4000000
set_option linter.all false
set_option linter.unusedSimpArgs false
namespace K01
open PySem L2 Pv SX TL NumText
/-! ## the program's defs, run -/
theorem len_caps' : f_len [.str "ABCDEFGHIJKLMNOPQRSTUVWXYZ"] = .ret (.int 26) := len_caps
theorem run3 (i a b : Int) : m3 [.int i, .int a, .int b] = .ret (.bool (decide (a ≤ i) && decide (i ≤ b))) := by
  simp [m3, cl3, runDef, getV_at, T.bind_ret, isi_int_int, isi_bool_int, opC_le, asB_bool, bind_ite, seqT_rt, seqT_nx, outD_rt]
  by_cases h : a ≤ i <;> simp [h]
theorem run4 {l : List Nat} (h : l.length ≤ big) (k : okL l) : m4 [.str (S l), .str "ABCDEFGHIJKLMNOPQRSTUVWXYZ"] = .ret (.bool (l.all cap)) := by
  obtain ⟨l', e1, e2, e3⟩ := strip_sub l
  simp [m4, cl4, runDef, getV_at, T.bind_ret, asS_str, onS1, S_len, h, seqT_rt, outD_rt, e1, emp_S, opC_eqS (k.sub e2) (fun c hc => nomatch hc : okL [])]
  simpa using e3
theorem run5 (xs : List PyData) (k : Int) : m5 [.tuple xs, .int k] = .ret (.bool (decide ((xs.length : Int) = k))) := by
  simp [m5, cl5, runDef, getV_at, T.bind_ret, isi_tuple_tuple, opC_eqI, asB_bool, bind_ite, seqT_rt, seqT_nx, outD_rt, f_len, lenD, eqvI]
theorem opI_1 {d e : PyData} {ds : List PyData} : Pv.opI (.tuple (d :: e :: ds)) (.int 1) = .ret e := by
  show T.ofO (Pv.opI.atI' (d :: e :: ds) 1) = _
  have e : Pv.opI.atI' (d :: e :: ds) 1 = some e := by
    unfold Pv.opI.atI' L2.ixN
    rw [if_pos (by decide), if_pos (by simp; omega)]
    rfl
  rw [e]
  rfl
theorem run13 (r c : Int) : m13 [.tuple [.int r, .int c]] = .ret (.bool (decide (1 ≤ r) && decide (r ≤ 9999) && (decide (1 ≤ c) && decide (c ≤ 702)))) := by
  unfold m13 runDef
  simp [cl13, getV_at, T.bind_ret, run5, run3, opI_0, opI_1, asB_bool, bind_ite, seqT_rt, seqT_nx, outD_rt, truD]
  by_cases h1 : 1 ≤ r <;> by_cases h2 : r ≤ 9999 <;> simp [h1, h2, T.bind_ret, run3, seqT_rt, outD_rt]
theorem sl_lo {a b c d : PyData} : opS (.tuple [a, b, c, d]) none (some 2) = .ret (.tuple [a, b]) := rfl
theorem sl_hi {a b c d : PyData} : opS (.tuple [a, b, c, d]) (some 2) none = .ret (.tuple [c, d]) := rfl
structure InG (r c : Int) : Prop where
  h0 : 1 ≤ r
  h1 : r ≤ 9999
  h2 : 1 ≤ c
  h3 : c ≤ 702
theorem run13i {r c : Int} (g : InG r c) : m13 [.tuple [.int r, .int c]] = .ret (.bool true) := by
  rw [run13]
  simp [g.h0, g.h1, g.h2, g.h3]
theorem run14 {a b c d : Int} (g : InG a b) (k : InG c d) : m14 [.tuple [.int a, .int b, .int c, .int d]] = .ret (.bool (decide (a ≤ c) && decide (b ≤ d))) := by
  unfold m14 runDef
  simp [cl14, getV_at, T.bind_ret, run5, run13i g, run13i k, sl_lo, sl_hi, asB_bool, asI_int, bind_ite, seqT_rt, seqT_nx, outD_rt, truD, setAll, opC_le]
  by_cases h : a ≤ c <;> simp [h, T.bind_ret, seqT_rt, outD_rt]
theorem run15 {r c : Int} (g : InG r c) : m15 [.tuple [.int r, .int c]] = .ret .none := by
  unfold m15 runDef
  simp [cl15, getV_at, T.bind_ret, run13i g, asB_bool, bind_ite, seqT_rt, seqT_nx, outD_rt, outD_nx, truD]
theorem run16 {a b c d : Int} (g : InG a b) (k : InG c d) (h : a ≤ c) (h' : b ≤ d) : m16 [.tuple [.int a, .int b, .int c, .int d]] = .ret .none := by
  unfold m16 runDef
  simp [cl16, getV_at, T.bind_ret, run14 g k, asB_bool, bind_ite, seqT_rt, seqT_nx, outD_rt, outD_nx, truD, h, h']
theorem run17 (c : Int) (h0 : 1 ≤ c) (h1 : c ≤ 702) : m17 [.int c] = .ret (.str (S (colL c.toNat))) := by
  unfold m17 colL
  by_cases h : c ≤ 26
  · rw [if_pos (by omega)]
    have e : 65 + (c - 1).toNat = 64 + c.toNat := by omega
    show runDef 3 cl17.1 [.int c] = .ret (.str ⟨#[64 + c.toNat]⟩)
    rw [← e]
    simp [-Int.toNat_sub, cl17, runDef, getV_at, T.bind_ret, run3, len_caps', opB_sub, opC_le, asB_bool, bind_ite, seqT_rt, seqT_nx, outD_rt, truD, h0, h, (by omega : c ≤ 702), caps_at (i := c - 1) (by omega) (by omega)]
  · rw [if_neg (by omega)]
    have e1 : 64 + (c.toNat - 1) / 26 = 65 + ((c - 1 - 26) / 26).toNat := by omega
    have e2 : 65 + (c.toNat - 1) % 26 = 65 + ((c - 1) % 26).toNat := by omega
    rw [e1, e2]
    show runDef 3 cl17.1 [.int c] = .ret (.str ⟨#[65 + ((c - 1 - 26) / 26).toNat, 65 + ((c - 1) % 26).toNat]⟩)
    have n26 : (c ≤ 26) = False := eq_false h
    simp [-Int.toNat_sub, cl17, runDef, getV_at, T.bind_ret, run3, len_caps', opB_sub, opC_le, asB_bool, bind_ite, seqT_rt, seqT_nx, outD_rt, truD, h1, (by omega : 1 ≤ c), n26, divmod_26, setAll, caps_at (i := (c - 1 - 26) / 26) (by omega) (by omega), caps_at (i := (c - 1) % 26) (by omega) (by omega), cat_one]
end K01

-- K4
set_option maxRecDepth 100000
set_option maxHeartbeats 4000000
set_option linter.all false
set_option linter.unusedSimpArgs false
namespace K01
open PySem L2 Pv SX TL NumText
theorem fmt_S {l : List Nat} (h : l.length ≤ big) : fmtD (.str (S l)) = .ret (.str (S l)) := by
  show (if (S l).length ≤ big then T.ret (PyData.str (S l)) else .stuck) = _
  rw [S_len, if_pos h]
theorem fmt_I {r : Int} (h0 : 0 ≤ r) (h1 : r ≤ 9999) : fmtD (.int r) = .ret (.str (S (numL r.toNat))) := by
  have e : r.natAbs.log2 < 1920 := by
    have := Nat.log2_le_self r.natAbs
    rcases Nat.eq_zero_or_pos r.natAbs with h | h
    · rw [h]; decide
    · have : r.natAbs.log2 < 14 := (Nat.log2_lt (by omega)).mpr (by omega)
      omega
  show (if r.natAbs.log2 < 1920 then T.ret (PyData.str (toString r)) else .stuck) = _
  rw [if_pos e]
  obtain ⟨n, rfl⟩ := Int.eq_ofNat_of_zero_le h0
  rw [num_S]
  rfl
theorem emp_S' : (Str.empty : Str) = S [] := rfl
theorem join_nil {acc : Str} {ρ : En} : joinD [] acc ρ = .ret (.str acc) := rfl
theorem join_cons {f : FE} {fs : List FE} {a b : List Nat} {ρ : En} (e : f ρ = .ret (.str (S b))) (h : a.length + b.length ≤ big) : joinD (f :: fs) (S a) ρ = joinD fs (S (a ++ b)) ρ := by
  show T.bind (f ρ) _ = _
  rw [e]
  show (if (S a ++ S b).length ≤ big then joinD fs (S a ++ S b) ρ else .stuck) = _
  rw [S_cat, S_len, List.length_append, if_pos h]
theorem colL_len (n : Nat) : (colL n).length ≤ 2 := by
  unfold colL
  split <;> simp
theorem numL_len4 {r : Int} (h0 : 0 ≤ r) (h1 : r ≤ 9999) : (numL r.toNat).length ≤ 4 := numL_len (by decide) (by omega)
abbrev nameL (r c : Int) : List Nat := colL c.toNat ++ numL r.toNat
theorem nameL_len {r c : Int} (g : InG r c) : (nameL r c).length ≤ 6 := by
  have h1 := colL_len c.toNat
  have h2 := numL_len4 (r := r) (by have := g.h0; omega) g.h1
  simp only [nameL, List.length_append]
  omega
theorem run18 {r c : Int} (g : InG r c) : m18 [.tuple [.int r, .int c]] = .ret (.str (S (nameL r c))) := by
  have h1 := colL_len c.toNat
  have h2 := numL_len4 (r := r) (by have := g.h0; omega) g.h1
  have hb : big = 100000 := rfl
  unfold m18 runDef
  simp [cl18, getV_at, T.bind_ret, run15 g, opI_1, opI_0, run17 c g.h2 g.h3, seqT_rt, seqT_nx, outD_rt, -List.append_assoc]
  rw [emp_S', join_cons (b := colL c.toNat), join_cons (b := numL r.toNat), join_nil]
  · simp [seqT_rt, T.bind_ret, outD_rt]
  · simp [getV_at, T.bind_ret, opI_0, fmt_I (r := r) (by have := g.h0; omega) g.h1]
  · simp; omega
  · simp [getV_at, T.bind_ret, opI_1, run17 c g.h2 g.h3, fmt_S (l := colL c.toNat) (by omega)]
  · simp; omega
theorem run19 {a b c d : Int} (g : InG a b) (k : InG c d) (h : a ≤ c) (h' : b ≤ d) : m19 [.tuple [.int a, .int b, .int c, .int d]] = .ret (.str (S (nameL a b ++ [58] ++ nameL c d))) := by
  have h1 := nameL_len g
  have h2 := nameL_len k
  have hb : big = 100000 := rfl
  unfold m19 runDef
  simp [cl19, getV_at, T.bind_ret, run16 g k h h', sl_lo, sl_hi, asI_int, run18 g, run18 k, seqT_rt, seqT_nx, outD_rt, colon_S, -List.append_assoc]
  rw [emp_S', join_cons (b := nameL a b), join_cons (b := [58]), join_cons (b := nameL c d), join_nil]
  · simp [seqT_rt, T.bind_ret, outD_rt]
  · simp [getV_at, T.bind_ret, asI_int, sl_hi, run18 k, fmt_S (l := nameL c d) (by omega)]
  · simp at h1 h2 ⊢; omega
  · simp
  · simp at h1 h2 ⊢; omega
  · simp [getV_at, T.bind_ret, asI_int, sl_lo, run18 g, fmt_S (l := nameL a b) (by omega)]
  · simp at h1 h2 ⊢; omega
theorem len12 (n : Nat) : opC .NotIn (.int n) (.tuple [.int 1, .int 2]) = .ret (.bool (!decide (1 ≤ n ∧ n ≤ 2))) := by
  show (if (flatD (.int n) && [PyData.int 1, .int 2].all flatD) = true then T.ret (PyData.bool (![PyData.int 1, .int 2].any fun z => PyData.eqv z (.int n))) else .stuck) = _
  rw [if_pos (by rfl)]
  have e : ([PyData.int 1, .int 2].any fun z => PyData.eqv z (.int n)) = decide (1 ≤ n ∧ n ≤ 2) := by
    simp only [List.any_cons, List.any_nil, eqvI]
    rw [Bool.eq_iff_iff]
    simp
    omega
  rw [e]
def idxF (a b : Str) : T PyData := match Builtin.Str.occurrences a b 0 a.length 1 with | i :: _ => .ret (.int (i : Nat)) | [] => .stuck
theorem idxS {n : Nat} (h : n < 26) (p : String × (Str → Str → T PyData)) (hp : mthS1 "index" = some p) : onS1 p.2 "ABCDEFGHIJKLMNOPQRSTUVWXYZ" (.str (S [65 + n])) = .ret (.int n) := by
  have e0 : mthS1 "index" = some ("str.index", idxF) := rfl
  rw [e0] at hp
  cases hp
  show (match Builtin.Str.occurrences ("ABCDEFGHIJKLMNOPQRSTUVWXYZ" : Str) (S [65 + n]) 0 ("ABCDEFGHIJKLMNOPQRSTUVWXYZ" : Str).length 1 with | i :: _ => T.ret (PyData.int (i : Nat)) | [] => .stuck) = _
  rw [idx_caps n h]
theorem opB_mul26 {i : Int} : opB .Mult (.int i) (.int 26) = .ret (.int (i * 26)) := by
  show (if (-(2 ^ 64) < i ∧ i < 2 ^ 64) ∨ (-(2 ^ 64) < (26 : Int) ∧ (26 : Int) < 2 ^ 64) then T.ret (PyData.int (i * 26)) else .stuck) = _
  rw [if_pos (.inr (by decide))]
def lastV (x : Option PyData) : List Nat → Option PyData
  | [] => x
  | c :: r => lastV (some (.str (S [c]))) r
theorem loop23 {step : PyData → En → T Out} {t : Option PyData} (hs : ∀ (n : Nat) (a : Int) (x : Option PyData), n < 26 → step (.str (S [65 + n])) [t, some (.int a), x] = .ret (.nx [t, some (.int (a * 26 + n + 1)), some (.str (S [65 + n]))])) :
    ∀ (l : List Nat) (a : Nat) (x : Option PyData) (hc : ∀ c ∈ l, cap c = true), forL step (l.map fun c => .str (S [c])) [t, some (.int a), x] = .ret (.nx [t, some (.int (l.foldl (fun a c => 26 * a + (c - 64)) a : Nat)), lastV x l])
  | [], a, x, _ => rfl
  | c :: r, a, x, h => by
    have := cap_iff.mp (h c (by simp))
    obtain ⟨n, rfl⟩ : ∃ n, c = 65 + n := ⟨c - 65, by omega⟩
    have e : forL step (((65 + n) :: r).map fun c => .str (S [c])) [t, some (.int a), x] = forL step (r.map fun c => .str (S [c])) [t, some (.int ((26 * a + (65 + n - 64) : Nat) : Int)), some (.str (S [65 + n]))] := by
      show T.bind (step (.str (S [65 + n])) [t, some (.int a), x]) _ = _
      rw [hs n a x (by omega)]
      have e2 : (a : Int) * 26 + n + 1 = ((26 * a + (65 + n - 64) : Nat) : Int) := by omega
      rw [e2]
      rfl
    rw [e]
    exact loop23 hs r _ _ fun c hc => h c (by simp [hc])
theorem loop23z {step : PyData → En → T Out} {t x : Option PyData} (hs : ∀ (n : Nat) (a : Int) (x : Option PyData), n < 26 → step (.str (S [65 + n])) [t, some (.int a), x] = .ret (.nx [t, some (.int (a * 26 + n + 1)), some (.str (S [65 + n]))]))
    {l : List Nat} (hc : ∀ c ∈ l, cap c = true) : forL step (l.map fun c => .str (S [c])) [t, some (.int 0), x] = .ret (.nx [t, some (.int (colV l)), lastV x l]) := loop23 hs l 0 x hc
theorem run23g {l : List Nat} (h0 : 1 ≤ l.length) (h1 : l.length ≤ 2) (hc : ∀ c ∈ l, cap c = true) : m23 [.str (S l)] = .ret (.int (colV l)) := by
  have hl : l.length ≤ big := by show l.length ≤ 100000; omega
  have ha : l.all cap = true := List.all_eq_true.mpr hc
  unfold m23 runDef
  simp [cl23, lb2, getV_at, T.bind_ret, isi_str_str, asB_bool, len_S hl, len12, h0, h1, run4 hl (okL.cap hc), ha, seqT_rt, seqT_nx, outD_rt, truD, items_S]
  rw [loop23z (hc := hc)]
  · simp [getV_at, T.bind_ret, seqT_rt, seqT_nx, outD_rt]
  · intro n a x hn
    have i1 := idxS hn _ rfl
    dsimp only at i1
    simp [getV_at, T.bind_ret, len_caps', opB_mul26, opB_add, asS_str, i1, seqT_rt, seqT_nx, outD_rt]
theorem run23n {l : List Nat} (hl : l.length ≤ big) (ok : okL l) (h : ¬ ((1 ≤ l.length ∧ l.length ≤ 2) ∧ l.all cap = true)) : m23 [.str (S l)] = .ret .none := by
  unfold m23 runDef
  by_cases hn : 1 ≤ l.length ∧ l.length ≤ 2
  · have ha : l.all cap = false := by simpa using fun z => h ⟨hn, z⟩
    simp [cl23, lb2, getV_at, T.bind_ret, isi_str_str, asB_bool, len_S hl, len12, hn, run4 hl ok, ha, seqT_rt, seqT_nx, outD_rt, truD]
  · simp [cl23, lb2, getV_at, T.bind_ret, isi_str_str, asB_bool, len_S hl, len12, hn, seqT_rt, seqT_nx, outD_rt, truD]
end K01

-- K5
set_option maxRecDepth 100000
set_option maxHeartbeats 4000000
set_option linter.all false
set_option linter.unusedSimpArgs false
namespace K01
open PySem L2 Pv SX TL NumText
def optD : Option (Nat × Nat) → PyData
  | none => .none
  | some (r, c) => .tuple [.int r, .int c]
theorem rst_len (l : List Nat) : (rst dig l).length ≤ l.length := by
  have := congrArg List.length (rst_app l)
  rw [List.length_append] at this
  omega
theorem rst_mem {l : List Nat} {c : Nat} (h : c ∈ rst dig l) : c ∈ l := by
  rw [← rst_app l]
  exact List.mem_append_left _ h
theorem lastD_len (l : List Nat) : (lastD l).length ≤ l.length := by
  have := congrArg List.length (rst_app l)
  rw [List.length_append] at this
  omega
theorem m1 (p : String × (Str → Str → T PyData)) (hp : mthS1 "rstrip" = some p) {l : List Nat} (h : l.length ≤ big) : onS1 p.2 (S l) (.str "0123456789") = .ret (.str (S (rst dig l))) := by
  have e0 : mthS1 "rstrip" = some ("str.rstrip", fun a b => if a.length ≤ big then .ret (.str (Txt.rstripChars a b)) else .stuck) := rfl
  rw [e0] at hp
  cases hp
  show (if (S l).length ≤ big then T.ret (PyData.str (Txt.rstripChars (S l) "0123456789")) else .stuck) = _
  rw [S_len, if_pos h, rstrip_S]
theorem run24 {l : List Nat} (hl : l.length ≤ 640) (ok : okL l) : m24 [.str (S l)] = .ret (optD (placeL l)) := by
  have hb : l.length ≤ big := by show l.length ≤ 100000; omega
  have i1 := m1 _ rfl hb
  dsimp only at i1
  have hr : (rst dig l).length ≤ big := Nat.le_trans (rst_len l) hb
  have hd : (lastD l).length ≤ big := Nat.le_trans (lastD_len l) hb
  have okr : okL (rst dig l) := ok.sub fun c => rst_mem
  have cut := cut_from (l := l) (n := (rst dig l).length) hb
  rw [drop_rst] at cut
  unfold m24 runDef
  by_cases h1 : 1 ≤ (lastD l).length
  · have h1i : (1 : Int) ≤ ((lastD l).length : Nat) := by omega
    by_cases h2 : (lastD l).length ≤ 4
    · have h2i : (((lastD l).length : Nat) : Int) ≤ 4 := by omega
      obtain ⟨d, r, hdr⟩ : ∃ d r, lastD l = d :: r := List.exists_cons_of_length_pos h1
      have hat : Pv.opI (.str (S (lastD l))) (.int 0) = .ret (.str (S [d])) := at_S (n := 0) hd (by rw [hdr]; rfl)
      have okd : okL [d] := fun c hc => by
        obtain rfl : c = d := by simpa using hc
        have := dig_iff.mp (lastD_dig (l := l) c (by rw [hdr]; simp))
        omega
      have okz : okL [48] := fun c hc => by
        obtain rfl : c = 48 := by simpa using hc
        omega
      have hq := opC_eqS okd okz
      by_cases h3 : d = 48
      · have e : placeL l = none := by
          cases e : placeL l with
          | none => rfl
          | some p =>
            exfalso
            obtain ⟨A, D, rfl, g, _⟩ := placeL_inv e
            rw [g.rst.2] at hdr
            exact g.dh (by rw [hdr, h3]; rfl)
        rw [e]
        have hq : opC .Eq (.str (S [d])) (.str (S [48])) = .ret (.bool true) := by rw [hq, decide_eq_true (show ([d] : List Nat) = [48] by rw [h3])]
        simp [cl24, getV_at, T.bind_ret, isi_str_str, asB_bool, asI_int, asS_str, i1, len_S hr, len_S hd, cut, opC_le, h1i, h2i, hat, zero_S, hq, seqT_rt, seqT_nx, outD_rt, truD, optD]
      · have hq : opC .Eq (.str (S [d])) (.str (S [48])) = .ret (.bool false) := by rw [hq, decide_eq_false (fun z : ([d] : List Nat) = [48] => h3 (by simpa using z))]
        by_cases h4 : (1 ≤ (rst dig l).length ∧ (rst dig l).length ≤ 2) ∧ (rst dig l).all cap = true
        · have g : Good (rst dig l) (lastD l) := ⟨h4.1.1, h4.1.2, List.all_eq_true.mp h4.2, h1, h2, fun c hc => lastD_dig c hc, by rw [hdr]; simpa using h3⟩
          have e := placeL_good g
          rw [rst_app] at e
          rw [e]
          have i2 := run23g h4.1.1 h4.1.2 (List.all_eq_true.mp h4.2)
          have i3 := int_D (D := lastD l) (fun c hc => lastD_dig c hc) (by rw [hdr]; simp) (by omega)
          simp [cl24, getV_at, T.bind_ret, isi_str_str, asB_bool, asI_int, asS_str, i1, len_S hr, len_S hd, cut, opC_le, h1i, h2i, hat, zero_S, hq, i2, i3, opC_isNo, isNo, seqT_rt, seqT_nx, outD_rt, truD, optD, lb2]
        · have e : placeL l = none := by
            cases e : placeL l with
            | none => rfl
            | some p =>
              exfalso
              obtain ⟨A, D, rfl, g, _⟩ := placeL_inv e
              rw [g.rst.1] at h4
              exact h4 ⟨⟨g.a0, g.a1⟩, List.all_eq_true.mpr g.ac⟩
          rw [e]
          have i2 := run23n hr okr h4
          simp [cl24, getV_at, T.bind_ret, isi_str_str, asB_bool, asI_int, asS_str, i1, len_S hr, len_S hd, cut, opC_le, h1i, h2i, hat, zero_S, hq, i2, opC_isNo, isNo, seqT_rt, seqT_nx, outD_rt, truD, optD]
    · have e : placeL l = none := by
        cases e : placeL l with
        | none => rfl
        | some p =>
          exfalso
          obtain ⟨A, D, rfl, g, _⟩ := placeL_inv e
          rw [g.rst.2] at h2
          exact h2 g.d1
      rw [e]
      have h2i : ¬ (((lastD l).length : Nat) : Int) ≤ 4 := by omega
      simp [cl24, getV_at, T.bind_ret, isi_str_str, asB_bool, asI_int, asS_str, i1, len_S hr, len_S hd, cut, opC_le, h1i, h2i, seqT_rt, seqT_nx, outD_rt, truD, optD]
  · have e : placeL l = none := by
      cases e : placeL l with
      | none => rfl
      | some p =>
        exfalso
        obtain ⟨A, D, rfl, g, _⟩ := placeL_inv e
        rw [g.rst.2] at h1
        exact h1 g.d0
    rw [e]
    have h1i : ¬ (1 : Int) ≤ ((lastD l).length : Nat) := by omega
    simp [cl24, getV_at, T.bind_ret, isi_str_str, asB_bool, asI_int, asS_str, i1, len_S hr, len_S hd, cut, opC_le, h1i, seqT_rt, seqT_nx, outD_rt, truD, optD]
end K01

-- K6
set_option maxRecDepth 100000
set_option maxHeartbeats 4000000
set_option linter.all false
set_option linter.unusedSimpArgs false
namespace K01
open PySem L2 Pv SX TL NumText
def NoStr (d : PyData) : Prop := ∀ x, d ≠ .str x
theorem isi_str_not {d : PyData} (h : NoStr d) : isiD (tyName "str") d = .ret (.bool false) := by
  cases d with
  | str x => exact absurd rfl (h x)
  | _ => rfl
abbrev badP (d : PyData) : T PyData := .err ⟨"BadPlace", [("given", d)]⟩
abbrev badR (d : PyData) : T PyData := .err ⟨"BadRectangle", [("given", d)]⟩
theorem run23x {d : PyData} (h : NoStr d) : m23 [d] = .ret .none := by
  unfold m23 runDef
  simp [cl23, getV_at, T.bind_ret, isi_str_not h, asB_bool, seqT_rt, seqT_nx, outD_rt, truD]
theorem run24x {d : PyData} (h : NoStr d) : m24 [d] = .ret .none := by
  unfold m24 runDef
  simp [cl24, getV_at, T.bind_ret, isi_str_not h, asB_bool, seqT_rt, seqT_nx, outD_rt, truD]
theorem run25x {d : PyData} (h : NoStr d) : m25 [d] = .ret .none := by
  unfold m25 runDef
  simp [cl25, getV_at, T.bind_ret, isi_str_not h, asB_bool, seqT_rt, seqT_nx, outD_rt, truD]
theorem run20n {d : PyData} (h : m23 [d] = .ret .none) : m20 [d] = badP d := by
  unfold m20 runDef
  simp [cl20, getV_at, T.bind_ret, h, opC_isNo, isNo, asB_bool, seqT_rt, seqT_nx, outD_rt, truD, T.bind_err]
theorem run20g {d : PyData} {c : Int} (h : m23 [d] = .ret (.int c)) : m20 [d] = .ret (.int c) := by
  unfold m20 runDef
  simp [cl20, getV_at, T.bind_ret, h, opC_isNo, isNo, asB_bool, seqT_rt, seqT_nx, outD_rt, truD, T.bind_err]
theorem run21n {d : PyData} (h : m24 [d] = .ret .none) : m21 [d] = badP d := by
  unfold m21 runDef
  simp [cl21, getV_at, T.bind_ret, h, opC_isNo, isNo, asB_bool, seqT_rt, seqT_nx, outD_rt, truD, T.bind_err]
theorem run21g {d : PyData} {c : List PyData} (h : m24 [d] = .ret (.tuple c)) : m21 [d] = .ret (.tuple c) := by
  unfold m21 runDef
  simp [cl21, getV_at, T.bind_ret, h, opC_isNo, isNo, asB_bool, seqT_rt, seqT_nx, outD_rt, truD, T.bind_err]
theorem run22n {d : PyData} (h : m25 [d] = .ret .none) : m22 [d] = badR d := by
  unfold m22 runDef
  simp [cl22, getV_at, T.bind_ret, h, opC_isNo, isNo, asB_bool, seqT_rt, seqT_nx, outD_rt, truD, T.bind_err]
theorem run22g {d : PyData} {c : List PyData} (h : m25 [d] = .ret (.tuple c)) : m22 [d] = .ret (.tuple c) := by
  unfold m22 runDef
  simp [cl22, getV_at, T.bind_ret, h, opC_isNo, isNo, asB_bool, seqT_rt, seqT_nx, outD_rt, truD, T.bind_err]
theorem pt1 (p : String × (Str → Str → T PyData)) (hp : mthS1 "partition" = some p) {a b : List Nat} (h : (a ++ 58 :: b).length ≤ big) (hn : 58 ∉ a) : onS1 p.2 (S (a ++ 58 :: b)) (.str ":") = .ret (.tuple [.str (S a), .str (S [58]), .str (S b)]) := by
  have e0 : mthS1 "partition" = some ("str.partition", fun a b => if (b.length == 0) = false ∧ a.length ≤ big then .ret (.tuple [.str (Txt.partition a b).1, .str (Txt.partition a b).2.1, .str (Txt.partition a b).2.2]) else .stuck) := rfl
  rw [e0] at hp
  cases hp
  have e1 : Txt.partition (S (a ++ 58 :: b)) (S [58]) = (S a, S [58], S b) := partition_some (by simp) (par_head (sep := []) b hn)
  rw [colon_S]
  show (if ((S [58]).length == 0) = false ∧ (S (a ++ 58 :: b)).length ≤ big then T.ret (PyData.tuple [.str (Txt.partition (S (a ++ 58 :: b)) (S [58])).1, .str (Txt.partition (S (a ++ 58 :: b)) (S [58])).2.1, .str (Txt.partition (S (a ++ 58 :: b)) (S [58])).2.2]) else .stuck) = _
  rw [if_pos ⟨by rfl, by rw [S_len]; exact h⟩, e1]
theorem pt0 (p : String × (Str → Str → T PyData)) (hp : mthS1 "partition" = some p) {a : List Nat} (h : a.length ≤ big) (hn : 58 ∉ a) : onS1 p.2 (S a) (.str ":") = .ret (.tuple [.str (S a), .str (S []), .str (S [])]) := by
  have e0 : mthS1 "partition" = some ("str.partition", fun a b => if (b.length == 0) = false ∧ a.length ≤ big then .ret (.tuple [.str (Txt.partition a b).1, .str (Txt.partition a b).2.1, .str (Txt.partition a b).2.2]) else .stuck) := rfl
  rw [e0] at hp
  cases hp
  have e1 : Txt.partition (S a) (S [58]) = (S a, S [], S []) := partition_none (by simp) (par_head_none (sep := []) hn)
  rw [colon_S]
  show (if ((S [58]).length == 0) = false ∧ (S a).length ≤ big then T.ret (PyData.tuple [.str (Txt.partition (S a) (S [58])).1, .str (Txt.partition (S a) (S [58])).2.1, .str (Txt.partition (S a) (S [58])).2.2]) else .stuck) = _
  rw [if_pos ⟨by rfl, by rw [S_len]; exact h⟩, e1]
def rectO : Option (Nat × Nat) → Option (Nat × Nat) → PyData
  | some (a, b), some (c, d) => if a ≤ c ∧ b ≤ d then .tuple [.int a, .int b, .int c, .int d] else .none
  | _, _ => .none
theorem inG_of {l : List Nat} {r c : Nat} (h : placeL l = some (r, c)) : InG r c := by
  have := placeL_bound h
  exact ⟨by omega, by omega, by omega, by omega⟩
theorem run25c {a b : List Nat} (hl : (a ++ 58 :: b).length ≤ 640) (ok : okL (a ++ 58 :: b)) (hn : 58 ∉ a) : m25 [.str (S (a ++ 58 :: b))] = .ret (rectO (placeL a) (placeL b)) := by
  have hlen : a.length + (b.length + 1) ≤ 640 := by simpa using hl
  have i1 := pt1 _ rfl (a := a) (b := b) (by show (a ++ 58 :: b).length ≤ 100000; omega) hn
  simp only [beq_eq_false_iff_ne, ne_eq] at i1
  have i2 := run24 (l := a) (by omega) (ok.sub fun c hc => by simp [hc])
  have i3 := run24 (l := b) (by omega) (ok.sub fun c hc => by simp [hc])
  unfold m25 runDef
  cases ea : placeL a with
  | none =>
    rw [ea] at i2
    simp [cl25, getV_at, T.bind_ret, isi_str_str, asB_bool, asS_str, i1, i2, i3, setAll, opC_isNo, isNo, seqT_rt, seqT_nx, outD_rt, truD, optD, rectO]
  | some p =>
    obtain ⟨r, c⟩ := p
    rw [ea] at i2
    cases eb : placeL b with
    | none =>
      rw [eb] at i3
      simp [cl25, getV_at, T.bind_ret, isi_str_str, asB_bool, asS_str, i1, i2, i3, setAll, opC_isNo, isNo, seqT_rt, seqT_nx, outD_rt, truD, optD, rectO]
    | some q =>
      obtain ⟨r', c'⟩ := q
      rw [eb] at i3
      have i4 := run14 (inG_of ea) (inG_of eb)
      simp [cl25, getV_at, T.bind_ret, isi_str_str, asB_bool, asS_str, i1, i2, i3, i4, setAll, opC_isNo, isNo, seqT_rt, seqT_nx, outD_rt, truD, optD, rectO, unstar, lb4]
      by_cases h1 : r ≤ r' <;> by_cases h2 : c ≤ c' <;> simp [h1, h2, T.bind_ret, seqT_rt, outD_rt]
theorem run25n {a : List Nat} (hl : a.length ≤ 640) (ok : okL a) (hn : 58 ∉ a) : m25 [.str (S a)] = .ret .none := by
  have i1 := pt0 _ rfl (a := a) (by show a.length ≤ 100000; omega) hn
  simp only [beq_eq_false_iff_ne, ne_eq] at i1
  have i2 := run24 (l := a) hl ok
  have i3 := run24 (l := []) (by simp) (fun c hc => nomatch hc)
  have e0 : placeL [] = none := by decide
  rw [e0] at i3
  unfold m25 runDef
  cases ea : placeL a with
  | none =>
    rw [ea] at i2
    simp [cl25, getV_at, T.bind_ret, isi_str_str, asB_bool, asS_str, i1, i2, i3, setAll, opC_isNo, isNo, seqT_rt, seqT_nx, outD_rt, truD, optD, rectO]
  | some p =>
    obtain ⟨r, c⟩ := p
    rw [ea] at i2
    simp [cl25, getV_at, T.bind_ret, isi_str_str, asB_bool, asS_str, i1, i2, i3, setAll, opC_isNo, isNo, seqT_rt, seqT_nx, outD_rt, truD, optD, rectO]
end K01

-- K7
set_option maxRecDepth 100000
set_option maxHeartbeats 4000000
set_option linter.all false
set_option linter.unusedSimpArgs false
namespace K01
open PySem L2 Pv SX TL NumText
theorem run30 {m : Int} (h0 : 27 ≤ m) (h1 : m < 1073741824) : Ok (m30 [drawD, .int m]) 2 fun d => ∃ n : Int, d = .int n ∧ 1 ≤ n ∧ n ≤ m := by
  unfold m30 runDef
  simp [cl30, getV_at, T.bind_ret, dig_at, bind_pick, opC_ltI, asB_bool, opB_sub, lb6, h0, h1, (by omega : 0 < m)]
  refine ok_pick (n := 1) fun i i0 i1 => ?_
  have hi : i = 0 ∨ i = 1 ∨ i = 2 ∨ i = 3 ∨ i = 4 ∨ i = 5 ∨ ¬ i < 6 := by omega
  rcases hi with rfl | rfl | rfl | rfl | rfl | rfl | hi
  · have e := at_L (xs := [PyData.int 1, .int 2, .int m, .int (m - 1), .int 26, .int 27]) (i := 0) (d := .int 1) (by decide) rfl
    simp [getV_at, T.bind_ret, opC_ltI, asB_bool, opB_sub, lb6, e, seqT_nx, seqT_rt, outD_rt]
    exact ok_ret ⟨_, rfl, by omega, by omega⟩
  · have e := at_L (xs := [PyData.int 1, .int 2, .int m, .int (m - 1), .int 26, .int 27]) (i := 1) (d := .int 2) (by decide) rfl
    simp [getV_at, T.bind_ret, opC_ltI, asB_bool, opB_sub, lb6, e, seqT_nx, seqT_rt, outD_rt]
    exact ok_ret ⟨_, rfl, by omega, by omega⟩
  · have e := at_L (xs := [PyData.int 1, .int 2, .int m, .int (m - 1), .int 26, .int 27]) (i := 2) (d := .int m) (by decide) rfl
    simp [getV_at, T.bind_ret, opC_ltI, asB_bool, opB_sub, lb6, e, seqT_nx, seqT_rt, outD_rt]
    exact ok_ret ⟨_, rfl, by omega, by omega⟩
  · have e := at_L (xs := [PyData.int 1, .int 2, .int m, .int (m - 1), .int 26, .int 27]) (i := 3) (d := .int (m - 1)) (by decide) rfl
    simp [getV_at, T.bind_ret, opC_ltI, asB_bool, opB_sub, lb6, e, seqT_nx, seqT_rt, outD_rt]
    exact ok_ret ⟨_, rfl, by omega, by omega⟩
  · have e := at_L (xs := [PyData.int 1, .int 2, .int m, .int (m - 1), .int 26, .int 27]) (i := 4) (d := .int 26) (by decide) rfl
    simp [getV_at, T.bind_ret, opC_ltI, asB_bool, opB_sub, lb6, e, seqT_nx, seqT_rt, outD_rt]
    exact ok_ret ⟨_, rfl, by omega, by omega⟩
  · have e := at_L (xs := [PyData.int 1, .int 2, .int m, .int (m - 1), .int 26, .int 27]) (i := 5) (d := .int 27) (by decide) rfl
    simp [getV_at, T.bind_ret, opC_ltI, asB_bool, opB_sub, lb6, e, seqT_nx, seqT_rt, outD_rt]
    exact ok_ret ⟨_, rfl, by omega, by omega⟩
  · simp [getV_at, hi, T.bind_ret, opC_ltI, asB_bool, dig_at, h1, (by omega : 0 < m), bind_pick, opB_add, seqT_nx, seqT_rt, outD_rt]
    refine ok_pick (n := 0) fun j j0 j1 => ?_
    exact ok_ret ⟨_, rfl, by omega, by omega⟩
theorem run31 (c : Int) (h0 : 1 ≤ c) (h1 : c ≤ 702) : m31 [.int c] = .ret (.str (S (colL c.toNat))) := by
  have ec : ("ABCDEFGHIJKLMNOPQRSTUVWXYZ" : Str) = caps := rfl
  unfold m31 runDef
  have c2 := caps_at (i := (c - 1) % 26) (by omega) (by omega)
  by_cases h : c ≤ 26
  · have e0 : (c - 1) / 26 = 0 := by omega
    have e1 : colL c.toNat = [65 + ((c - 1) % 26).toNat] := by
      unfold colL
      rw [if_pos (by omega)]
      congr 1
      omega
    rw [e1]
    simp [-Int.toNat_sub, cl31, getV_at, T.bind_ret, opB_sub, fdiv_at, mod_at, opC_gtI, asB_bool, e0, emp_S, c2, seqT_rt, seqT_nx, outD_rt, truD]
    exact cat_S (a := []) (b := [_]) (by simp; decide)
  · have e0 : 0 < (c - 1) / 26 := by omega
    have e1 : colL c.toNat = [65 + ((c - 1) / 26 - 1).toNat, 65 + ((c - 1) % 26).toNat] := by
      unfold colL
      rw [if_neg (by omega)]
      congr 1
      · omega
      · congr 1
        omega
    have c1 := caps_at (i := (c - 1) / 26 - 1) (by omega) (by omega)
    rw [e1]
    simp [-Int.toNat_sub, cl31, getV_at, T.bind_ret, opB_sub, fdiv_at, mod_at, opC_gtI, asB_bool, e0, emp_S, c1, c2, seqT_rt, seqT_nx, outD_rt, truD]
    exact cat_S (a := [_]) (b := [_]) (by simp; decide)
end K01

-- K8
set_option maxRecDepth 100000
set_option maxHeartbeats 4000000
set_option linter.all false
set_option linter.unusedSimpArgs false
namespace K01
open PySem L2 Pv SX TL NumText
theorem run32x {d : PyData} (h : NoStr d) : m32 [d] = .ret .none := by
  unfold m32 runDef
  simp [cl32, getV_at, T.bind_ret, isi_str_not h, asB_bool, seqT_rt, seqT_nx, outD_rt, truD]
theorem while32 {test : FT} {body : En → T Out} {l : List Nat} {t a b c : Option PyData}
    (ht : ∀ k : Nat, test [t, some (.int k), a, b, c] = .ret (match l[k]? with | some s => cap s | none => false)) (hb : ∀ k : Nat, body [t, some (.int k), a, b, c] = .ret (.nx [t, some (.int ((k : Int) + 1)), a, b, c])) :
    ∀ (r : List Nat) (k m : Nat), l.drop k = r → r.length < m → runW test body m [t, some (.int k), a, b, c] = .ret (.nx [t, some (.int ((k + (r.takeWhile cap).length : Nat) : Int)), a, b, c])
  | [], k, m, hk, hm => by
    obtain ⟨m, rfl⟩ : ∃ n, m = n + 1 := ⟨m - 1, by omega⟩
    have e : l[k]? = none := by
      rw [List.getElem?_eq_none_iff]
      exact List.drop_eq_nil_iff.mp hk
    show T.bind (test _) _ = _
    rw [ht k, e]
    rfl
  | s :: r, k, m, hk, hm => by
    obtain ⟨m, rfl⟩ : ∃ n, m = n + 1 := ⟨m - 1, by omega⟩
    have e : l[k]? = some s := by
      have := congrArg (·[0]?) hk
      simpa using this
    have e2 : l.drop (k + 1) = r := by
      have := congrArg (List.drop 1) hk
      simpa using this
    show T.bind (test _) _ = _
    rw [ht k, e]
    by_cases hs : cap s = true
    · rw [List.takeWhile_cons, if_pos hs]
      show (if cap s = true then T.bind (body _) _ else _) = _
      rw [if_pos hs, hb k]
      show runW test body m _ = _
      have := while32 ht hb r (k + 1) m e2 (by simp at hm; omega)
      rw [show (((k + 1 : Nat) : Int)) = (k : Int) + 1 by omega] at this
      rw [this, List.length_cons, show k + 1 + (List.takeWhile cap r).length = k + ((List.takeWhile cap r).length + 1) by omega]
    · rw [List.takeWhile_cons, if_neg hs]
      show (if cap s = true then T.bind (body _) _ else _) = _
      rw [if_neg hs]
      rfl
theorem while32z {test : FT} {body : En → T Out} {l : List Nat} {t a b c : Option PyData} {m : Nat}
    (ht : ∀ k : Nat, test [t, some (.int k), a, b, c] = .ret (match l[k]? with | some s => cap s | none => false)) (hb : ∀ k : Nat, body [t, some (.int k), a, b, c] = .ret (.nx [t, some (.int ((k : Int) + 1)), a, b, c])) (hm : l.length < m) :
    runW test body m [t, some (.int 0), a, b, c] = .ret (.nx [t, some (.int (l.takeWhile cap).length), a, b, c]) := by
  have := while32 ht hb l 0 m rfl hm
  rw [Nat.zero_add] at this
  exact this
theorem lc32 {ft : FT} {fe : FE} {i : Nat} {ρ : En} (hf : ∀ c : Nat, ft (ρ.set i (some (.str (S [c])))) = .ret (!dig c)) (he : ∀ c : Nat, fe (ρ.set i (some (.str (S [c])))) = .ret (.str (S [c]))) :
    ∀ (r : List Nat) (acc : List PyData), acc.length + r.length ≤ big → lcR ft fe i ρ (r.map fun c => .str (S [c])) acc = .ret (.list (acc ++ (r.filter fun c => !dig c).map fun c => .str (S [c])))
  | [], acc, _ => by
    simp [lcR]
  | c :: r, acc, h => by
    have hl : acc.length < big := by simp at h; omega
    simp only [List.map_cons, lcR, hf, T.bind_ret]
    cases hd : dig c with
    | true =>
      rw [if_neg (by simp), lc32 hf he r acc (by simp at h; omega)]
      simp [hd]
    | false =>
      rw [if_pos (by simp), he]
      simp only [T.bind_ret]
      rw [if_pos ⟨rfl, hl⟩, lc32 hf he r _ (by simp at h ⊢; omega)]
      simp [hd]
theorem plD_strs : ∀ {l : List Nat}, okL l → plD (.list (l.map fun c => .str (S [c]))) = true := by
  intro l ok
  have e1 : noDict (.list (l.map fun c => .str (S [c]))) = true := by
    show noDicts (l.map fun c => .str (S [c])) = true
    induction l with
    | nil => rfl
    | cons c l ih => 
      show (true && noDicts (l.map fun c => .str (S [c]))) = true
      rw [ih fun c hc => ok c (by simp [hc])]
      rfl
  have e2 : PyData.canLay0 (.list (l.map fun c => .str (S [c]))) = true := by
    have : PyData.canLayAll0 (l.map fun c => .str (S [c])) = true := by
      clear e1
      induction l with
      | nil => rfl
      | cons c l ih =>
        have h1 := ok c (by simp)
        have e : PyData.strOk (S [c]) = true := by
          unfold PyData.strOk
          rw [← Array.all_toList, List.all_eq_true]
          intro x hx
          have : x = c := by simpa using hx
          exact decide_eq_true (by omega)
        simp only [List.map_cons, PyData.canLayAll0, PyData.canLay0]
        rw [e, ih fun c hc => ok c (by simp [hc])]
        rfl
    simpa [PyData.canLay0] using this
  have e3 : PyData.depthAll (l.map fun c => .str (S [c])) = 0 := by
    clear e1 e2
    induction l with
    | nil => rfl
    | cons c l ih =>
      simp only [List.map_cons, PyData.depthAll, PyData.depth]
      rw [ih fun c hc => ok c (by simp [hc])]
      rfl
  have e4 : PyData.depth (.list (l.map fun c => .str (S [c]))) = 1 := by
    simp only [PyData.depth]
    rw [e3]
  unfold plD SeqAt.shaped
  rw [e1, e2, e4]
  rfl
theorem ne_nil {l : List Nat} (ok : okL l) : opC .NotEq (.list (l.map fun c => .str (S [c]))) (.list []) = .ret (.bool (!l.isEmpty)) := by
  rw [opC_neP (plD_strs ok) (by rfl)]
  cases l <;> rfl
theorem loop32 {step : PyData → En → T Out} {t s r : Option PyData} (hs : ∀ (c : Nat) (a : Int) (x : Option PyData), step (.str (S [c])) [t, s, r, x, some (.int a)] = .ret (.nx [t, s, r, some (.str (S [c])), some (.int (26 * a + c - 64))])) :
    ∀ (l : List Nat) (a : Nat) (x : Option PyData) (hc : ∀ c ∈ l, cap c = true), forL step (l.map fun c => .str (S [c])) [t, s, r, x, some (.int a)] = .ret (.nx [t, s, r, lastV x l, some (.int (l.foldl (fun a c => 26 * a + (c - 64)) a : Nat))])
  | [], a, x, _ => rfl
  | c :: q, a, x, h => by
    have := cap_iff.mp (h c (by simp))
    have e : forL step ((c :: q).map fun c => .str (S [c])) [t, s, r, x, some (.int a)] = forL step (q.map fun c => .str (S [c])) [t, s, r, some (.str (S [c])), some (.int ((26 * a + (c - 64) : Nat) : Int))] := by
      show T.bind (step (.str (S [c])) [t, s, r, x, some (.int a)]) _ = _
      rw [hs c a x]
      have e2 : 26 * (a : Int) + c - 64 = ((26 * a + (c - 64) : Nat) : Int) := by omega
      rw [e2]
      rfl
    rw [e]
    exact loop32 hs q _ _ fun c hc => h c (by simp [hc])
theorem loop32z {step : PyData → En → T Out} {t s r x : Option PyData} (hs : ∀ (c : Nat) (a : Int) (x : Option PyData), step (.str (S [c])) [t, s, r, x, some (.int a)] = .ret (.nx [t, s, r, some (.str (S [c])), some (.int (26 * a + c - 64))]))
    {l : List Nat} (hc : ∀ c ∈ l, cap c = true) : forL step (l.map fun c => .str (S [c])) [t, s, r, x, some (.int 0)] = .ret (.nx [t, s, r, lastV x l, some (.int (colV l))]) := loop32 hs l 0 x hc
theorem hlc : lcOwn (NN 32) { kind := ScopeKind.function, names := [(".0", .local), ("sign", .local)], isGenerator := false, isCoroutine := false, more := [] } = [(("sign" : Str), 3)] := by rfl
theorem take_tw (l : List Nat) : l.take (l.takeWhile cap).length = l.takeWhile cap := by
  conv => lhs; rw [← List.takeWhile_append_dropWhile (p := cap) (l := l), List.takeWhile_append_dropWhile]
  have := List.take_left' (l₁ := l.takeWhile cap) (l₂ := l.dropWhile cap) rfl
  rwa [List.takeWhile_append_dropWhile] at this
theorem mul26 {j : Int} : opB .Mult (.int 26) (.int j) = .ret (.int (26 * j)) := mul_at (by decide) (by decide)
theorem rng (n : Nat) (k : Int) : (if (1 : Int) ≤ (n : Int) then T.ret (decide ((n : Int) ≤ k)) else T.ret false) = T.ret (decide (1 ≤ n ∧ (n : Int) ≤ k)) := by
  by_cases h : 1 ≤ n
  · rw [if_pos (by omega)]
    simp [h]
  · rw [if_neg (by omega)]
    simp [h]
theorem run32 {l : List Nat} (hl : l.length ≤ 640) (ok : okL l) : m32 [.str (S l)] = .ret (optD (placeL l)) := by
  have hb : l.length ≤ big := by show l.length ≤ 100000; omega
  have htw : (l.takeWhile cap).length ≤ l.length := (List.takeWhile_sublist _).length_le
  have hdw : (l.dropWhile cap).length ≤ l.length := (List.dropWhile_sublist _).length_le
  have cf := cut_from (l := l) (n := (l.takeWhile cap).length) hb
  rw [dropWhile_take] at cf
  have ct := cut_to (l := l) (n := (l.takeWhile cap).length) hb
  rw [take_tw] at ct
  have okd : okL (l.dropWhile cap) := ok.sub fun c hc => (List.dropWhile_sublist _).subset hc
  have lend := len_S (l := l.dropWhile cap) (by omega)
  unfold m32 runDef
  simp only [cl32]
  simp [getV_at, T.bind_ret, isi_str_str, asB_bool, seqT_rt, seqT_nx, outD_rt, truD]
  rw [while32z (l := l) ?ht ?hb (by omega)]
  case ht =>
    intro k
    have e1 := len_S hb
    by_cases hk : k < l.length
    · have e2 : l[k]? = some l[k] := List.getElem?_eq_getElem hk
      have e3 := at_S hb e2
      have hki : (k : Int) < (l.length : Int) := by omega
      rw [e2]
      simp [getV_at, T.bind_ret, e1, e3, opC_ltI, hki, asB_bool, A_S, Z_S, opC_leS]
      cases h : cap l[k] with
      | true =>
        have := cap_iff.mp h
        simp [this.1, this.2, T.bind_ret, opC_leS, asB_bool]
      | false =>
        by_cases h65 : 65 ≤ l[k]
        · have h90 : ¬ l[k] ≤ 90 := fun z => by
            rw [cap_iff.mpr ⟨h65, z⟩] at h
            cases h
          simp [h65, h90, T.bind_ret, opC_leS, asB_bool]
        · simp [h65, T.bind_ret, opC_leS, asB_bool]
    · have e2 : l[k]? = none := List.getElem?_eq_none_iff.mpr (by omega)
      have hki : ¬ (k : Int) < (l.length : Int) := by omega
      rw [e2]
      simp [getV_at, T.bind_ret, e1, opC_ltI, hki, asB_bool]
  case hb =>
    intro k
    simp [getV_at, T.bind_ret, opB_add, seqT_nx]
  simp only [T.bind_ret, seqT_nx]
  simp [T.bind_ret, seqT_nx, getV_at, asI_int, cf, opC_le, asB_bool]
  rw [rng]
  by_cases c1 : 1 ≤ (l.takeWhile cap).length ∧ (l.takeWhile cap).length ≤ 2
  · have d1 : (decide (1 ≤ (l.takeWhile cap).length ∧ ((l.takeWhile cap).length : Int) ≤ 2)) = true := decide_eq_true (by omega)
    rw [d1]
    simp [T.bind_ret, lend, opC_le, asB_bool]
    rw [rng]
    by_cases c2 : 1 ≤ (l.dropWhile cap).length ∧ (l.dropWhile cap).length ≤ 4
    · have d2 : (decide (1 ≤ (l.dropWhile cap).length ∧ ((l.dropWhile cap).length : Int) ≤ 4)) = true := decide_eq_true (by omega)
      rw [d2]
      simp [T.bind_ret, items_S]
      rw [hlc, lc32 ?hf ?he (l.dropWhile cap) [] (by simp; omega)]
      case hf =>
        intro c
        simp [wipeE, getV_at, T.bind_ret, zero_S, nine_S, opC_leS, asB_bool]
        cases h : dig c with
        | true =>
          have := dig_iff.mp h
          simp [this.1, this.2, T.bind_ret, opC_leS, asB_bool]
        | false =>
          by_cases h48 : 48 ≤ c
          · have h57 : ¬ c ≤ 57 := fun z => by
              rw [dig_iff.mpr ⟨h48, z⟩] at h
              cases h
            simp [h48, h57, T.bind_ret, opC_leS, asB_bool]
          · simp [h48, T.bind_ret, opC_leS, asB_bool]
      case he =>
        intro c
        simp [wipeE, getV_at]
      have okf : okL ((l.dropWhile cap).filter fun c => !dig c) := okd.sub fun c hc => (List.filter_sublist).subset hc
      have nn := ne_nil okf
      simp only [noRaise_ret, T.bind_ret, List.nil_append, nn, asB_bool]
      by_cases c3 : (l.dropWhile cap).all dig = true
      · have e3 : ((l.dropWhile cap).filter fun c => !dig c) = [] := by
          rw [List.filter_eq_nil_iff]
          intro c hc
          have := List.all_eq_true.mp c3 c hc
          simp [this]
        rw [e3]
        obtain ⟨d, r, hdr⟩ : ∃ d r, l.dropWhile cap = d :: r := List.exists_cons_of_length_pos c2.1
        have hat : Pv.opI (.str (S (l.dropWhile cap))) (.int 0) = .ret (.str (S [d])) := at_S (n := 0) (by omega) (by rw [hdr]; rfl)
        have okd1 : okL [d] := fun c hc => by
          obtain rfl : c = d := by simpa using hc
          exact okd c (by rw [hdr]; simp)
        have okz : okL [48] := fun c hc => by
          obtain rfl : c = 48 := by simpa using hc
          omega
        have hq := opC_eqS okd1 okz
        by_cases c4 : d = 48
        · have hq : opC .Eq (.str (S [d])) (.str (S [48])) = .ret (.bool true) := by rw [hq, decide_eq_true (show ([d] : List Nat) = [48] by rw [c4])]
          have ep : placeL l = none := by
            unfold placeL
            rw [if_neg (fun z => z.2.2 (by rw [hdr, c4]; rfl))]
          rw [ep]
          simp [getV_at, T.bind_ret, seqT_nx, seqT_rt, outD_rt, hat, zero_S, hq, asB_bool, optD]
        · have hq : opC .Eq (.str (S [d])) (.str (S [48])) = .ret (.bool false) := by rw [hq, decide_eq_false (fun z : ([d] : List Nat) = [48] => c4 (by simpa using z))]
          have ep : placeL l = some (digitsVal (l.dropWhile cap), colV (l.takeWhile cap)) := by
            unfold placeL
            rw [if_pos ⟨⟨c1, c2⟩, c3, by rw [hdr]; simpa using c4⟩]
          have i3 := int_D (D := l.dropWhile cap) (List.all_eq_true.mp c3) (by rw [hdr]; simp) (by omega)
          rw [ep]
          simp [getV_at, T.bind_ret, seqT_nx, seqT_rt, outD_rt, hat, zero_S, hq, asB_bool, asI_int, ct, items_S]
          rw [loop32z ?hs (fun c hc => mem_tw hc)]
          case hs =>
            intro c a x
            simp [getV_at, T.bind_ret, mul26, ord_S, opB_add, opB_sub, seqT_nx]
          simp [getV_at, T.bind_ret, seqT_nx, seqT_rt, outD_rt, i3, lb2, optD]
      · have e3 : (!((l.dropWhile cap).filter fun c => !dig c).isEmpty) = true := by
          cases e : ((l.dropWhile cap).filter fun c => !dig c) with
          | nil =>
            exfalso
            rw [List.filter_eq_nil_iff] at e
            exact c3 (List.all_eq_true.mpr fun c hc => by simpa using e c hc)
          | cons a r => rfl
        have ep : placeL l = none := by
          unfold placeL
          rw [if_neg (fun z => c3 z.2.1)]
        rw [e3, ep]
        simp [getV_at, T.bind_ret, seqT_nx, seqT_rt, outD_rt, optD]
    · have d2 : (decide (1 ≤ (l.dropWhile cap).length ∧ ((l.dropWhile cap).length : Int) ≤ 4)) = false := decide_eq_false (by omega)
      have ep : placeL l = none := by
        unfold placeL
        rw [if_neg (fun z => c2 z.1.2)]
      rw [d2, ep]
      simp [T.bind_ret, seqT_nx, seqT_rt, outD_rt, optD]
  · have d1 : (decide (1 ≤ (l.takeWhile cap).length ∧ ((l.takeWhile cap).length : Int) ≤ 2)) = false := decide_eq_false (by omega)
    have ep : placeL l = none := by
      unfold placeL
      rw [if_neg (fun z => c1 z.1.1)]
    rw [d1, ep]
    simp [T.bind_ret, seqT_nx, seqT_rt, outD_rt, optD]
end K01

-- K9
set_option maxRecDepth 100000
set_option maxHeartbeats 4000000
set_option linter.all false
set_option linter.unusedSimpArgs false
namespace K01
open PySem L2 Pv SX TL NumText
theorem nn34 : (NN 34).length = 4 := rfl
def suite : List Stmt := match defBody (top 34) with
  | [.Try _ [.ExceptHandler _ _ su _] _ _ _, _] => su
  | _ => []
def clS (th : T PyData) (er : Er) : {fs : FS // cSs (suGa (tga th) "e" er) [] 58 suite = some fs} := ⟨_, rfl⟩
theorem su_run {th : T PyData} {er : Er} {i m : Nat} {ρ : En} {su : List Stmt} (h : su = suite) : runSu (cSs (suGa (tga th) "e" er) [] 58 su) i m ρ = noRaise (T.bind ((clS th er).1 m (ρ.set i none)) fun o => .ret (unsetO i o)) := by
  subst h
  have e := (clS th er).2
  generalize (clS th er).1 = fs at e ⊢
  unfold runSu
  rw [e]
theorem told_ret (d : PyData) : told (.ret d) = .ret (.list [d]) := by
  unfold told toldF
  rw [(clT (.ret d)).2]
  simp [clT, T.bind_ret, getV_at, tryR, seqT_nx, seqT_rt, outD_rt, noRaise, lb1, nn34]
theorem sub1 : subE "BadPlace" "GridError" = some true := rfl
theorem sub2 : subE "BadPlace" "BadPlace" = some true := rfl
theorem sub3 : subE "BadRectangle" "GridError" = some true := rfl
theorem sub4 : subE "BadRectangle" "BadPlace" = some false := rfl
theorem sub5 : subE "BadRectangle" "BadRectangle" = some true := rfl
theorem ofO_some {α : Type} {a : α} : T.ofO (some a) = .ret a := rfl
theorem f_repr1 {d : PyData} : f_repr [d] = reprD d := rfl
theorem told_badP {d : PyData} (h : reprD d = .ret (.str d.shown)) : told (badP d) = .ret (.tuple [.str "place", .str d.shown]) := by
  unfold told toldF
  rw [(clT (badP d)).2]
  simp [clT, T.bind_ret, T.bind_err, getV_at, tryR, sub1, nn34]
  rw [su_run ?hs]
  case hs => rfl
  simp [clS, T.bind_ret, ofO_some, sub2, getV_at, f_repr1, h, seqT_nx, seqT_rt, outD_rt, noRaise, lb2, unsetO, truD]
theorem told_badR {d : PyData} (h : reprD d = .ret (.str d.shown)) : told (badR d) = .ret (.tuple [.str "rectangle", .str d.shown]) := by
  unfold told toldF
  rw [(clT (badR d)).2]
  simp [clT, T.bind_ret, T.bind_err, getV_at, tryR, sub3, nn34]
  rw [su_run ?hs]
  case hs => rfl
  simp [clS, T.bind_ret, ofO_some, sub4, sub5, getV_at, f_repr1, h, seqT_nx, seqT_rt, outD_rt, noRaise, lb2, unsetO, truD]
end K01

-- K10
set_option maxRecDepth 100000
set_option maxHeartbeats 4000000
set_option linter.all false
set_option linter.unusedSimpArgs false
namespace K01
open PySem L2 Pv SX TL NumText
def LS : List Nat := [65, 90, 97, 66]
def GS : List Nat := [48, 49, 57, 53, 58, 36, 32, 45]
theorem let_S : ("AZaBZ" : Str) = S [65, 90, 97, 66, 90] := by decide +kernel
theorem sig_S : ("0195:$ -" : Str) = S [48, 49, 57, 53, 58, 36, 32, 45] := by decide +kernel
def odd7 : List PyData := [.none, .int 5, .tuple [.str "A1"], .list [.str "A1"], .dict [], .tuple [.int 1, .int 1], .bool true]
inductive IsText : PyData → Prop
  | txt (L G : List Nat) : (∀ c ∈ L, c ∈ LS) → (∀ c ∈ G, c ∈ GS) → L.length ≤ 3 → G.length ≤ 5 → IsText (.str (S (L ++ G)))
  | odd (d : PyData) : d ∈ odd7 → IsText d
theorem range_at {j : Int} (h0 : 0 ≤ j) (h1 : j < 1000) : rangeD1 (.int j) = .ret ((List.range j.toNat).map fun k => .int (0 + (k : Nat))) := by
  show (if -(2 ^ 62) ≤ j ∧ j < 2 ^ 62 then T.ret ((List.range j.toNat).map fun k => PyData.int (0 + (k : Nat))) else .stuck) = _
  rw [if_pos ⟨by omega, by omega⟩]
theorem pick_let {i : Int} (h0 : 0 ≤ i) (h1 : i < 5) : ∃ c, c ∈ LS ∧ Pv.opI (.str "AZaBZ") (.int i) = .ret (.str (S [c])) := by
  have : i = 0 ∨ i = 1 ∨ i = 2 ∨ i = 3 ∨ i = 4 := by omega
  rw [let_S]
  rcases this with rfl | rfl | rfl | rfl | rfl
  · exact ⟨65, by decide, at_SI (by decide) (by decide) rfl⟩
  · exact ⟨90, by decide, at_SI (by decide) (by decide) rfl⟩
  · exact ⟨97, by decide, at_SI (by decide) (by decide) rfl⟩
  · exact ⟨66, by decide, at_SI (by decide) (by decide) rfl⟩
  · exact ⟨90, by decide, at_SI (by decide) (by decide) rfl⟩
theorem pick_sig {i : Int} (h0 : 0 ≤ i) (h1 : i < 8) : ∃ c, c ∈ GS ∧ Pv.opI (.str "0195:$ -") (.int i) = .ret (.str (S [c])) := by
  have : i = 0 ∨ i = 1 ∨ i = 2 ∨ i = 3 ∨ i = 4 ∨ i = 5 ∨ i = 6 ∨ i = 7 := by omega
  rw [sig_S]
  rcases this with rfl | rfl | rfl | rfl | rfl | rfl | rfl | rfl
  · exact ⟨48, by decide, at_SI (by decide) (by decide) rfl⟩
  · exact ⟨49, by decide, at_SI (by decide) (by decide) rfl⟩
  · exact ⟨57, by decide, at_SI (by decide) (by decide) rfl⟩
  · exact ⟨53, by decide, at_SI (by decide) (by decide) rfl⟩
  · exact ⟨58, by decide, at_SI (by decide) (by decide) rfl⟩
  · exact ⟨36, by decide, at_SI (by decide) (by decide) rfl⟩
  · exact ⟨32, by decide, at_SI (by decide) (by decide) rfl⟩
  · exact ⟨45, by decide, at_SI (by decide) (by decide) rfl⟩
theorem odd_at {i : Int} (h0 : 0 ≤ i) (h1 : i < 7) : ∃ d, d ∈ odd7 ∧ Pv.opI (.list odd7) (.int i) = .ret d := by
  have : i = 0 ∨ i = 1 ∨ i = 2 ∨ i = 3 ∨ i = 4 ∨ i = 5 ∨ i = 6 := by omega
  rcases this with rfl | rfl | rfl | rfl | rfl | rfl | rfl
  · exact ⟨_, List.mem_of_getElem? (i := 0) rfl, at_L (by decide) rfl⟩
  · exact ⟨_, List.mem_of_getElem? (i := 1) rfl, at_L (by decide) rfl⟩
  · exact ⟨_, List.mem_of_getElem? (i := 2) rfl, at_L (by decide) rfl⟩
  · exact ⟨_, List.mem_of_getElem? (i := 3) rfl, at_L (by decide) rfl⟩
  · exact ⟨_, List.mem_of_getElem? (i := 4) rfl, at_L (by decide) rfl⟩
  · exact ⟨_, List.mem_of_getElem? (i := 5) rfl, at_L (by decide) rfl⟩
  · exact ⟨_, List.mem_of_getElem? (i := 6) rfl, at_L (by decide) rfl⟩
def I1 (i : Int) (k : Nat) (ρ : En) : Prop := ∃ L x, ρ = [some drawD, some (.int i), some (.str (S L)), x] ∧ (∀ c ∈ L, c ∈ LS) ∧ L.length = k
def I2 (i : Int) (L : List Nat) (k : Nat) (ρ : En) : Prop := ∃ G x, ρ = [some drawD, some (.int i), some (.str (S (L ++ G))), x] ∧ (∀ c ∈ G, c ∈ GS) ∧ G.length = k
theorem run33 : Ok (m33 [drawD]) 12 IsText := by
  unfold m33 runDef
  simp [cl33, getV_at, T.bind_ret, dig_at, bind_pick, opC_eqI, asB_bool]
  refine ok_pick (n := 11) fun i i0 i1 => ?_
  by_cases hi : i = 0
  · subst hi
    have e7 : [PyData.none, .int 5, .tuple [.str "A1"], .list [.str "A1"], .dict [], .tuple [.int 1, .int 1], .bool true] = odd7 := rfl
    simp [getV_at, T.bind_ret, seqT_nx, seqT_rt, opC_eqI, eqvI, asB_bool, lb1, lb2, lb7, dig_at, bind_pick, e7]
    refine ok_pick (n := 10) fun j j0 j1 => ?_
    obtain ⟨d, hd, e⟩ := odd_at j0 j1
    simp [e, T.bind_ret, seqT_rt, outD_rt]
    exact ok_ret (.odd d hd)
  · simp [getV_at, T.bind_ret, seqT_nx, seqT_rt, opC_eqI, eqvI, asB_bool, hi, dig_at, bind_pick]
    refine ok_pick (n := 10) fun j j0 j1 => ?_
    simp [range_at j0 (by omega), T.bind_ret]
    refine ok_mono (n := 9 + 0) (ok_bind (Q := fun o => ∃ d, o = Out.rt d ∧ IsText d) (ok_mono (n := 3 + 6) (ok_bind (Q := fun o => ∃ ρ' m, o = Out.nx ρ' ∧ I1 i m ρ' ∧ m ≤ 3) (ok_mono (ok_for (n := 1) (N := 3) (I := I1 i) ?s1 _ 0 _ (by simp; omega) ⟨[], none, by rw [emp_S], fun c hc => (nomatch hc), rfl⟩) ?b1 ?w1) ?r1) (by decide) fun o h => h) ?r2) (by decide) fun o h => h
    case b1 => simp; omega
    case w1 =>
      rintro o ⟨ρ', rfl, h⟩
      exact ⟨ρ', _, rfl, h, by simp; omega⟩
    case r2 =>
      rintro o ⟨d, rfl, h⟩
      exact ok_ret h
    case s1 =>
      rintro k d ρ hk ⟨L, x, rfl, hL, rfl⟩
      have hb : L.length + ([0] : List Nat).length ≤ big := by show L.length + 1 ≤ 100000; omega
      by_cases h3 : i < 3
      · simp [getV_at, T.bind_ret, opC_ltI, asB_bool, h3, dig_at, bind_pick]
        refine ok_pick (n := 0) fun t t0 t1 => ?_
        obtain ⟨c, hc, e⟩ := pick_let t0 (by omega)
        rw [e]
        have e2 := cat_S (a := L) (b := [c]) hb
        simp [T.bind_ret, e2, seqT_nx]
        exact ok_ret ⟨_, rfl, L ++ [c], _, rfl, fun c' hc' => by rcases List.mem_append.mp hc' with h | h; exact hL c' h; rw [List.mem_singleton.mp h]; exact hc, by simp⟩
      · simp [getV_at, T.bind_ret, opC_ltI, asB_bool, h3, dig_at, bind_pick]
        refine ok_pick (n := 0) fun t t0 t1 => ?_
        obtain ⟨c, hc, e⟩ := pick_let t0 (by omega)
        rw [e]
        have e2 := cat_S (a := L) (b := [c]) hb
        simp [T.bind_ret, e2, seqT_nx]
        exact ok_ret ⟨_, rfl, L ++ [c], _, rfl, fun c' hc' => by rcases List.mem_append.mp hc' with h | h; exact hL c' h; rw [List.mem_singleton.mp h]; exact hc, by simp⟩
    case r1 =>
      rintro o ⟨ρ', m, rfl, ⟨L, x, rfl, hL, rfl⟩, hm⟩
      simp [getV_at, T.bind_ret, seqT_nx, dig_at, bind_pick]
      refine ok_pick (n := 5) fun j' j0' j1' => ?_
      simp [range_at j0' (by omega), T.bind_ret]
      refine ok_mono (n := 5 + 0) (ok_bind (Q := fun o => ∃ ρ' m, o = Out.nx ρ' ∧ I2 i L m ρ' ∧ m ≤ 5) (ok_mono (ok_for (n := 1) (N := 5) (I := I2 i L) ?s1 _ 0 _ (by simp; omega) ⟨[], _, by rw [List.append_nil], fun c hc => (nomatch hc), rfl⟩) ?b1 ?w1) ?r1) (by decide) fun o h => h
      case b1 => simp; omega
      case w1 =>
        rintro o ⟨ρ', rfl, h⟩
        exact ⟨ρ', _, rfl, h, by simp; omega⟩
      case s1 =>
        rintro k d ρ hk ⟨G, x, rfl, hG, rfl⟩
        have hb : (L ++ G).length + ([0] : List Nat).length ≤ big := by simp; show L.length + G.length + 1 ≤ 100000; omega
        by_cases h3 : i < 2
        · simp [getV_at, T.bind_ret, opC_ltI, asB_bool, h3, dig_at, bind_pick, -List.append_assoc]
          refine ok_pick (n := 0) fun t t0 t1 => ?_
          obtain ⟨c, hc, e⟩ := pick_sig t0 (by omega)
          rw [e]
          have e2 := cat_S (a := L ++ G) (b := [c]) hb
          simp [T.bind_ret, e2, seqT_nx, -List.append_assoc]
          exact ok_ret ⟨_, rfl, G ++ [c], _, by rw [List.append_assoc], fun c' hc' => by rcases List.mem_append.mp hc' with h | h; exact hG c' h; rw [List.mem_singleton.mp h]; exact hc, by simp⟩
        · simp [getV_at, T.bind_ret, opC_ltI, asB_bool, h3, dig_at, bind_pick, -List.append_assoc]
          refine ok_pick (n := 0) fun t t0 t1 => ?_
          obtain ⟨c, hc, e⟩ := pick_sig t0 (by omega)
          rw [e]
          have e2 := cat_S (a := L ++ G) (b := [c]) hb
          simp [T.bind_ret, e2, seqT_nx, -List.append_assoc]
          exact ok_ret ⟨_, rfl, G ++ [c], _, by rw [List.append_assoc], fun c' hc' => by rcases List.mem_append.mp hc' with h | h; exact hG c' h; rw [List.mem_singleton.mp h]; exact hc, by simp⟩
      case r1 =>
        rintro o ⟨ρ', m, rfl, ⟨G, x, rfl, hG, rfl⟩, hm'⟩
        simp [getV_at, T.bind_ret, seqT_nx, seqT_rt]
        exact ok_ret ⟨_, rfl, .txt L G hL hG hm hm'⟩
end K01

-- K11
set_option maxRecDepth 100000
set_option maxHeartbeats 4000000
set_option linter.all false
set_option linter.unusedSimpArgs false
namespace K01
open PySem L2 Pv SX TL NumText PySem.Builtin PySem.Builtin.Str
/-! ### values printed and compared -/
theorem chars_ok : ∀ c ∈ LS ++ GS, reprChar 39 c = [c] ∧ c ≠ 39 ∧ c < 128 := by decide +kernel
theorem fold_repr : ∀ (l : List Nat) (acc : Array Nat), (∀ c ∈ l, c ∈ LS ++ GS) → l.foldl (fun out c => out ++ (reprChar 39 c).toArray) acc = acc ++ l.toArray
  | [], acc, _ => by simp
  | c :: r, acc, h => by
    rw [List.foldl_cons, (chars_ok c (h c (by simp))).1, fold_repr r _ fun x hx => h x (by simp [hx])]
    simp
theorem shown_S {l : List Nat} (h : ∀ c ∈ l, c ∈ LS ++ GS) : (PyData.str (S l)).shown = S (39 :: (l ++ [39])) := by
  have hq : reprQuote (S l) = 39 := by
    have : (S l).cps.contains 39 = false := by
      simp only [S, List.contains_toArray]
      cases e : l.contains 39 with
      | false => rfl
      | true =>
        have hm : 39 ∈ l := by simpa using e
        exact absurd rfl (chars_ok 39 (h 39 hm)).2.1
    unfold reprQuote
    rw [this]
    rfl
  rw [PyData.shown_str]
  unfold reprText
  rw [hq, ← Array.foldl_toList]
  have e : (S l).cps.toList = l := rfl
  rw [e, fold_repr l _ h]
  simp [S]
structure RepOk (d : PyData) : Prop where
  r : reprD d = .ret (.str d.shown)
  p : PyData.strOk d.shown = true
theorem strOk_S {l : List Nat} (h : okL l) : PyData.strOk (S l) = true := by
  unfold PyData.strOk
  rw [← Array.all_toList, List.all_eq_true]
  intro c hc
  have := h c hc
  exact decide_eq_true (by omega)
theorem rep_S {l : List Nat} (h : ∀ c ∈ l, c ∈ LS ++ GS) (hl : l.length ≤ 640) : RepOk (.str (S l)) := by
  have e := shown_S h
  refine ⟨?_, ?_⟩
  · have hn : ((PyData.str (S l)).shown).length ≤ big := by
      rw [e, S_len]
      simp
      show l.length + 1 + 1 ≤ 100000
      omega
    have c : ((noDict (.str (S l)) || topDict (.str (S l))) && (PyData.str (S l)).showable && decide ((PyData.str (S l)).depth ≤ 60) && decide ((PyData.str (S l)).shown.length ≤ big)) = true := by
      rw [decide_eq_true hn, show (PyData.str (S l)).depth = 0 by rfl, show (PyData.str (S l)).showable = true by rfl]
      rfl
    exact if_pos c
  · rw [e]
    refine strOk_S fun c hc => ?_
    simp at hc
    rcases hc with rfl | hc | rfl
    · omega
    · exact (chars_ok c (h c hc)).2.2
    · omega
theorem rep_odd : ∀ d ∈ odd7, RepOk d := by
  intro d hd
  simp only [odd7, List.mem_cons, List.not_mem_nil, or_false] at hd
  rcases hd with rfl | rfl | rfl | rfl | rfl | rfl | rfl <;> exact ⟨if_pos (by decide +kernel), by decide +kernel⟩
theorem plD_two {a b : Str} (ha : PyData.strOk a = true) (hb : PyData.strOk b = true) : plD (.tuple [.str a, .str b]) = true := by
  have e : PyData.canLay0 (.tuple [.str a, .str b]) = true := by simp [PyData.canLay0, PyData.canLayAll0, ha, hb]
  unfold plD SeqAt.shaped
  rw [e, show PyData.depth (.tuple [.str a, .str b]) = 1 by rfl, show noDict (.tuple [.str a, .str b]) = true by rfl]
  rfl
theorem plD_list {d : PyData} (h : plD (.tuple [d]) = true) : True := trivial
theorem ne_self {d : PyData} (h : plD d = true) : opC .NotEq d d = .ret (.bool false) := by
  rw [opC_neP h h]
  have : PyData.canLay0 d = true := SeqAt.canLay_of_shaped (Bool.and_eq_true_iff.mp h).2
  rw [SeqAt.eqv_refl d this]
  rfl
theorem eq_self {d : PyData} (h : plD d = true) : opC .Eq d d = .ret (.bool true) := by
  rw [opC_eqP h h]
  have : PyData.canLay0 d = true := SeqAt.canLay_of_shaped (Bool.and_eq_true_iff.mp h).2
  rw [SeqAt.eqv_refl d this]
theorem pl1 (r c : Int) : plD (.list [.tuple [.int r, .int c]]) = true := by rfl
theorem pl2 (c : Int) : plD (.list [.int c]) = true := by rfl
theorem pl3 (a b c d : Int) : plD (.list [.tuple [.int a, .int b, .int c, .int d]]) = true := by rfl
theorem odd_noStr : ∀ d ∈ odd7, NoStr d := by
  intro d hd x
  simp only [odd7, List.mem_cons, List.not_mem_nil, or_false] at hd
  rcases hd with rfl | rfl | rfl | rfl | rfl | rfl | rfl <;> exact fun h => nomatch h
end K01

-- K12
set_option maxRecDepth 100000
set_option maxHeartbeats 4000000
set_option linter.all false
set_option linter.unusedSimpArgs false
namespace K01
open PySem L2 Pv SX TL NumText
/-! ### what a law asks of one text -/
structure Txt1 (l : List Nat) : Prop where
  ch : ∀ c ∈ l, c ∈ LS ++ GS
  len : l.length ≤ 8
  cut : ∃ L G, l = L ++ G ∧ (∀ c ∈ L, c ∈ LS) ∧ (∀ c ∈ G, c ∈ GS)
theorem Txt1.ok {l : List Nat} (t : Txt1 l) : okL l := fun c hc => (chars_ok c (t.ch c hc)).2.2
theorem tx {d : PyData} (h : IsText d) : (∃ l, d = .str (S l) ∧ Txt1 l) ∨ d ∈ odd7 := by
  cases h with
  | txt L G hL hG h1 h2 => exact .inl ⟨L ++ G, rfl, fun c hc => by rcases List.mem_append.mp hc with h | h; exact List.mem_append_left _ (hL c h); exact List.mem_append_right _ (hG c h), by simp; omega, L, G, rfl, hL, hG⟩
  | odd d hd => exact .inr hd
def dueP (d : PyData) : Option (Nat × Nat) → PyData
  | none => .tuple [.str "place", .str d.shown]
  | some (r, c) => .list [.tuple [.int r, .int c]]
theorem place_ok : PyData.strOk ("place" : Str) = true := by decide +kernel
theorem rect_ok : PyData.strOk ("rectangle" : Str) = true := by decide +kernel
theorem plD_due {d : PyData} (h : RepOk d) (p : Option (Nat × Nat)) : plD (dueP d p) = true := by
  cases p with
  | none => exact plD_two place_ok h.p
  | some q => exact pl1 _ _
theorem f21 {l : List Nat} (t : Txt1 l) : told (m21 [.str (S l)]) = .ret (dueP (.str (S l)) (placeL l)) := by
  have e := run24 (l := l) (by have := t.len; omega) t.ok
  have rp := rep_S t.ch (by have := t.len; omega)
  cases ep : placeL l with
  | none =>
    rw [ep] at e
    rw [run21n e, told_badP rp.r]
    rfl
  | some p =>
    obtain ⟨r, c⟩ := p
    rw [ep] at e
    rw [run21g e, told_ret]
    rfl
/-- is it a column's name -/
def oneN (l : List Nat) : Option Nat := match placeL (l ++ [49]) with
  | some (_, c) => if colL c = l then some c else none
  | none => none
theorem one_good : ∀ c ∈ ([49] : List Nat), dig c = true := by decide
theorem oneN_some {l : List Nat} {c : Nat} (h : oneN l = some c) : (1 ≤ l.length ∧ l.length ≤ 2 ∧ ∀ c ∈ l, cap c = true) ∧ colV l = c := by
  unfold oneN at h
  split at h
  · rename_i r c' e
    split at h
    · rename_i hc
      cases h
      obtain ⟨_, _, h2, h3⟩ := placeL_bound e
      obtain ⟨a0, a1, ac, av⟩ := colL_ok h2 h3
      rw [hc] at a0 a1 ac av
      exact ⟨⟨a0, a1, ac⟩, av⟩
    · cases h
  · cases h
theorem oneN_none {l : List Nat} (h : oneN l = none) : ¬ ((1 ≤ l.length ∧ l.length ≤ 2) ∧ l.all cap = true) := fun ⟨⟨h0, h1⟩, h2⟩ => by
  have hc := List.all_eq_true.mp h2
  have g : Good l [49] := ⟨h0, h1, hc, by decide, by decide, one_good, by decide⟩
  have e := placeL_good g
  unfold oneN at h
  rw [e] at h
  simp only at h
  rw [if_pos (colV_lt h0 h1 hc).2.2] at h
  cases h
def dueC (d : PyData) : Option Nat → PyData
  | none => .tuple [.str "place", .str d.shown]
  | some c => .list [.int c]
theorem plD_dueC {d : PyData} (h : RepOk d) (p : Option Nat) : plD (dueC d p) = true := by
  cases p with
  | none => exact plD_two place_ok h.p
  | some q => exact pl2 _
theorem f20 {l : List Nat} (t : Txt1 l) : told (m20 [.str (S l)]) = .ret (dueC (.str (S l)) (oneN l)) := by
  have rp := rep_S t.ch (by have := t.len; omega)
  cases e : oneN l with
  | none =>
    rw [run20n (run23n (by have := t.len; show l.length ≤ 100000; omega) t.ok (oneN_none e)), told_badP rp.r]
    rfl
  | some c =>
    obtain ⟨⟨h0, h1, hc⟩, hv⟩ := oneN_some e
    rw [run20g (run23g h0 h1 hc), told_ret, hv]
    rfl
theorem step_eq {S : T Out} {ρ : En} {R : En → T Out} (h : S = .ret (.nx ρ)) : T.bind S (fun o => seqT o R) = R ρ := by
  rw [h]
  rfl
theorem ok_eq {t : T Out} {o : Out} {n : Nat} (h : t = .ret o) : Ok t n fun x => x = o := by
  rw [h]
  exact ok_ret rfl
end K01

-- K13
set_option maxRecDepth 100000
set_option maxHeartbeats 4000000
set_option linter.all false
set_option linter.unusedSimpArgs false
namespace K01
open PySem L2 Pv SX TL NumText
def dueR (d : PyData) : PyData → PyData
  | .tuple xs => .list [.tuple xs]
  | _ => .tuple [.str "rectangle", .str d.shown]
theorem rectO_none (p : Option (Nat × Nat)) : rectO p none = .none := by
  cases p with
  | none => rfl
  | some q => rfl
theorem told22 {d : PyData} (rp : RepOk d) {p q : Option (Nat × Nat)} (h : m25 [d] = .ret (rectO p q)) : told (m22 [d]) = .ret (dueR d (rectO p q)) := by
  cases p with
  | none =>
    rw [run22n h, told_badR rp.r]
    rfl
  | some a =>
    cases q with
    | none =>
      rw [run22n h, told_badR rp.r]
      rfl
    | some b =>
      obtain ⟨a1, a2⟩ := a
      obtain ⟨b1, b2⟩ := b
      have e : rectO (some (a1, a2)) (some (b1, b2)) = if a1 ≤ b1 ∧ a2 ≤ b2 then .tuple [.int a1, .int a2, .int b1, .int b2] else .none := rfl
      rw [e] at h ⊢
      by_cases hc : a1 ≤ b1 ∧ a2 ≤ b2
      · rw [if_pos hc] at h ⊢
        rw [run22g h, told_ret]
        rfl
      · rw [if_neg hc] at h ⊢
        rw [run22n h, told_badR rp.r]
        rfl
theorem c58 : 58 ∈ LS ++ GS ∧ cap 58 = false ∧ dig 58 = false ∧ 58 ∉ LS := by decide
theorem both_ch {l l' : List Nat} (t : Txt1 l) (t' : Txt1 l') : ∀ c ∈ l ++ 58 :: l', c ∈ LS ++ GS := fun c hc => by
  rcases List.mem_append.mp hc with h | h
  · exact t.ch c h
  · rcases List.mem_cons.mp h with rfl | h
    · exact c58.1
    · exact t'.ch c h
theorem f22a {l l' : List Nat} (t : Txt1 l) (t' : Txt1 l') : told (m22 [.str (S (l ++ 58 :: l'))]) = .ret (dueR (.str (S (l ++ 58 :: l'))) (rectO (placeL l) (placeL l'))) := by
  have ch := both_ch t t'
  have hl : (l ++ 58 :: l').length ≤ 640 := by
    have := t.len
    have := t'.len
    simp
    omega
  have rp := rep_S ch hl
  have ok : okL (l ++ 58 :: l') := fun c hc => (chars_ok c (ch c hc)).2.2
  by_cases h : 58 ∈ l
  · obtain ⟨p, q, rfl, hp⟩ := List.eq_append_cons_of_mem h
    have e1 : placeL (p ++ 58 :: q) = none := placeL_free h c58.2.1 c58.2.2.1
    have e2 : placeL (q ++ 58 :: l') = none := placeL_free (s := 58) (by simp) c58.2.1 c58.2.2.1
    have e3 : p ++ 58 :: q ++ 58 :: l' = p ++ 58 :: (q ++ 58 :: l') := by simp
    rw [e1]
    rw [e3] at rp hl ok ⊢
    have r := run25c hl ok hp
    rw [e2, rectO_none] at r
    exact told22 (p := none) (q := none) rp r
  · exact told22 rp (run25c hl ok h)
theorem gs_nocap : ∀ c ∈ GS, cap c = false := by decide
theorem f22b {l : List Nat} (t : Txt1 l) : told (m22 [.str (S l)]) = .ret (.tuple [.str "rectangle", .str (PyData.str (S l)).shown]) := by
  have hl : l.length ≤ 640 := by
    have := t.len
    omega
  have rp := rep_S t.ch hl
  by_cases h : 58 ∈ l
  · obtain ⟨p, q, e, hp⟩ := List.eq_append_cons_of_mem h
    obtain ⟨L, G, e2, hL, hG⟩ := t.cut
    have hq : ∀ c ∈ q, cap c = false := by
      have e3 : L ++ G = p ++ 58 :: q := by rw [← e2, e]
      rcases List.append_eq_append_iff.mp e3 with ⟨s, h1, h2⟩ | ⟨s, h1, h2⟩
      · intro c hc
        exact gs_nocap c (hG c (by rw [h2]; simp [hc]))
      · cases s with
        | nil =>
          intro c hc
          simp at h2
          exact gs_nocap c (hG c (by rw [← h2]; simp [hc]))
        | cons x s =>
          exfalso
          have hx : x = 58 := by
            have := congrArg List.head? h2
            simpa using this.symm
          exact c58.2.2.2 (hL 58 (by rw [h1, hx]; simp))
    have okl := t.ok
    rw [e] at hl okl
    have r := run25c hl okl hp
    rw [placeL_noCap hq, rectO_none, ← e] at r
    exact told22 (p := none) (q := none) rp r
  · exact told22 (p := none) (q := none) rp (run25n hl t.ok h)
theorem f22x {d : PyData} (h : NoStr d) (rp : RepOk d) : told (m22 [d]) = .ret (.tuple [.str "rectangle", .str d.shown]) := told22 (p := none) (q := none) rp (run25x h)
end K01

-- K14
set_option maxRecDepth 100000
set_option maxHeartbeats 4000000
set_option linter.all false
set_option linter.unusedSimpArgs false
namespace K01
open PySem L2 Pv SX TL NumText
/-- the values of the names, as the law goes on -/
structure Sees (t : PyData) (H : Option (Nat × Nat)) (N : Option (Nat × Nat)) (C : Option Nat) : Prop where
  rep : RepOk t
  f32 : m32 [t] = .ret (optD H)
  f21 : told (m21 [t]) = .ret (dueP t H)
  f20 : told (m20 [t]) = .ret (dueC t C)
  kind : (∃ l, t = .str (S l) ∧ Txt1 l ∧ H = placeL l ∧ N = placeL (l ++ [49]) ∧ C = oneN l) ∨ (NoStr t ∧ H = none ∧ N = none ∧ C = none)
theorem sees_of {t : PyData} (h : IsText t) : ∃ H N C, Sees t H N C := by
  rcases tx h with ⟨l, rfl, t1⟩ | hd
  · exact ⟨placeL l, placeL (l ++ [49]), oneN l, rep_S t1.ch (by have := t1.len; omega), run32 (by have := t1.len; omega) t1.ok, f21 t1, f20 t1, .inl ⟨l, rfl, t1, rfl, rfl, rfl⟩⟩
  · have ns := odd_noStr _ hd
    have rp := rep_odd _ hd
    refine ⟨none, none, none, rp, run32x ns, ?_, ?_, .inr ⟨ns, rfl, rfl, rfl⟩⟩
    · rw [run21n (run24x ns), told_badP rp.r]
      rfl
    · rw [run20n (run23x ns), told_badP rp.r]
      rfl
theorem ok49 : okL [49] := fun c hc => by
  have : c = 49 := by simpa using hc
  omega
theorem rectO_kind (p q : Option (Nat × Nat)) : rectO p q = .none ∨ ∃ a b c d : Int, rectO p q = .tuple [.int a, .int b, .int c, .int d] := by
  cases p with
  | none => exact .inl rfl
  | some a =>
    cases q with
    | none => exact .inl rfl
    | some b =>
      obtain ⟨a1, a2⟩ := a
      obtain ⟨b1, b2⟩ := b
      have e : rectO (some (a1, a2)) (some (b1, b2)) = if a1 ≤ b1 ∧ a2 ≤ b2 then .tuple [.int a1, .int a2, .int b1, .int b2] else .none := rfl
      rw [e]
      split
      · exact .inr ⟨_, _, _, _, rfl⟩
      · exact .inl rfl
theorem plD_dueR {d x : PyData} (h : RepOk d) (k : x = .none ∨ ∃ a b c e : Int, x = .tuple [.int a, .int b, .int c, .int e]) : plD (dueR d x) = true := by
  rcases k with rfl | ⟨a, b, c, e, rfl⟩
  · exact plD_two rect_ok h.p
  · exact pl3 _ _ _ _
theorem catT {a b : List PyData} (h : a.length + b.length ≤ 100) : opB .Add (.tuple a) (.tuple b) = .ret (.tuple (a ++ b)) := by
  show (if a.length + b.length ≤ big then T.ret (PyData.tuple (a ++ b)) else .stuck) = _
  rw [if_pos (by show a.length + b.length ≤ 100000; omega)]
theorem both_of {t o : PyData} {H N H' N' : Option (Nat × Nat)} {C C' : Option Nat} (s : Sees t H N C) (s' : Sees o H' N' C') : ∃ (bt bo : Bool) (x b : PyData) (bb : Bool) (F : Option (Nat × Nat)),
    isiD (tyName "str") t = .ret (.bool bt) ∧ isiD (tyName "str") o = .ret (.bool bo) ∧ (bt = true → bo = true → opB .Add t (.str ":") = .ret x ∧ opB .Add x o = .ret b) ∧ (bt = false ∨ bo = false → b = o) ∧
    isiD (tyName "str") b = .ret (.bool bb) ∧ (bb = true → F = H') ∧ (bb = false → F = none) ∧ RepOk b ∧ told (m22 [b]) = .ret (dueR b (rectO H F)) := by
  rcases s.kind with ⟨l, rfl, t1, rfl, _, _⟩ | ⟨ns, rfl, _, _⟩
  · rcases s'.kind with ⟨l', rfl, t1', rfl, _, _⟩ | ⟨ns', rfl, _, _⟩
    · have k1 := t1.len
      have k2 := t1'.len
      have e1 := cat_S (a := l) (b := [58]) (by simp; show l.length + 1 ≤ 100000; omega)
      have e2 := cat_S (a := l ++ [58]) (b := l') (by simp; show l.length + 1 + l'.length ≤ 100000; omega)
      refine ⟨true, true, .str (S (l ++ [58])), .str (S (l ++ 58 :: l')), true, placeL l', isi_str_str _, isi_str_str _, fun _ _ => ⟨by rw [colon_S]; exact e1, by rw [e2]; simp⟩, fun z => by simp at z, isi_str_str _, fun _ => rfl, fun z => by simp at z, rep_S (both_ch t1 t1') (by simp; omega), f22a t1 t1'⟩
    · exact ⟨true, false, .none, o, false, none, isi_str_str _, isi_str_not ns', fun _ z => by simp at z, fun _ => rfl, isi_str_not ns', fun z => by simp at z, fun _ => rfl, s'.rep, by rw [rectO_none]; exact f22x ns' s'.rep⟩
  · rcases s'.kind with ⟨l', rfl, t1', rfl, _, _⟩ | ⟨ns', rfl, _, _⟩
    · exact ⟨false, true, .none, _, true, placeL l', isi_str_not ns, isi_str_str _, fun z => by simp at z, fun _ => rfl, isi_str_str _, fun _ => rfl, fun z => by simp at z, s'.rep, f22b t1'⟩
    · exact ⟨false, false, .none, o, false, none, isi_str_not ns, isi_str_not ns', fun z => by simp at z, fun _ => rfl, isi_str_not ns', fun z => by simp at z, fun _ => rfl, s'.rep, f22x ns' s'.rep⟩
theorem run35 : Ok (m35 [drawD]) 24 fun d => d = .bool true := by
  unfold m35 runDef
  simp only [cl35]
  refine ok_mono (n := 24 + 0) (ok_bind (Q := fun o => o = .rt (.bool true)) (ok_bind (n := 24) (k := 0) (Q := fun o => ∃ t o', IsText t ∧ IsText o' ∧ o = .nx [some drawD, some o', none, none, none, none, none, none, some t]) ?s1 ?rest) ?out) (by decide) fun o h => h
  case out =>
    rintro o rfl
    exact ok_ret rfl
  case s1 =>
    simp [getV_at, T.bind_ret]
    refine ok_mono (n := 24 + 0) (ok_bind (Q := fun d => ∃ t o', IsText t ∧ IsText o' ∧ d = .tuple [t, o']) (ok_mono (n := 24 + 0) (ok_bind (Q := fun ds => ∃ t o', IsText t ∧ IsText o' ∧ ds = [t, o']) (ok_bind (n := 12) (k := 12) run33 fun x hx => ?a) ?b) (by decide) fun _ h => h) ?c) (by decide) fun _ h => h
    case a =>
      refine ok_mono (n := 12 + 0) (ok_bind (Q := fun ys => ∃ y, IsText y ∧ ys = [y]) (ok_mono (n := 12 + 0) (ok_bind run33 fun y hy => ok_ret ⟨y, hy, rfl⟩) (by decide) fun _ h => h) fun ys hy => ?_) (by decide) fun _ h => h
      obtain ⟨y, hy, rfl⟩ := hy
      exact ok_ret ⟨x, y, hx, hy, rfl⟩
    case b =>
      rintro ds ⟨t, o', h1, h2, rfl⟩
      rw [if_pos (by show 2 ≤ 100000; decide)]
      exact ok_ret ⟨t, o', h1, h2, rfl⟩
    case c =>
      rintro d ⟨t, o', h1, h2, rfl⟩
      exact ok_mono (n := 0) (ok_eq (o := .nx [some drawD, some o', none, none, none, none, none, none, some t]) rfl) (Nat.le_refl _) fun o e => ⟨t, h1, o', h2, e⟩
  case rest =>
    rintro o ⟨t, o', ht, ho, rfl⟩
    obtain ⟨H, N, C, s⟩ := sees_of ht
    obtain ⟨H', N', C', s'⟩ := sees_of ho
    simp only [seqT_nx]
    refine ok_eq ?_
    rw [step_eq (ρ := [some drawD, some o', some (optD H), none, none, none, none, none, some t]) ?s2]
    case s2 =>
      simp [getV_at, T.bind_ret, s.f32]
    rw [step_eq (ρ := [some drawD, some o', some (optD H), none, none, none, none, none, some t]) ?s3]
    case s3 =>
      have pd := ne_self (plD_due s.rep H)
      cases H with
      | none =>
        simp [getV_at, T.bind_ret, s.f21, opC_isntNo, isNo, optD, asB_bool, f_repr1, s.rep.r, lb2, dueP] at pd ⊢
        simp [pd, T.bind_ret, asB_bool]
      | some p =>
        obtain ⟨r, c⟩ := p
        simp [getV_at, T.bind_ret, s.f21, opC_isntNo, isNo, optD, asB_bool, f_repr1, s.rep.r, lb1, dueP] at pd ⊢
        simp [pd, T.bind_ret, asB_bool]
    rw [step_eq (ρ := [some drawD, some o', some (optD H), some (optD N), none, none, none, none, some t]) ?s4]
    case s4 =>
      rcases s.kind with ⟨l, rfl, t1, _, rfl, _⟩ | ⟨ns, _, rfl, _⟩
      · have e := cat_S (a := l) (b := [49]) (by have := t1.len; simp; show l.length + 1 ≤ 100000; omega)
        have r := run32 (l := l ++ [49]) (by have := t1.len; simp; omega) (t1.ok.app ok49)
        simp [getV_at, T.bind_ret, isi_str_str, truD, one_S, e, r]
      · simp [getV_at, T.bind_ret, isi_str_not ns, truD, optD]
    rw [step_eq (ρ := [some drawD, some o', some (optD H), some (optD N), some (.bool C.isSome), none, none, none, some t]) ?s5]
    case s5 =>
      rcases s.kind with ⟨l, rfl, t1, _, rfl, rfl⟩ | ⟨ns, _, rfl, rfl⟩
      · cases eN : placeL (l ++ [49]) with
        | none =>
          have : oneN l = none := by
            unfold oneN
            rw [eN]
          rw [this]
          simp [getV_at, T.bind_ret, opC_isntNo, isNo, optD, asB_bool]
        | some p =>
          obtain ⟨r, c⟩ := p
          obtain ⟨_, _, h2, h3⟩ := placeL_bound eN
          have e31 := run31 c (by omega) (by omega)
          have okc : okL (colL c) := okL.cap (colL_ok h2 h3).2.2.1
          have eq := opC_eqS okc t1.ok
          have : (oneN l).isSome = decide (colL c = l) := by
            unfold oneN
            rw [eN]
            by_cases hc : colL c = l <;> simp [hc]
          rw [this]
          simp [getV_at, T.bind_ret, opC_isntNo, isNo, optD, asB_bool, opI_1, e31, eq]
      · simp [getV_at, T.bind_ret, opC_isntNo, isNo, optD, asB_bool]
    rw [step_eq (ρ := [some drawD, some o', some (optD H), some (optD N), some (.bool C.isSome), none, none, none, some t]) ?s6]
    case s6 =>
      have pd := ne_self (plD_dueC s.rep C)
      cases C with
      | none =>
        simp [getV_at, T.bind_ret, s.f20, truD, asB_bool, f_repr1, s.rep.r, lb2, dueC] at pd ⊢
        simp [pd, T.bind_ret, asB_bool]
      | some c =>
        have hN : ∃ r, N = some (r, c) := by
          rcases s.kind with ⟨l, rfl, t1, _, rfl, hC⟩ | ⟨ns, _, rfl, hC⟩
          · unfold oneN at hC
            split at hC
            · rename_i r c' e
              split at hC
              · cases hC
                exact ⟨r, e⟩
              · cases hC
            · cases hC
          · cases hC
        obtain ⟨r, rfl⟩ := hN
        simp [getV_at, T.bind_ret, s.f20, truD, asB_bool, lb1, dueC, optD, opI_1] at pd ⊢
        simp [pd, T.bind_ret, asB_bool]
    obtain ⟨bt, bo, x, b, bb, F, i1, i2, h1, h2, i3, h3, h4, rb, h22⟩ := both_of s s'
    rw [step_eq (ρ := [some drawD, some o', some (optD H), some (optD N), some (.bool C.isSome), none, none, some b, some t]) ?s7]
    case s7 =>
      cases bt with
      | true =>
        cases bo with
        | true =>
          obtain ⟨k1, k2⟩ := h1 rfl rfl
          simp [getV_at, T.bind_ret, i1, i2, truD, k1, k2]
        | false => simp [getV_at, T.bind_ret, i1, i2, truD, h2 (.inr rfl)]
      | false => simp [getV_at, T.bind_ret, i1, i2, truD, h2 (.inl rfl)]
    rw [step_eq (ρ := [some drawD, some o', some (optD H), some (optD N), some (.bool C.isSome), some (optD F), none, some b, some t]) ?s8]
    case s8 =>
      cases bb with
      | true => simp [getV_at, T.bind_ret, i3, truD, s'.f32, h3 rfl]
      | false => simp [getV_at, T.bind_ret, i3, truD, h4 rfl, optD]
    rw [step_eq (ρ := [some drawD, some o', some (optD H), some (optD N), some (.bool C.isSome), some (optD F), some (.tuple [.str "rectangle", .str b.shown]), some b, some t]) ?s9]
    case s9 =>
      simp [getV_at, T.bind_ret, f_repr1, rb.r, lb2]
    rw [step_eq (ρ := [some drawD, some o', some (optD H), some (optD N), some (.bool C.isSome), some (optD F), some (dueR b (rectO H F)), some b, some t]) ?s10]
    case s10 =>
      cases H with
      | none => simp [getV_at, T.bind_ret, opC_isntNo, isNo, optD, asB_bool, rectO, dueR]
      | some p =>
        obtain ⟨r, c⟩ := p
        cases F with
        | none => simp [getV_at, T.bind_ret, opC_isntNo, isNo, optD, asB_bool, rectO, dueR]
        | some q =>
          obtain ⟨r', c'⟩ := q
          have e : rectO (some (r, c)) (some (r', c')) = if r ≤ r' ∧ c ≤ c' then .tuple [.int r, .int c, .int r', .int c'] else .none := rfl
          rw [e]
          by_cases k1 : r ≤ r'
          · by_cases k2 : c ≤ c'
            · simp [getV_at, T.bind_ret, opC_isntNo, isNo, optD, asB_bool, opI_0, opI_1, opC_le, k1, k2, dueR, catT, lb1, seqT_nx]
            · simp [getV_at, T.bind_ret, opC_isntNo, isNo, optD, asB_bool, opI_0, opI_1, opC_le, k1, k2, dueR]
          · simp [getV_at, T.bind_ret, opC_isntNo, isNo, optD, asB_bool, opI_0, opI_1, opC_le, k1, dueR]
    have pd := eq_self (plD_dueR rb (rectO_kind H F))
    simp [getV_at, T.bind_ret, h22, pd, seqT_rt]
end K01

-- K16
set_option maxRecDepth 100000
set_option maxHeartbeats 4000000
set_option linter.all false
set_option linter.unusedSimpArgs false
namespace K01
open PySem L2 Pv SX TL NumText
def odd9 : List PyData := [.tuple [.int 0, .int 1], .tuple [.int 1, .int 0], .tuple [.int 10000, .int 1], .tuple [.int 1, .int 703], .tuple [.bool true, .int 1], .tuple [.int 1, .int 1, .int 1], .list [.int 1, .int 1], .none, .int 5]
def wrong7 : List PyData := [.int 0, .int 703, .int (-1), .bool true, .none, .str "A", .tuple [.int 1]]
structure Odd (d : PyData) : Prop where
  rp : RepOk d
  a : m18 [d] = badP d
  b : m13 [d] = .ret (.bool false)
  c : m14 [d] = .ret (.bool false)
theorem odd_all : ∀ d ∈ odd9, Odd d := by
  intro d hd
  simp only [odd9, List.mem_cons, List.not_mem_nil, or_false] at hd
  rcases hd with rfl | rfl | rfl | rfl | rfl | rfl | rfl | rfl | rfl <;> exact ⟨⟨if_pos (by decide +kernel), by decide +kernel⟩, by rfl, by rfl, by rfl⟩
structure Wrong (d : PyData) : Prop where
  rp : RepOk d
  a : m17 [d] = badP d
theorem wrong_all : ∀ d ∈ wrong7, Wrong d := by
  intro d hd
  simp only [wrong7, List.mem_cons, List.not_mem_nil, or_false] at hd
  rcases hd with rfl | rfl | rfl | rfl | rfl | rfl | rfl <;> exact ⟨⟨if_pos (by decide +kernel), by decide +kernel⟩, by rfl⟩
theorem rect1 : m14 [.tuple [.int 2, .int 1, .int 1, .int 1]] = .ret (.bool false) := by rfl
theorem rect2 : m14 [.tuple [.int 1, .int 1, .int 1, .int 703]] = .ret (.bool false) := by rfl
theorem idx_in {xs : List PyData} {i : Int} (h0 : 0 ≤ i) (h1 : i < xs.length) : ∃ d, d ∈ xs ∧ Pv.opI (.list xs) (.int i) = .ret d := by
  have hn : i.toNat < xs.length := by omega
  exact ⟨xs[i.toNat], List.getElem_mem hn, at_L h0 (List.getElem?_eq_getElem hn)⟩
theorem plD_told {a b : Str} (ha : PyData.strOk a = true) (hb : PyData.strOk b = true) : plD (.list [.tuple [.str a, .str b], .bool false, .bool false]) = true := by
  have e : PyData.canLay0 (.list [.tuple [.str a, .str b], .bool false, .bool false]) = true := by simp [PyData.canLay0, PyData.canLayAll0, ha, hb]
  unfold plD SeqAt.shaped
  rw [e, show PyData.depth (.list [.tuple [.str a, .str b], .bool false, .bool false]) = 2 by rfl, show noDict (.list [.tuple [.str a, .str b], .bool false, .bool false]) = true by rfl]
  rfl
end K01

-- K17
set_option maxRecDepth 100000
set_option maxHeartbeats 4000000
set_option linter.all false
set_option linter.unusedSimpArgs false
namespace K01
open PySem L2 Pv SX TL NumText
/-! ### one place and one rectangle -/
structure G2 (r c : Nat) : Prop where
  h0 : 1 ≤ r
  h1 : r ≤ 9999
  h2 : 1 ≤ c
  h3 : c ≤ 702
theorem G2.i {r c : Nat} (g : G2 r c) : InG r c := ⟨by have := g.h0; omega, by have := g.h1; omega, by have := g.h2; omega, by have := g.h3; omega⟩
def nmL (r c : Nat) : List Nat := colL c ++ numL r
theorem G2.good {r c : Nat} (g : G2 r c) : Good (colL c) (numL r) := name_good g.h0 g.h1 g.h2 g.h3
theorem G2.ok {r c : Nat} (g : G2 r c) : okL (nmL r c) := (okL.cap g.good.ac).app (okL.dig g.good.dd)
theorem G2.len {r c : Nat} (g : G2 r c) : (nmL r c).length ≤ 6 := by
  have := g.good.a1
  have := g.good.d1
  simp [nmL]
  omega
theorem G2.no58 {r c : Nat} (g : G2 r c) : 58 ∉ nmL r c := fun h => by
  rcases List.mem_append.mp h with h | h
  · have := cap_iff.mp (g.good.ac 58 h)
    omega
  · have := dig_iff.mp (g.good.dd 58 h)
    omega
theorem G2.place {r c : Nat} (g : G2 r c) : placeL (nmL r c) = some (r, c) := name_place g.h0 g.h1 g.h2 g.h3
theorem e31 {r c : Nat} (g : G2 r c) : m31 [.int c] = .ret (.str (S (colL c))) := by
  have := run31 c (by have := g.h2; omega) (by have := g.h3; omega)
  rwa [Int.toNat_natCast] at this
theorem e17 {r c : Nat} (g : G2 r c) : m17 [.int c] = .ret (.str (S (colL c))) := by
  have := run17 c (by have := g.h2; omega) (by have := g.h3; omega)
  rwa [Int.toNat_natCast] at this
theorem estr {r c : Nat} (g : G2 r c) : f_str [.int r] = .ret (.str (S (numL r))) := by
  have := fmt_I (r := r) (by omega) (by have := g.h1; omega)
  rw [Int.toNat_natCast] at this
  exact this
theorem e20 {r c : Nat} (g : G2 r c) : m20 [.str (S (colL c))] = .ret (.int c) := by
  have := run20g (run23g g.good.a0 g.good.a1 g.good.ac)
  rwa [(colL_ok g.h2 g.h3).2.2.2] at this
theorem e18 {r c : Nat} (g : G2 r c) : m18 [.tuple [.int r, .int c]] = .ret (.str (S (nmL r c))) := by
  have := run18 g.i
  simp only [nameL, Int.toNat_natCast] at this
  exact this
theorem e21 {r c : Nat} (g : G2 r c) : m21 [.str (S (nmL r c))] = .ret (.tuple [.int r, .int c]) := by
  have := run24 (l := nmL r c) (by have := g.len; omega) g.ok
  rw [g.place] at this
  exact run21g this
theorem e13 {r c : Nat} (g : G2 r c) : m13 [.tuple [.int r, .int c]] = .ret (.bool true) := run13i g.i
def faL (r c r' c' : Nat) : List Nat := nmL r c ++ 58 :: nmL r' c'
theorem e19 {r c r' c' : Nat} (g : G2 r c) (k : G2 r' c') (h : r ≤ r') (h' : c ≤ c') : m19 [.tuple [.int r, .int c, .int r', .int c']] = .ret (.str (S (faL r c r' c'))) := by
  have := run19 g.i k.i (by omega) (by omega)
  simp only [nameL, Int.toNat_natCast] at this
  rw [this]
  simp [faL, nmL]
theorem faL_ok {r c r' c' : Nat} (g : G2 r c) (k : G2 r' c') : okL (faL r c r' c') := g.ok.app fun x hx => by
  rcases List.mem_cons.mp hx with rfl | h
  · omega
  · exact k.ok x h
theorem e22 {r c r' c' : Nat} (g : G2 r c) (k : G2 r' c') (h : r ≤ r') (h' : c ≤ c') : m22 [.str (S (faL r c r' c'))] = .ret (.tuple [.int r, .int c, .int r', .int c']) := by
  have := run25c (a := nmL r c) (b := nmL r' c') (by have := g.len; have := k.len; simp only [List.length_append, List.length_cons] at *; omega) (faL_ok g k) g.no58
  rw [g.place, k.place] at this
  have e : rectO (some (r, c)) (some (r', c')) = if r ≤ r' ∧ c ≤ c' then .tuple [.int r, .int c, .int r', .int c'] else .none := rfl
  rw [e, if_pos ⟨h, h'⟩] at this
  exact run22g this
theorem e14 {r c r' c' : Nat} (g : G2 r c) (k : G2 r' c') (h : r ≤ r') (h' : c ≤ c') : m14 [.tuple [.int r, .int c, .int r', .int c']] = .ret (.bool true) := by
  rw [run14 g.i k.i]
  simp [h, h']
theorem ecat1 {r c : Nat} (g : G2 r c) : opB .Add (.str (S (colL c))) (.str (S (numL r))) = .ret (.str (S (nmL r c))) := cat_S (by
  have := g.len
  simp only [nmL, List.length_append] at this
  show (colL c).length + (numL r).length ≤ 100000
  omega)
theorem ecat2 {r c : Nat} (g : G2 r c) : opB .Add (.str (S (nmL r c))) (.str ":") = .ret (.str (S (nmL r c ++ [58]))) := by
  rw [colon_S]
  exact cat_S (by
    have := g.len
    show (nmL r c).length + 1 ≤ 100000
    omega)
theorem ecat3 {r c r' c' : Nat} (g : G2 r c) (k : G2 r' c') : opB .Add (.str (S (nmL r c ++ [58]))) (.str (S (colL c'))) = .ret (.str (S (nmL r c ++ [58] ++ colL c'))) := cat_S (by
  have := g.len
  have := k.good.a1
  rw [List.length_append]
  show (nmL r c).length + 1 + (colL c').length ≤ 100000
  omega)
theorem ecat4 {r c r' c' : Nat} (g : G2 r c) (k : G2 r' c') : opB .Add (.str (S (nmL r c ++ [58] ++ colL c'))) (.str (S (numL r'))) = .ret (.str (S (faL r c r' c'))) := by
  rw [cat_S (by
    have := g.len
    have := k.good.a1
    have := k.good.d1
    rw [List.length_append, List.length_append]
    show (nmL r c).length + 1 + (colL c').length + (numL r').length ≤ 100000
    omega)]
  simp [faL, nmL]
theorem pt2 (r c : Int) : plD (.tuple [.int r, .int c]) = true := by rfl
theorem pt4 (a b c d : Int) : plD (.tuple [.int a, .int b, .int c, .int d]) = true := by rfl
theorem ptI (c : Int) : plD (.int c) = true := by rfl
end K01

-- K15
set_option maxRecDepth 100000
set_option maxHeartbeats 4000000
set_option linter.all false
set_option linter.unusedSimpArgs false
namespace K01
open PySem L2 Pv SX TL NumText
theorem ok_step {S : T Out} {P : En → Prop} {R : En → T Out} {n k : Nat} {Q : Out → Prop} (h : Ok S n fun o => ∃ ρ, o = .nx ρ ∧ P ρ) (hf : ∀ ρ, P ρ → Ok (R ρ) k Q) : Ok (T.bind S fun o => seqT o R) (n + k) Q := ok_bind h fun o ho => by
  obtain ⟨ρ, rfl, hp⟩ := ho
  exact hf ρ hp
/-- the law's fifteen names -/
def J0 (ρ : En) : Prop := ∃ a0 a1 a2 a3 a4 a5 a6 a7 a8 a9 a10 a11 a12 a13 a14, ρ = [a0, a1, a2, a3, a4, a5, a6, a7, a8, a9, a10, a11, a12, a13, a14]
def J1 (ρ : En) : Prop := ∃ a0 a1 a2 a4 a5 a6 a7 a8 a9 a10 a11 a12 a13 a14, ρ = [a0, a1, a2, some drawD, a4, a5, a6, a7, a8, a9, a10, a11, a12, a13, a14]
def Item (d : PyData) : Prop := ∃ k c : Int, d = .tuple [.int k, .int c] ∧ 0 ≤ k ∧ k ≤ 1000000
theorem allInts_some : ∀ ns : List Int, ∃ s, allInts (ns.map .int) = some s
  | [] => ⟨0, rfl⟩
  | n :: ns => by
    obtain ⟨s, h⟩ := allInts_some ns
    refine ⟨n + s, ?_⟩
    show (allInts (ns.map .int)).map (n + ·) = _
    rw [h]
    rfl
theorem enum_item : ∀ (ns : List Int) (k : Nat), ∀ d ∈ enumD (ns.map .int) k, ∃ (i : Nat) (c : Int), d = .tuple [.int i, .int c] ∧ i < k + ns.length
  | [], k, d, h => nomatch h
  | n :: ns, k, d, h => by
    rcases List.mem_cons.mp (show d ∈ PyData.tuple [.int (k : Nat), .int n] :: enumD (ns.map .int) (k + 1) from h) with rfl | h
    · exact ⟨k, n, rfl, by simp⟩
    · obtain ⟨i, c, e, hi⟩ := enum_item ns (k + 1) d h
      exact ⟨i, c, e, by simp; omega⟩
theorem cut6 (ns : List Int) : opS (.list (ns.map .int)) none (some 6) = .ret (.list ((ns.take 6).map .int)) := by
  show T.ret (PyData.list (cutD (ns.map .int) none (some 6))) = _
  have e : cutD (ns.map PyData.int) none (some 6) = (ns.take 6).map .int := by
    have e6 : HT.sIx (ns.map PyData.int).length (ns.map PyData.int).length (some ((6 : Nat) : Int)) = min 6 (ns.map PyData.int).length := HT.sIx_nat _ _ 6
    have e7 : HT.sIx (ns.map PyData.int).length (ns.map PyData.int).length (some (6 : Int)) = min 6 (ns.map PyData.int).length := e6
    unfold cutD
    rw [HT.sIx_none, e7, List.drop_zero, Nat.sub_zero, List.length_map, ← List.map_take]
    by_cases h : 6 ≤ ns.length
    · rw [Nat.min_eq_left h]
    · rw [Nat.min_eq_right (by omega), List.take_of_length_le (Nat.le_refl _), List.take_of_length_le (by omega)]
  rw [e]
theorem draw_at {c k : Int} (h0 : 0 ≤ k) (h1 : k ≤ 1000000) : drawM [.int c, .int k] = .ret drawD := by
  show (if 0 ≤ k ∧ k ≤ 1000000 then T.ret drawD else .stuck) = _
  rw [if_pos ⟨h0, h1⟩]
theorem range4 : rangeD1 (.int 4) = .ret [.int 0, .int 1, .int 2, .int 3] := by rfl
theorem main0 (ns : List Int) (h : ns.length ≤ 63) : Ok (m36 [.list (ns.map .int)]) 2000 fun d => d = .bool true := by
  unfold m36 runDef
  simp only [cl36]
  refine ok_mono (n := 1990 + 0) (ok_bind (Q := fun o => o = .rt (.bool true)) (ok_step (n := 1990) (k := 0) (P := J0) (ok_bind (n := 0) (k := 1990) (Q := fun ds => (∀ d ∈ ds, Item d) ∧ ds.length ≤ 7) ?iter fun ds hds => ok_mono (ok_forIn (n := 130) (I := J0) (D := Item) ?step ds _ hds.1 ?init) ?len ?w) ?ret) ?out) (by decide) fun _ h => h
  case out =>
    rintro o rfl
    exact ok_ret rfl
  case w => exact fun o ho => ho
  case len =>
    have := hds.2
    omega
  case ret =>
    rintro ρ ⟨a0, a1, a2, a3, a4, a5, a6, a7, a8, a9, a10, a11, a12, a13, a14, rfl⟩
    simp [T.bind_ret, seqT_rt]
    exact ok_ret rfl
  case init => exact ⟨_, _, _, _, _, _, _, _, _, _, _, _, _, _, _, rfl⟩
  case iter =>
    obtain ⟨s, hs⟩ := allInts_some ns
    have e1 : f_sum [.list (ns.map .int)] = .ret (.int s) := by
      show T.ofO ((allInts (ns.map .int)).map PyData.int) = _
      rw [hs]
      rfl
    simp [getV_at, T.bind_ret, asI_int, e1, lb1]
    rw [cut6]
    have e2 : opB .Add (.list ((ns.take 6).map .int)) (.list [.int s]) = .ret (.list ((ns.take 6 ++ [s]).map .int)) := by
      have hl : ((ns.take 6).map PyData.int).length + ([PyData.int s] : List PyData).length ≤ big := by
        simp
        show min 6 ns.length + 1 ≤ 100000
        omega
      show (if ((ns.take 6).map PyData.int).length + ([PyData.int s] : List PyData).length ≤ big then T.ret (PyData.list ((ns.take 6).map PyData.int ++ [PyData.int s])) else .stuck) = _
      rw [if_pos hl, List.map_append]
      rfl
    simp only [T.bind_ret, e2]
    show Ok (T.ret (enumD ((ns.take 6 ++ [s]).map .int) 0)) 0 _
    have hl : (ns.take 6 ++ [s]).length ≤ 7 := by
      simp
      omega
    refine ok_ret ⟨fun d hd => ?_, by rw [enum_len, List.length_map]; exact hl⟩
    obtain ⟨i, c, rfl, hi⟩ := enum_item _ 0 d hd
    exact ⟨i, c, rfl, by omega, by omega⟩
  case step =>
    rintro d ρ ⟨k, c, rfl, k0, k1⟩ ⟨a0, a1, a2, a3, a4, a5, a6, a7, a8, a9, a10, a11, a12, a13, a14, rfl⟩
    simp [T.bind_ret, setAll, getV_at, draw_at k0 k1, seqT_nx, range4]
    refine ok_mono (n := 120 + 2) (ok_step (n := 120) (k := 2) (P := J1) (ok_mono (n := 30 * 4) (ok_forIn (n := 30) (I := J1) (D := fun _ => True) ?inn [.int 0, .int 1, .int 2, .int 3] _ (fun _ _ => trivial) ⟨_, _, _, _, _, _, _, _, _, _, _, _, _, _, rfl⟩) (by decide) fun o ho => ho) ?rest) (by decide) fun o ho => ho
    case inn =>
      rintro d ρ _ ⟨a0, a1, a2, a4, a5, a6, a7, a8, a9, a10, a11, a12, a13, a14, rfl⟩
      simp [T.bind_ret, getV_at, seqT_nx]
      refine ok_mono (n := 4 + 26) (ok_step (n := 4) (k := 26) (P := fun ρ => ∃ r c : Nat, (1 ≤ r ∧ r ≤ 9999 ∧ 1 ≤ c ∧ c ≤ 702) ∧ ρ = [a0, a1, a2, some drawD, some d, some (.int r), some (.int c), a7, a8, a9, a10, a11, a12, a13, a14]) ?p1 ?q1) (by decide) fun o ho => ho
      case p1 =>
        refine ok_mono (n := 4 + 0) (ok_bind (Q := fun ds => ∃ r c : Nat, (1 ≤ r ∧ r ≤ 9999 ∧ 1 ≤ c ∧ c ≤ 702) ∧ ds = [.int r, .int c]) (ok_bind (n := 2) (k := 2) (run30 (by decide) (by decide)) fun x hx => ?pa) fun ds hds => ?pb) (by decide) fun _ h => h
        case pa =>
          obtain ⟨n, rfl, n0, n1⟩ := hx
          refine ok_mono (n := 2 + 0) (ok_bind (Q := fun ys => ∃ c : Nat, (1 ≤ c ∧ c ≤ 702) ∧ ys = [.int c]) (ok_mono (n := 2 + 0) (ok_bind (run30 (by decide) (by decide)) fun y hy => ?pc) (by decide) fun _ h => h) fun ys hys => ?pd) (by decide) fun _ h => h
          case pc =>
            obtain ⟨m, rfl, m0, m1⟩ := hy
            exact ok_ret ⟨m.toNat, by omega, by rw [Int.toNat_of_nonneg (by omega)]⟩
          case pd =>
            obtain ⟨c, hc, rfl⟩ := hys
            exact ok_ret ⟨n.toNat, c, by omega, by rw [Int.toNat_of_nonneg (by omega)]⟩
        case pb =>
          obtain ⟨r, c, hrc, rfl⟩ := hds
          exact ok_ret ⟨_, rfl, r, c, hrc, rfl⟩
      case q1 =>
        rintro ρ ⟨r, c, ⟨r0, r1, c0, c1⟩, rfl⟩
        refine ok_mono (n := 2 + 24) (ok_step (n := 2) (k := 24) (P := fun ρ => ∃ r' c' : Nat, (r ≤ r' ∧ r' ≤ 9999 ∧ c ≤ c' ∧ c' ≤ 702) ∧ ρ = [a0, a1, a2, some drawD, some d, some (.int r), some (.int c), some (.int r'), some (.int c'), a9, a10, a11, a12, a13, a14]) ?p2 ?q2) (by decide) fun o ho => ho
        case p2 =>
          have d1 := dig_at (m := 10000 - (r : Int)) (by omega) (by omega)
          have d2 := dig_at (m := 703 - (c : Int)) (by omega) (by omega)
          simp [T.bind_ret, getV_at, opB_sub, d1, d2, bind_pick, opB_add]
          refine ok_pick (n := 1) fun i i0 i1 => ?_
          refine ok_pick (n := 0) fun j j0 j1 => ?_
          refine ok_ret ⟨_, rfl, (r + i).toNat, (c + j).toNat, by omega, ?_⟩
          rw [Int.toNat_of_nonneg (by omega), Int.toNat_of_nonneg (by omega)]
        case q2 =>
          rintro ρ ⟨r', c', ⟨r2, r3, c2, c3⟩, rfl⟩
          have g : G2 r c := ⟨r0, r1, c0, c1⟩
          have k : G2 r' c' := ⟨by omega, r3, by omega, c3⟩
          rw [step_eq (ρ := [a0, a1, a2, some drawD, some d, some (.int r), some (.int c), some (.int r'), some (.int c'), some (.str (S (nmL r c))), a10, a11, a12, a13, a14]) ?n1]
          case n1 => simp [getV_at, T.bind_ret, e31 g, estr g, ecat1 g]
          rw [step_eq (ρ := [a0, a1, a2, some drawD, some d, some (.int r), some (.int c), some (.int r'), some (.int c'), some (.str (S (nmL r c))), a10, a11, a12, a13, a14]) ?n2]
          case n2 =>
            have q1 := ne_self (plD_S (okL.cap g.good.ac))
            have q2 := ne_self (ptI c)
            simp [getV_at, T.bind_ret, e31 g, e17 g, e20 g, q1, q2, asB_bool]
          rw [step_eq (ρ := [a0, a1, a2, some drawD, some d, some (.int r), some (.int c), some (.int r'), some (.int c'), some (.str (S (nmL r c))), a10, a11, a12, a13, a14]) ?n3]
          case n3 =>
            have q1 := ne_self (plD_S g.ok)
            have q2 := ne_self (pt2 r c)
            simp [getV_at, T.bind_ret, e18 g, e21 g, e13 g, q1, q2, asB_bool, truD, lb2]
          rw [step_eq (ρ := [a0, a1, a2, some drawD, some d, some (.int r), some (.int c), some (.int r'), some (.int c'), some (.str (S (nmL r c))), some (.tuple [.int r, .int c, .int r', .int c']), some (.str (S (faL r c r' c'))), a12, a13, a14]) ?n4]
          case n4 =>
            simp [getV_at, T.bind_ret, ecat2 g, e31 k, ecat3 g k, estr k, ecat4 g k, lb4, -List.append_assoc]
          rw [step_eq (ρ := [a0, a1, a2, some drawD, some d, some (.int r), some (.int c), some (.int r'), some (.int c'), some (.str (S (nmL r c))), some (.tuple [.int r, .int c, .int r', .int c']), some (.str (S (faL r c r' c'))), a12, a13, a14]) ?n5]
          case n5 =>
            have q1 := ne_self (plD_S (faL_ok g k))
            have q2 := ne_self (pt4 r c r' c')
            simp [getV_at, T.bind_ret, e19 g k r2 c2, e22 g k r2 c2, e14 g k r2 c2, q1, q2, asB_bool, truD]
          refine ok_mono (n := 24 + 0) (ok_step (n := 24) (k := 0) (P := fun ρ => ρ = [a0, a1, a2, some drawD, some d, some (.int r), some (.int c), some (.int r'), some (.int c'), some (.str (S (nmL r c))), some (.tuple [.int r, .int c, .int r', .int c']), some (.str (S (faL r c r' c'))), a12, a13, a14]) ?n6 ?n7) (by decide) fun _ h => h
          case n6 =>
            simp [getV_at, T.bind_ret]
            refine ok_mono (n := 24 + 0) (ok_bind (Q := fun k => k = false) (ok_mono (n := 24 + 0) (ok_bind (Q := fun k => k = true) (ok_mono (n := 24 + 0) (ok_bind run35 fun d hd => (by subst hd; exact ok_ret rfl)) (by decide) fun _ h => h) fun k hk => ok_ret (by rw [hk]; rfl)) (by decide) fun _ h => h) fun k hk => ?n8) (by decide) fun _ h => h
            case n8 =>
              subst hk
              exact ok_ret rfl
          case n7 =>
            rintro ρ rfl
            exact ok_ret ⟨_, rfl, _, _, _, _, _, _, _, _, _, _, _, _, _, _, rfl⟩
    case rest =>
      rintro ρ ⟨a0, a1, a2, a4, a5, a6, a7, a8, a9, a10, a11, a12, a13, a14, rfl⟩
      simp [T.bind_ret, getV_at, seqT_nx, lb2, lb3]
      refine ok_mono (n := 1 + 1) (ok_step (n := 1) (k := 1) (P := fun ρ => ∃ x, x ∈ odd9 ∧ ρ = [a0, a1, a2, some drawD, a4, a5, a6, a7, a8, a9, a10, a11, a12, some x, a14]) ?t1 ?t2) (by decide) fun _ h => h
      case t1 =>
        have e9 : [PyData.tuple [PyData.int 0, PyData.int 1], PyData.tuple [PyData.int 1, PyData.int 0], PyData.tuple [PyData.int 10000, PyData.int 1], PyData.tuple [PyData.int 1, PyData.int 703], PyData.tuple [PyData.bool true, PyData.int 1], PyData.tuple [PyData.int 1, PyData.int 1, PyData.int 1], PyData.list [PyData.int 1, PyData.int 1], PyData.none, PyData.int 5] = odd9 := rfl
        rw [e9]
        simp [T.bind_ret, lb9, dig_at, bind_pick]
        refine ok_pick (n := 0) fun i i0 i1 => ?_
        obtain ⟨x, hx, e⟩ := idx_in (xs := odd9) i0 (by simpa [odd9] using i1)
        rw [e]
        exact ok_ret ⟨_, rfl, x, hx, rfl⟩
      case t2 =>
        rintro ρ ⟨x, hx, rfl⟩
        have o9 := odd_all x hx
        rw [step_eq (ρ := [a0, a1, a2, some drawD, a4, a5, a6, a7, a8, a9, a10, a11, some (.list [.tuple [.str "place", .str x.shown], .bool false, .bool false]), some x, a14]) ?u1]
        case u1 => simp [getV_at, T.bind_ret, o9.a, o9.b, o9.c, told_badP o9.rp.r, lb3]
        rw [step_eq (ρ := [a0, a1, a2, some drawD, a4, a5, a6, a7, a8, a9, a10, a11, some (.list [.tuple [.str "place", .str x.shown], .bool false, .bool false]), some x, a14]) ?u2]
        case u2 =>
          have q := ne_self (plD_told place_ok o9.rp.p)
          simp [getV_at, T.bind_ret, f_repr1, o9.rp.r, lb2, lb3, lb4, q, asB_bool, rect1, rect2, truD]
        refine ok_mono (n := 1 + 0) (ok_step (n := 1) (k := 0) (P := fun ρ => ∃ y, y ∈ wrong7 ∧ ρ = [a0, a1, a2, some drawD, a4, a5, a6, a7, a8, a9, a10, a11, some (.list [.tuple [.str "place", .str x.shown], .bool false, .bool false]), some x, some y]) ?u3 ?u4) (by decide) fun _ h => h
        case u3 =>
          have e7 : [PyData.int 0, PyData.int 703, PyData.int (-1), PyData.bool true, PyData.none, PyData.str (Str.ofString "A"), PyData.tuple [PyData.int 1]] = wrong7 := rfl
          simp [T.bind_ret, getV_at, asI_int, lb1, lb7, dig_at, bind_pick, e7]
          refine ok_pick (n := 0) fun i i0 i1 => ?_
          obtain ⟨y, hy, e⟩ := idx_in (xs := wrong7) i0 (by simpa [wrong7] using i1)
          simp only []
          rw [e]
          exact ok_ret ⟨_, rfl, y, hy, rfl⟩
        case u4 =>
          rintro ρ ⟨y, hy, rfl⟩
          have w7 := wrong_all y hy
          rw [step_eq (ρ := [a0, a1, a2, some drawD, a4, a5, a6, a7, a8, a9, a10, a11, some (.list [.tuple [.str "place", .str x.shown], .bool false, .bool false]), some x, some y]) ?u5]
          case u5 =>
            have q := ne_self (plD_two place_ok w7.rp.p)
            simp [getV_at, T.bind_ret, f_repr1, w7.rp.r, w7.a, told_badP w7.rp.r, lb2, q, asB_bool]
          exact ok_ret ⟨_, rfl, _, _, _, _, _, _, _, _, _, _, _, _, _, _, _, rfl⟩
theorem main_ok : ∀ ns : List Int, ns.length ≤ 63 → T.wp (m36 [.list (ns.map .int)]) (2 ^ 20) (fun d _ => d = .bool true) (fun _ _ => False) := fun ns h => ok_wp (main0 ns h) (by decide)
end K01

-- A1
set_option Elab.async false
set_option linter.all false
set_option maxRecDepth 100000
set_option maxHeartbeats 8000000
namespace K01
open PySem PySem.Spec L2 Pv SX
def initOf : Stmt → Stmt
  | .ClassDef (body := b :: _) .. => b
  | s => s
abbrev hl35 : Str := "_law_texts_right" ++ ".<locals>." ++ "<lambda>"
abbrev hl36 : Str := "law" ++ ".<locals>." ++ "<lambda>"
def clP (CP CR : Addr) (c : Str) : Option Addr := if c = "BadPlace" then some CP else if c = "BadRectangle" then some CR else none
def PP (K : PySem.W.Frag) (CP CR tb35 tb36 : Addr) : Pa := ⟨K, [(tb35, hl35), (tb36, hl36)], clP CP CR, [], [], []⟩
theorem sc3 : FnScope (NN 3) ["value", "least", "most"] (defScope (top 3)) := ⟨rfl, rfl, rfl, by decide +kernel, rfl, by decide +kernel, by decide +kernel⟩
theorem bp3 : Plain "is_integer" (top 3) ["value", "least", "most"] := fun kV doc pm an cdv ct us hl => match us, hl with | [_, _, _], _ => rfl
theorem sc4 : FnScope (NN 4) ["text", "signs"] (defScope (top 4)) := ⟨rfl, rfl, rfl, by decide +kernel, rfl, by decide +kernel, by decide +kernel⟩
theorem bp4 : Plain "is_made_of" (top 4) ["text", "signs"] := fun kV doc pm an cdv ct us hl => match us, hl with | [_, _], _ => rfl
theorem sc5 : FnScope (NN 5) ["value", "many"] (defScope (top 5)) := ⟨rfl, rfl, rfl, by decide +kernel, rfl, by decide +kernel, by decide +kernel⟩
theorem bp5 : Plain "is_tuple_of" (top 5) ["value", "many"] := fun kV doc pm an cdv ct us hl => match us, hl with | [_, _], _ => rfl
theorem sc13 : FnScope (NN 13) ["value"] (defScope (top 13)) := ⟨rfl, rfl, rfl, by decide +kernel, rfl, by decide +kernel, by decide +kernel⟩
theorem bp13 : Plain "is_place" (top 13) ["value"] := fun kV doc pm an cdv ct us hl => match us, hl with | [_], _ => rfl
theorem sc14 : FnScope (NN 14) ["value"] (defScope (top 14)) := ⟨rfl, rfl, rfl, by decide +kernel, rfl, by decide +kernel, by decide +kernel⟩
theorem bp14 : Plain "is_rectangle" (top 14) ["value"] := fun kV doc pm an cdv ct us hl => match us, hl with | [_], _ => rfl
theorem sc15 : FnScope (NN 15) ["value"] (defScope (top 15)) := ⟨rfl, rfl, rfl, by decide +kernel, rfl, by decide +kernel, by decide +kernel⟩
theorem bp15 : Plain "check_place" (top 15) ["value"] := fun kV doc pm an cdv ct us hl => match us, hl with | [_], _ => rfl
theorem sc16 : FnScope (NN 16) ["value"] (defScope (top 16)) := ⟨rfl, rfl, rfl, by decide +kernel, rfl, by decide +kernel, by decide +kernel⟩
theorem bp16 : Plain "check_rectangle" (top 16) ["value"] := fun kV doc pm an cdv ct us hl => match us, hl with | [_], _ => rfl
theorem sc17 : FnScope (NN 17) ["column"] (defScope (top 17)) := ⟨rfl, rfl, rfl, by decide +kernel, rfl, by decide +kernel, by decide +kernel⟩
theorem bp17 : Plain "column_name" (top 17) ["column"] := fun kV doc pm an cdv ct us hl => match us, hl with | [_], _ => rfl
theorem sc18 : FnScope (NN 18) ["place"] (defScope (top 18)) := ⟨rfl, rfl, rfl, by decide +kernel, rfl, by decide +kernel, by decide +kernel⟩
theorem bp18 : Plain "place_name" (top 18) ["place"] := fun kV doc pm an cdv ct us hl => match us, hl with | [_], _ => rfl
theorem sc19 : FnScope (NN 19) ["rectangle"] (defScope (top 19)) := ⟨rfl, rfl, rfl, by decide +kernel, rfl, by decide +kernel, by decide +kernel⟩
theorem bp19 : Plain "rectangle_name" (top 19) ["rectangle"] := fun kV doc pm an cdv ct us hl => match us, hl with | [_], _ => rfl
theorem sc23 : FnScope (NN 23) ["text"] (defScope (top 23)) := ⟨rfl, rfl, rfl, by decide +kernel, rfl, by decide +kernel, by decide +kernel⟩
theorem bp23 : Plain "_named_column" (top 23) ["text"] := fun kV doc pm an cdv ct us hl => match us, hl with | [_], _ => rfl
theorem sc24 : FnScope (NN 24) ["text"] (defScope (top 24)) := ⟨rfl, rfl, rfl, by decide +kernel, rfl, by decide +kernel, by decide +kernel⟩
theorem bp24 : Plain "_named_place" (top 24) ["text"] := fun kV doc pm an cdv ct us hl => match us, hl with | [_], _ => rfl
theorem sc25 : FnScope (NN 25) ["text"] (defScope (top 25)) := ⟨rfl, rfl, rfl, by decide +kernel, rfl, by decide +kernel, by decide +kernel⟩
theorem bp25 : Plain "_named_rectangle" (top 25) ["text"] := fun kV doc pm an cdv ct us hl => match us, hl with | [_], _ => rfl
theorem sc20 : FnScope (NN 20) ["text"] (defScope (top 20)) := ⟨rfl, rfl, rfl, by decide +kernel, rfl, by decide +kernel, by decide +kernel⟩
theorem bp20 : Plain "column_number" (top 20) ["text"] := fun kV doc pm an cdv ct us hl => match us, hl with | [_], _ => rfl
theorem sc21 : FnScope (NN 21) ["text"] (defScope (top 21)) := ⟨rfl, rfl, rfl, by decide +kernel, rfl, by decide +kernel, by decide +kernel⟩
theorem bp21 : Plain "place_at" (top 21) ["text"] := fun kV doc pm an cdv ct us hl => match us, hl with | [_], _ => rfl
theorem sc22 : FnScope (NN 22) ["text"] (defScope (top 22)) := ⟨rfl, rfl, rfl, by decide +kernel, rfl, by decide +kernel, by decide +kernel⟩
theorem bp22 : Plain "rectangle_at" (top 22) ["text"] := fun kV doc pm an cdv ct us hl => match us, hl with | [_], _ => rfl
theorem sc30 : FnScope (NN 30) ["draw", "most"] (defScope (top 30)) := ⟨rfl, rfl, rfl, by decide +kernel, rfl, by decide +kernel, by decide +kernel⟩
theorem bp30 : Plain "_law_number" (top 30) ["draw", "most"] := fun kV doc pm an cdv ct us hl => match us, hl with | [_, _], _ => rfl
theorem sc31 : FnScope (NN 31) ["number"] (defScope (top 31)) := ⟨rfl, rfl, rfl, by decide +kernel, rfl, by decide +kernel, by decide +kernel⟩
theorem bp31 : Plain "_law_column" (top 31) ["number"] := fun kV doc pm an cdv ct us hl => match us, hl with | [_], _ => rfl
theorem sc32 : FnScope (NN 32) ["text"] (defScope (top 32)) := ⟨rfl, rfl, rfl, by decide +kernel, rfl, by decide +kernel, by decide +kernel⟩
theorem bp32 : Plain "_law_place_of" (top 32) ["text"] := fun kV doc pm an cdv ct us hl => match us, hl with | [_], _ => rfl
theorem sc33 : FnScope (NN 33) ["draw"] (defScope (top 33)) := ⟨rfl, rfl, rfl, by decide +kernel, rfl, by decide +kernel, by decide +kernel⟩
theorem bp33 : Plain "_law_text" (top 33) ["draw"] := fun kV doc pm an cdv ct us hl => match us, hl with | [_], _ => rfl
theorem sc35 : FnScope (NN 35) ["draw"] (defScope (top 35)) := ⟨rfl, rfl, rfl, by decide +kernel, rfl, by decide +kernel, by decide +kernel⟩
theorem bp35 : Plain "_law_texts_right" (top 35) ["draw"] := fun kV doc pm an cdv ct us hl => match us, hl with | [_], _ => rfl
theorem sc36 : FnScope (NN 36) ["script"] (defScope (top 36)) := ⟨rfl, rfl, rfl, by decide +kernel, rfl, by decide +kernel, by decide +kernel⟩
theorem bp36 : Plain "law" (top 36) ["script"] := fun kV doc pm an cdv ct us hl => match us, hl with | [_], _ => rfl
theorem sc34 : FnScope (NN 34) ["call"] (defScope (top 34)) := ⟨rfl, rfl, rfl, by decide +kernel, rfl, by decide +kernel, by decide +kernel⟩
theorem bp34 : Plain "_law_told" (top 34) ["call"] := fun kV doc pm an cdv ct us hl => match us, hl with | [_], _ => rfl
theorem bp27 : Plain "_law_mixed" (top 27) ["cell", "k"] := fun kV doc pm an cdv ct us hl => match us, hl with | [_, _], _ => rfl
theorem bp28 : Plain "_law_draw" (top 28) ["cell", "k"] := fun kV doc pm an cdv ct us hl => match us, hl with | [_, _], _ => rfl
theorem bp29 : Plain "_law_digit" (top 29) ["draw", "span"] := fun kV doc pm an cdv ct us hl => match us, hl with | [_, _], _ => rfl
theorem nd1 : (errs1.map (·.1)).Nodup := by decide +kernel
section
variable {K : PySem.W.Frag} {prog : Program} {w : World} {mg : Str → Option Value} {h base : Heap}
theorem ecl1 {CG CP CR tb35 tb36 fP fR : Addr} (X : K.In h) (G : h.Ns mainGlobals mg) (aG : PySem.W.nsIn K mainGlobals "GridError" = some (some (.ref CG))) (tG : ClsF K CG) (eP : ErF K "BadPlace" "given" "BadPlace.__init__" (initOf (top 8)) CP fP) (eR : ErF K "BadRectangle" "given" "BadRectangle.__init__" (initOf (top 9)) CR fR)
    (sPG : PySem.W.subIn K (.ref CP) (.ref CG) = some true) (sPP : PySem.W.subIn K (.ref CP) (.ref CP) = some true) (sPR : PySem.W.subIn K (.ref CP) (.ref CR) = some false) (sRG : PySem.W.subIn K (.ref CR) (.ref CG) = some true) (sRR : PySem.W.subIn K (.ref CR) (.ref CR) = some true) (sRP : PySem.W.subIn K (.ref CR) (.ref CP) = some false) (nPR : CP ≠ CR) (th : T PyData) : Ecl (PP K CP CR tb35 tb36) (tga th) K mg where
  xf := fun cn C hC => by
    have hC' : clP CP CR cn = some C := hC
    unfold clP at hC'
    split at hC'
    · cases hC'
      exact eP.xf
    · split at hC'
      · cases hC'
        exact eR.xf
      · cases hC'
  cat := fun c hc => by
    have cases2 : ∀ (cn : Str) (b : Bool) (C D : Addr), (PP K CP CR tb35 tb36).cl cn = some C → (cn = "BadPlace" ∧ C = CP) ∨ (cn = "BadRectangle" ∧ C = CR) := fun cn b C D hC => by
      have hC' : clP CP CR cn = some C := hC
      unfold clP at hC'
      split at hC'
      · cases hC'
        rename_i e
        exact .inl ⟨e, rfl⟩
      · split at hC'
        · cases hC'
          rename_i e
          exact .inr ⟨e, rfl⟩
        · cases hC'
    have hc' : c = "GridError" ∨ c = "BadPlace" ∨ c = "BadRectangle" := by simpa [eclE] using hc
    rcases hc' with rfl | rfl | rfl
    · refine ⟨CG, PySem.W.mg_of X G aG, by decide +kernel, fun cn b C hs hC => ?_⟩
      rcases cases2 cn b C CG hC with ⟨rfl, rfl⟩ | ⟨rfl, rfl⟩
      · cases (show some true = some b from hs)
        exact ⟨kit_of tG sPG fun _ => rfl, exm_of tG sPG⟩
      · cases (show some true = some b from hs)
        exact ⟨kit_of tG sRG fun _ => rfl, exm_of tG sRG⟩
    · refine ⟨CP, PySem.W.mg_of X G eP.a, by decide +kernel, fun cn b C hs hC => ?_⟩
      rcases cases2 cn b C CG hC with ⟨rfl, rfl⟩ | ⟨rfl, rfl⟩
      · cases (show some true = some b from hs)
        exact ⟨kit_of eP.cl sPP fun _ => rfl, exm_of eP.cl sPP⟩
      · cases (show some false = some b from hs)
        exact ⟨kit_of eP.cl sRP fun e => absurd e.symm nPR, exm_of eP.cl sRP⟩
    · refine ⟨CR, PySem.W.mg_of X G eR.a, by decide +kernel, fun cn b C hs hC => ?_⟩
      rcases cases2 cn b C CG hC with ⟨rfl, rfl⟩ | ⟨rfl, rfl⟩
      · cases (show some false = some b from hs)
        exact ⟨kit_of eR.cl sPR fun e => absurd e nPR, exm_of eR.cl sPR⟩
      · cases (show some true = some b from hs)
        exact ⟨kit_of eR.cl sRR fun _ => rfl, exm_of eR.cl sRR⟩
theorem all_mk {l : PySem.W.OpenLaw} {fa : Addr} {f3 f4 f5 f13 f14 f15 f16 f17 f18 f19 f23 f24 f25 f20 f21 f22 f27 f28 f29 f30 f31 f32 f33 f34 f35 f36 co35 co36 tb35 tb36 CG CP CR fP fR : Addr} {c3 c4 c5 c13 c14 c15 c16 c17 c18 c19 c23 c24 c25 c20 c21 c22 c27 c28 c29 c30 c31 c32 c33 c34 : Value} {uCAPITALS uDIGITS uMOST_ROW uMOST_COLUMN : Tok} (X : K.In h) (G : h.Ns mainGlobals mg) (hfa : mg "law" = some (.ref fa))
    (d3 : DefA K "is_integer" (top 3) f3 c3)
    (d4 : DefA K "is_made_of" (top 4) f4 c4)
    (d5 : DefA K "is_tuple_of" (top 5) f5 c5)
    (d13 : DefA K "is_place" (top 13) f13 c13)
    (d14 : DefA K "is_rectangle" (top 14) f14 c14)
    (d15 : DefA K "check_place" (top 15) f15 c15)
    (d16 : DefA K "check_rectangle" (top 16) f16 c16)
    (d17 : DefA K "column_name" (top 17) f17 c17)
    (d18 : DefA K "place_name" (top 18) f18 c18)
    (d19 : DefA K "rectangle_name" (top 19) f19 c19)
    (d23 : DefA K "_named_column" (top 23) f23 c23)
    (d24 : DefA K "_named_place" (top 24) f24 c24)
    (d25 : DefA K "_named_rectangle" (top 25) f25 c25)
    (d20 : DefA K "column_number" (top 20) f20 c20)
    (d21 : DefA K "place_at" (top 21) f21 c21)
    (d22 : DefA K "rectangle_at" (top 22) f22 c22)
    (d27 : DefA K "_law_mixed" (top 27) f27 c27)
    (d28 : DefA K "_law_draw" (top 28) f28 c28)
    (d29 : DefA K "_law_digit" (top 29) f29 c29)
    (d30 : DefA K "_law_number" (top 30) f30 c30)
    (d31 : DefA K "_law_column" (top 31) f31 c31)
    (d32 : DefA K "_law_place_of" (top 32) f32 c32)
    (d33 : DefA K "_law_text" (top 33) f33 c33)
    (d34 : DefA K "_law_told" (top 34) f34 c34)
    (d35 : DefA K "_law_texts_right" (top 35) f35 (.ref co35))
    (d36 : DefA K "law" (top 36) f36 (.ref co36))
    (t35 : TabF K co35 tb35) (t36 : TabF K co36 tb36) (tne : tb35 ≠ tb36)
    (aG : PySem.W.nsIn K mainGlobals "GridError" = some (some (.ref CG))) (tG : ClsF K CG) (eP : ErF K "BadPlace" "given" "BadPlace.__init__" (initOf (top 8)) CP fP) (eR : ErF K "BadRectangle" "given" "BadRectangle.__init__" (initOf (top 9)) CR fR)
    (sPG : PySem.W.subIn K (.ref CP) (.ref CG) = some true) (sPP : PySem.W.subIn K (.ref CP) (.ref CP) = some true) (sPR : PySem.W.subIn K (.ref CP) (.ref CR) = some false) (sRG : PySem.W.subIn K (.ref CR) (.ref CG) = some true) (sRR : PySem.W.subIn K (.ref CR) (.ref CR) = some true) (sRP : PySem.W.subIn K (.ref CR) (.ref CP) = some false)
    (nPR : CP ≠ CR)
    (kCAPITALS : PySem.W.nsIn K mainGlobals "CAPITALS" = some (some (.str "ABCDEFGHIJKLMNOPQRSTUVWXYZ" uCAPITALS)))
    (kDIGITS : PySem.W.nsIn K mainGlobals "DIGITS" = some (some (.str "0123456789" uDIGITS)))
    (kMOST_ROW : PySem.W.nsIn K mainGlobals "MOST_ROW" = some (some (.int 9999 uMOST_ROW)))
    (kMOST_COLUMN : PySem.W.nsIn K mainGlobals "MOST_COLUMN" = some (some (.int 702 uMOST_COLUMN)))
    (bl : ∀ x ∈ bltNames, PySem.W.nsIn K mainGlobals x = some none)
    (hT : ∀ P ∈ [tb35, tb36], h.get? P = some { cls := .none, data := .fields #[] })
    (main : ∀ ns : List Int, ns.length ≤ 63 → T.wp (m36 [.list (ns.map .int)]) (2 ^ 20) (fun d _ => d = .bool true) (fun _ _ => False)) : LawG l w K 60 63 "script" mg fa h := by
  have eF : mg "law" = some (.ref f36) := PySem.W.mg_of X G d36.a
  rw [hfa] at eF
  cases eF
  have sI8 : FnScope ["self", "given"] ["self", "given"] (defScope (initOf (top 8))) := ⟨rfl, rfl, rfl, by decide +kernel, rfl, by decide +kernel, by decide +kernel⟩
  have sI9 : FnScope ["self", "given"] ["self", "given"] (defScope (initOf (top 9))) := ⟨rfl, rfl, rfl, by decide +kernel, rfl, by decide +kernel, by decide +kernel⟩
  have pg0 : ∀ base : Heap, Pg (PP K CP CR tb35 tb36) l.prog w mg base 2 F0 con1 errs1 := fun base => {
    nf := rfl
    con := fun x d hx => by
      have hx' := lookup_mem hx
      simp only [con1, List.mem_cons, List.not_mem_nil, or_false, Prod.mk.injEq] at hx'
      rcases hx' with ⟨rfl, rfl⟩ | ⟨rfl, rfl⟩ | ⟨rfl, rfl⟩ | ⟨rfl, rfl⟩
      · exact ⟨.str _, _, PySem.W.mg_of X G kCAPITALS, ⟨_, rfl⟩, fun H => .str _⟩
      · exact ⟨.str _, _, PySem.W.mg_of X G kDIGITS, ⟨_, rfl⟩, fun H => .str _⟩
      · exact ⟨.int _, _, PySem.W.mg_of X G kMOST_ROW, ⟨_, rfl⟩, fun H => .int _⟩
      · exact ⟨.int _, _, PySem.W.mg_of X G kMOST_COLUMN, ⟨_, rfl⟩, fun H => .int _⟩
    fns := fun x i hi => nomatch hi
    blt := fun x hx => PySem.W.mg_none_of X G (bl x hx)
    errs := fun c fs hc => by
      have hc' := lookup_mem hc
      simp only [errs1, List.mem_cons, List.not_mem_nil, or_false, Prod.mk.injEq] at hc'
      rcases hc' with ⟨rfl, rfl⟩ | ⟨rfl, rfl⟩
      · exact ⟨"given", CP, rfl, rfl, eP.er X G (by decide) rfl sI8 (.inl rfl) (.inl rfl) (by decide +kernel) (by decide +kernel) (fun kV doc pm an cdv ct us hl => match us, hl with | [_, _], _ => rfl) (by decide +kernel)⟩
      · exact ⟨"given", CR, rfl, rfl, eR.er X G (by decide) rfl sI9 (.inl rfl) (.inl rfl) (by decide +kernel) (by decide +kernel) (fun kV doc pm an cdv ct us hl => match us, hl with | [_, _], _ => rfl) (by decide +kernel)⟩ }
  have pgA : ∀ base : Heap, Pg (PP K CP CR tb35 tb36) l.prog w mg base 18 F22 con1 errs1 := fun base => by
    have p0 := pg0 base
    have p3 : Pg _ l.prog w mg base 3 F3 con1 errs1 := p0.cons nd1 (by decide) X G d3 sc3 bp3 cl3.2 (nN := 3) (np := 3) rfl rfl
    have p4 : Pg _ l.prog w mg base 4 F4 con1 errs1 := p3.cons nd1 (by decide) X G d4 sc4 bp4 cl4.2 (nN := 2) (np := 2) rfl rfl
    have p5 : Pg _ l.prog w mg base 5 F5 con1 errs1 := p4.cons nd1 (by decide) X G d5 sc5 bp5 cl5.2 (nN := 2) (np := 2) rfl rfl
    have p13 : Pg _ l.prog w mg base 6 F13 con1 errs1 := p5.cons nd1 (by decide) X G d13 sc13 bp13 cl13.2 (nN := 1) (np := 1) rfl rfl
    have p14 : Pg _ l.prog w mg base 7 F14 con1 errs1 := p13.cons nd1 (by decide) X G d14 sc14 bp14 cl14.2 (nN := 5) (np := 1) rfl rfl
    have p15 : Pg _ l.prog w mg base 8 F15 con1 errs1 := p14.cons nd1 (by decide) X G d15 sc15 bp15 cl15.2 (nN := 1) (np := 1) rfl rfl
    have p16 : Pg _ l.prog w mg base 9 F16 con1 errs1 := p15.cons nd1 (by decide) X G d16 sc16 bp16 cl16.2 (nN := 1) (np := 1) rfl rfl
    have p17 : Pg _ l.prog w mg base 10 F17 con1 errs1 := p16.cons nd1 (by decide) X G d17 sc17 bp17 cl17.2 (nN := 3) (np := 1) rfl rfl
    have p18 : Pg _ l.prog w mg base 11 F18 con1 errs1 := p17.cons nd1 (by decide) X G d18 sc18 bp18 cl18.2 (nN := 1) (np := 1) rfl rfl
    have p19 : Pg _ l.prog w mg base 12 F19 con1 errs1 := p18.cons nd1 (by decide) X G d19 sc19 bp19 cl19.2 (nN := 1) (np := 1) rfl rfl
    have p23 : Pg _ l.prog w mg base 13 F23 con1 errs1 := p19.cons nd1 (by decide) X G d23 sc23 bp23 cl23.2 (nN := 3) (np := 1) rfl rfl
    have p24 : Pg _ l.prog w mg base 14 F24 con1 errs1 := p23.cons nd1 (by decide) X G d24 sc24 bp24 cl24.2 (nN := 4) (np := 1) rfl rfl
    have p25 : Pg _ l.prog w mg base 15 F25 con1 errs1 := p24.cons nd1 (by decide) X G d25 sc25 bp25 cl25.2 (nN := 7) (np := 1) rfl rfl
    have p20 : Pg _ l.prog w mg base 16 F20 con1 errs1 := p25.cons nd1 (by decide) X G d20 sc20 bp20 cl20.2 (nN := 2) (np := 1) rfl rfl
    have p21 : Pg _ l.prog w mg base 17 F21 con1 errs1 := p20.cons nd1 (by decide) X G d21 sc21 bp21 cl21.2 (nN := 2) (np := 1) rfl rfl
    have p22 : Pg _ l.prog w mg base 18 F22 con1 errs1 := p21.cons nd1 (by decide) X G d22 sc22 bp22 cl22.2 (nN := 2) (np := 1) rfl rfl
    exact p22
  have lamI : ∀ base : Heap, ∀ x tf, lam1.lookup x = some tf → LamI (PP K CP CR tb35 tb36) l.prog w mg base con1 x tf := fun base x tf hx => by
    have hx' := lookup_mem hx
    simp only [lam1, List.mem_cons, List.not_mem_nil, or_false, Prod.mk.injEq] at hx'
    obtain ⟨rfl, rfl⟩ := hx'
    obtain ⟨oc, od, an, kV, doc, pm, ct, osl, lk⟩ := d34.l
    exact ⟨"call", f34, 60, defArgs (top 34), defBody (top 34), defScope (top 34), .none, kV, doc, pm, c34, ct, oc, an, od, osl, NN 34, subE, eclE, rfl, fun th => ecl1 X G aG tG eP eR sPG sPP sPR sRG sRR sRP nPR th, PySem.W.mg_of X G d34.a, d34.k, lk, d34.c,
      (fun_mk lk d34.c d34.k).binds bp34, sc34, rfl, .inl rfl, by decide +kernel, by decide +kernel⟩
  have pgD : ∀ base : Heap, PgL (PP K CP CR tb35 tb36) l.prog w mg base 20 G0 F22 con1 lam1 := fun base => by
    obtain ⟨fd27, B27⟩ := d27.fn
    obtain ⟨fd28, B28⟩ := d28.fn
    obtain ⟨fd29, B29⟩ := d29.fn
    have mx : FnOk l.prog w K mg base (L2.CX l.prog w) 18 f27 fd27 ["cell", "k"] spMix := mix_ok B27 rfl rfl
    have dr : FnOk l.prog w K mg base (L2.CX l.prog w) 18 f28 fd28 ["cell", "k"] (spT (PP K CP CR tb35 tb36) ⟨2, drawM⟩) := draw_ok rfl B28 rfl rfl
    have dg : FnOk l.prog w K mg base (L2.CX l.prog w) 19 f29 fd29 ["draw", "span"] (spT (PP K CP CR tb35 tb36) ⟨2, digM⟩) := digit_ok rfl B29 rfl (PySem.W.mg_none_of X G (bl "range" (by decide))) (PySem.W.mg_of X G d27.a) d27.k (B27.binds bp27) mx rfl
    exact ((((pgA base).toL (lamI base)).mono (by decide)).add (PySem.W.mg_of X G d28.a) d28.k (B28.binds bp28) ((FnOk.g dr).mono (by decide))).add (PySem.W.mg_of X G d29.a) d29.k (B29.binds bp29) ((FnOk.g dg).mono (by decide))
  have la35 : ∀ base : Heap, LamX.TabB base mg co35 tb35 → LamAt (PP K CP CR tb35 tb36) mg base "_law_texts_right" (.ref co35) := fun base T => ⟨co35, tb35, rfl, T, List.mem_cons_self, fun q hq e => by
    have hq' : q = (tb35, hl35) ∨ q = (tb36, hl36) := by simpa [PP] using hq
    rcases hq' with rfl | rfl
    · rfl
    · exact absurd e.symm tne⟩
  have la36 : ∀ base : Heap, LamX.TabB base mg co36 tb36 → LamAt (PP K CP CR tb35 tb36) mg base "law" (.ref co36) := fun base T => ⟨co36, tb36, rfl, T, List.mem_cons_of_mem _ List.mem_cons_self, fun q hq e => by
    have hq' : q = (tb35, hl35) ∨ q = (tb36, hl36) := by simpa [PP] using hq
    rcases hq' with rfl | rfl
    · exact absurd e tne
    · rfl⟩
  have pgE : ∀ base : Heap, LamX.TabB base mg co35 tb35 → PgL (PP K CP CR tb35 tb36) l.prog w mg base 35 G35 F22 con1 lam1 := fun base T35 => by
    have p0 := pgD base
    have p30 : PgL _ l.prog w mg base 23 G30 F22 con1 lam1 := PgL.cons (k := 19) p0 X G (ls := []) d30 sc30 (.inl rfl) (.inl rfl) bp30 cl30.2 (nN := 3) (np := 2) rfl rfl
    have p31 : PgL _ l.prog w mg base 26 G31 F22 con1 lam1 := PgL.cons (k := 22) p30 X G (ls := []) d31 sc31 (.inl rfl) (.inl rfl) bp31 cl31.2 (nN := 4) (np := 1) rfl rfl
    have p32 : PgL _ l.prog w mg base 29 G32 F22 con1 lam1 := PgL.cons (k := 25) p31 X G (ls := []) d32 sc32 (.inl rfl) (.inl rfl) bp32 cl32.2 (nN := 5) (np := 1) rfl rfl
    have p33 : PgL _ l.prog w mg base 32 G33 F22 con1 lam1 := PgL.cons (k := 28) p32 X G (ls := []) d33 sc33 (.inl rfl) (.inl rfl) bp33 cl33.2 (nN := 4) (np := 1) rfl rfl
    have p35 : PgL _ l.prog w mg base 35 G35 F22 con1 lam1 := PgL.cons (k := 31) p33 X G (ls := lam1) d35 sc35 (.inr rfl) (.inr (la35 base T35)) bp35 cl35.2 (nN := 9) (np := 1) rfl rfl
    exact p35
  obtain ⟨oc, od, an, kV, doc, pm, ct, osl, lk⟩ := d36.l
  refine ⟨PySem.W.fnOf "law" "law" (defArgs (top 36)) (defBody (top 36)) (defScope (top 36)) .none kV doc pm an (.ref co36) ct, [(co35, tb35), (co36, tb36)], spT (PP K CP CR tb35 tb36) ⟨1, m36⟩, fun p hp => ?_, fun s u => .of_eq (bp36 kV doc pm an (.ref co36) ct [u] rfl), fun H a ns hl hb hc hn hs => ?_, fun base Xb Gb TB => ?_⟩
  · have hp' : p = (co35, tb35) ∨ p = (co36, tb36) := by simpa using hp
    rcases hp' with rfl | rfl
    · exact ⟨hT tb35 (by simp), t35.no, t35.hd X⟩
    · exact ⟨hT tb36 (by simp), t36.no, t36.hd X⟩
  · refine ⟨rfl, [.list (ns.map .int)], 2 ^ 20, ⟨⟨by decide, fun b l c t e => absurd ⟨l, c, t, rfl⟩ (hn b _ e)⟩, fun q hq => ?_, (fun q hq => nomatch hq), (fun B hB => nomatch hB)⟩, .cons (.lst hs ?_) .nil, T.wp_mono (main ns hl) (fun d c _ e => ?_) fun _ _ _ z => z.elim⟩
    · have hq' : q = (tb35, hl35) ∨ q = (tb36, hl36) := by simpa [PP] using hq
      rcases hq' with rfl | rfl
      · exact ⟨#[], hc (co35, tb35) (by simp), by simp [TriplesOk], fun pos cv z => by simp [codeAmong] at z⟩
      · exact ⟨#[], hc (co36, tb36) (by simp), by simp [TriplesOk], fun pos cv z => by simp [codeAmong] at z⟩
    · clear hl hb hs
      induction ns with
      | nil => exact .nil
      | cons n ns ih => exact .cons (.int n) ih
    · cases e
      intro v H' _ _ r
      cases r
      rfl
  · have T35 := TB (co35, tb35) (by simp)
    have T36 := TB (co36, tb36) (by simp)
    exact (defG_ok (k := 34) (pgE base T35) lk d36.c sc36 (.inr (la36 base T36)) cl36.2).mono (by decide)
end
end K01

-- F1body
namespace K01
open PySem PySem.Spec L2 Pv
theorem fld8 {K : PySem.W.Frag} {C : Addr} (h1 : PySem.W.findIn K (.ref C) "given" = some none) (h2 : PySem.W.findIn K (.ref C) "at" = some none) (h3 : PySem.W.findIn K (.ref C) "place" = some none) (h4 : PySem.W.findIn K (.ref C) "most" = some none) (h5 : PySem.W.findIn K (.ref C) "ring" = some none) (h6 : PySem.W.findIn K (.ref C) "path" = some none) (h7 : PySem.W.findIn K (.ref C) "done" = some none) (h8 : PySem.W.findIn K (.ref C) "word" = some none) : ∀ g ∈ fldNames, PySem.W.findIn K (.ref C) g = some none := by
  intro g hg
  simp only [fldNames, List.mem_cons, List.not_mem_nil, or_false] at hg
  rcases hg with rfl | rfl | rfl | rfl | rfl | rfl | rfl | rfl <;> assumption
theorem blt21 {K : PySem.W.Frag} (h0 : PySem.W.nsIn K mainGlobals "len" = some none) (h1 : PySem.W.nsIn K mainGlobals "ord" = some none) (h2 : PySem.W.nsIn K mainGlobals "divmod" = some none) (h3 : PySem.W.nsIn K mainGlobals "min" = some none) (h4 : PySem.W.nsIn K mainGlobals "max" = some none) (h5 : PySem.W.nsIn K mainGlobals "sum" = some none) (h6 : PySem.W.nsIn K mainGlobals "str" = some none) (h7 : PySem.W.nsIn K mainGlobals "int" = some none) (h8 : PySem.W.nsIn K mainGlobals "list" = some none) (h9 : PySem.W.nsIn K mainGlobals "tuple" = some none) (h10 : PySem.W.nsIn K mainGlobals "repr" = some none) (h11 : PySem.W.nsIn K mainGlobals "isinstance" = some none) (h12 : PySem.W.nsIn K mainGlobals "bool" = some none) (h13 : PySem.W.nsIn K mainGlobals "dict" = some none) (h14 : PySem.W.nsIn K mainGlobals "range" = some none) (h15 : PySem.W.nsIn K mainGlobals "enumerate" = some none) (h16 : PySem.W.nsIn K mainGlobals "sorted" = some none) (h17 : PySem.W.nsIn K mainGlobals "set" = some none) (h18 : PySem.W.nsIn K mainGlobals "all" = some none) (h19 : PySem.W.nsIn K mainGlobals "any" = some none) (h20 : PySem.W.nsIn K mainGlobals "zip" = some none) : ∀ x ∈ bltNames, PySem.W.nsIn K mainGlobals x = some none := by
  intro x hx
  simp only [bltNames, List.mem_cons, List.not_mem_nil, or_false] at hx
  rcases hx with rfl | rfl | rfl | rfl | rfl | rfl | rfl | rfl | rfl | rfl | rfl | rfl | rfl | rfl | rfl | rfl | rfl | rfl | rfl | rfl | rfl <;> assumption
end K01
open PySem PySem.W PyProof.Rows
set_option Elab.async false
set_option maxRecDepth 100000 in
set_option maxHeartbeats 0 in
theorem PySem.Challenge.cw_gridfile_k01_names_of_places_holds : PySem.Challenge.rw_gridfile_k01_names_of_places.Holds := by
  w_on; o_law; k_head; (case hw => w_witness2)
  k_fill
  refine Pv.walk_G (l := PySem.Challenge.rw_gridfile_k01_names_of_places) (n := 63) (k := 60) (x := "script") rfl (by rw [PySem.sizeLine_eq]; decide) rfl ⟨rfl, by decide, by decide⟩ (fun w h Y => PySem.W.km_in_of Y) ?F
  intro w mg fa h Y KX G hmg
  refine' K01.all_mk KX G hmg ?d3 ?d4 ?d5 ?d13 ?d14 ?d15 ?d16 ?d17 ?d18 ?d19 ?d23 ?d24 ?d25 ?d20 ?d21 ?d22 ?d27 ?d28 ?d29 ?d30 ?d31 ?d32 ?d33 ?d34 ?d35 ?d36 ?t35 ?t36 ?tne ?aG ?tG ?eP ?eR ?sPG ?sPP ?sPR ?sRG ?sRR ?sRP ?nPR ?kCAPITALS ?kDIGITS ?kMOST_ROW ?kMOST_COLUMN ?bl ?hT ?main
  case d3 => refine' Pv.defA_mk ?a ?l ?c ?k; (case a => k_is); (case l => k_is); (case c => k_is); (case k => k_is)
  case d4 => refine' Pv.defA_mk ?a ?l ?c ?k; (case a => k_is); (case l => k_is); (case c => k_is); (case k => k_is)
  case d5 => refine' Pv.defA_mk ?a ?l ?c ?k; (case a => k_is); (case l => k_is); (case c => k_is); (case k => k_is)
  case d13 => refine' Pv.defA_mk ?a ?l ?c ?k; (case a => k_is); (case l => k_is); (case c => k_is); (case k => k_is)
  case d14 => refine' Pv.defA_mk ?a ?l ?c ?k; (case a => k_is); (case l => k_is); (case c => k_is); (case k => k_is)
  case d15 => refine' Pv.defA_mk ?a ?l ?c ?k; (case a => k_is); (case l => k_is); (case c => k_is); (case k => k_is)
  case d16 => refine' Pv.defA_mk ?a ?l ?c ?k; (case a => k_is); (case l => k_is); (case c => k_is); (case k => k_is)
  case d17 => refine' Pv.defA_mk ?a ?l ?c ?k; (case a => k_is); (case l => k_is); (case c => k_is); (case k => k_is)
  case d18 => refine' Pv.defA_mk ?a ?l ?c ?k; (case a => k_is); (case l => k_is); (case c => k_is); (case k => k_is)
  case d19 => refine' Pv.defA_mk ?a ?l ?c ?k; (case a => k_is); (case l => k_is); (case c => k_is); (case k => k_is)
  case d23 => refine' Pv.defA_mk ?a ?l ?c ?k; (case a => k_is); (case l => k_is); (case c => k_is); (case k => k_is)
  case d24 => refine' Pv.defA_mk ?a ?l ?c ?k; (case a => k_is); (case l => k_is); (case c => k_is); (case k => k_is)
  case d25 => refine' Pv.defA_mk ?a ?l ?c ?k; (case a => k_is); (case l => k_is); (case c => k_is); (case k => k_is)
  case d20 => refine' Pv.defA_mk ?a ?l ?c ?k; (case a => k_is); (case l => k_is); (case c => k_is); (case k => k_is)
  case d21 => refine' Pv.defA_mk ?a ?l ?c ?k; (case a => k_is); (case l => k_is); (case c => k_is); (case k => k_is)
  case d22 => refine' Pv.defA_mk ?a ?l ?c ?k; (case a => k_is); (case l => k_is); (case c => k_is); (case k => k_is)
  case d27 => refine' Pv.defA_mk ?a ?l ?c ?k; (case a => k_is); (case l => k_is); (case c => k_is); (case k => k_is)
  case d28 => refine' Pv.defA_mk ?a ?l ?c ?k; (case a => k_is); (case l => k_is); (case c => k_is); (case k => k_is)
  case d29 => refine' Pv.defA_mk ?a ?l ?c ?k; (case a => k_is); (case l => k_is); (case c => k_is); (case k => k_is)
  case d30 => refine' Pv.defA_mk ?a ?l ?c ?k; (case a => k_is); (case l => k_is); (case c => k_is); (case k => k_is)
  case d31 => refine' Pv.defA_mk ?a ?l ?c ?k; (case a => k_is); (case l => k_is); (case c => k_is); (case k => k_is)
  case d32 => refine' Pv.defA_mk ?a ?l ?c ?k; (case a => k_is); (case l => k_is); (case c => k_is); (case k => k_is)
  case d33 => refine' Pv.defA_mk ?a ?l ?c ?k; (case a => k_is); (case l => k_is); (case c => k_is); (case k => k_is)
  case d34 => refine' Pv.defA_mk ?a ?l ?c ?k; (case a => k_is); (case l => k_is); (case c => k_is); (case k => k_is)
  case d35 => refine' Pv.defA_mk ?a ?l ?c ?k; (case a => k_is); (case l => k_is); (case c => k_is); (case k => k_is)
  case d36 => refine' Pv.defA_mk ?a ?l ?c ?k; (case a => k_is); (case l => k_is); (case c => k_is); (case k => k_is)
  case t35 => refine' Pv.tabF_mk ?l ?h11 ?h18 ?h7 ?h9 ?h10 ?ne ?no; (case l => k_is); (case h11 => exact rfl); (case h18 => exact rfl); (case h7 => exact rfl); (case h9 => exact rfl); (case h10 => exact rfl); (case ne => decide); (case no => first | rfl | decide +kernel)
  case t36 => refine' Pv.tabF_mk ?l ?h11 ?h18 ?h7 ?h9 ?h10 ?ne ?no; (case l => k_is); (case h11 => exact rfl); (case h18 => exact rfl); (case h7 => exact rfl); (case h9 => exact rfl); (case h10 => exact rfl); (case ne => decide); (case no => first | rfl | decide +kernel)
  case tne => decide
  case aG => k_is
  case tG => refine' Pv.clsF_mk ?x1 ?x2 ?x3; (case x1 => k_is); (case x2 => k_is); (case x3 => k_is)
  case eP => refine' Pv.erF_mk ?a ?l ?r ?sa ?ga ?gg ?ac ?hn ?ht ?hm ?hd ?kC ?cl ?i1 ?t1 ?lI ?cI ?kI ?fl; (case a => k_is); (case l => k_is); (case r => decide +kernel); (case sa => k_is); (case ga => k_is); (case gg => k_is); (case ac => k_is); (case hn => k_is); (case ht => k_is); (case hm => k_is); (case hd => k_is); (case kC => k_is); (case cl => refine' Pv.clsF_mk ?x1 ?x2 ?x3; (case x1 => k_is); (case x2 => k_is); (case x3 => k_is)); (case i1 => k_is); (case t1 => k_is); (case lI => k_is); (case cI => k_is); (case kI => k_is); (case fl => refine' K01.fld8 ?f1 ?f2 ?f3 ?f4 ?f5 ?f6 ?f7 ?f8; (case f1 => k_is); (case f2 => k_is); (case f3 => k_is); (case f4 => k_is); (case f5 => k_is); (case f6 => k_is); (case f7 => k_is); (case f8 => k_is))
  case eR => refine' Pv.erF_mk ?a ?l ?r ?sa ?ga ?gg ?ac ?hn ?ht ?hm ?hd ?kC ?cl ?i1 ?t1 ?lI ?cI ?kI ?fl; (case a => k_is); (case l => k_is); (case r => decide +kernel); (case sa => k_is); (case ga => k_is); (case gg => k_is); (case ac => k_is); (case hn => k_is); (case ht => k_is); (case hm => k_is); (case hd => k_is); (case kC => k_is); (case cl => refine' Pv.clsF_mk ?x1 ?x2 ?x3; (case x1 => k_is); (case x2 => k_is); (case x3 => k_is)); (case i1 => k_is); (case t1 => k_is); (case lI => k_is); (case cI => k_is); (case kI => k_is); (case fl => refine' K01.fld8 ?f1 ?f2 ?f3 ?f4 ?f5 ?f6 ?f7 ?f8; (case f1 => k_is); (case f2 => k_is); (case f3 => k_is); (case f4 => k_is); (case f5 => k_is); (case f6 => k_is); (case f7 => k_is); (case f8 => k_is))
  case sPG => first | k_is | rfl
  case sPP => first | k_is | rfl
  case sPR => first | k_is | rfl
  case sRG => first | k_is | rfl
  case sRR => first | k_is | rfl
  case sRP => first | k_is | rfl
  case nPR => decide
  case kCAPITALS => k_is
  case kDIGITS => k_is
  case kMOST_ROW => k_is
  case kMOST_COLUMN => k_is
  case bl => refine' K01.blt21 ?b0 ?b1 ?b2 ?b3 ?b4 ?b5 ?b6 ?b7 ?b8 ?b9 ?b10 ?b11 ?b12 ?b13 ?b14 ?b15 ?b16 ?b17 ?b18 ?b19 ?b20; (case b0 => k_is); (case b1 => k_is); (case b2 => k_is); (case b3 => k_is); (case b4 => k_is); (case b5 => k_is); (case b6 => k_is); (case b7 => k_is); (case b8 => k_is); (case b9 => k_is); (case b10 => k_is); (case b11 => k_is); (case b12 => k_is); (case b13 => k_is); (case b14 => k_is); (case b15 => k_is); (case b16 => k_is); (case b17 => k_is); (case b18 => k_is); (case b19 => k_is); (case b20 => k_is)
  case hT => exact fun P hP => PySem.W.km_tabs_of Y P hP
  case main => exact K01.main_ok
