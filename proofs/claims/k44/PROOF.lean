import PyProof.Rows.All
import Wide.All
import OpenK.AllK
import Wide.FinOn
import HandS.ForMost
import HandS.Exc
import HandS.TryOnly
import HandS.ExcOwn
import HandS.WordsExc
import HandS.ExcInit
import HandS.IsInst
import HandS.FStr
import HandS.StrMore
import HandS.TupAny
import HandS.Wide
import HandS.WideBits
import HandS.RaiseMore
import HandS.Lambda
import HandS.Codes
import HandS.List
import PyProof.StrOps2
import PyProof.EqAt
import PyProof.ListMulRoad
import PyProof.AutoListH
import HandS.Replace
import HandS.ReplaceLit
import HandS.ListItems
import HandS.More
import HandS.Defaults
import KE.GoesMore
import KE.KTryMore
import KE.KIsAll
import HandS.ExcIs
import HandS.ExcField
import HandS.GenOver
import HandS.GenList
import HandS.AnyAll
import PyProof.CodeObjX
import HandS.Star
import HandS.Comp
import HandS.Iter
import HandS.Style
import PyProof.ListIndex
import HandS.EndTab
import PyProof.StrBlockL
import PyProof.Rows.ReprOcc
import HandS.ReplaceList
import PyProof.StrLawsChain
import PyProof.Rows.StrSplitCount
import PyProof.P3Eq
import PySem.Challenge.RW_gridfile_k44_runs_of_settings
-- Pv0
set_option Elab.async false
set_option linter.all false
set_option maxRecDepth 100000
set_option maxHeartbeats 4000000
namespace Pv
open PySem L2

/-! ## choices, errors, values -/
/-- an error of the program: its class, its attributes in the order in which they were stored -/
structure Er where
  cls : Str
  fs : List (Str × PyData)
/-- a run over data: it gives a value, raises, picks a number below n, or is not told -/
inductive T (α : Type) where
  | ret (a : α)
  | err (e : Er)
  | pick (n : Int) (f : Int → T α)
  | stuck
namespace T
def bind {α β : Type} : T α → (α → T β) → T β
  | ret a, f => f a
  | err e, _ => err e
  | pick n g, f => pick n fun i => bind (g i) f
  | stuck, _ => stuck
/-- b: how many picks may still be made -/
def wp {α : Type} : T α → Nat → (α → Nat → Prop) → (Er → Nat → Prop) → Prop
  | ret a, b, Q, _ => Q a b
  | err e, b, _, E => E e b
  | pick _ _, 0, _, _ => False
  | pick n g, b + 1, Q, E => ∀ i, 0 ≤ i → i < n → wp (g i) b Q E
  | stuck, _, _, _ => False
theorem wp_mono {α : Type} {Q Q' : α → Nat → Prop} {E E' : Er → Nat → Prop} : ∀ {t : T α} {b : Nat}, wp t b Q E → (∀ a c, c ≤ b → Q a c → Q' a c) → (∀ e c, c ≤ b → E e c → E' e c) → wp t b Q' E'
  | ret _, b, h, hq, _ => hq _ b (Nat.le_refl _) h
  | err _, b, h, _, he => he _ b (Nat.le_refl _) h
  | pick _ _, 0, h, _, _ => h
  | pick _ g, b + 1, h, hq, he => fun i h0 h1 => wp_mono (t := g i) (b := b) (h i h0 h1) (fun a c hc => hq a c (Nat.le_succ_of_le hc)) (fun e c hc => he e c (Nat.le_succ_of_le hc))
  | stuck, _, h, _, _ => h
theorem wp_bind {α β : Type} {Q : β → Nat → Prop} {E : Er → Nat → Prop} {f : α → T β} : ∀ {t : T α} {b : Nat}, wp (bind t f) b Q E ↔ wp t b (fun a c => wp (f a) c Q E) E
  | ret _, _ => Iff.rfl
  | err _, _ => Iff.rfl
  | pick _ _, 0 => Iff.rfl
  | pick _ g, b + 1 => ⟨fun h i h0 h1 => wp_bind.mp (h i h0 h1), fun h i h0 h1 => wp_bind.mpr (h i h0 h1)⟩
  | stuck, _ => Iff.rfl
theorem bind_ret {α β : Type} {a : α} {f : α → T β} : bind (ret a) f = f a := rfl
theorem bind_err {α β : Type} {e : Er} {f : α → T β} : bind (err e) f = err e := rfl
theorem bind_stuck {α β : Type} {f : α → T β} : bind stuck f = stuck := rfl
theorem bind_assoc {α β γ : Type} {f : α → T β} {g : β → T γ} : ∀ {t : T α}, bind (bind t f) g = bind t fun a => bind (f a) g
  | ret _ => rfl
  | err _ => rfl
  | pick n h => congrArg (pick n) (funext fun i => bind_assoc)
  | stuck => rfl
def ofO {α : Type} : Option α → T α
  | some a => ret a
  | none => stuck
end T

/-! ## the draw: a dict that the law's helpers change -/
def drawO (l c t : Int) : HO := .dK [(.inr "left", .int l), (.inr "cell", .int c), (.inr "turns", .int t)]
def IsDraw (o : HO) : Prop := ∃ l c t : Int, o = drawO l c t
/-- the program's own facts: its written part, the tables of its code objects, where its classes stand -/
structure Kc where
  K : PySem.W.Frag
  cl : Str → Option Addr
structure Pa where
  kc : Kc
  Tb : List (Addr × Str)
  /-- objects that stand as they are -/
  pin : List (Addr × HO)
  /-- slots that keep their values -/
  fz : List (Nat × V)
  /-- heaps that were: the heap has come from them -/
  h0 : List Hp
  /-- slots of piles: lists that grow in place -/
  pl : List Nat
  /-- how many slots there are -/
  n : Nat
abbrev Pa.K (P : Pa) : PySem.W.Frag := P.kc.K
abbrev Pa.cl (P : Pa) : Str → Option Addr := P.kc.cl
theorem nd_tup {xs : List V} : ¬ IsDraw (.tup xs) := fun ⟨_, _, _, z⟩ => nomatch z
theorem nd_lst {xs : List V} : ¬ IsDraw (.lst xs) := fun ⟨_, _, _, z⟩ => nomatch z
theorem nd_emp : ¬ IsDraw (.dK []) := fun ⟨_, _, _, z⟩ => nomatch z
/-- what may become of an object -/
def Kept (o o' : HO) : Prop := o' = o ∨ (IsDraw o ∧ IsDraw o') ∨ ∃ ps more, o = .tbl ps ∧ o' = .tbl (ps ++ more)
theorem Kept.trans {a b c : HO} (h : Kept a b) (k : Kept b c) : Kept a c := by
  rcases h with rfl | ⟨h1, h2⟩ | ⟨ps, more, h1, h2⟩
  · exact k
  · rcases k with rfl | ⟨k1, k2⟩ | ⟨qs, more, k1, k2⟩
    · exact .inr (.inl ⟨h1, h2⟩)
    · exact .inr (.inl ⟨h1, k2⟩)
    · obtain ⟨l, c, t, e⟩ := h2
      rw [e] at k1
      cases k1
  · rcases k with rfl | ⟨⟨l, c', t, e⟩, k2⟩ | ⟨qs, more2, k1, k2⟩
    · exact .inr (.inr ⟨ps, more, h1, h2⟩)
    · rw [h2] at e
      cases e
    · rw [h2] at k1
      cases k1
      exact .inr (.inr ⟨ps, more ++ more2, h1, by rw [k2, Array.append_assoc]⟩)
/-- what code of ours does to the heap: draws are drawn from, tables of code objects grow, all else stays -/
def Frm (H H' : Hp) : Prop := ∀ a o, H a = some o → ∃ o', H' a = some o' ∧ Kept o o'
/-- .. but for things that are told by what is true of their one object: they may have become others -/
def FrmW (H H' : Hp) : Prop := ∀ a o, H a = some o → (∀ φ, o ≠ .ext φ) → ∃ o', H' a = some o' ∧ Kept o o'
theorem Frm.w {H H' : Hp} (h : Frm H H') : FrmW H H' := fun a o e _ => h a o e
theorem Kept.noext {o o' : HO} (h : Kept o o') (n : ∀ φ, o ≠ .ext φ) : ∀ φ, o' ≠ .ext φ := fun φ z => by
  rcases h with rfl | ⟨_, _, _, _, e⟩ | ⟨ps, more, _, e⟩
  · exact n φ z
  · rw [z] at e
    cases e
  · rw [z] at e
    cases e
theorem FrmW.refl (H : Hp) : FrmW H H := fun _ o h _ => ⟨o, h, .inl rfl⟩
theorem FrmW.trans {H H1 H2 : Hp} (h : FrmW H H1) (k : FrmW H1 H2) : FrmW H H2 := fun a o e n => by
  obtain ⟨o1, e1, k1⟩ := h a o e n
  obtain ⟨o2, e2, k2⟩ := k a o1 e1 (k1.noext n)
  exact ⟨o2, e2, k1.trans k2⟩
theorem Frm.refl (H : Hp) : Frm H H := fun _ o h => ⟨o, h, .inl rfl⟩
theorem Frm.trans {H H1 H2 : Hp} (h : Frm H H1) (k : Frm H1 H2) : Frm H H2 := fun a o e => by
  obtain ⟨o1, e1, k1⟩ := h a o e
  obtain ⟨o2, e2, k2⟩ := k a o1 e1
  exact ⟨o2, e2, k1.trans k2⟩
theorem Frm.new {H : Hp} {p : Addr} {o : HO} (h : H p = none) : Frm H (upd H p o) := fun a u e => ⟨u, by rw [upd_ne (ne_of_none e h)]; exact e, .inl rfl⟩
theorem Frm.back {H H' : Hp} {p : Addr} (f : Frm H H') (h : H' p = none) : H p = none := by
  cases e : H p with
  | none => rfl
  | some o =>
    obtain ⟨o', e', _⟩ := f p o e
    rw [h] at e'
    cases e'
theorem Frm.of_same {H H' : Hp} (h : ∀ a o, H a = some o → H' a = some o) : Frm H H' := fun a o e => ⟨o, h a o e, .inl rfl⟩
theorem FrmW.lst {H H' : Hp} {a : Addr} {xs : List V} (f : FrmW H H') (h : H a = some (.lst xs)) : H' a = some (.lst xs) := by
  obtain ⟨o, e, rfl | ⟨⟨_, _, _, z⟩, _⟩ | ⟨_, _, z, _⟩⟩ := f a _ h (fun _ z => nomatch z)
  · exact e
  · cases z
  · cases z
theorem FrmW.tup {H H' : Hp} {a : Addr} {xs : List V} (f : FrmW H H') (h : H a = some (.tup xs)) : H' a = some (.tup xs) := by
  obtain ⟨o, e, rfl | ⟨⟨_, _, _, z⟩, _⟩ | ⟨_, _, z, _⟩⟩ := f a _ h (fun _ z => nomatch z)
  · exact e
  · cases z
  · cases z
theorem FrmW.frz {H H' : Hp} {a : Addr} {ob : Obj} {u : HO} (f : FrmW H H') (h : H a = some (.frz ob u)) : H' a = some (.frz ob u) := by
  obtain ⟨o, e, rfl | ⟨⟨_, _, _, z⟩, _⟩ | ⟨_, _, z, _⟩⟩ := f a _ h (fun _ z => nomatch z)
  · exact e
  · cases z
  · cases z
theorem FrmW.emp {H H' : Hp} {a : Addr} (f : FrmW H H') (h : H a = some (.dK [])) : H' a = some (.dK []) := by
  obtain ⟨o, e, rfl | ⟨⟨_, _, _, z⟩, _⟩ | ⟨_, _, z, _⟩⟩ := f a _ h (fun _ z => nomatch z)
  · exact e
  · cases z
  · cases z
theorem FrmW.xd {H H' : Hp} {a : Addr} {fs : List (Str × V)} (f : FrmW H H') (h : H a = some (.xd fs)) : H' a = some (.xd fs) := by
  obtain ⟨o, e, rfl | ⟨⟨_, _, _, z⟩, _⟩ | ⟨_, _, z, _⟩⟩ := f a _ h (fun _ z => nomatch z)
  · exact e
  · cases z
  · cases z
theorem FrmW.draw {H H' : Hp} {a : Addr} {o : HO} (f : FrmW H H') (h : H a = some o) (d : IsDraw o) : ∃ o', H' a = some o' ∧ IsDraw o' := by
  obtain ⟨o', e, rfl | ⟨_, z⟩ | ⟨_, _, z, _⟩⟩ := f a _ h (fun φ z => by
    obtain ⟨_, _, _, z'⟩ := d
    rw [z'] at z
    cases z)
  · exact ⟨_, e, d⟩
  · exact ⟨_, e, z⟩
  · obtain ⟨_, _, _, z'⟩ := d
    rw [z'] at z
    cases z
theorem FrmW.l {K : PySem.W.Frag} {H H' : Hp} {a : Addr} {xs : List V} (f : FrmW H H') (h : SqL K H a xs) : SqL K H' a xs := by
  rcases h with (h | ⟨o, h⟩) | h
  · exact .inl (.inl (f.lst h))
  · exact .inl (.inr ⟨o, f.frz h⟩)
  · exact .inr h
theorem FrmW.t {K : PySem.W.Frag} {H H' : Hp} {a : Addr} {xs : List V} (f : FrmW H H') (h : SqT K H a xs) : SqT K H' a xs := by
  rcases h with (h | ⟨o, h⟩) | h
  · exact .inl (.inl (f.tup h))
  · exact .inl (.inr ⟨o, f.frz h⟩)
  · exact .inr h

theorem Frm.lst {H H' : Hp} {a : Addr} {xs : List V} (f : Frm H H') (h : H a = some (.lst xs)) : H' a = some (.lst xs) := f.w.lst h
theorem Frm.tup {H H' : Hp} {a : Addr} {xs : List V} (f : Frm H H') (h : H a = some (.tup xs)) : H' a = some (.tup xs) := f.w.tup h
theorem Frm.frz {H H' : Hp} {a : Addr} {ob : Obj} {u : HO} (f : Frm H H') (h : H a = some (.frz ob u)) : H' a = some (.frz ob u) := f.w.frz h
theorem Frm.emp {H H' : Hp} {a : Addr} (f : Frm H H') (h : H a = some (.dK [])) : H' a = some (.dK []) := f.w.emp h
theorem Frm.xd {H H' : Hp} {a : Addr} {fs : List (Str × V)} (f : Frm H H') (h : H a = some (.xd fs)) : H' a = some (.xd fs) := f.w.xd h
theorem Frm.draw {H H' : Hp} {a : Addr} {o : HO} (f : Frm H H') (h : H a = some o) (d : IsDraw o) : ∃ o', H' a = some o' ∧ IsDraw o' := f.w.draw h d
theorem Frm.l {K : PySem.W.Frag} {H H' : Hp} {a : Addr} {xs : List V} (f : Frm H H') (h : SqL K H a xs) : SqL K H' a xs := f.w.l h
theorem Frm.t {K : PySem.W.Frag} {H H' : Hp} {a : Addr} {xs : List V} (f : Frm H H') (h : SqT K H a xs) : SqT K H' a xs := f.w.t h
theorem Frm.ext {H H' : Hp} {a : Addr} {φ : Heap → Prop} (f : Frm H H') (h : H a = some (.ext φ)) : H' a = some (.ext φ) := by
  obtain ⟨o, e, rfl | ⟨⟨_, _, _, z⟩, _⟩ | ⟨_, _, z, _⟩⟩ := f a _ h
  · exact e
  · cases z
  · cases z
/-- so many picks may still be made: the turns of all draws stay small; the tables of code objects are well -/
def Bud (P : Pa) (b : Nat) (H : Hp) : Prop := (b ≤ 2 ^ 30 ∧ ∀ a l c t, H a = some (drawO l c t) → 0 ≤ t ∧ t + 4 * (b : Int) ≤ 2 ^ 40) ∧ (LamX.Tabs P.Tb H ∧ (∀ q ∈ P.pin, H q.1 = some q.2 ∧ ¬ IsDraw q.2 ∧ ∀ ps, q.2 ≠ .tbl ps) ∧ ∀ B ∈ P.h0, Frm B H)
theorem Bud.le {P : Pa} {b c : Nat} {H : Hp} (h : Bud P b H) (k : c ≤ b) : Bud P c H := ⟨⟨Nat.le_trans k h.1.1, fun a l d t e => by
  obtain ⟨h1, h2⟩ := h.1.2 a l d t e
  exact ⟨h1, by omega⟩⟩, h.2⟩
theorem Bud.new {P : Pa} {b : Nat} {H : Hp} {p : Addr} {o : HO} (h : Bud P b H) (hp : H p = none) (n : ¬ IsDraw o) : Bud P b (upd H p o) := ⟨⟨h.1.1, fun a l c t e => by
  by_cases ha : a = p
  · subst ha
    rw [upd_same] at e
    exact absurd ⟨l, c, t, Option.some.inj e⟩ n
  · rw [upd_ne ha] at e
    exact h.1.2 a l c t e⟩, h.2.1.ext (fun c u e => by rw [upd_ne (ne_of_none e hp)]; exact e), fun q hq => by rw [upd_ne (ne_of_none (h.2.2.1 q hq).1 hp)]; exact h.2.2.1 q hq, fun B hB => (h.2.2.2 B hB).trans (Frm.new hp)⟩
/-! ## what data a value stands for -/
/-- the draw as data: no program of ours has such a dict -/
def drawD : PyData := .dict [(.none, .none)]
/-- a caught error that is kept, as data: no program of ours has such a dict -/
def excD (c : Str) (ds : List (Str × PyData)) : PyData := .dict ((.none, .str c) :: ds.map fun q => (.str q.1, q.2))
mutual
inductive Rp (Z : Kc) (H : Hp) : V → PyData → Prop
  | non : Rp Z H .non .none
  | bl (b : Bool) : Rp Z H (.bl b) (.bool b)
  | int (i : Int) : Rp Z H (.int i) (.int i)
  | str (x : Str) : Rp Z H (.str x) (.str x)
  | lst {a : Addr} {xs : List V} {ds : List PyData} : SqL Z.K H a xs → RpA Z H xs ds → Rp Z H (.ref a) (.list ds)
  | tup {a : Addr} {xs : List V} {ds : List PyData} : SqT Z.K H a xs → RpA Z H xs ds → Rp Z H (.ref a) (.tuple ds)
  | emp {a : Addr} : H a = some (.dK []) → Rp Z H (.ref a) (.dict [])
  | exc {a d C : Addr} {oe : Obj} {c : Str} {vs : List (Str × V)} {ds : List (Str × PyData)} : H a = some (.frz oe (.own a)) → Zc (.ref C) (some d) oe → (∃ us, oe.data = .fields us) → Z.cl c = some C → H d = some (.xd vs) → vs.map (·.1) = ds.map (·.1) → RpA Z H (vs.map (·.2)) (ds.map (·.2)) → Rp Z H (.ref a) (excD c ds)
  | drw {a : Addr} {o : HO} : H a = some o → IsDraw o → Rp Z H (.ref a) drawD
inductive RpA (Z : Kc) (H : Hp) : List V → List PyData → Prop
  | nil : RpA Z H [] []
  | cons {v : V} {vs : List V} {d : PyData} {ds : List PyData} : Rp Z H v d → RpA Z H vs ds → RpA Z H (v :: vs) (d :: ds)
end
section
variable {Z : Kc} {H H' : Hp}
mutual
theorem Rp.frw (f : FrmW H H') : ∀ {v : V} {d : PyData}, Rp Z H v d → Rp Z H' v d
  | _, _, .non => .non
  | _, _, .bl b => .bl b
  | _, _, .int i => .int i
  | _, _, .str x => .str x
  | _, _, .lst h r => .lst (f.l h) (r.frw f)
  | _, _, .tup h r => .tup (f.t h) (r.frw f)
  | _, _, .emp h => .emp (f.emp h)
  | _, _, .exc h z u c hd n r => .exc (f.frz h) z u c (f.xd hd) n (r.frw f)
  | _, _, .drw h d => by
    obtain ⟨o', e, d'⟩ := f.draw h d
    exact .drw e d'
theorem RpA.frw (f : FrmW H H') : ∀ {vs : List V} {ds : List PyData}, RpA Z H vs ds → RpA Z H' vs ds
  | _, _, .nil => .nil
  | _, _, .cons h r => .cons (h.frw f) (r.frw f)
end
theorem Rp.frm (f : Frm H H') {v : V} {d : PyData} (h : Rp Z H v d) : Rp Z H' v d := h.frw f.w
theorem RpA.frm (f : Frm H H') {vs : List V} {ds : List PyData} (h : RpA Z H vs ds) : RpA Z H' vs ds := h.frw f.w
theorem RpA.length : ∀ {vs : List V} {ds : List PyData}, RpA Z H vs ds → vs.length = ds.length
  | _, _, .nil => rfl
  | _, _, .cons _ r => by simp only [List.length_cons, r.length]
theorem RpA.get : ∀ {vs : List V} {ds : List PyData} {i : Nat} {d : PyData}, RpA Z H vs ds → ds[i]? = some d → ∃ v, vs[i]? = some v ∧ Rp Z H v d
  | _, _, _, _, .nil, h => by simp at h
  | _, _, 0, _, .cons h _, e => by
    cases e
    exact ⟨_, rfl, h⟩
  | _, _, i + 1, _, .cons _ r, e => by
    obtain ⟨v, e1, h1⟩ := r.get (i := i) (by simpa using e)
    exact ⟨v, by simpa using e1, h1⟩
theorem RpA.get' : ∀ {vs : List V} {ds : List PyData} {i : Nat} {v : V}, RpA Z H vs ds → vs[i]? = some v → ∃ d, ds[i]? = some d ∧ Rp Z H v d
  | _, _, _, _, .nil, h => by simp at h
  | _, _, 0, _, .cons h _, e => by
    cases e
    exact ⟨_, rfl, h⟩
  | _, _, i + 1, _, .cons _ r, e => by
    obtain ⟨v, e1, h1⟩ := r.get' (i := i) (by simpa using e)
    exact ⟨v, by simpa using e1, h1⟩
theorem RpA.append : ∀ {vs ws : List V} {ds es : List PyData}, RpA Z H vs ds → RpA Z H ws es → RpA Z H (vs ++ ws) (ds ++ es)
  | _, _, _, _, .nil, s => s
  | _, _, _, _, .cons h r, s => .cons h (r.append s)
theorem RpA.take : ∀ {vs : List V} {ds : List PyData} (n : Nat), RpA Z H vs ds → RpA Z H (vs.take n) (ds.take n)
  | _, _, 0, _ => .nil
  | _, _, _ + 1, .nil => .nil
  | _, _, n + 1, .cons h r => .cons h (r.take n)
theorem RpA.drop : ∀ {vs : List V} {ds : List PyData} (n : Nat), RpA Z H vs ds → RpA Z H (vs.drop n) (ds.drop n)
  | _, _, 0, r => r
  | _, _, _ + 1, .nil => .nil
  | _, _, n + 1, .cons _ r => r.drop n
end

/-! ## piles: lists that grow in place. While they grow they are told by their one object alone, so nothing else leans on them -/
def hidO (a : Addr) (ob : Obj) : HO := .ext fun h => h.get? a = some ob
/-- a pile at a holds vs -/
def PileAt (P : Pa) (H : Hp) (a : Addr) (vs : List V) : Prop := (∃ (its : List Value) (n : Nat), Vals vs its ∧ vs.length ≤ sizeLine ∧ H a = some (hidO a { cls := .type "list", data := .seq its.toArray n })) ∧ (∀ B ∈ P.h0, B a = none) ∧ (∀ q ∈ P.pin, q.1 ≠ a) ∧ ∀ q, H a ≠ some (LamX.CodeO a q)
theorem PileAt.frm {P : Pa} {H H' : Hp} {a : Addr} {vs : List V} (f : Frm H H') (h : PileAt P H a vs) : PileAt P H' a vs := by
  obtain ⟨⟨its, n, h1, h2, h3⟩, h4, h5, h6⟩ := h
  have e : H' a = H a := by rw [h3]; exact f.ext h3
  exact ⟨⟨its, n, h1, h2, f.ext h3⟩, h4, h5, fun q => by rw [e]; exact h6 q⟩
/-! ## the names' values; behind them the piles' contents -/
abbrev En := List (Option PyData)
/-- a slot that may be stored to -/
def Fre (P : Pa) (i : Nat) : Prop := (∀ q ∈ P.fz, q.1 ≠ i) ∧ (∀ k ∈ P.pl, k ≠ i) ∧ i < P.n
/-- the piles that the names hold -/
structure Pls (P : Pa) (H : Hp) (σ : St) (ρ : En) : Prop where
  at_ : ∀ (j i : Nat) (d : PyData), P.pl[j]? = some i → ρ[P.n + j]? = some (some d) → ∃ (xs : List PyData) (vs : List V) (a : Addr), d = .list xs ∧ σ[i]? = some (some (.ref a)) ∧ PileAt P H a vs ∧ RpA P.kc H vs xs
  one : ∀ (j j' i i' : Nat) (d d' : PyData) (a : Addr), P.pl[j]? = some i → P.pl[j']? = some i' → ρ[P.n + j]? = some (some d) → ρ[P.n + j']? = some (some d') → σ[i]? = some (some (.ref a)) → σ[i']? = some (some (.ref a)) → j = j'
  lt : ∀ i ∈ P.pl, i < P.n
structure Ren (P : Pa) (H : Hp) (σ : St) (ρ : En) : Prop where
  n : σ.length = P.n
  len : ρ.length = P.n + P.pl.length
  val : ∀ (i : Nat) (d : PyData), i < P.n → ρ[i]? = some (some d) → ∃ v, σ[i]? = some (some v) ∧ Rp P.kc H v d
  fz : ∀ q ∈ P.fz, σ[q.1]? = some (some q.2)
  pls : Pls P H σ ρ
section
variable {P : Pa} {H H' : Hp} {σ : St} {ρ : En}
theorem Pls.frm (f : Frm H H') (p : Pls P H σ ρ) : Pls P H' σ ρ := ⟨fun j i d h1 h2 => by
  obtain ⟨xs, vs, a, e1, e2, e3, e4⟩ := p.at_ j i d h1 h2
  exact ⟨xs, vs, a, e1, e2, e3.frm f, e4.frm f⟩, p.one, p.lt⟩
theorem Ren.frm (f : Frm H H') (r : Ren P H σ ρ) : Ren P H' σ ρ := ⟨r.n, r.len, fun i d hi e => by
  obtain ⟨v, e1, h⟩ := r.val i d hi e
  exact ⟨v, e1, h.frm f⟩, r.fz, r.pls.frm f⟩
/-- a name's value -/
theorem Pls.keep {i : Nat} {w : Option V} {x : Option PyData} (nf : Fre P i) (p : Pls P H σ ρ) : Pls P H (σ.set i w) (ρ.set i x) := by
  have hi := nf.2.2
  have far : ∀ (j k : Nat), P.pl[j]? = some k → (ρ.set i x)[P.n + j]? = ρ[P.n + j]? := fun j k _ => List.getElem?_set_ne (by omega)
  have near : ∀ (j k : Nat), P.pl[j]? = some k → (σ.set i w)[k]? = σ[k]? := fun j k e => List.getElem?_set_ne fun z => nf.2.1 k (List.mem_of_getElem? e) z.symm
  refine ⟨fun j k d h1 h2 => ?_, fun j j' k k' d d' a h1 h2 h3 h4 h5 h6 => ?_, p.lt⟩
  · rw [far j k h1] at h2
    obtain ⟨xs, vs, a, e1, e2, e3, e4⟩ := p.at_ j k d h1 h2
    exact ⟨xs, vs, a, e1, by rw [near j k h1]; exact e2, e3, e4⟩
  · rw [far j k h1] at h3
    rw [far j' k' h2] at h4
    rw [near j k h1] at h5
    rw [near j' k' h2] at h6
    exact p.one j j' k k' d d' a h1 h2 h3 h4 h5 h6
theorem Ren.set {i : Nat} {v : V} {d : PyData} (nf : Fre P i) (r : Ren P H σ ρ) (h : Rp P.kc H v d) : Ren P H (σ.set i (some v)) (ρ.set i (some d)) := by
  have hi := nf.2.2
  refine ⟨by rw [List.length_set, r.n], by rw [List.length_set, r.len], fun j e hl hj => ?_, fun q hq => ?_, r.pls.keep nf⟩
  · by_cases hij : i = j
    · subst hij
      rw [List.getElem?_set] at hj ⊢
      rw [if_pos rfl, if_pos (by rw [r.len]; omega)] at hj
      rw [if_pos rfl, if_pos (by rw [r.n]; exact hi)]
      cases hj
      exact ⟨v, rfl, h⟩
    · rw [List.getElem?_set_ne hij] at hj ⊢
      exact r.val j e hl hj
  · rw [List.getElem?_set_ne (fun e => nf.1 q hq e.symm)]
    exact r.fz q hq
theorem Ren.unset {i : Nat} (nf : Fre P i) (r : Ren P H σ ρ) (w : Option V) : Ren P H (σ.set i w) (ρ.set i none) := by
  have hi := nf.2.2
  refine ⟨by rw [List.length_set, r.n], by rw [List.length_set, r.len], fun j e hl hj => ?_, fun q hq => ?_, r.pls.keep nf⟩
  · by_cases hij : i = j
    · subst hij
      rw [List.getElem?_set] at hj
      rw [if_pos rfl, if_pos (by rw [r.len]; omega)] at hj
      cases hj
    · rw [List.getElem?_set_ne hij] at hj ⊢
      exact r.val j e hl hj
  · rw [List.getElem?_set_ne (fun e => nf.1 q hq e.symm)]
    exact r.fz q hq
end

/-! ## readings over data -/
abbrev FE := En → T PyData
abbrev FT := En → T Bool
abbrev FA := En → T (List PyData)
/-- the wish for a value, for an error, from a heap on -/
def KQ (P : Pa) (H : Hp) (Q : VK) : PyData → Nat → Prop := fun d b => ∀ v H', Frm H H' → Bud P b H' → Rp P.kc H' v d → Q v H'
def RpF (Z : Kc) (H : Hp) (vs : List (Str × V)) (ds : List (Str × PyData)) : Prop := vs.map (·.1) = ds.map (·.1) ∧ RpA Z H (vs.map (·.2)) (ds.map (·.2))
/-- an error as the wish for errors W sees it -/
def KW (P : Pa) (H : Hp) (W : XK) : Er → Nat → Prop := fun x b => ∀ (C d : Addr) (vs : List (Str × V)) (H' : Hp), P.kc.cl x.cls = some C → Frm H H' → Bud P b H' → H' d = some (.xd vs) → RpF P.kc H' vs x.fs → W (.ref C) (some d) H'
theorem KQ.frm {P : Pa} {H H' : Hp} {Q : VK} {d : PyData} {b : Nat} (f : Frm H H') (h : KQ P H Q d b) : KQ P H' Q d b := fun v H2 f2 u r => h v H2 (f.trans f2) u r
theorem KW.frm {P : Pa} {H H' : Hp} {W : XK} {x : Er} {b : Nat} (f : Frm H H') (h : KW P H W x b) : KW P H' W x b := fun C d vs H2 e f2 u q r => h C d vs H2 e (f.trans f2) u q r
/-- the same for statements: what is told by its one object may change -/
def KQW (P : Pa) (H : Hp) (Q : VK) : PyData → Nat → Prop := fun d b => ∀ v H', FrmW H H' → Bud P b H' → Rp P.kc H' v d → Q v H'
def KWW (P : Pa) (H : Hp) (W : XK) : Er → Nat → Prop := fun x b => ∀ (C d : Addr) (vs : List (Str × V)) (H' : Hp), P.kc.cl x.cls = some C → FrmW H H' → Bud P b H' → H' d = some (.xd vs) → RpF P.kc H' vs x.fs → W (.ref C) (some d) H'
theorem KQW.frm {P : Pa} {H H' : Hp} {Q : VK} {d : PyData} {b : Nat} (f : FrmW H H') (h : KQW P H Q d b) : KQW P H' Q d b := fun v H2 f2 u r => h v H2 (f.trans f2) u r
theorem KWW.frm {P : Pa} {H H' : Hp} {W : XK} {x : Er} {b : Nat} (f : FrmW H H') (h : KWW P H W x b) : KWW P H' W x b := fun C d vs H2 e f2 u q r => h C d vs H2 e (f.trans f2) u q r
theorem KQW.e {P : Pa} {H : Hp} {Q : VK} {d : PyData} {b : Nat} (h : KQW P H Q d b) : KQ P H Q d b := fun v H2 f2 u r => h v H2 f2.w u r
theorem KWW.e {P : Pa} {H : Hp} {W : XK} {x : Er} {b : Nat} (h : KWW P H W x b) : KW P H W x b := fun C d vs H2 e f2 u q r => h C d vs H2 e f2.w u q r
end Pv

-- Pq0
set_option Elab.async false
set_option linter.all false
set_option maxRecDepth 100000
set_option maxHeartbeats 4000000
namespace Pv
open PySem PySem.Spec PyProof.Rows L2
/-! ## operators and methods that the kit has no rule of -/
section
variable {X : Cx}
theorem op_isBB : OpR X (compareOp .Is) (fun x y H Q => ∃ i j, x = .bl i ∧ y = .bl j ∧ Q (.bl (i == j)) H) := by
  intro pins s σ H x y v u Q I rx ry h
  obtain ⟨i, j, rfl, rfl, q⟩ := h
  cases rx
  cases ry
  show wpAny _ _ ((isSame (Value.bool i) (Value.bool j)) >>= fun z => pure (Value.bool z)) _ _ s
  refine wpAny_bind ?_
  have e : isSame (Value.bool i) (Value.bool j) = pure (i == j) := by cases i <;> cases j <;> rfl
  rw [e]
  exact wpAny_pure (wpAny_pure (fin_bl I q rfl))
theorem op_notBB : OpR X (compareOp .IsNot) (fun x y H Q => ∃ i j, x = .bl i ∧ y = .bl j ∧ Q (.bl (!(i == j))) H) := by
  intro pins s σ H x y v u Q I rx ry h
  obtain ⟨i, j, rfl, rfl, q⟩ := h
  cases rx
  cases ry
  show wpAny _ _ ((isSame (Value.bool i) (Value.bool j)) >>= fun z => pure (Value.bool (!z))) _ _ s
  refine wpAny_bind ?_
  have e : isSame (Value.bool i) (Value.bool j) = pure (i == j) := by cases i <;> cases j <;> rfl
  rw [e]
  exact wpAny_pure (wpAny_pure (fin_bl I q rfl))
/-- a text n times -/
def repS (x : Str) (n : Int) : Str := if n < 1 then Str.empty else if (n == 1 || x.length == 0) = true then x else ⟨(List.replicate n.toNat x.cps).foldl (· ++ ·) #[]⟩
theorem op_mulSI : OpR X (binaryOp .Mult) (fun x y H Q => ∃ a n, x = .str a ∧ y = .int n ∧ 0 ≤ n ∧ n ≤ 100000 ∧ a.length ≤ 100 ∧ Q (.str (repS a n)) H) := by
  intro pins s σ H x y v u Q I rx ry h
  obtain ⟨a, n, rfl, rfl, n0, n1, la, q⟩ := h
  obtain ⟨t, rfl⟩ := rx
  obtain ⟨t', rfl⟩ := ry
  have lz : a.length * n.toNat ≤ 100 * 100000 := Nat.mul_le_mul la (by omega)
  refine PySem.P.mul_str ?_ (fun h1 _ => ?_) (fun h1 _ => ?_) ?_
  · rw [decide_eq_false (by omega), decide_eq_false (by omega)]
    rfl
  · have e1 : (2 ^ 63 - 1 : Int) / n ≥ (2 ^ 63 - 1) / 100000 := by
      have := Int.ediv_le_ediv (a := (2 ^ 63 - 1 : Int)) (b := 2 ^ 63 - 1) (c := n) (by omega) (Int.le_refl _)
      refine Int.le_ediv_of_mul_le (by omega) ?_
      have : ((2 ^ 63 - 1 : Int) / 100000) * n ≤ ((2 ^ 63 - 1 : Int) / 100000) * 100000 := Int.mul_le_mul_of_nonneg_left n1 (by decide)
      have k : ((2 ^ 63 - 1 : Int) / 100000) * 100000 ≤ 2 ^ 63 - 1 := by decide
      omega
    have e2 : (a.length : Int) ≤ 100 := by omega
    have e3 : ((2 ^ 63 - 1 : Int) / 100000) ≥ 100 := by decide
    omega
  · unfold Builtin.Str.tooLong
    refine decide_eq_false ?_
    have := sizeLine_eq
    omega
  · have lim : ∀ z : Str, z.length ≤ 10000000 → z.length ≤ sizeLine := fun z hz => by rw [sizeLine_eq]; omega
    unfold repS at q
    by_cases h1 : n < 1
    · rw [if_pos h1] at q ⊢
      exact ⟨by decide, .str Str.empty, H, I.tok _, ⟨_, rfl⟩, q⟩
    · rw [if_neg h1] at q ⊢
      by_cases h2 : (n == 1 || a.length == 0) = true
      · rw [if_pos h2] at q ⊢
        exact ⟨.str a, H, I, ⟨_, rfl⟩, q⟩
      · rw [if_neg h2] at q ⊢
        refine ⟨?_, .str _, H, I.tok _, ⟨_, rfl⟩, q⟩
        refine fits_reps ?_
        unfold Builtin.Str.tooLong
        refine decide_eq_false ?_
        have := sizeLine_eq
        omega
theorem countP_eqU {y : V} : ∀ {vs : List V} {us : List Value}, Vals vs us → vs.all flatV = true → us.countP (eqU y) = vs.countP fun z => eqV z y
  | _, _, .nil, _ => rfl
  | _, _, .cons r rr, h => by
    rw [List.all_cons, Bool.and_eq_true] at h
    rw [List.countP_cons, List.countP_cons, countP_eqU rr h.2, eqU_of r h.1]
/-- how often a flat value stands in a list of such -/
theorem mt_countV : MtR X "list.count" (fun x xs H Q => ∃ (p : Addr) (vs : List V) (y : V), x = .ref p ∧ xs = [y] ∧ SqL X.K H p vs ∧ flatV y = true ∧ vs.all flatV = true ∧ Q (.int ((vs.countP fun z => eqV z y : Nat) : Int)) H) := by
  intro pins s σ H x xs v us Q I rx rxs h
  obtain ⟨p, vs, y, rfl, rfl, sq, fy, fv, q⟩ := h
  cases rx
  obtain ⟨u, rfl, ru⟩ := rxs.one
  obtain ⟨its, rv, ⟨⟨oc, od, oda, osl⟩, n, ho, hc, hdn, hd⟩, hlen⟩ := I.list sq
  simp only at hc hd
  subst hc hd
  refine call_meets PySem.F.slot_list_count ⟨_, ho, rfl⟩ PySem.F.entry_list_count (PySem.F.args_list_count_2 _ _)
    (SeqAt.list_countAt p its.toArray n od osl u (eqU y)) ⟨ho, fun z hz => mem_eqAt ru fy rv fv z (by simpa using hz), ?_⟩
  have ec : its.toArray.toList.countP (eqU y) = vs.countP fun z => eqV z y := countP_eqU rv fv
  refine ⟨.int ((vs.countP fun z => eqV z y : Nat) : Int), H, I.tok _, ⟨s.toks, ?_⟩, q⟩
  show Value.int ((its.toArray.toList.countP (eqU y) : Nat) : Int) s.toks = Value.int ((vs.countP fun z => eqV z y : Nat) : Int) s.toks
  rw [ec]
end
end Pv

-- Pq12
set_option Elab.async false
set_option linter.all false
set_option maxRecDepth 100000
set_option maxHeartbeats 4000000
namespace Pv
open PySem PySem.Spec PyProof.Rows L2
section
variable {X : Cx}
/-! ## a list times an int -/
theorem q_mul_int (l : Addr) (items : Array Value) (n : Nat) (d : Option Addr) (sl : Array (Option Value)) (x : Int) (u : Tok) (hc0 : ¬(!Builtin.List.listFitsIndex x) = true)
    (hc1 : ¬items.size * x.toNat > (2 ^ 63 - 1) / 8) (hc2 : ¬Builtin.List.listTooLong (items.size * x.toNat) = true) :
    Meets (Builtin.«list.__mul__» ⟨[.ref l, .int x u], []⟩) (fun _ R s => s.heap.get? l = some { cls := .type "list", dict := d, data := .seq items n, slots := sl } ∧ R (.ok (.ret (Value.ref s.heap.objs.size))) { s with heap := s.heap.push { cls := Value.type "list", data := Data.seq (List.foldl (fun x1 x2 => x1 ++ x2) #[] (List.replicate (if items.isEmpty = true then 0 else x.toNat) items)) }, toks := s.toks }) :=
  .of_wp fun prog w A R s h => by
    obtain ⟨hp, g, d, tk, os⟩ := s; obtain ⟨hl, h⟩ := h
    have hsz := AutoListH.joined_fits hc2
    wp_walk; refine wpAny_ite_false (decide_eq_false (Nat.not_lt.mpr hsz)) ?_; wp_walk; exact ⟨_, rfl, h⟩
theorem q_rmul_int (a : Int) (t : Tok) (l : Addr) (items : Array Value) (n : Nat) (d : Option Addr) (sl : Array (Option Value)) :
    Meets (Builtin.«int.__rmul__» ⟨[.int a t, .ref l], []⟩) (fun _ R s => s.heap.get? l = some { cls := .type "list", dict := d, data := .seq items n, slots := sl } ∧ R (.ok (.ret Value.notImplemented)) s) :=
  .of_wp fun prog w A R s h => by obtain ⟨hp, g, d, tk, os⟩ := s; obtain ⟨hl, h⟩ := h; wp_walk; exact ⟨_, rfl, h⟩
def rRepL (K : PySem.W.Frag) : R2 := fun x y H Q => ∃ l k xs, x = .ref l ∧ y = .int k ∧ SqL K H l xs ∧ -(2 ^ 63) ≤ k ∧ k < 2 ^ 63 ∧ xs.length * k.toNat ≤ sizeLine ∧
  ∀ p, H p = none → Q (.ref p) (upd H p (.lst (List.replicate k.toNat xs).flatten))
theorem op_repL : OpR X (binaryOp .Mult) (rRepL X.K) := by
  intro pins s σ H x y v u Q I rx ry h
  obtain ⟨l, k, xs, rfl, rfl, hH, h1, h2, hz, q⟩ := h
  cases rx
  obtain ⟨t, rfl⟩ := ry
  obtain ⟨its, r, ⟨⟨cls, dd, data, sl⟩, n, e, hc, hdn, hd⟩, hlen0⟩ := I.list hH
  have hc1 : cls = Value.type "list" := hc
  have hd1 : data = Data.seq its.toArray n := hd
  subst hc1 hd1
  have hl : xs.length = its.length := r.length
  have hlen : its.toArray.size * k.toNat ≤ sizeLine := by rw [List.size_toArray, ← hl]; exact hz
  have hcap : ¬ its.toArray.size * k.toNat > (2 ^ 63 - 1) / 8 := by
    have : (sizeLine : Nat) ≤ (2 ^ 63 - 1) / 8 := by decide
    omega
  have hfit : ¬ (!Builtin.List.listFitsIndex k) = true := by
    rw [fitsIndex_both h1 h2]
    exact Bool.false_ne_true
  have hlong : ¬ Builtin.List.listTooLong (its.toArray.size * k.toNat) = true := by
    rw [notLongL hlen]
    exact Bool.false_ne_true
  have hnew : List.foldl (fun x1 x2 => x1 ++ x2) #[] (List.replicate (if its.toArray.isEmpty = true then 0 else k.toNat) its.toArray) = (List.replicate k.toNat its).flatten.toArray := by
    have f0 : ∀ m : Nat, List.foldl (fun x1 x2 => x1 ++ x2) #[] (List.replicate m its.toArray) = (List.replicate m its).flatten.toArray := fun m => by
      have := foldl_rep its m []
      rw [List.nil_append] at this
      exact this
    rw [f0]
    cases its with
    | nil => simp
    | cons a r' => rw [if_neg (by simp)]
  refine wpAny_binaryOp_repeat_ref (T := "list") (U := "int") (by decide) ⟨_, e, rfl⟩ (fun s' => typeIs_int s' k t) noFill_list_mul F.fills_int_mul F.slot_int_rmul repeat_list F.slot_int_index.lookup
    (call_meets F.slot_int_rmul (typeIs_int s k t) F.entry_int_rmul (F.args_int_rmul_2 _ _) (q_rmul_int k t l its.toArray n dd sl)
      ⟨e, rfl, ⟨_, e, rfl⟩, call_meets F.slot_list_mul ⟨_, e, rfl⟩ F.entry_list_mul (F.args_list_mul_2 _ _) (q_mul_int l its.toArray n dd sl k t hfit hcap hlong) ⟨e, ?_⟩⟩)
  rw [hnew]
  exact ⟨.ref _, _, I.lnew (t' := s.toks) (r.rep k.toNat) (by rw [PyProof.Rows.lm_len_rep_flat, Nat.mul_comm]; exact hz), rfl, q _ I.fresh⟩
end
end Pv

-- Pv1
set_option Elab.async false
set_option linter.all false
set_option maxRecDepth 100000
set_option maxHeartbeats 4000000
namespace Pv
open PySem L2

/-! ## operators over data -/
abbrev big : Nat := 100000
theorem big_line {n : Nat} (h : n ≤ big) : n ≤ sizeLine := Nat.le_trans h (by rw [sizeLine_eq]; decide)
theorem big_lt {n : Nat} (h : n < big) : n < sizeLine := Nat.lt_of_lt_of_le h (big_line (Nat.le_refl _))
mutual
/-- no dict in it -/
def noDict : PyData → Bool
  | .none | .bool _ | .int _ | .str _ => true
  | .list xs | .tuple xs => noDicts xs
  | .dict _ => false
def noDicts : List PyData → Bool
  | [] => true
  | x :: xs => noDict x && noDicts xs
end
section
variable {Z : Kc} {H : Hp}
mutual
theorem Rp.dp : ∀ {v : V} {d : PyData}, Rp Z H v d → noDict d = true → Dp Z.K H v d
  | _, _, .non, _ => .non
  | _, _, .bl b, _ => .bl b
  | _, _, .int i, _ => .int i
  | _, _, .str x, _ => .str x
  | _, _, .lst h r, n => .lst h (r.dp (by simpa [noDict] using n))
  | _, _, .tup h r, n => .tup h (r.dp (by simpa [noDict] using n))
  | _, _, .emp _, n => by simp [noDict] at n
  | _, _, .drw _ _, n => by simp [noDict, drawD, excD] at n
  | _, _, .exc _ _ _ _ _ _ _, n => by simp [noDict, excD] at n
theorem RpA.dp : ∀ {vs : List V} {ds : List PyData}, RpA Z H vs ds → noDicts ds = true → DpAll Z.K H vs ds
  | _, _, .nil, _ => .nil
  | _, _, .cons h r, n => by
    have n' := Bool.and_eq_true_iff.mp (by simpa [noDicts] using n)
    exact .cons (h.dp n'.1) (r.dp n'.2)
end
end
def flatD : PyData → Bool
  | .none | .bool _ | .int _ | .str _ => true
  | _ => false
def isNo : PyData → Bool
  | .none => true
  | _ => false
def opB : Operator → PyData → PyData → T PyData
  | .Add, .int i, .int j => .ret (.int (i + j))
  | .Add, .str a, .str b => if a.length + b.length ≤ big then .ret (.str (a ++ b)) else .stuck
  | .Add, .list a, .list b => if a.length + b.length ≤ big then .ret (.list (a ++ b)) else .stuck
  | .Add, .tuple a, .tuple b => if a.length + b.length ≤ big then .ret (.tuple (a ++ b)) else .stuck
  | .Sub, .int i, .int j => .ret (.int (i - j))
  | .Mult, .int i, .int j => if (-(2 ^ 64) < i ∧ i < 2 ^ 64) ∨ (-(2 ^ 64) < j ∧ j < 2 ^ 64) then .ret (.int (i * j)) else .stuck
  | .Mult, .str a, .int n => if 0 ≤ n ∧ n ≤ 100000 ∧ a.length ≤ 100 then .ret (.str (repS a n)) else .stuck
  | .Mult, .list xs, .int n => if -(2 ^ 62) ≤ n ∧ n < 2 ^ 62 ∧ xs.length * n.toNat ≤ big then .ret (.list (List.replicate n.toNat xs).flatten) else .stuck
  | .FloorDiv, .int i, .int j => if 0 < j ∧ j < 1073741824 then .ret (.int (i / j)) else .stuck
  | .Mod, .int i, .int j => if 0 < j then .ret (.int (i % j)) else .stuck
  | .Pow, .int i, .int j => if 0 ≤ j ∧ j ≤ 1000 ∧ i.natAbs < 2 ^ 64 then .ret (.int (i ^ j.toNat)) else .stuck
  | _, _, _ => .stuck
def opC : CmpOp → PyData → PyData → T PyData
  | .Lt, .int i, .int j => .ret (.bool (decide (i < j)))
  | .LtE, .int i, .int j => .ret (.bool (decide (i ≤ j)))
  | .Gt, .int i, .int j => .ret (.bool (decide (j < i)))
  | .GtE, .int i, .int j => .ret (.bool (decide (j ≤ i)))
  | .Lt, .str i, .str j => .ret (.bool (decide (i.cps.toList < j.cps.toList)))
  | .LtE, .str i, .str j => .ret (.bool (!decide (j.cps.toList < i.cps.toList)))
  | .Gt, .str i, .str j => .ret (.bool (decide (j.cps.toList < i.cps.toList)))
  | .GtE, .str i, .str j => .ret (.bool (!decide (i.cps.toList < j.cps.toList)))
  | .Is, d, .none => .ret (.bool (isNo d))
  | .IsNot, d, .none => .ret (.bool (!isNo d))
  | .Is, .bool i, .bool j => .ret (.bool (i == j))
  | .IsNot, .bool i, .bool j => .ret (.bool (!(i == j)))
  | .Eq, d, e => if noDict d && noDict e && SeqAt.shaped d && SeqAt.shaped e then .ret (.bool (PyData.eqv d e)) else .stuck
  | .NotEq, d, e => if noDict d && noDict e && SeqAt.shaped d && SeqAt.shaped e then .ret (.bool (!PyData.eqv d e)) else .stuck
  | .In, d, .tuple es => if flatD d && es.all flatD then .ret (.bool (es.any fun z => PyData.eqv z d)) else .stuck
  | .NotIn, d, .tuple es => if flatD d && es.all flatD then .ret (.bool (!es.any fun z => PyData.eqv z d)) else .stuck
  | .In, d, .list es => if flatD d && es.all flatD then .ret (.bool (es.any fun z => PyData.eqv z d)) else .stuck
  | .NotIn, d, .list es => if flatD d && es.all flatD then .ret (.bool (!es.any fun z => PyData.eqv z d)) else .stuck
  | .In, .str i, .str j => .ret (.bool (!(Builtin.Str.occurrences j i 0 j.length 1).isEmpty))
  | .NotIn, .str i, .str j => .ret (.bool (!(!(Builtin.Str.occurrences j i 0 j.length 1).isEmpty)))
  | _, _, _ => .stuck
/-- a rule by values over data -/
def DOp (P : Pa) (t : PyData → PyData → T PyData) : R2 := fun x y H Q => ∃ d e b, Bud P b H ∧ Rp P.kc H x d ∧ Rp P.kc H y e ∧ T.wp (t d e) b (KQ P H Q) (fun _ _ => True)
section
variable {P : Pa} {H : Hp} {b : Nat}
theorem KQ.now {Q : VK} {d : PyData} {v : V} (h : KQ P H Q d b) (u : Bud P b H) (r : Rp P.kc H v d) : Q v H := h v H (Frm.refl H) u r
theorem KQ.laidT {Q : VK} {ds : List PyData} {vs : List V} {p : Addr} (h : KQ P H Q (.tuple ds) b) (u : Bud P b H) (n : H p = none) (r : RpA P.kc H vs ds) : Q (.ref p) (upd H p (.tup vs)) :=
  h _ _ (Frm.new n) (u.new n nd_tup) (.tup (SqT.of upd_same) (r.frm (Frm.new n)))
theorem KQ.laidL {Q : VK} {ds : List PyData} {vs : List V} {p : Addr} (h : KQ P H Q (.list ds) b) (u : Bud P b H) (n : H p = none) (r : RpA P.kc H vs ds) : Q (.ref p) (upd H p (.lst vs)) :=
  h _ _ (Frm.new n) (u.new n nd_lst) (.lst (SqL.of upd_same) (r.frm (Frm.new n)))
theorem KQ.bl {Q : VK} {c : Bool} (h : KQ P H Q (.bool c) b) (u : Bud P b H) : Q (.bl c) H := h.now u (.bl c)
theorem KQ.int {Q : VK} {i : Int} (h : KQ P H Q (.int i) b) (u : Bud P b H) : Q (.int i) H := h.now u (.int i)
theorem KQ.str {Q : VK} {i : Str} (h : KQ P H Q (.str i) b) (u : Bud P b H) : Q (.str i) H := h.now u (.str i)
theorem RpA.nil_iff {Z : Kc} {vs : List V} {ds : List PyData} (r : RpA Z H vs ds) : vs = [] ↔ ds = [] := by
  cases r with
  | nil => exact ⟨fun _ => rfl, fun _ => rfl⟩
  | cons _ _ => exact ⟨fun z => (nomatch z), fun z => (nomatch z)⟩
end
theorem RpA.rep {Z : Kc} {H : Hp} {vs : List V} {ds : List PyData} (r : RpA Z H vs ds) : ∀ n : Nat, RpA Z H (List.replicate n vs).flatten (List.replicate n ds).flatten
  | 0 => .nil
  | n + 1 => by
    rw [List.replicate_succ, List.replicate_succ, List.flatten_cons, List.flatten_cons]
    exact r.append (r.rep n)
section
variable {X : Cx}
/-- two lists, wherever they stand -/
def rCatL (K : PySem.W.Frag) : R2 := fun x y H Q => ∃ l b xs zs, x = .ref l ∧ y = .ref b ∧ SqL K H l xs ∧ SqL K H b zs ∧ xs.length + zs.length ≤ sizeLine ∧ ∀ p, H p = none → Q (.ref p) (upd H p (.lst (xs ++ zs)))
theorem op_catL : OpR X (binaryOp .Add) (rCatL X.K) := by
  intro pins s σ H x y v u Q I rx ry h
  obtain ⟨l, b, xs, zs, rfl, rfl, hl, hb, hz, q⟩ := h
  cases rx
  cases ry
  obtain ⟨its, r, ⟨⟨c1, d1, dt1, sl1⟩, n, ho, e1, e2, e3⟩, _⟩ := I.list hl
  obtain ⟨its2, r2, ⟨⟨c2, d2, dt2, sl2⟩, n2, ho2, f1, f2, f3⟩, _⟩ := I.list hb
  cases e1; cases e2; cases e3; cases f1; cases f2; cases f3
  have h1 := r.length
  have h2 := r2.length
  refine PySem.concat_meets ⟨_, ho, rfl⟩ ⟨_, ho2, rfl⟩ PySem.noFill_list_add PySem.seq_list_add PySem.F.slot_list_add PySem.F.entry_list_add (PySem.F.args_list_add_2 _ _) (PyProof.Rows.list_addW l b its.toArray its2.toArray n n2 _ _ sl1 sl2 (by simp only [List.size_toArray]; omega)) ⟨ho, ho2, ?_⟩
  have ea : its.toArray ++ its2.toArray = (its ++ its2).toArray := by simp
  rw [ea]
  exact ⟨.ref _, _, I.lnew (t' := s.toks) (r.append r2) (by rw [List.length_append]; omega), rfl, q _ I.fresh⟩
theorem ite_wp {α : Type} {c : Prop} [Decidable c] {t : T α} {b : Nat} {Q : α → Nat → Prop} {E : Er → Nat → Prop} (h : T.wp (if c then t else .stuck) b Q E) : c ∧ T.wp t b Q E := by
  by_cases hc : c
  · rw [if_pos hc] at h
    exact ⟨hc, h⟩
  · rw [if_neg hc] at h
    exact h.elim
theorem ok_opB {P : Pa} (hK : P.kc.K = X.K) (op : Operator) : OpR X (binaryOp op) (DOp P (opB op)) := by
  obtain ⟨⟨Kp, cp⟩, Tp, pp, zp, hp0, lp, np⟩ := P
  have eK : Kp = X.K := hK
  subst eK
  intro pins s σ H x y v u Q I rx ry h
  obtain ⟨d, e, b, U, hd, he, h⟩ := h
  cases op with
  | Add =>
    cases d with
    | int i =>
      cases e with
      | int j =>
        cases hd; cases he
        exact op_add pins s σ H _ _ v u Q I rx ry ⟨_, _, rfl, rfl, KQ.int h U⟩
      | _ => exact h.elim
    | str i =>
      cases e with
      | str j =>
        cases hd; cases he
        obtain ⟨hc, h⟩ := ite_wp h
        exact op_add_str pins s σ H _ _ v u Q I rx ry ⟨_, _, rfl, rfl, big_line hc, KQ.str h U⟩
      | _ => exact h.elim
    | list i =>
      cases e with
      | list j =>
        cases hd with | lst h1 r1 => cases he with | lst h2 r2 =>
        obtain ⟨hc, h⟩ := ite_wp h
        exact op_catL pins s σ H _ _ v u Q I rx ry ⟨_, _, _, _, rfl, rfl, h1, h2, by rw [r1.length, r2.length]; exact big_line hc, fun p hp => KQ.laidL h U hp (r1.append r2)⟩
      | _ => exact h.elim
    | tuple i =>
      cases e with
      | tuple j =>
        cases hd with | tup h1 r1 => cases he with | tup h2 r2 =>
        obtain ⟨hc, h⟩ := ite_wp h
        refine op_catA pins s σ H _ _ v u Q I rx ry ⟨_, _, _, _, rfl, rfl, h1, h2, by rw [r1.length, r2.length]; exact big_line hc, fun z => ?_, fun _ z => ?_, fun _ _ p hp => KQ.laidT h U hp (r1.append r2)⟩
        · rw [r1.nil_iff.mp z] at h
          exact KQ.now h U (.tup h2 r2)
        · rw [r2.nil_iff.mp z, List.append_nil] at h
          exact KQ.now h U (.tup h1 r1)
      | _ => exact h.elim
    | _ => exact h.elim
  | Sub =>
    cases d with
    | int i =>
      cases e with
      | int j =>
        cases hd; cases he
        exact op_sub pins s σ H _ _ v u Q I rx ry ⟨_, _, rfl, rfl, KQ.int h U⟩
      | _ => exact h.elim
    | _ => exact h.elim
  | Mult =>
    cases d with
    | int i =>
      cases e with
      | int j =>
        cases hd; cases he
        obtain ⟨hc, h⟩ := ite_wp h
        exact op_mul pins s σ H _ _ v u Q I rx ry ⟨_, _, rfl, rfl, hc, KQ.int h U⟩
      | _ => exact h.elim
    | str a =>
      cases e with
      | int n =>
        cases hd; cases he
        obtain ⟨⟨h1, h2, h3⟩, h⟩ := ite_wp h
        exact op_mulSI pins s σ H _ _ v u Q I rx ry ⟨_, _, rfl, rfl, h1, h2, h3, KQ.str h U⟩
      | _ => exact h.elim
    | list xs =>
      cases e with
      | int n =>
        cases hd with | lst k1 r1 =>
        cases he
        obtain ⟨⟨h1, h2, h3⟩, h⟩ := ite_wp h
        exact op_repL pins s σ H _ _ v u Q I rx ry ⟨_, _, _, rfl, rfl, k1, by omega, by omega, by rw [r1.length]; exact big_line h3, fun p hp => KQ.laidL h U hp (r1.rep _)⟩
      | _ => exact h.elim
    | _ => exact h.elim
  | FloorDiv =>
    cases d with
    | int i =>
      cases e with
      | int j =>
        cases hd; cases he
        obtain ⟨hc, h⟩ := ite_wp h
        exact op_fdiv pins s σ H _ _ v u Q I rx ry ⟨_, _, rfl, rfl, hc, KQ.int h U⟩
      | _ => exact h.elim
    | _ => exact h.elim
  | Mod =>
    cases d with
    | int i =>
      cases e with
      | int j =>
        cases hd; cases he
        obtain ⟨hc, h⟩ := ite_wp h
        exact op_mod pins s σ H _ _ v u Q I rx ry ⟨_, _, rfl, rfl, hc, KQ.int h U⟩
      | _ => exact h.elim
    | _ => exact h.elim
  | Pow =>
    cases d with
    | int i =>
      cases e with
      | int j =>
        cases hd; cases he
        obtain ⟨hc, h⟩ := ite_wp h
        exact op_pow pins s σ H _ _ v u Q I rx ry ⟨_, _, rfl, rfl, ⟨hc.1, Int.le_trans hc.2.1 (by decide), hc.2.2⟩, KQ.int h U⟩
      | _ => exact h.elim
    | _ => exact h.elim
  | _ => exact h.elim
theorem flat_of {Z : Kc} {H : Hp} {v : V} {d : PyData} (r : Rp Z H v d) (h : flatD d = true) : flatV v = true := by
  cases r <;> first | rfl | simp [flatD, drawD, excD] at h
theorem flats_of {Z : Kc} {H : Hp} : ∀ {vs : List V} {ds : List PyData}, RpA Z H vs ds → ds.all flatD = true → vs.all flatV = true
  | _, _, .nil, _ => rfl
  | _, _, .cons r t, h => by
    rw [List.all_cons, Bool.and_eq_true] at h ⊢
    exact ⟨flat_of r h.1, flats_of t h.2⟩
theorem eqV_of {Z : Kc} {H : Hp} {v w : V} {d e : PyData} (r : Rp Z H v d) (q : Rp Z H w e) (h : flatD d = true) (k : flatD e = true) : eqV v w = PyData.eqv d e := by
  cases r <;> cases q <;> first | rfl | (simp [flatD, drawD, excD] at h; done) | (simp [flatD, drawD, excD] at k; done) | simp [eqV, PyData.eqv]
theorem anyV_of {Z : Kc} {H : Hp} {v : V} {d : PyData} (r : Rp Z H v d) (h : flatD d = true) : ∀ {vs : List V} {ds : List PyData}, RpA Z H vs ds → ds.all flatD = true → inV v vs = ds.any fun z => PyData.eqv z d
  | _, _, .nil, _ => rfl
  | _, _, .cons q t, k => by
    rw [List.all_cons, Bool.and_eq_true] at k
    have e := anyV_of r h t k.2
    unfold inV at e ⊢
    rw [List.any_cons, List.any_cons, e, eqV_of q r k.1 h]
theorem isN_of {Z : Kc} {H : Hp} {v : V} {d : PyData} (r : Rp Z H v d) : decide (v = .non) = isNo d := by
  cases r <;> first | rfl | exact decide_eq_false fun z => nomatch z
theorem ok_opC {P : Pa} (hK : P.kc.K = X.K) (op : CmpOp) (hu : X.A.units + 64 < cLine) : OpR X (compareOp op) (DOp P (opC op)) := by
  obtain ⟨⟨Kp, cp⟩, Tp, pp, zp, hp0, lp, np⟩ := P
  have eK : Kp = X.K := hK
  subst eK
  intro pins s σ H x y v u Q I rx ry h
  obtain ⟨d, e, b, U, hd, he, h⟩ := h
  cases op with
  | Lt =>
    cases d with
    | int i =>
      cases e with
      | int j => cases hd; cases he; exact op_lt pins s σ H _ _ v u Q I rx ry ⟨_, _, rfl, rfl, KQ.bl h U⟩
      | _ => exact h.elim
    | str i =>
      cases e with
      | str j => cases hd; cases he; exact op_lt_str pins s σ H _ _ v u Q I rx ry ⟨_, _, rfl, rfl, KQ.bl h U⟩
      | _ => exact h.elim
    | _ => exact h.elim
  | LtE =>
    cases d with
    | int i =>
      cases e with
      | int j => cases hd; cases he; exact op_le pins s σ H _ _ v u Q I rx ry ⟨_, _, rfl, rfl, KQ.bl h U⟩
      | _ => exact h.elim
    | str i =>
      cases e with
      | str j => cases hd; cases he; exact op_le_str pins s σ H _ _ v u Q I rx ry ⟨_, _, rfl, rfl, KQ.bl h U⟩
      | _ => exact h.elim
    | _ => exact h.elim
  | Gt =>
    cases d with
    | int i =>
      cases e with
      | int j => cases hd; cases he; exact op_gt pins s σ H _ _ v u Q I rx ry ⟨_, _, rfl, rfl, KQ.bl h U⟩
      | _ => exact h.elim
    | str i =>
      cases e with
      | str j => cases hd; cases he; exact op_gt_str pins s σ H _ _ v u Q I rx ry ⟨_, _, rfl, rfl, KQ.bl h U⟩
      | _ => exact h.elim
    | _ => exact h.elim
  | GtE =>
    cases d with
    | int i =>
      cases e with
      | int j => cases hd; cases he; exact op_ge pins s σ H _ _ v u Q I rx ry ⟨_, _, rfl, rfl, KQ.bl h U⟩
      | _ => exact h.elim
    | str i =>
      cases e with
      | str j => cases hd; cases he; exact op_ge_str pins s σ H _ _ v u Q I rx ry ⟨_, _, rfl, rfl, KQ.bl h U⟩
      | _ => exact h.elim
    | _ => exact h.elim
  | Is =>
    cases e with
    | none =>
      cases he
      have h' : T.wp (.ret (.bool (isNo d))) b (KQ ⟨⟨X.K, cp⟩, Tp, pp, zp, hp0, lp, np⟩ H Q) (fun _ _ => True) := by cases d <;> exact h
      exact op_isN pins s σ H _ _ v u Q I rx ry ⟨rfl, by rw [isN_of hd]; exact KQ.bl h' U⟩
    | bool j =>
      cases d with
      | bool i => cases hd; cases he; exact op_isBB pins s σ H _ _ v u Q I rx ry ⟨_, _, rfl, rfl, KQ.bl h U⟩
      | _ => exact h.elim
    | _ => exact h.elim
  | IsNot =>
    cases e with
    | none =>
      cases he
      have h' : T.wp (.ret (.bool (!isNo d))) b (KQ ⟨⟨X.K, cp⟩, Tp, pp, zp, hp0, lp, np⟩ H Q) (fun _ _ => True) := by cases d <;> exact h
      exact op_notN pins s σ H _ _ v u Q I rx ry ⟨rfl, by rw [isN_of hd]; exact KQ.bl h' U⟩
    | bool j =>
      cases d with
      | bool i => cases hd; cases he; exact op_notBB pins s σ H _ _ v u Q I rx ry ⟨_, _, rfl, rfl, KQ.bl h U⟩
      | _ => exact h.elim
    | _ => exact h.elim
  | Eq =>
    obtain ⟨hc, h⟩ := ite_wp h
    simp only [Bool.and_eq_true] at hc
    exact op_eqD hu pins s σ H _ _ v u Q I rx ry ⟨d, e, hd.dp hc.1.1.1, he.dp hc.1.1.2, hc.1.2, hc.2, KQ.bl h U⟩
  | NotEq =>
    obtain ⟨hc, h⟩ := ite_wp h
    simp only [Bool.and_eq_true] at hc
    exact op_neD hu pins s σ H _ _ v u Q I rx ry ⟨d, e, hd.dp hc.1.1.1, he.dp hc.1.1.2, hc.1.2, hc.2, KQ.bl h U⟩
  | In =>
    cases e with
    | tuple es =>
      have h' : T.wp (if (flatD d && es.all flatD) = true then .ret (.bool (es.any fun z => PyData.eqv z d)) else .stuck) b (KQ ⟨⟨X.K, cp⟩, Tp, pp, zp, hp0, lp, np⟩ H Q) (fun _ _ => True) := by cases d <;> exact h
      obtain ⟨hc, h⟩ := ite_wp h'
      rw [Bool.and_eq_true] at hc
      cases he with | tup h2 r2 =>
      exact op_in_seq pins s σ H _ _ v u Q I rx ry ⟨_, _, rfl, .inr h2, flat_of hd hc.1, flats_of r2 hc.2, by rw [if_neg Bool.false_ne_true, anyV_of hd hc.1 r2 hc.2]; exact KQ.bl h U⟩
    | list es =>
      have h' : T.wp (if (flatD d && es.all flatD) = true then .ret (.bool (es.any fun z => PyData.eqv z d)) else .stuck) b (KQ ⟨⟨X.K, cp⟩, Tp, pp, zp, hp0, lp, np⟩ H Q) (fun _ _ => True) := by cases d <;> exact h
      obtain ⟨hc, h⟩ := ite_wp h'
      rw [Bool.and_eq_true] at hc
      cases he with | lst h2 r2 =>
      exact op_in_seq pins s σ H _ _ v u Q I rx ry ⟨_, _, rfl, .inl h2, flat_of hd hc.1, flats_of r2 hc.2, by rw [if_neg Bool.false_ne_true, anyV_of hd hc.1 r2 hc.2]; exact KQ.bl h U⟩
    | str j =>
      cases d with
      | str i => cases hd; cases he; exact op_in_str pins s σ H _ _ v u Q I rx ry ⟨_, _, rfl, rfl, KQ.bl h U⟩
      | _ => exact h.elim
    | _ => cases d <;> exact h.elim
  | NotIn =>
    cases e with
    | tuple es =>
      have h' : T.wp (if (flatD d && es.all flatD) = true then .ret (.bool (!es.any fun z => PyData.eqv z d)) else .stuck) b (KQ ⟨⟨X.K, cp⟩, Tp, pp, zp, hp0, lp, np⟩ H Q) (fun _ _ => True) := by cases d <;> exact h
      obtain ⟨hc, h⟩ := ite_wp h'
      rw [Bool.and_eq_true] at hc
      cases he with | tup h2 r2 =>
      exact op_notIn_seq pins s σ H _ _ v u Q I rx ry ⟨_, _, rfl, .inr h2, flat_of hd hc.1, flats_of r2 hc.2, by rw [if_pos rfl, anyV_of hd hc.1 r2 hc.2]; exact KQ.bl h U⟩
    | list es =>
      have h' : T.wp (if (flatD d && es.all flatD) = true then .ret (.bool (!es.any fun z => PyData.eqv z d)) else .stuck) b (KQ ⟨⟨X.K, cp⟩, Tp, pp, zp, hp0, lp, np⟩ H Q) (fun _ _ => True) := by cases d <;> exact h
      obtain ⟨hc, h⟩ := ite_wp h'
      rw [Bool.and_eq_true] at hc
      cases he with | lst h2 r2 =>
      exact op_notIn_seq pins s σ H _ _ v u Q I rx ry ⟨_, _, rfl, .inl h2, flat_of hd hc.1, flats_of r2 hc.2, by rw [if_pos rfl, anyV_of hd hc.1 r2 hc.2]; exact KQ.bl h U⟩
    | str j =>
      cases d with
      | str i => cases hd; cases he; exact op_notin_str pins s σ H _ _ v u Q I rx ry ⟨_, _, rfl, rfl, KQ.bl h U⟩
      | _ => exact h.elim
    | _ => cases d <;> exact h.elim
end
end Pv

-- Pv2
set_option Elab.async false
set_option linter.all false
set_option maxRecDepth 100000
set_option maxHeartbeats 4000000
namespace Pv
open PySem L2

/-! ## items, slices -/
def opI : PyData → PyData → T PyData
  | .list xs, .int i => T.ofO (atI' xs i)
  | .tuple xs, .int i => T.ofO (atI' xs i)
  | .str z, .int i => if z.length ≤ big then T.ofO ((atI' z.cps.toList i).map fun c => .str ⟨#[c]⟩) else .stuck
  | _, _ => .stuck
where
  atI' {α : Type} (xs : List α) (i : Int) : Option α := (ixN xs.length i).bind fun j => xs[j]?
def cutD {α : Type} (xs : List α) (lo hi : Option Int) : List α := (xs.drop (HT.sIx xs.length 0 lo)).take (HT.sIx xs.length xs.length hi - HT.sIx xs.length 0 lo)
def opS : PyData → Option Int → Option Int → T PyData
  | .list xs, lo, hi => .ret (.list (cutD xs lo hi))
  | .tuple xs, lo, hi => .ret (.tuple (cutD xs lo hi))
  | .str z, lo, hi => if z.length ≤ big then .ret (.str (cutS z lo hi)) else .stuck
  | _, _, _ => .stuck
def DSl (P : Pa) : V → Option Int → Option Int → Hp → VK → Prop := fun x lo hi H Q => ∃ d b, Bud P b H ∧ Rp P.kc H x d ∧ T.wp (opS d lo hi) b (KQ P H Q) (fun _ _ => True)
theorem ofO_wp {α : Type} {o : Option α} {b : Nat} {Q : α → Nat → Prop} {E : Er → Nat → Prop} (h : T.wp (T.ofO o) b Q E) : ∃ a, o = some a ∧ Q a b := by
  cases o with
  | none => exact h.elim
  | some a => exact ⟨a, rfl, h⟩
section
variable {X : Cx}
theorem ok_opI {P : Pa} (hK : P.kc.K = X.K) : IxR X (DOp P opI) := by
  obtain ⟨⟨Kp, cp⟩, Tp, pp, zp, hp0, lp, np⟩ := P
  have eK : Kp = X.K := hK
  subst eK
  intro value slice pins s σ H x y v u Q I rx ry h hs
  obtain ⟨d, e, b, U, hd, he, h⟩ := h
  cases e with
  | int i =>
    cases he
    cases d with
    | list xs =>
      obtain ⟨a, ha, h⟩ := ofO_wp h
      cases hd with | lst h1 r1 =>
      obtain ⟨j, hj, hx⟩ := Option.bind_eq_some_iff.mp ha
      obtain ⟨w, hw, rw'⟩ := r1.get hx
      exact ix_list value slice pins s σ H _ _ v u Q I rx ry ⟨_, _, i, w, rfl, rfl, h1, by unfold atI; rw [r1.length, hj]; exact hw, KQ.now h U rw'⟩ hs
    | tuple xs =>
      obtain ⟨a, ha, h⟩ := ofO_wp h
      cases hd with | tup h1 r1 =>
      obtain ⟨j, hj, hx⟩ := Option.bind_eq_some_iff.mp ha
      obtain ⟨w, hw, rw'⟩ := r1.get hx
      exact ix_tup value slice pins s σ H _ _ v u Q I rx ry ⟨_, _, i, w, rfl, rfl, h1, by unfold atI; rw [r1.length, hj]; exact hw, KQ.now h U rw'⟩ hs
    | str z =>
      obtain ⟨hz, h⟩ := ite_wp h
      obtain ⟨a, ha, h⟩ := ofO_wp h
      cases hd
      obtain ⟨c, hc, ea⟩ := Option.map_eq_some_iff.mp ha
      subst ea
      exact ix_str value slice pins s σ H _ _ v u Q I rx ry ⟨z, i, c, rfl, rfl, big_line hz, hc, KQ.str h U⟩ hs
    | _ => exact h.elim
  | _ => cases d <;> exact h.elim
theorem RpA.cut {Z : Kc} {H : Hp} {vs : List V} {ds : List PyData} (r : RpA Z H vs ds) (lo hi : Option Int) : RpA Z H (cutV vs lo hi) (cutD ds lo hi) := by
  unfold cutV cutD
  rw [r.length]
  exact (r.drop _).take _
theorem ok_opS {P : Pa} (hK : P.kc.K = X.K) : SlR X (DSl P) := by
  obtain ⟨⟨Kp, cp⟩, Tp, pp, zp, hp0, lp, np⟩ := P
  have eK : Kp = X.K := hK
  subst eK
  intro pins s σ H x v vl vu lo hi sl Q I rx hs pl pu h
  obtain ⟨d, b, U, hd, h⟩ := h
  cases d with
  | list xs =>
    cases hd with | lst h1 r1 =>
    exact sl_list pins s σ H _ v vl vu lo hi sl Q I rx hs pl pu ⟨_, _, rfl, h1, fun p hp => KQ.laidL h U hp (r1.cut lo hi)⟩
  | tuple xs =>
    cases hd with | tup h1 r1 =>
    refine sl_tupA pins s σ H _ v vl vu lo hi sl Q I rx hs pl pu ⟨_, _, rfl, h1, fun z => ?_, fun _ p hp => KQ.laidT h U hp (r1.cut lo hi)⟩
    have e : cutD xs lo hi = xs := by
      unfold cutD
      rw [r1.length] at z
      rw [z.1, z.2, List.drop_zero, Nat.sub_zero, List.take_length]
    have h' : KQ ⟨⟨X.K, cp⟩, Tp, pp, zp, hp0, lp, np⟩ H Q (.tuple (cutD xs lo hi)) b := h
    rw [e] at h'
    exact KQ.now h' U (.tup h1 r1)
  | str z =>
    obtain ⟨hz, h⟩ := ite_wp h
    cases hd
    exact sl_str pins s σ H _ v vl vu lo hi sl Q I rx hs pl pu ⟨z, rfl, big_line hz, KQ.str h U⟩
  | _ => exact h.elim
end

/-! ## calls of built-ins -/
def lenD : PyData → T PyData
  | .str z => if z.length ≤ big then .ret (.int z.length) else .stuck
  | .list xs => .ret (.int xs.length)
  | .tuple xs => .ret (.int xs.length)
  | _ => .stuck
def topDict : PyData → Bool
  | .dict [] => true
  | _ => false
/-! tuples of plain things, empty dicts among them -/
mutual
def tupE : PyData → Bool
  | .none | .bool _ | .int _ | .str _ => true
  | .tuple xs => tupEs xs
  | .dict [] => true
  | _ => false
def tupEs : List PyData → Bool
  | [] => true
  | x :: xs => tupE x && tupEs xs
end
def reprD (d : PyData) : T PyData := if (noDict d || tupE d) && d.showable && decide (d.depth ≤ 60) && decide (d.shown.length ≤ big) then .ret (.str d.shown) else .stuck
abbrev FnD := List PyData → T PyData
def f_len : FnD
  | [d] => lenD d
  | _ => .stuck
def f_ord : FnD
  | [.str z] => if z.length = 1 then .ret (.int (z.cps.getD 0 0 : Nat)) else .stuck
  | _ => .stuck
def f_repr : FnD
  | [d] => reprD d
  | _ => .stuck
def f_divmod : FnD
  | [.int i, .int j] => if 0 < j ∧ j < 1073741824 then .ret (.tuple [.int (i / j), .int (i % j)]) else .stuck
  | _ => .stuck
def f_min : FnD
  | [.int i, .int j] => .ret (.int (if j < i then j else i))
  | _ => .stuck
def f_max : FnD
  | [.int i, .int j] => .ret (.int (if j > i then j else i))
  | _ => .stuck
def allInts : List PyData → Option Int
  | [] => some 0
  | .int i :: r => (allInts r).map (i + ·)
  | _ => none
def f_sum : FnD
  | [.list xs] => T.ofO ((allInts xs).map .int)
  | _ => .stuck
def f_str : FnD
  | [.int i] => if i.natAbs.log2 < 1920 then .ret (.str (toString i)) else .stuck
  | _ => .stuck
def f_int : FnD
  | [.int i] => .ret (.int i)
  | [.bool k] => .ret (.int (if k then 1 else 0))
  | [.str a] => if a.length ≤ 640 then T.ofO ((PySem.intText? a).map .int) else .stuck
  | _ => .stuck
def f_list : FnD
  | [.list xs] => .ret (.list xs)
  | [.tuple xs] => .ret (.list xs)
  | _ => .stuck
def f_tuple : FnD
  | [.list xs] => .ret (.tuple xs)
  | [.tuple xs] => .ret (.tuple xs)
  | _ => .stuck
/-- the built-in functions, the built-in classes that are called -/
def bltFn (f : Str) : Option (String × FnD) :=
  if f = "len" then some ("len", f_len) else if f = "ord" then some ("ord", f_ord) else if f = "divmod" then some ("divmod", f_divmod)
  else if f = "min" then some ("min", f_min) else if f = "max" then some ("max", f_max) else if f = "sum" then some ("sum", f_sum) else none
def bltTy (f : Str) : Option (String × FnD) :=
  if f = "str" then some ("str", f_str) else if f = "int" then some ("int", f_int) else if f = "list" then some ("list", f_list) else if f = "tuple" then some ("tuple", f_tuple) else none
/-- the name of a value's class -/
def tyD : PyData → String
  | .none => "NoneType" | .bool _ => "bool" | .int _ => "int" | .str _ => "str" | .list _ => "list" | .tuple _ => "tuple" | .dict _ => "dict"
/-- a caught error that is kept -/
def isExc : PyData → Bool
  | .dict ((.none, .str _) :: _) => true
  | _ => false
theorem isExc_excD {c : Str} {ds : List (Str × PyData)} : isExc (excD c ds) = true := rfl
def isiD (c : String) (d : PyData) : T PyData := if isExc d = false then T.ofO ((kitB (tyD d) c).map .bool) else .stuck
def DCall (P : Pa) (t : List PyData → T PyData) : List V → Hp → VK → Prop := fun xs H Q => ∃ ds b, Bud P b H ∧ RpA P.kc H xs ds ∧ T.wp (t ds) b (KQ P H Q) (fun _ _ => True)
end Pv

-- Pv3
set_option Elab.async false
set_option linter.all false
set_option maxRecDepth 100000
set_option maxHeartbeats 4000000
namespace Pv
open PySem L2
section
variable {X : Cx} {P : Pa}
theorem len1 {Z : Kc} {H : Hp} {vs : List V} {d : PyData} (r : RpA Z H vs [d]) : ∃ v, vs = [v] ∧ Rp Z H v d := by
  cases r with | cons h t => cases t; exact ⟨_, rfl, h⟩
theorem len2 {Z : Kc} {H : Hp} {vs : List V} {d e : PyData} (r : RpA Z H vs [d, e]) : ∃ v u, vs = [v, u] ∧ Rp Z H v d ∧ Rp Z H u e := by
  cases r with | cons h t => cases t with | cons k t => cases t; exact ⟨_, _, rfl, h, k⟩
theorem ok_len (hK : P.kc.K = X.K) : CallR X (.builtin "len") (DCall P f_len) := by
  obtain ⟨⟨Kp, cp⟩, Tp, pp, zp, hp0, lp, np⟩ := P
  have eK : Kp = X.K := hK
  subst eK
  intro pins s σ H xs us Q I r h
  obtain ⟨ds, b, U, rs, h⟩ := h
  match ds, rs, h with
  | [d], rs, h =>
    obtain ⟨v, rfl, hd⟩ := len1 rs
    cases hd with
    | str z =>
      obtain ⟨hz, h⟩ := ite_wp h
      exact call_len pins s σ H _ us Q I r ⟨_, _, rfl, ⟨big_line hz, rfl⟩, KQ.int h U⟩
    | lst h1 r1 => exact call_len pins s σ H _ us Q I r ⟨_, _, rfl, .inl ⟨_, h1, rfl⟩, by rw [r1.length]; exact KQ.int h U⟩
    | tup h1 r1 => exact call_len pins s σ H _ us Q I r ⟨_, _, rfl, .inr ⟨_, h1, rfl⟩, by rw [r1.length]; exact KQ.int h U⟩
    | _ => exact h.elim
theorem ok_ord (hK : P.kc.K = X.K) : CallR X (.builtin "ord") (DCall P f_ord) := by
  intro pins s σ H xs us Q I r h
  obtain ⟨ds, b, U, rs, h⟩ := h
  match ds, rs, h with
  | [.str z], rs, h =>
    obtain ⟨v, rfl, hd⟩ := len1 rs
    cases hd
    obtain ⟨hz, h⟩ := ite_wp h
    exact call_ord pins s σ H _ us Q I r ⟨_, rfl, hz, KQ.int h U⟩
theorem ok_divmod (hK : P.kc.K = X.K) : CallR X (.builtin "divmod") (DCall P f_divmod) := by
  intro pins s σ H xs us Q I r h
  obtain ⟨ds, b, U, rs, h⟩ := h
  match ds, rs, h with
  | [.int i, .int j], rs, h =>
    obtain ⟨v, u, rfl, hd, he⟩ := len2 rs
    cases hd; cases he
    obtain ⟨hz, h⟩ := ite_wp h
    exact call_divmod pins s σ H _ us Q I r ⟨_, _, rfl, hz, fun p hp => KQ.laidT h U hp (.cons (.int _) (.cons (.int _) .nil))⟩
theorem ok_min (hK : P.kc.K = X.K) (hc : X.calm = true) : CallR X (.builtin "min") (DCall P f_min) := by
  intro pins s σ H xs us Q I r h
  obtain ⟨ds, b, U, rs, h⟩ := h
  match ds, rs, h with
  | [.int i, .int j], rs, h =>
    obtain ⟨v, u, rfl, hd, he⟩ := len2 rs
    cases hd; cases he
    exact call_min2 hc pins s σ H _ us Q I r ⟨_, _, rfl, KQ.int h U⟩
theorem ok_max (hK : P.kc.K = X.K) (hc : X.calm = true) : CallR X (.builtin "max") (DCall P f_max) := by
  intro pins s σ H xs us Q I r h
  obtain ⟨ds, b, U, rs, h⟩ := h
  match ds, rs, h with
  | [.int i, .int j], rs, h =>
    obtain ⟨v, u, rfl, hd, he⟩ := len2 rs
    cases hd; cases he
    exact call_max2 hc pins s σ H _ us Q I r ⟨_, _, rfl, KQ.int h U⟩
theorem ints_of {Z : Kc} {H : Hp} : ∀ {vs : List V} {ds : List PyData} {n : Int}, RpA Z H vs ds → allInts ds = some n → ∃ ns : List Int, vs = ns.map V.int ∧ ns.sum = n
  | _, _, n, .nil, h => ⟨[], rfl, Option.some.inj h⟩
  | _, _, n, .cons (d := d) r t, h => by
    cases d with
    | int i =>
      cases r
      obtain ⟨m, hm, e⟩ := Option.map_eq_some_iff.mp h
      obtain ⟨ns, e1, e2⟩ := ints_of t hm
      exact ⟨i :: ns, by rw [e1]; rfl, by rw [List.sum_cons, e2]; exact e⟩
    | _ => simp [allInts] at h
theorem ok_sum (hK : P.kc.K = X.K) (hc : X.calm = true) : CallR X (.builtin "sum") (DCall P f_sum) := by
  obtain ⟨⟨Kp, cp⟩, Tp, pp, zp, hp0, lp, np⟩ := P
  have eK : Kp = X.K := hK
  subst eK
  intro pins s σ H xs us Q I r h
  obtain ⟨ds, b, U, rs, h⟩ := h
  match ds, rs, h with
  | [.list ys], rs, h =>
    obtain ⟨v, rfl, hd⟩ := len1 rs
    cases hd with | lst h1 r1 =>
    obtain ⟨d, e, h⟩ := ofO_wp h
    obtain ⟨n, hn, en⟩ := Option.map_eq_some_iff.mp e
    subst en
    obtain ⟨ns, e1, e2⟩ := ints_of r1 hn
    subst e1
    exact cr_sum hc pins s σ H _ us Q I r ⟨_, ns, rfl, h1, by rw [e2]; exact KQ.int h U⟩
theorem ok_str (hK : P.kc.K = X.K) : CallR X (.type "str") (DCall P f_str) := by
  intro pins s σ H xs us Q I r h
  obtain ⟨ds, b, U, rs, h⟩ := h
  match ds, rs, h with
  | [.int i], rs, h =>
    obtain ⟨v, rfl, hd⟩ := len1 rs
    cases hd
    obtain ⟨hz, h⟩ := ite_wp h
    exact call_str_int pins s σ H _ us Q I r ⟨_, rfl, hz, KQ.str h U⟩
theorem ok_int (hK : P.kc.K = X.K) : CallR X (.type "int") (DCall P f_int) := by
  intro pins s σ H xs us Q I r h
  obtain ⟨ds, b, U, rs, h⟩ := h
  match ds, rs, h with
  | [.int i], rs, h =>
    obtain ⟨v, rfl, hd⟩ := len1 rs
    cases hd
    exact call_int1 pins s σ H _ us Q I r (.inl ⟨_, rfl, KQ.int h U⟩)
  | [.bool k], rs, h =>
    obtain ⟨v, rfl, hd⟩ := len1 rs
    cases hd
    exact call_int1 pins s σ H _ us Q I r (.inr ⟨_, rfl, KQ.int h U⟩)
  | [.str a], rs, h =>
    obtain ⟨v, rfl, hd⟩ := len1 rs
    cases hd
    obtain ⟨hz, h⟩ := ite_wp h
    obtain ⟨d, e, h⟩ := ofO_wp h
    obtain ⟨n, hn, en⟩ := Option.map_eq_some_iff.mp e
    subst en
    exact call_int_str pins s σ H _ us Q I r ⟨_, n, rfl, hn, hz, KQ.int h U⟩
theorem ok_list (hK : P.kc.K = X.K) : CallR X (.type "list") (DCall P f_list) := by
  obtain ⟨⟨Kp, cp⟩, Tp, pp, zp, hp0, lp, np⟩ := P
  have eK : Kp = X.K := hK
  subst eK
  intro pins s σ H xs us Q I r h
  obtain ⟨ds, b, U, rs, h⟩ := h
  match ds, rs, h with
  | [.list ys], rs, h =>
    obtain ⟨v, rfl, hd⟩ := len1 rs
    cases hd with | lst h1 r1 =>
    exact call_list_of pins s σ H _ us Q I r ⟨_, _, rfl, .inl h1, fun p hp => KQ.laidL h U hp r1⟩
  | [.tuple ys], rs, h =>
    obtain ⟨v, rfl, hd⟩ := len1 rs
    cases hd with | tup h1 r1 =>
    exact call_list_of pins s σ H _ us Q I r ⟨_, _, rfl, .inr h1, fun p hp => KQ.laidL h U hp r1⟩
theorem ok_tuple (hK : P.kc.K = X.K) : CallR X (.type "tuple") (DCall P f_tuple) := by
  obtain ⟨⟨Kp, cp⟩, Tp, pp, zp, hp0, lp, np⟩ := P
  have eK : Kp = X.K := hK
  subst eK
  intro pins s σ H xs us Q I r h
  obtain ⟨ds, b, U, rs, h⟩ := h
  match ds, rs, h with
  | [.list ys], rs, h =>
    obtain ⟨v, rfl, hd⟩ := len1 rs
    cases hd with | lst h1 r1 =>
    exact call_tuple_of pins s σ H _ us Q I r ⟨_, _, rfl, .inl ⟨h1, fun p hp => KQ.laidT h U hp r1⟩⟩
  | [.tuple ys], rs, h =>
    obtain ⟨v, rfl, hd⟩ := len1 rs
    cases hd with | tup h1 r1 =>
    exact call_tuple_of pins s σ H _ us Q I r ⟨_, _, rfl, .inr ⟨h1, KQ.now h U (.tup h1 r1)⟩⟩
/-- isinstance with a built-in class -/
theorem ty_of {Z : Kc} {H : Hp} {v : V} {d : PyData} (r : Rp Z H v d) (ne : isExc d = false) : TyX Z.K H v (.type (tyD d)) := by
  cases r with
  | non => exact .base .non
  | bl b => exact .base (.bl b)
  | int i => exact .base (.int i)
  | str x => exact .base (.str x)
  | lst h _ =>
    rcases h with (h | ⟨o, h⟩) | ⟨o, _, _, h, c, _⟩
    · exact .base (.lst h)
    · exact .base (.frz h)
    · exact .kList h c
  | tup h _ =>
    rcases h with (h | ⟨o, h⟩) | ⟨o, _, _, h, c, _⟩
    · exact .base (.tup h)
    · exact .fTuple h
    · exact .kTuple h c
  | emp h => exact .base (.dK h)
  | drw h d =>
    obtain ⟨_, _, _, rfl⟩ := d
    exact .base (.dK h)
  | exc => cases ne
theorem ok_isi (hK : P.kc.K = X.K) (c : String) : CallR X (.builtin "isinstance") (fun xs H Q => ∃ v d b, xs = [v, .ty c] ∧ Bud P b H ∧ Rp P.kc H v d ∧ T.wp (isiD c d) b (KQ P H Q) (fun _ _ => True)) := by
  obtain ⟨⟨Kp, cp⟩, Tp, pp, zp, hp0, lp, np⟩ := P
  have eK : Kp = X.K := hK
  subst eK
  intro pins s σ H xs us Q I r h
  obtain ⟨v, d, b, rfl, U, hd, h⟩ := h
  obtain ⟨ne, h⟩ := ite_wp h
  obtain ⟨a, ha, h⟩ := ofO_wp h
  obtain ⟨k, hk, ek⟩ := Option.map_eq_some_iff.mp ha
  subst ek
  exact call_isi pins s σ H _ us Q I r ⟨v, .ty c, _, _, k, rfl, .ty c, ty_of hd ne, kit_ty hk, KQ.bl h U⟩
theorem ok_bltFn (hK : P.kc.K = X.K) (hc : X.calm = true) {f : Str} {id : String} {m : FnD} (h : bltFn f = some (id, m)) : CallR X (.builtin id) (DCall P m) ∧ bootBuiltins f = some (.builtin id) ∧ f ≠ "__name__" ∧ (f == ("__debug__" : Str)) = false := by
  unfold bltFn at h
  split at h
  · rename_i e; cases h; subst e; exact ⟨ok_len hK, by decide +kernel, by decide, by decide⟩
  split at h
  · rename_i e; cases h; subst e; exact ⟨ok_ord hK, by decide +kernel, by decide, by decide⟩
  split at h
  · rename_i e; cases h; subst e; exact ⟨ok_divmod hK, by decide +kernel, by decide, by decide⟩
  split at h
  · rename_i e; cases h; subst e; exact ⟨ok_min hK hc, by decide +kernel, by decide, by decide⟩
  split at h
  · rename_i e; cases h; subst e; exact ⟨ok_max hK hc, by decide +kernel, by decide, by decide⟩
  split at h
  · rename_i e; cases h; subst e; exact ⟨ok_sum hK hc, by decide +kernel, by decide, by decide⟩
  · cases h
theorem ok_bltTy (hK : P.kc.K = X.K) {f : Str} {id : String} {m : FnD} (h : bltTy f = some (id, m)) : CallR X (.type id) (DCall P m) ∧ bootBuiltins f = some (.type id) ∧ f ≠ "__name__" ∧ (f == ("__debug__" : Str)) = false := by
  unfold bltTy at h
  split at h
  · rename_i e; cases h; subst e; exact ⟨ok_str hK, by decide +kernel, by decide, by decide⟩
  split at h
  · rename_i e; cases h; subst e; exact ⟨ok_int hK, by decide +kernel, by decide, by decide⟩
  split at h
  · rename_i e; cases h; subst e; exact ⟨ok_list hK, by decide +kernel, by decide, by decide⟩
  split at h
  · rename_i e; cases h; subst e; exact ⟨ok_tuple hK, by decide +kernel, by decide, by decide⟩
  · cases h
end
/-! ## repr: the calls that are under way are known -/
section
variable {X : Cx} {pins : List (Addr × Obj)} {σ : St} {H : Hp} {s : Shared}
theorem Rp.reads (I : Inv X pins σ H s) {v : V} {u : Value} {d : PyData} {Z : Kc} (hz : Z.K = X.K) (r : Rp Z H v d) (q : RelV v u) (n : noDict d = true) : ∃ as, Reads s.heap u d as := Dp.reads I d v u (hz ▸ r.dp n) q
mutual
theorem hasD_of : ∀ {d : PyData}, noDict d = true → d.hasDict = false
  | .none, _ => rfl
  | .bool _, _ => rfl
  | .int _, _ => rfl
  | .str _, _ => rfl
  | .list xs, h => by
    have e := hasDs_of (ds := xs) (by simpa [noDict] using h)
    simpa [PyData.hasDict] using e
  | .tuple xs, h => by
    have e := hasDs_of (ds := xs) (by simpa [noDict] using h)
    simpa [PyData.hasDict] using e
  | .dict _, h => by simp [noDict] at h
theorem hasDs_of : ∀ {ds : List PyData}, noDicts ds = true → PyData.hasDictAll ds = false
  | [], _ => rfl
  | d :: ds, h => by
    have n' := Bool.and_eq_true_iff.mp (by simpa [noDicts] using h)
    have e1 := hasD_of n'.1
    have e2 := hasDs_of n'.2
    simp [PyData.hasDictAll, e1, e2]
end
theorem emp_at (I : Inv X pins σ H s) {a : Addr} (k1 : H a = some (.dK [])) : Reads s.heap (.ref a) (.dict []) [a] ∧ a ≠ sysModules := by
  obtain ⟨_, ns, vs, rk, o, es, ep, e1, e2, e3, e4⟩ : ObjOk X.prog X.w H s.heap a (.dK []) := I.hok a _ k1
  cases rk
  have e5 : es.toList = [] := by
    have z := e4.2.1
    generalize es.toList = l at z
    cases z
    rfl
  refine ⟨?_, fun z => ?_⟩
  · have z := Reads.dict (kvs := []) (as := []) (bs := []) e1 e2.1 e3 (by rw [e5]; exact .nil) (by rw [e5]; exact .nil)
    simpa using z
  · rw [z] at ns
    simp at ns
mutual
theorem Rp.readsE (I : Inv X pins σ H s) {Z : Kc} (hz : Z.K = X.K) : ∀ (d : PyData) (v : V) (u : Value), Rp Z H v d → RelV v u → tupE d = true → ∃ as, Reads s.heap u d as ∧ sysModules ∉ as
  | .none, _, _, h, r, _ => by
    cases h
    cases r
    exact ⟨_, Reads.none, List.not_mem_nil⟩
  | .bool b, _, _, h, r, _ => by
    cases h
    cases r
    exact ⟨_, Reads.bool b, List.not_mem_nil⟩
  | .int i, _, _, h, r, _ => by
    cases h
    obtain ⟨t, rfl⟩ := r
    exact ⟨_, Reads.int i t, List.not_mem_nil⟩
  | .str x, _, _, h, r, _ => by
    cases h
    obtain ⟨t, rfl⟩ := r
    exact ⟨_, Reads.str x t, List.not_mem_nil⟩
  | .tuple ds, _, _, h, r, n => by
    cases h with
    | tup hs ha =>
      cases r
      obtain ⟨its, rv, ⟨o, ho, hc, m, hd⟩, _⟩ := I.tuple (hz ▸ hs)
      obtain ⟨as, hr, hn⟩ := Rp.readsEs I hz ds _ its ha rv (by simpa [tupE] using n)
      exact ⟨_, Reads.tuple ho hc hd hr, hn⟩
  | .dict [], _, _, h, r, _ => by
    cases h with
    | emp k1 =>
      cases r
      obtain ⟨z, ne⟩ := emp_at I k1
      exact ⟨_, z, fun m => ne (List.mem_singleton.mp m).symm⟩
  | .dict (_ :: _), _, _, _, _, n => by simp [tupE] at n
  | .list _, _, _, _, _, n => by simp [tupE] at n
theorem Rp.readsEs (I : Inv X pins σ H s) {Z : Kc} (hz : Z.K = X.K) : ∀ (ds : List PyData) (vs : List V) (us : List Value), RpA Z H vs ds → Vals vs us → tupEs ds = true → ∃ as, ReadsAll s.heap us ds as ∧ sysModules ∉ as
  | [], _, _, h, r, _ => by
    cases h
    cases r
    exact ⟨_, ReadsAll.nil, List.not_mem_nil⟩
  | d :: ds, _, _, h, r, n => by
    have n' := Bool.and_eq_true_iff.mp (by simpa [tupEs] using n)
    cases h with
    | cons h1 h2 =>
      cases r with
      | cons r1 r2 =>
        obtain ⟨as, q1, n1⟩ := Rp.readsE I hz d _ _ h1 r1 n'.1
        obtain ⟨bs, q2, n2⟩ := Rp.readsEs I hz ds _ _ h2 r2 n'.2
        exact ⟨_, ReadsAll.cons q1 q2, fun m => (List.mem_append.mp m).elim n1 n2⟩
end
theorem ok_repr {P : Pa} (hK : P.kc.K = X.K) (hg : X.A.guards = some []) (hu : X.A.units + 70 < cLine) : CallR X (.builtin "repr") (DCall P f_repr) := by
  obtain ⟨⟨Kp, cp⟩, Tp, pp, zp, hp0, lp, np⟩ := P
  have eK : Kp = X.K := hK
  subst eK
  intro pins s σ H xs us Q I r h
  obtain ⟨ds, b, U, rs, h⟩ := h
  match ds, rs, h with
  | [d], rs, h =>
    obtain ⟨v, rfl, hd⟩ := len1 rs
    obtain ⟨u, rfl, rv⟩ := vals1 r
    obtain ⟨hc, h⟩ := ite_wp h
    simp only [Bool.and_eq_true, decide_eq_true_eq] at hc
    obtain ⟨⟨⟨h1, h2⟩, h3⟩, h4⟩ := hc
    have h5 := big_line h4
    have fin : ∀ (tk : Tok) (s' : Shared), Inv X pins σ H s' → EP X pins σ Q (.str d.shown tk) s' := fun tk s' J => ⟨.str d.shown, H, J, ⟨_, rfl⟩, KQ.str h U⟩
    have byReads : ∀ (a : Addr) (as : List Addr), u = .ref a → Reads s.heap (.ref a) d as → (d.hasDict = true → sysModules ∉ as) → wpAny (model X.prog X.w) X.A (call (.builtin "repr") [u]) (EP X pins σ Q) X.xe s := fun a as e rd hsm => by
      rw [e]
      exact PySem.repr_of_reads' rd h2 hsm hg (by omega) (fun _ _ e => e) (fun h' u' tk k => fin _ _ (I.kept (t' := tk) k)) h5
    cases hd with
    | non => cases rv; exact PySem.P.repr_of_none (fin _ _ (I.tok _))
    | bl c => cases rv; exact PySem.P.repr_of_bool (by cases c <;> exact fin _ _ (I.tok _))
    | int i => obtain ⟨t, rfl⟩ := rv; exact PySem.P.repr_of_int (by simpa [PyData.showable] using h2) (fin _ _ (I.tok _))
    | str z => obtain ⟨t, rfl⟩ := rv; exact PySem.P.repr_of_str (fin _ _ (I.tok _)) h5
    | @lst a ys zs k1 k2 =>
      have n : noDict (.list zs) = true := by simpa [tupE] using h1
      cases rv
      obtain ⟨as, rd⟩ := Rp.reads (u := .ref a) I (Z := ⟨X.K, cp⟩) rfl (.lst k1 k2) rfl n
      exact byReads _ as rfl rd fun z => by rw [hasD_of n] at z; cases z
    | @tup a ys zs k1 k2 =>
      cases rv
      rcases Bool.or_eq_true_iff.mp h1 with n | n
      · obtain ⟨as, rd⟩ := Rp.reads (u := .ref a) I (Z := ⟨X.K, cp⟩) rfl (.tup k1 k2) rfl n
        exact byReads _ as rfl rd fun z => by rw [hasD_of n] at z; cases z
      · obtain ⟨as, rd, nm⟩ := Rp.readsE I (Z := ⟨X.K, cp⟩) rfl _ _ (.ref a) (.tup k1 k2) rfl n
        exact byReads _ as rfl rd fun _ => nm
    | @emp a k1 =>
      cases rv
      obtain ⟨z, ne⟩ := emp_at I k1
      exact byReads _ [a] rfl z fun _ m => ne (List.mem_singleton.mp m).symm
    | drw k1 k2 => simp [drawD, noDict, tupE] at h1
    | exc => simp [excD, noDict, tupE] at h1
end
end Pv

-- Pq11
set_option Elab.async false
set_option linter.all false
set_option maxRecDepth 100000
set_option maxHeartbeats 4000000
namespace Pv
open PySem PySem.Spec PyProof.Rows L2
/-! ## dicts of texts that stand at the top -/
/-- a dict of texts, written at the top -/
def WD (Z : Kc) (w : World) (a : Addr) (ps : List (Str × Str)) : Prop := ∃ es n, Z.K.lookup a = some ⟨.type "dict", none, .dict es n, #[]⟩ ∧ PySem.W.KeysLit w.params es.toList ∧ (a == sysModules) = false ∧
  ∀ z, (∃ u y, ps.lookup z = some y ∧ PySem.W.nsIn Z.K a z = some (some u) ∧ RelV (.str y) u) ∨ (ps.lookup z = none ∧ PySem.W.nsIn Z.K a z = some none)
section
variable {X : Cx}
def rInD (Z : Kc) (w : World) (neg : Bool) : R2 := fun x y H Q => ∃ z a ps, x = .str z ∧ y = .ref a ∧ WD Z w a ps ∧ Q (.bl ((ps.lookup z).isSome != neg)) H
theorem op_inD {Z : Kc} (hK : Z.K = X.K) : OpR X (compareOp .In) (rInD Z X.w false) := by
  intro pins s σ H x y v u Q I rx ry h
  obtain ⟨z, a, ps, rfl, rfl, ⟨es, n, hl, hk, low, hz⟩, q⟩ := h
  rw [hK] at hl
  obtain ⟨t, rfl⟩ := (show ∃ t, v = Value.str z t from rx)
  obtain rfl : u = Value.ref a := ry
  have hm := PySem.W.mapOf_K (prog := X.prog) (w := X.w) I.kIn hl hk
  refine wpAny_in_of (strKind_is X.prog X.w z t) low hm ?_
  rcases hz z with ⟨u0, y, e1, e2, _⟩ | ⟨e1, e2⟩
  · rw [hK] at e2
    rw [e1] at q
    rw [PySem.W.find_K hl e2]
    exact ⟨.bl true, H, I.tok _, rfl, q⟩
  · rw [hK] at e2
    rw [e1] at q
    rw [PySem.W.find_K hl e2]
    exact ⟨.bl false, H, I.tok _, rfl, q⟩
theorem op_ninD {Z : Kc} (hK : Z.K = X.K) : OpR X (compareOp .NotIn) (rInD Z X.w true) := by
  intro pins s σ H x y v u Q I rx ry h
  obtain ⟨z, a, ps, rfl, rfl, ⟨es, n, hl, hk, low, hz⟩, q⟩ := h
  rw [hK] at hl
  obtain ⟨t, rfl⟩ := (show ∃ t, v = Value.str z t from rx)
  obtain rfl : u = Value.ref a := ry
  have hm := PySem.W.mapOf_K (prog := X.prog) (w := X.w) I.kIn hl hk
  refine wpAny_notIn_of (strKind_is X.prog X.w z t) low hm ?_
  rcases hz z with ⟨u0, y, e1, e2, _⟩ | ⟨e1, e2⟩
  · rw [hK] at e2
    rw [e1] at q
    rw [PySem.W.find_K hl e2]
    exact ⟨.bl false, H, I.tok _, rfl, q⟩
  · rw [hK] at e2
    rw [e1] at q
    rw [PySem.W.find_K hl e2]
    exact ⟨.bl true, H, I.tok _, rfl, q⟩
def rIxDD (Z : Kc) (w : World) : R2 := fun x y H Q => ∃ a z ps y', x = .ref a ∧ y = .str z ∧ WD Z w a ps ∧ ps.lookup z = some y' ∧ Q (.str y') H
theorem ix_dd {Z : Kc} (hK : Z.K = X.K) : IxR X (rIxDD Z X.w) := by
  intro value slice pins s σ H x y v u Q I rx ry h hs
  obtain ⟨a, z, ps, y', rfl, rfl, ⟨es, n, hl, hk, low, hz⟩, e, q⟩ := h
  rcases hz z with ⟨u0, y, e1, e2, r⟩ | ⟨e1, e2⟩
  · rw [e] at e1
    cases e1
    exact ix_kdict value slice pins s σ H _ _ v u Q I rx ry ⟨a, z, .str y', rfl, rfl, ⟨es, n, u0, by rw [← hK]; exact hl, hk, by rw [← hK]; exact e2, r⟩, q⟩ hs
  · rw [e] at e1
    cases e1
/-! ## expressions behind which a token is out -/
structure PEK (X : Cx) (e : Expr) (t : TE) : Prop where
  run : ∀ (pins : List (Addr × Obj)) (s : Shared) (σ : L2.St) (H : Hp) (Q : VK), Inv X pins σ H s → t σ H Q → wpAny (model X.prog X.w) X.A (eval e X.env) (fun v s' => 1 ≤ s'.toks ∧ EP X pins σ Q v s') X.xe s
theorem PEK.pe {e : Expr} {t : TE} (h : PEK X e t) : PE X e t := ⟨fun pins s σ H Q I q => thn (h.run pins s σ H Q I q) fun _ _ k => k.2⟩
theorem impK {e : Expr} {t t' : TE} (h : PEK X e t) (k : ∀ σ H Q, t' σ H Q → t σ H Q) : PEK X e t' := ⟨fun pins s σ H Q I q => h.run pins s σ H Q I (k σ H Q q)⟩
theorem pek_ix {a : Expr} {ta : TE} {r : R2} {i : Int} {j : Nat} {p pos : Pos} (hr : IxR X r) (ha : PE X a ta) (hs : PlainIx (.Constant (.int i) j p)) : PEK X (.Subscript a (.Constant (.int i) j p) pos) (tOp r ta (tC (.int i))) := by
  refine ⟨fun pins s σ H Q I h => ?_⟩
  refine Subscript_ (thn (ha.run pins s σ H _ I h) fun v s1 ⟨x, H1, I1, r1, q1⟩ => wpAny_Constant_int ?_)
  have h2 : (tC (.int i)) σ H1 (fun y H2 => r x y H2 Q) := q1
  exact wpAny_mono (PySem.wpAny_toks_of (n := 1) (by show 1 ≤ s1.toks + 1; omega) (hr a _ pins _ σ H1 x (.int i) v _ Q (I1.tok _) r1 ⟨_, rfl⟩ h2 (hs _ _))) (fun _ _ z => z) fun _ _ z => z.2
/-- o.replace(y, z), y and z written -/
def tRep (to : TE) (y z : Str) : TE := fun σ H Q => to σ H fun v H1 => ∃ x, v = .str x ∧ x.length + (x.length + 1) * z.length ≤ 16777216 ∧ Q (.str (Txt.replace x y z)) H1
theorem pek_rep {o : Expr} {to : TE} {y z : Str} {j k : Nat} {c0 c1 apos pos : Pos} (ho : PEK X o to) (hyz : (y == z) = false) (hbase : attributeBase o "replace" X.env (eval o X.env) = eval o X.env) (hline : (apos.endLine == pos.line) = true) :
    PEK X (.Call (.Attribute o "replace" apos) [.Constant (.str y) j c0, .Constant (.str z) k c1] [] pos) (tRep to y z) := by
  refine ⟨fun pins s σ H Q I h => ?_⟩
  have hst : starEach [.Constant (.str y) j c0, .Constant (.str z) k c1] X.env = [(false, eval (.Constant (.str y) j c0) X.env), (false, eval (.Constant (.str z) k c1) X.env)] := by rfl
  refine PySem.Call_method2 hbase hst hline (thn (ho.run pins s σ H _ I h) fun v s1 q => ?_)
  obtain ⟨hk, v', H1, I1, r1, x, e1, hb, q⟩ := q
  subst e1
  obtain ⟨tx, e2⟩ := r1
  subst e2
  refine ⟨"str", _, PySem.F.plainAttrs_str, PySem.F.slot_str_replace, PySem.F.type_str_replace, typeIs_str _ _ _, (fun _ e => nomatch e), Calls.callWith_builtin rfl (Calls.evalArgs_plain (Calls.spliced_cons ?_))⟩
  refine Calls.Constant_str (Calls.spliced_cons (Calls.Constant_str (Calls.spliced_nil ?_)))
  exact wpAny_mono (PySem.wpAny_toks_of (n := 1) (by show 1 ≤ s1.toks + 1 + 1; omega) (PySem.SC.replace (Q := EP X pins σ Q) (by show s1.toks ≠ 0; omega) (by show s1.toks + 1 ≠ 0; omega) (by show s1.toks ≠ s1.toks + 1; omega) hyz hb fun t' k => ⟨.str (Txt.replace x y z), H1, I1.tok k, ⟨t', rfl⟩, q⟩)) (fun _ _ z => z) fun _ _ z => z.2
end
end Pv

-- Pq13
set_option Elab.async false
set_option linter.all false
set_option maxRecDepth 100000
set_option maxHeartbeats 8000000
namespace Pv
open PySem PySem.Spec PySem.W PySem.Calls PyProof.Rows L2 LamX
/-! ## lambdas with one parameter that has a default -/
abbrev lamFd (name qual : Str) (params : Arguments) (body : Expr) (scope : Scope) (cl : List (Str × Addr)) (dV pm cdv ct : Value) : FuncData :=
  { name, qualname := qual, params, body := .expr body, scope, globals := mainGlobals, closure := cl, defaults := dV, kwdefaults := .none, doc := .none, pyModule := pm, annotations := none, code := cdv, closureTuple := ct, builtins := builtinsNs }
abbrev lamOb (name qual : Str) (params : Arguments) (body : Expr) (scope : Scope) (cl : List (Str × Addr)) (dV pm : Value) (c' : Addr) (ct : Value) : Obj := { cls := .type "function", data := .func (lamFd name qual params body scope cl dV pm (.ref c') ct) }
section
variable {M : Model} {A : Around} {E : Value → Shared → Prop} {s : Shared} {name qual : Str} {params : Arguments} {body : Expr} {scope : Scope} {env : Env} {c P : Addr} {ps : Array Value} {pos : Pos} {firstLine : Nat} {mg : Str → Option Value}
  {clos : List (Str × Addr)} {Q : Value → Shared → Prop} {dV : Value}
theorem lm_tail (hcl : closureFor scope env = pure clos) (hge0 : env.globals = mainGlobals) (hg : s.heap.Ns mainGlobals mg) (hcode : env.code = .ref c) (C : CodeHd s.heap c P) (hP : s.heap.get? P = some (tabObj ps)) (ht : TriplesOk ps.toList)
    (hnf : codeAmong pos ps.toList = none) (hgP : mainGlobals ≠ P) (hb : s.heap.BuiltinsAt mg P)
    (h : ∀ c' ctv h' tk, Heap.ExtBut P s.heap h' → s.heap.objs.size ≤ c' → c' < h'.objs.size → h'.CodeRec (.ref c') qual → h'.get? P = some (tabObj (ps ++ #[rawInt pos.line, rawInt pos.col, .ref c'])) →
      Q (.ref h'.objs.size) { s with heap := h'.push (lamOb name qual params body scope clos dV ((mg "__name__").getD .none) c' ctv), toks := tk }) :
    wpAny M A (makeTail name qual params (.expr body) scope env dV .none none pos firstLine) Q E s := by
  obtain ⟨bm, ob, hbm, hne0, _, hneP, hbo, hcls, hdict, hdata⟩ := hb
  unfold makeTail
  rw [hcl, hge0]
  refine wpAny_bind (wpAny_pure ?_)
  cases clos with
  | nil =>
    simp only [List.isEmpty_nil, if_true]
    refine wpAny_bind (wpAny_pure ?_)
    refine wpAny_bind (wpAny_functionCodeX hcode (C.code hP ht) (C.tab hP) hnf fun c' h' tk hx hge hlt _ hrec htb _ => ?_)
    have hg' := hg.extBut hx hgP
    refine wpAny_bind (wpAny_builtinsFor hg' hbm hne0 (hx _ _ hneP hbo) hcls hdict hdata ?_)
    refine wpAny_bind (wpAny_nsGet hg' ?_)
    exact wpAny_bind (wpAny_pure (wpAny_newObj_type (h c' .none h' tk hx hge hlt hrec htb.2) (by size_fits)))
  | cons q r =>
    simp only [List.isEmpty_cons, Bool.false_eq_true, if_false]
    refine wpAny_bind (wpAny_newTextTuple ?_)
    refine wpAny_bind (wpAny_functionCodeX hcode ((C.keeps fun b o e => Heap.get?_push_of_some _ e).code (Heap.get?_push_of_some _ hP) ht) ((C.keeps fun b o e => Heap.get?_push_of_some _ e).tab (Heap.get?_push_of_some _ hP)) hnf fun c' h' tk hx hge hlt _ hrec htb _ => ?_)
    have hg' := (hg.push _).extBut hx hgP
    have hx' : Heap.ExtBut P s.heap h' := fun b o hb' e => hx b o hb' (Heap.get?_push_of_some _ e)
    have hge' : s.heap.objs.size ≤ c' := Nat.le_trans (by rw [Heap.size_push]; omega) hge
    refine wpAny_bind (wpAny_builtinsFor hg' hbm hne0 (hx' _ _ hneP hbo) hcls hdict hdata ?_)
    refine wpAny_bind (wpAny_nsGet hg' ?_)
    exact wpAny_bind (wpAny_pure (wpAny_newObj_type (h c' _ h' tk hx' hge' hlt hrec htb.2) (by size_fits)))
theorem lm_tailHit {cv : Value} (hcl : closureFor scope env = pure clos) (hge0 : env.globals = mainGlobals) (hg : s.heap.Ns mainGlobals mg) (hcode : env.code = .ref c) (C : CodeHd s.heap c P) (hP : s.heap.get? P = some (tabObj ps)) (ht : TriplesOk ps.toList)
    (hf : codeAmong pos ps.toList = some cv) (hb : s.heap.BuiltinsAt mg P)
    (h : ∀ (ctv : Value) (h' : Heap) (tk : Tok), (∀ b o, s.heap.get? b = some o → h'.get? b = some o) → s.heap.objs.size ≤ h'.objs.size →
      Q (.ref h'.objs.size) { s with heap := h'.push { cls := .type "function", data := .func (lamFd name qual params body scope clos dV ((mg "__name__").getD .none) cv ctv) }, toks := tk }) :
    wpAny M A (makeTail name qual params (.expr body) scope env dV .none none pos firstLine) Q E s := by
  obtain ⟨bm, ob, hbm, hne0, _, hneP, hbo, hcls, hdict, hdata⟩ := hb
  unfold makeTail
  rw [hcl, hge0]
  refine wpAny_bind (wpAny_pure ?_)
  cases clos with
  | nil =>
    simp only [List.isEmpty_nil, if_true]
    refine wpAny_bind (wpAny_pure ?_)
    refine wpAny_bind (wpAny_functionCode_hit hcode (C.code hP ht) hf ?_)
    refine wpAny_bind (wpAny_builtinsFor hg hbm hne0 hbo hcls hdict hdata ?_)
    refine wpAny_bind (wpAny_nsGet hg ?_)
    exact wpAny_bind (wpAny_pure (wpAny_newObj_type (h .none s.heap s.toks (fun _ _ e => e) (Nat.le_refl _)) (by size_fits)))
  | cons q r =>
    simp only [List.isEmpty_cons, Bool.false_eq_true, if_false]
    refine wpAny_bind (wpAny_newTextTuple ?_)
    refine wpAny_bind (wpAny_functionCode_hit hcode ((C.keeps fun b o e => Heap.get?_push_of_some _ e).code (Heap.get?_push_of_some _ hP) ht) hf ?_)
    refine wpAny_bind (wpAny_builtinsFor (hg.push _) hbm hne0 (Heap.get?_push_of_some _ hbo) hcls hdict hdata ?_)
    refine wpAny_bind (wpAny_nsGet (hg.push _) ?_)
    have hsz : ∀ oT : Obj, s.heap.objs.size ≤ (s.heap.push oT).objs.size := fun oT => by rw [Heap.size_push]; omega
    exact wpAny_bind (wpAny_pure (wpAny_newObj_type (h _ _ s.toks (fun b o e => Heap.get?_push_of_some _ e) (hsz _)) (by size_fits)))
end
/-- the parameters of a lambda: none, or one with a written int for a default -/
def lamPar : Arguments → Option (List Str)
  | ⟨[], [], none, [], [], none, []⟩ => some []
  | ⟨[], [a], none, [], [], none, [.Constant (.int _) _ _]⟩ => some [a.arg]
  | _ => none
/-- one parameter without a default -/
def lamPar1 : Arguments → Option Str
  | ⟨[], [a], none, [], [], none, []⟩ => some a.arg
  | _ => none
/-- where the default stands -/
def DefOk (params : Arguments) (fr : List Addr) (dV : Value) (h : Heap) (H : Hp) : Prop := (params.args = [] ∧ dV = .none) ∨
  ∃ (T : Addr) (i : Int) (t : Tok), params.args ≠ [] ∧ dV = .ref T ∧ h.get? T = some { cls := .type "tuple", data := .seq #[.int i t] } ∧ H T = none ∧ T ∉ fr
theorem bind_lam {params : Arguments} {ps : List Str} {fr : List Addr} {dV : Value} {h : Heap} {H : Hp} {s' : Shared} {name qual : Str} {body : Expr} {scope : Scope} {cl : List (Str × Addr)} {pm cdv ct : Value} (hp : lamPar params = some ps) (D : DefOk params fr dV h H)
    (kp : ∀ b o, h.get? b = some o → H b = none → b ∉ fr → s'.heap.get? b = some o) : ∃ bs : List (Str × Value), bs.map (·.1) = ps ∧ BindsTo s' (lamFd name qual params body scope cl dV pm cdv ct) ⟨[], []⟩ bs := by
  unfold lamPar at hp
  split at hp
  · cases hp
    rcases D with ⟨_, rfl⟩ | ⟨T, i, t, hne, rfl, h1, h2, h3⟩
    · exact ⟨[], rfl, .of_eq rfl⟩
    · exact absurd rfl hne
  · rename_i a i0 j0 p0
    cases hp
    rcases D with ⟨z, _⟩ | ⟨T, i, t, _, rfl, h1, h2, h3⟩
    · cases z
    · have e := kp T _ h1 h2 h3
      refine ⟨[(a.arg, .int i t)], rfl, ?_⟩
      intro M A Q E q
      have key : ∃ k, bindArgs (lamFd name qual ⟨[], [a], none, [], [], none, [.Constant (.int i0) j0 p0]⟩ body scope cl (.ref T) pm cdv ct) ⟨[], []⟩ = seqItems? (.ref T) >>= k ∧ k (some #[.int i t]) = pure [(a.arg, .int i t)] := ⟨_, rfl, by simp⟩
      obtain ⟨k, e1, e2⟩ := key
      rw [e1]
      refine wpAny_bind (wpAny_seqItems e rfl ?_)
      rw [e2]
      exact wpAny_pure q
  · cases hp
/-- the names of a lambda: its parameters are none of the maker's, all else comes from outside -/
structure LamN (N : List Str) (ps : List Str) (sc scope : Scope) : Prop where
  kind : scope.kind = .function
  co : scope.isCoroutine = false
  gen : scope.isGenerator = false
  own : ∀ y ∈ scope.names, (y.2 = .local → y.1 ∉ N) ∧ y.2 ≠ .cell
  par : ∀ p ∈ ps, scope.names.lookup p = some .local
  free : ∀ y ∈ scope.names, y.2 = .free → sc.names.lookup y.1 = some .cell ∨ sc.names.lookup y.1 = some .free
def lamNB (N : List Str) (ps : List Str) (sc scope : Scope) : Bool :=
  decide (scope.kind = .function) && (!scope.isCoroutine && (!scope.isGenerator && (ps.all (fun p => decide (scope.names.lookup p = some .local)) && scope.names.all fun y => (!decide (y.2 = .local) || !N.contains y.1) && (!decide (y.2 = .cell) && (!decide (y.2 = .free) || (decide (sc.names.lookup y.1 = some .cell) || decide (sc.names.lookup y.1 = some .free)))))))
theorem lamN_by {N ps : List Str} {sc scope : Scope} (h : lamNB N ps sc scope = true) : LamN N ps sc scope := by
  unfold lamNB at h
  simp only [Bool.and_eq_true, Bool.or_eq_true, Bool.not_eq_true', decide_eq_true_eq, decide_eq_false_iff_not, List.all_eq_true] at h
  obtain ⟨h1, h2, h3, hp, h4⟩ := h
  refine ⟨h1, h2, h3, fun y hy => ⟨fun e hm => ?_, (h4 y hy).2.1⟩, hp, fun y hy e => ?_⟩
  · rcases (h4 y hy).1 with z | z
    · exact z e
    · have : N.contains y.1 = true := by simpa using hm
      rw [z] at this
      cases this
  · rcases (h4 y hy).2.2 with z | z | z
    · exact absurd e z
    · exact .inl z
    · exact .inr z
theorem LamN.has {N ps : List Str} {X : Cx} {scope : Scope} (L : LamN N ps X.env.scope scope) (ok : X.Ok) : ∀ y ∈ scope.names, y.2 = .free → ∃ c, X.env.cells.lookup y.1 = some c := fun y hy e => by
  rcases L.free y hy e with k | k
  · exact ok.has _ (.inl k)
  · exact ok.has _ (.inr k)
section
variable {X : Cx} {pins : List (Addr × Obj)} {σ : L2.St} {H HZ : Hp} {s s1 : Shared}
theorem lam_start3 {A : Around} {outer : List Env} {E : XK} {scope : Scope} {ps : List Str} {f c' : Addr} {h₁ : Heap} {tk : Nat} {bs : List (Str × Value)} (I : Inv X pins σ H s) (L : LamN X.N ps X.env.scope scope) (e0 : Env0 X.prog X.w X.K X.mg X.base A outer s1 HZ) (hd : A.handled = none)
    (un : Un (frs X.stack) [] H HZ s.heap s1.heap) (hns : h₁.Ns s1.heap.objs.size fun y => bs.reverse.lookup y) (kp : ∀ b o, s1.heap.get? b = some o → h₁.get? b = some o) :
    Inv (lamCx X A outer s1 HZ E scope f c') [] σ HZ { s1 with heap := h₁, toks := tk } := by
  have hfree := L.has I.ok
  have cm : ∀ {y c}, (cloFrom X.env.cells scope.names []).lookup y = some c → X.env.cells.lookup y = some c := fun {y c} e => by
    rcases cloFrom_mem (PySem.mem_of_lookup e) with hm | ⟨h1, h2⟩
    · cases hm
    · obtain ⟨c1, hc⟩ := hfree _ h1 rfl
      have hc : X.env.cells.lookup y = some c1 := hc
      have e2 : c = c1 := by
        rw [h2, hc] <;> rfl
      rw [e2]
      exact hc
  have look : ∀ {y}, scope.names.lookup y = some .free → ∃ c, (cloFrom X.env.cells scope.names []).lookup y = some c := fun {y} hl => by
    have hy : (y, NameKind.free) ∈ scope.names := PySem.mem_of_lookup hl
    exact mem_lookup (cloFrom_has (cells := X.env.cells) (acc := []) hy)
  have cellK : ∀ {c : Addr} {v : Option Value}, H c = none → s.heap.IsCell c v → h₁.IsCell c v := fun {c v} n ⟨o, ho, hd⟩ => by
    obtain ⟨sl, q⟩ := un.any ho n (by simp)
    exact ⟨_, kp _ _ q, hd⟩
  have noA : ∀ b : Addr, b ∉ (lamCx X A outer s1 HZ E scope f c').ex := fun b z => absurd (show b ∈ ([] : List Addr) from z) (by simp)
  refine ⟨⟨e0.mod, L.kind, rfl, rfl, Nat.le_refl _, fun y z c e1 e2 => I.ok.inj y z c (cm e1) (cm e2), fun y hy => ?_, fun y c z _ => ?_, fun _ => hd, Around.frames_deeper e0.frames, .inr ⟨rfl, rfl⟩, fun b z => absurd z (noA b), e0.bs, e0.bsz, fun b _ _ => noA b,
      fun b z => absurd z (noA b), e0.funs, e0.frf⟩,
    rfl, e0.bare, Un.kept kp, ⟨_, hns, fun i y v e1 e2 e3 => ?_⟩, fun y c e => ?_, e0.hok.fresh (Nat.le_refl _), fun y c e => ?_, fun q hq => absurd (show q ∈ ([] : List (Addr × Obj)) ++ [] from hq) (by simp), e0.hok.kept kp, I.len⟩
  · have hy : scope.names.lookup y = some .cell ∨ scope.names.lookup y = some .free := hy
    rcases hy with hy | hy
    · exact absurd rfl (L.own _ (PySem.mem_of_lookup hy)).2
    · exact look hy
  · have z : false = true := z
    cases z
  · have e3 : Vis scope y := e3
    have e1 : X.N[i]? = some y := e1
    rcases e3 with k | k | k
    · exact absurd (List.mem_of_getElem? e1) ((L.own _ (PySem.mem_of_lookup k)).1 rfl)
    · exact absurd rfl (L.own _ (PySem.mem_of_lookup k)).2
    · obtain ⟨m, hn, hl⟩ := I.loc
      have hvis : Vis X.env.scope y := (L.free _ (PySem.mem_of_lookup k) rfl).elim (fun k => .inr (.inl k)) (fun k => .inr (.inr k))
      obtain ⟨w', r, q⟩ := hl i y v e1 e2 hvis
      obtain ⟨c2, h2⟩ := look k
      refine ⟨w', r, .inr ⟨.inr k, c2, h2, ?_⟩⟩
      have c1 := cm h2
      rcases q with ⟨k', _⟩ | ⟨_, c3, e', z⟩
      · have k' : X.env.scope.names.lookup y = some .local := k'
        rcases L.free _ (PySem.mem_of_lookup k) rfl with k2 | k2 <;> rw [show X.env.scope.names.lookup y = _ from k2] at k' <;> cases k'
      · rw [c1] at e'
        cases e'
        exact cellK (I.freeC y _ c1) z
  · obtain ⟨w', z⟩ := I.cell y c (cm e)
    exact ⟨w', cellK (I.freeC y c (cm e)) z⟩
  · obtain ⟨v, o, ho, hd⟩ := I.cell y c (cm e)
    exact un.free c o ho (I.freeC y c (cm e)) (by simp)
end
end Pv

-- Pq21
set_option Elab.async false
set_option linter.all false
set_option maxRecDepth 100000
set_option maxHeartbeats 4000000
namespace Pv
open PySem PySem.Spec PyProof.Rows L2
open AutoSeq1 (wpAny_loadPart')
/-! ## enumerate over a tuple -/
theorem meets_enumerate_newT (l : Addr) (items : Array Value) (n : Nat) (dct : Option Addr) (sl : Array (Option Value)) :
    Meets (Builtin.«enumerate.__new__» ⟨[.type "enumerate", .ref l], []⟩) (fun _ R s => s.heap.get? l = some { cls := .type "tuple", dict := dct, data := .seq items n, slots := sl } ∧
      R (.ok (.ret (.ref (s.heap.push { cls := .type "tuple_iterator", data := .fields #[.ref l, .int 0 0] }).objs.size)))
        { s with heap := (s.heap.push { cls := .type "tuple_iterator", data := .fields #[.ref l, .int 0 0] }).push { cls := .type "enumerate", data := .fields #[.none, .bool false, .ref s.heap.objs.size, rawInt 0, .none, .none] } }) :=
  .of_wp fun prog w A R s h => by
    obtain ⟨hp, g, d, tk, os⟩ := s; obtain ⟨hl, h⟩ := h
    have hsub := sub_enumerate
    have hL : Heap.IsTuple (Shared.heap ⟨hp, g, d, tk, os⟩) l items := ⟨_, hl, rfl, n, rfl⟩
    wp_walk using wpAny_loadPart' hl
    refine wpAny_stack_any fun st => wpAny_pure ?_
    split
    · rename_i c _ _ _ _ _
      cases (c == Value.type "enumerate")
      · wp_walk using wpAny_loadPart' hl, wpAny_pyIter_tuple hL
        exact ⟨_, rfl, h⟩
      · wp_walk using wpAny_loadPart' hl, wpAny_pyIter_tuple hL
        exact ⟨_, rfl, h⟩
    · wp_walk using wpAny_loadPart' hl, wpAny_pyIter_tuple hL
      exact ⟨_, rfl, h⟩
section
variable {prog : Program} {w : World} {A : Around} {E : Value → Shared → Prop} {s : Shared}
theorem call_enumerate_tuple {l : Addr} {items : Array Value} {Q : Value → Shared → Prop} (hL : s.heap.IsTuple l items)
    (h : ∀ h', IsEnum h' (s.heap.objs.size + 1) s.heap.objs.size 0 .none → h'.IsTupleIter s.heap.objs.size l 0 → h'.objs.size = s.heap.objs.size + 2 →
      (∀ b o, s.heap.get? b = some o → h'.get? b = some o) → Q (.ref (s.heap.objs.size + 1)) { s with heap := h' }) :
    wpAny (model prog w) A (call (.type "enumerate") [.ref l]) Q E s := by
  obtain ⟨⟨c, dct, dt, sl⟩, hl, hc, n, hd⟩ := hL
  replace hc : c = .type "tuple" := hc
  replace hd : dt = .seq items n := hd
  subst hc hd
  refine callType_new F.called_enumerate (by decide) (F.typeCall_enumerate_1 _) (F.newCall_enumerate_1 _) (fun obj => F.args_object_init_2 obj _) F.entry_enumerate_new
    (meets_enumerate_newT l items n dct sl) ⟨hl, ?_⟩
  have hz : (s.heap.push { cls := .type "tuple_iterator", data := .fields #[.ref l, .int 0 0] }).objs.size = s.heap.objs.size + 1 := Heap.size_push ..
  show _ ∧ _
  rw [hz]
  have he : IsEnum ((s.heap.push { cls := .type "tuple_iterator", data := .fields #[.ref l, .int 0 0] }).push
      { cls := .type "enumerate", data := .fields #[.none, .bool false, .ref s.heap.objs.size, rawInt 0, .none, .none] }) (s.heap.objs.size + 1) s.heap.objs.size 0 .none := by
    have := Heap.get?_push_size (s.heap.push { cls := .type "tuple_iterator", data := .fields #[.ref l, .int 0 0] })
      (o := { cls := .type "enumerate", data := .fields #[.none, .bool false, .ref s.heap.objs.size, rawInt 0, .none, .none] }) rfl
    rw [hz] at this; exact this
  refine ⟨⟨_, he, rfl⟩, h _ he ⟨_, Heap.get?_push_of_some _ (Heap.get?_push_size _ rfl), rfl, rfl⟩ (by rw [Heap.size_push, hz]) fun b o x => Heap.get?_push_of_some _ (Heap.get?_push_of_some _ x)⟩
theorem wpAny_pyNext_enumT_end {e it t : Addr} {i : Nat} {c : Int} {items : Array Value} {old : Value} {Q : Option Value → Shared → Prop} (hh : A.handled = none)
    (he : IsEnum s.heap e it c old) (hit : s.heap.IsTupleIter it t i) (hl : s.heap.IsTuple t items) (hx : items[i]? = none)
    (hQ : ∀ h', Heap.ExtBut it s.heap h' → Q none { s with heap := h' }) : wpAny (model prog w) A (pyNext (.ref e)) Q E s := by
  have hT : s.TypeIs (.ref e) "enumerate" := ⟨_, he, rfl⟩
  unfold pyNext
  refine wpAny_bind (wpAny_attempt (wpAny_callSpecial?_slot (name := Str.ofString "__next__") hT F.slot_enumerate_next
    (wpAny_call_entry F.slot_enumerate_next hT F.entry_enumerate_next ?_ (F.args_enumerate_next_1 _))))
  show wpAny _ _ (field (.ref e) 2 >>= _) _ _ _
  refine wpAny_bind (wpAny_field he rfl (x := .ref it) rfl ?_)
  refine wpAny_bind (wpAny_nextOf_tuple_end hh hit hl hx fun h' x he' hx' => ?_)
  obtain ⟨o, ho, hc⟩ := hx'
  refine wpAny_bind (wpAny_isInstance (T := "StopIteration") (b := true) ⟨o, ho, hc⟩ isSubtype_stop ?_)
  exact wpAny_pure (hQ _ he')
end
/-- the tuple at a, each item in a new pair -/
def IteT (K : PySem.W.Frag) (a : Addr) : It :=
  ⟨fun i H => ∃ (xs : List V) (x : V), SqT K H a xs ∧ xs[i]? = some x, fun i H v H' => ∃ T x, v = .ref T ∧ H T = none ∧ H' = upd H T (.tup [.int (i : Nat), x]) ∧ ∀ xs, SqT K H a xs → xs[i]? = some x, fun i H => ∃ xs : List V, SqT K H a xs ∧ xs.length ≤ i⟩
theorem turn_enumT {P : Program} {w : World} {K : PySem.W.Frag} {elts : List Expr} {kk : Nat} {tpos : Pos} (a e it : Addr) :
    Turn P w K (.Tuple elts kk tpos) (IteT K a) [e, it] e (fun i h => (∃ old, IsEnum h e it ((i : Nat) : Int) old) ∧ h.IsTupleIter it a i ∧ e ≠ it) where
  mem := by simp
  obj := fun i h st b hb => by
    obtain ⟨⟨old, he⟩, ⟨o, ho, hc, hd⟩, _⟩ := st
    have e' : b = e ∨ b = it := by simpa using hb
    rcases e' with z | z
    · rw [z]; exact ⟨_, he, fun v q => nomatch q⟩
    · rw [z]; exact ⟨o, ho, fun v q => by rw [hd] at q; cases q⟩
  keep := fun i h h' st k => let ⟨⟨old, he⟩, hi, hne⟩ := st; ⟨⟨old, k e (by simp) _ he⟩, hi.at fun o q => k it (by simp) o q, hne⟩
  item := by
    intro X hP hw hK hc i pins s σ H E I hf st hg
    subst hP hw hK
    obtain ⟨⟨old, he⟩, hit, hne⟩ := st
    obtain ⟨xs, x, hq, hx⟩ := hg
    obtain ⟨its, rv, p, hz⟩ := I.tuple hq
    have pt : s.heap.IsTuple a its.toArray := p
    obtain ⟨u, hu, ru⟩ := rv.get hx
    have hel : e < s.heap.objs.size := Heap.lt_size he
    have hil : it < s.heap.objs.size := by obtain ⟨_, q, _⟩ := hit; exact Heap.lt_size q
    have ai : a ≠ it := fun z => by
      obtain ⟨o1, q1, c1, _⟩ := pt
      obtain ⟨o2, q2, c2, _⟩ := hit
      rw [z, q2] at q1
      cases q1
      rw [c1] at c2
      exact absurd (Value.type.inj c2) (by decide)
    have ea : e ≠ a := fun z => by
      obtain ⟨o1, q1, c1, _⟩ := pt
      rw [← z] at q1
      have h2 : s.heap.get? e = _ := he
      rw [h2] at q1
      cases q1
      exact absurd (Value.type.inj c1) (by decide)
    have D := Draws.tuple (prog := X.prog) (w := X.w) (A := X.A.in1) (I.ok.hd hc) it a ai its.toArray
    have hlt : i < its.toArray.size := by
      have := (List.getElem?_eq_some_iff.mp hu).1
      simpa using this
    refine wpAny_pyNext_enum_itemD D he ⟨hit, pt⟩ hlt hne (by
      intro hm
      rcases List.mem_cons.mp hm with z | z
      · exact hne z
      · exact ea (List.mem_singleton.mp z)) fun u' h' tk hp ho hst hT hsz hk => ?_
    have eu : u' = u := by
      have h1 : its.toArray[i]? = some u := by simpa using hu
      exact Option.some.inj (hp.symm.trans h1)
    subst eu
    refine ⟨_, rfl, wpAny_letOwnedTupleGo_enum (s := { s with heap := h', toks := tk + 1 }) ho fun h'' he' sb => ?_⟩
    have hT2 : h''.get? s.heap.objs.size = some { cls := .type "tuple", data := .seq #[.int i tk, u'] } := (sb.2 _ (Nat.ne_of_gt hel)).trans hT
    have new : ObjOk X.prog X.w (upd H s.heap.objs.size (.tup [.int (i : Nat), x])) h'' s.heap.objs.size (.tup [.int (i : Nat), x]) :=
      ⟨by show 2 ≤ sizeLine; decide, [.int i tk, u'], .cons ⟨_, rfl⟩ (.cons ru .nil), ⟨_, hT2, rfl, _, rfl⟩⟩
    have I1 : Inv X pins σ (upd H s.heap.objs.size (.tup [.int (i : Nat), x])) { s with heap := h'', toks := tk + 1 } :=
      I.turnedNew (ch := [e, it]) (fun b ob hb q => (sb.2 b (fun z => hb (by simp [z]))).trans (hk b ob (fun z => hb (by simp [z])) (fun z => hb (by simp [z])) q)) hf (Nat.le_refl _) new
    refine ⟨.ref s.heap.objs.size, _, I1, rfl, ⟨_, x, rfl, I.hok.fresh (Nat.le_refl _), rfl, fun ys hy => by rw [I.tuple_inj hy hq]; exact hx⟩, ⟨⟨u', ?_⟩, hst.1.at fun o q => (sb.2 it (Ne.symm hne)).trans q, hne⟩, fun b hb => ?_⟩
    · have e1 : ((i + 1 : Nat) : Int) = (i : Int) + 1 := by omega
      rw [e1]; exact he'
    · have hb' : b < s.heap.objs.size := by
        have e' : b = e ∨ b = it := by simpa using hb
        rcases e' with z | z
        · rw [z]; exact hel
        · rw [z]; exact hil
      rw [upd_ne (Nat.ne_of_lt hb')]
      exact (hf b hb).1
  done := by
    intro X hP hw hK hc i pins s σ H E I hf st hg
    subst hP hw hK
    obtain ⟨⟨old, he⟩, hit, hne⟩ := st
    obtain ⟨xs, hq, hx⟩ := hg
    obtain ⟨its, rv, p, hz⟩ := I.tuple hq
    have pt : s.heap.IsTuple a its.toArray := p
    obtain ⟨f0, f1, f2, f3, f4, f5⟩ := hf it (by simp)
    have hl := rv.length
    exact wpAny_pyNext_enumT_end (I.ok.hd hc) he hit pt (by simp; omega) fun h' eb => ⟨rfl, I.turned (t' := s.toks) (fun b o hb q => eb b o hb q) f0 f1 f3 f4 f5⟩
  self := fun A i s Q E st h => let ⟨⟨_, he⟩, _⟩ := st; wpAny_pyIter_enum he h
/-- enumerate over a list or a tuple -/
def iEnumB (K : PySem.W.Frag) (ta : TA) : TI := fun σ H R => ta σ H fun vs H1 => ∃ a xs, vs = [.ref a] ∧ ((SqL K H1 a xs ∧ R (Ite K a) H1) ∨ (SqT K H1 a xs ∧ R (IteT K a) H1))
theorem pi_enumB {X : Cx} {e : Expr} {ta : TA} {p pos tpos : Pos} {elts : List Expr} {kk : Nat} (hg : Gl X "enumerate") (hm : X.mg "enumerate" = none) (ha : PA X [e] ta) (hs : starEach [e] X.env = [(false, eval e X.env)] := by rfl) :
    PI X (.Tuple elts kk tpos) (.Call (.Name "enumerate" p) [e] [] pos) (iEnumB X.K ta) := by
  refine ⟨fun pins s σ H R I h => ?_⟩
  refine Call_ (ld_blt I hg hm boot_enumerate (PyProof.Rows.callWith_type1 (thn (ha.run pos pins s σ H _ I h) fun us s1 ⟨vs, H1, I1, r1, q1⟩ => ?_) hs rfl))
  obtain ⟨a, xs, ex, hq⟩ := q1
  subst ex
  cases r1 with
  | cons r rr =>
    cases rr
    cases r
    have fp : ∀ {T : Heap}, ∀ b ∈ [s1.heap.objs.size + 1, s1.heap.objs.size], s1.heap.objs.size ≤ b := fun {T} b hb => by
      have e' : b = s1.heap.objs.size + 1 ∨ b = s1.heap.objs.size := by simpa using hb
      rcases e' with z | z
      · rw [z]; exact Nat.le_add_right _ _
      · rw [z]; exact Nat.le_refl _
    rcases hq with ⟨hq, q⟩ | ⟨hq, q⟩
    · obtain ⟨its, rv, p', hz⟩ := I1.list hq
      refine call_enumerate_list p'.isList fun h' he hit hsz hk => wpAny_pyIter_enum he ?_
      have I2 : Inv X pins σ H1 { s1 with heap := h' } := I1.kept (t' := s1.toks) hk
      refine ⟨s1.heap.objs.size + 1, [s1.heap.objs.size + 1, s1.heap.objs.size], _, _, H1, rfl, I2, turn_enum a (s1.heap.objs.size + 1) s1.heap.objs.size, ⟨⟨.none, he⟩, hit, Nat.succ_ne_self _⟩, fun b hb => ?_, q⟩
      exact I1.fpOk (fp (T := h') b hb) (I1.hok.fresh (fp (T := h') b hb))
    · obtain ⟨its, rv, p', hz⟩ := I1.tuple hq
      have pt : s1.heap.IsTuple a its.toArray := p'
      refine call_enumerate_tuple pt fun h' he hit hsz hk => wpAny_pyIter_enum he ?_
      have I2 : Inv X pins σ H1 { s1 with heap := h' } := I1.kept (t' := s1.toks) hk
      refine ⟨s1.heap.objs.size + 1, [s1.heap.objs.size + 1, s1.heap.objs.size], _, _, H1, rfl, I2, turn_enumT a (s1.heap.objs.size + 1) s1.heap.objs.size, ⟨⟨.none, he⟩, hit, Nat.succ_ne_self _⟩, fun b hb => ?_, q⟩
      exact I1.fpOk (fp (T := h') b hb) (I1.hok.fresh (fp (T := h') b hb))
end Pv

-- Pv33
set_option Elab.async false
set_option linter.all false
set_option maxRecDepth 100000
set_option maxHeartbeats 4000000
namespace Pv
open PySem PySem.Spec PyProof.Rows L2
/-! ## a caught error that is kept behind its handler -/
section
variable {X : Cx} {pins : List (Addr × Obj)} {σ : L2.St} {H : Hp} {s : Shared} {a : Addr}
/-- an object that did not stand at the entry, is not told of, and stands as it is -/
theorem inv_track {ob : Obj} (I : Inv X pins σ H s) (na : H a = none) (n0 : X.s_0.heap.get? a = none) (e : s.heap.get? a = some ob) (nL : a ≠ X.env.locals) (nC : ∀ x c, X.env.cells.lookup x = some c → c ≠ a) (np : ∀ p ∈ X.pn ++ pins, p.1 ≠ a) :
    Inv X pins σ (upd H a (.frz ob (.own a))) s := by
  have keepN : ∀ {b : Addr}, b ≠ a → upd H a (.frz ob (.own a)) b = H b := fun {b} hb => upd_ne hb
  have neU : ∀ {b : Addr} {u : HO}, H b = some u → b ≠ a := fun {b u} q z => by
    rw [z, na] at q
    cases q
  refine ⟨I.ok, I.os, I.bare, ⟨I.base.keep, I.base.slot, fun b u q n hx => ?_, I.base.there, fun b xs q => ?_, fun b o u q => ?_, fun b ps q => ?_⟩, I.loc, I.cell, ?_, fun x c q => ?_, fun p hp => ?_, fun b u q => ?_, I.len⟩
  · rw [keepN (fun z => by rw [z, n0] at q; cases q)]
    exact I.base.free b u q n hx
  · have k := I.base.tups b xs q
    rw [keepN (neU k)]
    exact k
  · have k := I.base.frzs b o u q
    rw [keepN (neU k)]
    exact k
  · obtain ⟨m, k⟩ := I.base.tbls b ps q
    exact ⟨m, by rw [keepN (neU k)]; exact k⟩
  · rw [keepN (Ne.symm nL)]
    exact I.free
  · rw [keepN (nC x c q)]
    exact I.freeC x c q
  · obtain ⟨k1, k2, k3⟩ := I.pin p hp
    exact ⟨k1, by rw [keepN (np p hp)]; exact k2, k3⟩
  · by_cases hb : b = a
    · subst hb
      rw [upd_same] at q
      cases q
      exact ⟨e, _, e⟩
    · rw [keepN hb] at q
      exact (I.hok b u q).stay (fun c v _ k => k) (fun c k => by rw [keepN (neU k)]; exact k) fun c xs k => by rw [keepN (neU k)]; exact k
end
/-- what the clause wishes of an error of the body: i is the slot of its name, j that of the name that keeps it -/
def wKeep (tst : Value → Option Bool) (i j : Nat) (Wout : WX) (D : Ends) : WX := fun cls d σ H => ∃ b, tst cls = some b ∧
  (b = true → ∀ (a : Addr) (ob : Obj), H a = none → Zc cls d ob → (∃ us, ob.data = .fields us) → D.nx (((σ.set i (some (.ref a))).set j (some (.ref a))).set i none) (upd H a (.frz ob (.own a)))) ∧ (b = false → Wout cls d σ H)
theorem flyZ_keeps {B h h' : Heap} {l : List Env} {e : Addr} {Z : Obj → Prop} (x : HandSPX.FlyingZ B l e Z h) (k : ∀ b o, h.get? b = some o → h'.get? b = some o) : HandSPX.FlyingZ B l e Z h' := by
  obtain ⟨f1, f2, f3, oe, vs, T, oT, ts, he, hz, hd, h1, hn, hne, hT, hdT, h3⟩ := x
  exact ⟨fun b o q => k b o (f1 b o q), f2, f3.of_keeps fun b o q _ => ⟨o, k b o q, rfl⟩, oe, vs, T, oT, ts, k _ _ he, hz, hd, h1, hn, hne, k _ _ hT, hdT, h3⟩
/-- what an except asks for: its expression, asked of an error of a class -/
def ClsT (X : Cx) (te : Expr) (tst : Value → Option Bool) : Prop := ∀ (a : Addr) (o : Obj) (cls : Value) (b : Bool) (pins : List (Addr × Obj)) (σ : L2.St) (H : Hp) (s : Shared), Inv (X.suite a ((a, o) :: pins)) [] σ H s → X.K.In s.heap → tst cls = some b → PySem.W.Looks (model X.prog X.w) s.heap (typeOf (.ref a)) cls →
  ∀ (Q : Value → Shared → Prop) (E : Value → Shared → Prop), (∀ c h', (∀ b u, s.heap.get? b = some u → h'.get? b = some u) → PySem.W.Looks (model X.prog X.w) h' (excMatches (.ref a) c) b → Q c { s with heap := h' }) → wpAny (model X.prog X.w) (X.A.mark (some (.ref a))) (eval te X.env) Q E s
theorem Looks.later {M : Model} {h h' : Heap} {α : Type} {m : Sem α} {v : α} (L : PySem.W.Looks M h m v) (k : ∀ b u, h.get? b = some u → h'.get? b = some u) : PySem.W.Looks M h' m v := fun A Q E s k' q => L A Q E s (fun b u e => k' b u (k b u e)) q
section
variable {X : Cx}
theorem names_ld {x : Str} {c : Value} {a : Addr} {o : Obj} {pins : List (Addr × Obj)} {σ : L2.St} {H : Hp} {s : Shared} {np : Pos} (hc : Names X x c) (I : Inv (X.suite a ((a, o) :: pins)) [] σ H s) {Q : Value → Shared → Prop} {E : Value → Shared → Prop} (q : Q c s) : wpAny (model X.prog X.w) (X.A.mark (some (.ref a))) (eval (.Name x np) X.env) Q E s := by
  obtain ⟨g1, g2, g3 | ⟨g3, g4, g5⟩⟩ := hc
  · exact ld_glob (X := X.suite a ((a, o) :: pins)) I g1 g3 q g2
  · exact ld_blt (X := X.suite a ((a, o) :: pins)) I g1 g3 g4 q g5 g2
theorem clsT_one {x : Str} {c : Value} {np : Pos} (hc : Names X x c) : ClsT X (.Name x np) (fun cls => PySem.W.exmOne X.K cls c) := fun a o cls b pins σ H s I kin hb lt Q E q =>
  names_ld hc I (q c s.heap (fun _ _ e => e) (PySem.W.exm_one kin lt hb))
theorem clsT_two {x1 x2 : Str} {c1 c2 : Value} {n1 n2 tp : Pos} {kk : Nat} (h1 : Names X x1 c1) (h2 : Names X x2 c2) : ClsT X (.Tuple [.Name x1 n1, .Name x2 n2] kk tp) (fun cls => PySem.W.exmAny X.K cls [c1, c2]) := fun a o cls b pins σ H s I kin hb lt Q E q => by
  refine wpAny_Tuple_spliced ?_
  refine Calls.spliced_cons (names_ld h1 I ?_)
  refine Calls.spliced_cons (names_ld h2 I ?_)
  refine Calls.spliced_nil ⟨by rw [sizeLine_eq]; simp, q _ _ (fun b u e => Heap.get?_push_of_some _ e) ?_⟩
  exact PySem.W.exm_tup2 (kin.keeps fun b u e => Heap.get?_push_of_some _ e) (Looks.later lt fun b u e => Heap.get?_push_of_some _ e) (Heap.get?_push_size _ rfl) hb
theorem clsT_three {x1 x2 x3 : Str} {c1 c2 c3 : Value} {n1 n2 n3 tp : Pos} {kk : Nat} (h1 : Names X x1 c1) (h2 : Names X x2 c2) (h3 : Names X x3 c3) : ClsT X (.Tuple [.Name x1 n1, .Name x2 n2, .Name x3 n3] kk tp) (fun cls => PySem.W.exmAny X.K cls [c1, c2, c3]) := fun a o cls b pins σ H s I kin hb lt Q E q => by
  refine wpAny_Tuple_spliced ?_
  refine Calls.spliced_cons (names_ld h1 I ?_)
  refine Calls.spliced_cons (names_ld h2 I ?_)
  refine Calls.spliced_cons (names_ld h3 I ?_)
  refine Calls.spliced_nil ⟨by rw [sizeLine_eq]; simp, q _ _ (fun b u e => Heap.get?_push_of_some _ e) ?_⟩
  exact PySem.W.exm_tup3 (kin.keeps fun b u e => Heap.get?_push_of_some _ e) (Looks.later lt fun b u e => Heap.get?_push_of_some _ e) (Heap.get?_push_size _ rfl) hb
end
section
variable {X : Cx} {n y : Str} {te : Expr} {tst : Value → Option Bool} {i j : Nat} {body : List Stmt} {pos pos' q1 q2 q3 : Pos} {tb : WX → TS} {Wout : WX}
theorem ps_try_keep (hs : X.stack = X.env :: X.outer) (hf : X.env.frame = some X.env.locals) (hex : X.ex = []) (hN : X.N.Nodup) (hi : X.N[i]? = some n) (hln : X.env.kindOf n = some .local) (hj : X.N[j]? = some y) (hly : X.env.kindOf y = some .local)
    (hd1 : (n == ("__debug__" : Str)) = false) (hd2 : (n == ("__classdict__" : Str)) = false) (hc : ClsT X te tst) (tk : Takes X Wout)
    (hb : ∀ (W : WX) (pn : List (Addr × Obj)) (xe : Value → Shared → Prop), Takes (X.tr pn xe) W → PassesOwn (model X.prog X.w) X.A X.env xe → PSs (X.tr pn xe) body (tb W)) :
    PS X (.Try body [.ExceptHandler (some te) (some n) [.Assign [.Name y q1] (.Name n q2) q3] pos'] [] [] pos) (fun D σ H => tb (wKeep tst i j Wout D) D σ H) := by
  refine ⟨fun pins s σ H D I wish => ?_⟩
  have good := I.ok
  have frE : X.A.frames = some (X.env :: X.outer) := good.frames.trans (congrArg some hs)
  obtain ⟨hdl, ehdl⟩ : ∃ hdl : ExceptHandler, hdl = .ExceptHandler (some te) (some n) [.Assign [.Name y q1] (.Name n q2) q3] pos' := ⟨_, rfl⟩
  refine wpAny_Try_except ?_
  rw [← ehdl]
  obtain ⟨catch_, ec⟩ : ∃ catch_ : Value → Shared → Prop, catch_ = fun e t1 => wpAny (model X.prog X.w) X.A (noteFrame e X.env) (fun _ t2 => wpAny (model X.prog X.w) X.A (setFlight e none) (fun _ t3 => wpAny (model X.prog X.w) X.A (handleBy e X.env [hdl]) (SP X pins D) X.xe t3) X.xe t2) X.xe t1 := ⟨_, rfl⟩
  have takes : Takes (X.tr (X.pn ++ pins) catch_) (wKeep tst i j Wout D) := by
    intro u t air
    obtain ⟨a, B, sI, pins', σ1, H1, cls, d, rfl, J', nb, up, sky, na, os, ag, b, hb1, yes, no⟩ := air
    have J : Inv X pins σ1 H1 sI := J'.ofTry good
    have skyE : Sky B (X.env :: X.outer) a (Zc cls d) X.env.locals t.heap := by
      rw [← hs]
      exact sky
    show catch_ (.ref a) t
    rw [ec]
    refine Sky.land Zc.steady frE hf skyE fun h3 fly3 up3 => ?_
    have L3 : Inv X pins σ1 H1 { t with heap := h3 } := J.landed nb fly3.1 (up.trans up3) os ag
    obtain ⟨o3, vs3, get3, z3, dat3⟩ := fly3.there
    have outF : a ∉ frs (X.env :: X.outer) := fun hm => by
      obtain ⟨_, o', g', nf'⟩ := fly3.2.2.1.mem hm
      rw [get3] at g'
      cases g'
      exact nf' _ dat3
    have nL : a ≠ X.env.locals := fun z => outF (List.mem_filterMap.mpr ⟨X.env, List.mem_cons_self, by rw [hf, z]⟩)
    have nF : a ∉ X.fs := fun hm => by
      obtain ⟨e, he, q⟩ := List.mem_filterMap.mp hm
      exact outF (List.mem_filterMap.mpr ⟨e, List.mem_cons_of_mem _ he, q⟩)
    have notI : sI.heap.get? a = none := by
      cases gI : sI.heap.get? a with
      | none => rfl
      | some o =>
        have z := nb a o gI (by rw [hs]; exact outF)
        rw [fly3.2.1] at z
        cases z
    have not0 : X.s_0.heap.get? a = none := by
      cases g0 : X.s_0.heap.get? a with
      | none => rfl
      | some o =>
        obtain ⟨o', z⟩ := J.base.there a o g0 (by rw [hex]; exact fun z => nomatch z)
        rw [notI] at z
        cases z
    have nC : ∀ x c, X.env.cells.lookup x = some c → c ≠ a := fun x c q z => by
      obtain ⟨v, o, k, _⟩ := J.cell x c q
      rw [z, notI] at k
      cases k
    have nP : ∀ p ∈ X.pn ++ pins, p.1 ≠ a := fun p hp z => by
      have k := (J.pin p hp).1
      rw [z, notI] at k
      cases k
    have S3 := L3.suite get3 dat3 na nL nF
    rw [ehdl]
    refine wpAny_handleBy_cons (codeAny_handlers_test ?_) (by intro q; cases q)
    have looksT : PySem.W.Looks (model X.prog X.w) h3 (typeOf (.ref a)) cls := fun A Q E s k q => wpAny_typeOf_ref (k _ _ get3) (by rw [z3.1]; exact q)
    refine hc a o3 cls b _ σ1 H1 _ S3 L3.kIn hb1 looksT _ _ fun c h5 k5 looksM => ?_
    refine looksM.here ?_
    have fly5 := flyZ_keeps fly3 k5
    have up5 : t.heap.UpToSlots h5 := up3.trans (Heap.UpToSlots.of_keeps k5)
    clear S3 L3 get3 looksT
    cases b with
    | true =>
      refine codeAny_handlers_suite_as ?_
      refine HandSPX.lands_againZ fly5 fun h4 fly4 up4 => ?_
      have L4 : Inv X pins σ1 H1 { t with heap := h4 } := J.landed nb fly4.1 ((up.trans up5).trans up4) os ag
      obtain ⟨o4, vs4, get4, z4, dat4⟩ := fly4.there
      have S4 := L4.suite get4 dat4 na nL nF
      refine store_ok (X := X.suite a ((a, o4) :: (X.pn ++ pins))) (v := .ref a) S4 hN hi (.inl hln) rfl (fun s5 S5 => ?_) (.inr hln)
      have keeps : PSs (X.suite a ((a, o4) :: (X.pn ++ pins))) [.Assign [.Name y q1] (.Name n q2) q3] (fun D σ H => ∃ v, σ[i]? = some (some v) ∧ D.nx (σ.set j (some v)) H) := by
        refine pss_one ⟨fun pins2 s2 σ2 H2 D2 I2 w2 => ?_⟩
        exact (ps_set (X := X.suite a ((a, o4) :: (X.pn ++ pins))) hN hj (.inl hly) (pe_var hi (.inl hln) hd1 hd2) (by rfl) (.inr hly)).run pins2 s2 σ2 H2 D2 I2 w2
      have len : i < σ1.length := by
        rw [J.len]
        exact (List.getElem?_eq_some_iff.mp hi).1
      refine wpAny_mono (keeps.run [] s5 _ H1 { nx := fun σ6 H6 => H6 = H1 ∧ σ6 = (σ1.set i (some (.ref a))).set j (some (.ref a)), rt := fun _ _ => False } S5 ⟨.ref a, by rw [List.getElem?_set, if_pos rfl, if_pos len], rfl, rfl⟩) (fun f s6 post => ?_) (fun _ _ z => z.elim)
      cases f with
      | next =>
        obtain ⟨σ6, H6, S6, e1, e2⟩ := post
        subst e1
        obtain ⟨k1, _⟩ := S6.pin (a, o4) (List.mem_append_left _ List.mem_cons_self)
        have S7 := inv_track (S6.unsuite good) na not0 k1 nL nC nP
        refine gone_ok S7 hN hi hln fun s7 J7 => ⟨_, _, J7, ?_⟩
        rw [e2]
        exact yes rfl a o4 na z4 ⟨_, dat4⟩
      | brk =>
        obtain ⟨σ6, H6, S6, z⟩ := post
        exact z.elim
      | cont =>
        obtain ⟨σ6, H6, S6, z⟩ := post
        exact z.elim
      | ret u =>
        obtain ⟨v6, σ6, H6, S6, r6, z⟩ := post
        exact z.elim
    | false =>
      show wpAny _ X.A (handleBy (.ref a) X.env []) _ _ _
      refine wpAny_handleBy_nil ?_
      obtain ⟨_, _, _, oe, vs, T, oT, ts, g, _, dd, at1, _⟩ := id fly5
      unfold PySem.passOn
      refine wpAny_bind (wpAny_field g dd at1 ?_)
      rw [if_neg (show ¬ ((Value.ref T == Value.none) = true) from by simp)]
      have flies : wpAny (model X.prog X.w) X.A (setFlight (.ref a) X.env.frame) (fun _ t4 => wpAny (model X.prog X.w) X.A (throw (.ref a) : Sem Flow) (SP X pins D) X.xe t4) X.xe { t with heap := h5 } := by
        rw [hf]
        refine HandSPX.setFlight_upZ fly5 fun h4 held up4 => wpAny_throw (tk _ _ ?_)
        exact ⟨a, B, sI, pins, σ1, H1, cls, d, rfl, J, nb, (up.trans up5).trans up4, .inr (.inr (by rw [hs]; exact held)), na, os, ag, no rfl⟩
      first
        | exact wpAny_bind (wpAny_pure (wpAny_bind flies))
        | exact wpAny_bind flies
  have owns : PassesOwn (model X.prog X.w) X.A X.env catch_ := by
    rw [ec]
    exact PassesOwn.looking
  refine wpAny_mono ((hb _ (X.pn ++ pins) catch_ takes owns).run [] s σ H D (I.toTry _) wish) (fun f s1 post => ?_) (fun e s1 he => ?_)
  · cases f with
    | next =>
      obtain ⟨σ2, H2, J2, q⟩ := post
      exact wpAny_execs_nil ⟨σ2, H2, J2.ofTry good, q⟩
    | brk =>
      obtain ⟨σ2, H2, J2, q⟩ := post
      exact ⟨σ2, H2, J2.ofTry good, q⟩
    | cont =>
      obtain ⟨σ2, H2, J2, q⟩ := post
      exact ⟨σ2, H2, J2.ofTry good, q⟩
    | ret u =>
      obtain ⟨v, σ2, H2, J2, r, q⟩ := post
      exact ⟨v, σ2, H2, J2.ofTry good, r, q⟩
  · have z : catch_ e s1 := he
    rw [ec] at z
    exact z
end
end Pv

-- Pq1
set_option Elab.async false
set_option linter.all false
set_option maxRecDepth 100000
set_option maxHeartbeats 8000000
namespace Pv
open PySem PySem.Spec L2 PyProof.Rows PySem.Calls PySem.W
/-! ## isinstance of a caught error that has fields -/
section
variable {pg : Program} {wd : World} {ar : Around} {Er : Value → Shared → Prop} {st : Shared} {Kf : Frag} {ea ec : Addr} {eo : Obj} {eod : Option Obj}
theorem data_found {nm : Str} {at1 gt1 : Value} (h1 : (clsIn Kf ec).isSome = true) (h2 : findIn Kf (.ref ec) nm = some (some at1)) (h3 : specialIn Kf at1 "__get__" = some (some gt1)) (h4 : takesIn Kf at1 = some true) : findObj Kf ec eod nm = some (.bind gt1 at1) := by
  cases h5 : clsIn Kf ec with
  | none => rw [h5] at h1; cases h1
  | some cd => simp [findObj, h5, h2, h3, h4]
theorem own_cls {Qr : Option Value → Shared → Prop} (Ex : ExcC Kf ec) (Kn : Kf.In st.heap) (Ia : PySem.W.InstAt st.heap ea eo ec eod) (qr : Qr (some (.ref ec)) { st with toks := st.toks + 1 }) :
    wpAny (model pg wd) ar (getAttr? (.ref ea) "__class__") Qr Er st := by
  have isC : (clsIn Kf ec).isSome = true := by
    obtain ⟨c0, e0, _⟩ := any_some Ex.hd
    rw [e0]
    rfl
  have fnd : findObj Kf ec eod "__class__" = _ := data_found isC Ex.ha Ex.hn Ex.ht
  obtain ⟨hp, gs, dw, tk, oo⟩ := st
  have la := Ia.type (M := model pg wd)
  have lb := looks_findIn (M := model pg wd) Kn Ex.hg
  have lc := looks_findIn (M := model pg wd) Kn Ex.hk
  have ld := looks_find (M := model pg wd) Kn Ia fnd
  have le : Looks (model pg wd) hp (isInstance (.ref ea) (.type "BaseException")) true :=
    la.andThen (looks_subIn Kn Ex.hs)
  have n2 : (Value.builtin "BaseException.__getattribute__" == .builtin "object.__getattribute__") = false := by decide +kernel
  have n1 : (onTheHeap (.ref ec) && Value.builtin "BaseException.__getattribute__" == .builtin "object.__getattribute__") = false := by
    rw [n2, Bool.and_false]
  unfold getAttr? getAttrBy? getAttrBy
  refine wpAny_bind (wpAny_mkText (wpAny_bind (wpAny_attempt (wpAny_holding (wpAny_bind (la.at (wpAny_bind (lb.at (?_ : wpAny _ _ (ite _ _ _) _ _ _)))))))))
  rw [n1, if_neg (fun z => nomatch z)]
  unfold getAttrByItsOwn hookBefore
  refine wpAny_bind (?_ : wpAny _ _ (ite _ _ _) _ _ _)
  have hon : onTheHeap (.ref ec) = true := rfl
  rw [if_pos hon]
  refine lc.at (wpAny_bind (wpAny_attempt (wpAny_holding ?_)))
  unfold callGetattribute
  rw [if_neg (show ¬ (false && onTheHeap (Value.builtin "BaseException.__getattribute__")) = true from fun z => nomatch z)]
  unfold boundAndCalled
  rw [PySem.F.excAttr_ValueError.ga.bind]
  refine wpAny_bind (wpAny_pure (?_ : wpAny _ _ (call (.builtin "BaseException.__getattribute__") [.ref ea, .str "__class__" tk]) _ _ _))
  refine wpAny_call (codeAny_call_builtin PySem.F.excAttr_ValueError.ga.plain PySem.F.entry_bexc_ga ?_)
  refine @check_slot (model pg wd) _ _ ⟨hp, gs, dw, tk + 1, oo⟩ "BaseException.__getattribute__" "BaseException" "__getattribute__" (.ref ea) [.str "__class__" tk] [] _ (by decide +kernel) (by decide +kernel) le (PySem.F.args_bexc_ga _ _) ?_
  unfold Builtin.«object.__getattribute__»
  refine wpAny_bind (wpAny_of_eq (a := ((.ref ea : Value), [.str "__class__" tk])) (by first | rfl | (simp only [slotArgs]; rfl)) ?_)
  refine wpAny_bind (wpAny_pure (wpAny_bind (la.at (wpAny_bind (ld.at (?_ : wpAny _ _ (holding [.builtin "object.__class__"] (call (.builtin "getset_descriptor.__get__") [.builtin "object.__class__", .ref ea, .ref ec]) >>= ret) _ _ _))))))
  refine wpAny_bind (wpAny_holding (wpAny_call (class_get (s := ⟨hp, gs, dw, tk + 1, oo⟩) (od := eod) Kn Ia Ex.hm ?_)))
  refine wpAny_pure (?_ : wpAny _ _ (handedOut (.ref ec)) _ _ _)
  rw [handedOut_of (v := .ref ec) rfl]
  first
    | exact wpAny_pure (wpAny_pure qr)
    | exact wpAny_pure qr
    | exact wpAny_pure (wpAny_bind (wpAny_pure (wpAny_pure qr)))
theorem kit_exc (Ex : ExcC Kf ec) : KitX Kf (.ref ea) (.ref ec) (fun h => PySem.W.InstAt h ea eo ec eod) := by
  obtain ⟨c0, e0, _⟩ := any_some Ex.hd
  have there : ∃ o : Obj, Kf.lookup ec = some o ∧ ∃ c, o.data = .cls c := by
    unfold clsIn at e0
    split at e0
    · rename_i hh
      exact ⟨_, hh, _, rfl⟩
    · cases e0
  obtain ⟨o, ho, cc, hc⟩ := there
  refine ⟨fun _ _ _ I => I.type, fun M h Kn _ => ?_, fun h tp dd its n sl Kn htp => ?_, fun Kn I qr => own_cls Ex Kn I qr⟩
  · intro A' Q' E' s' k q
    unfold isType loadHead
    obtain ⟨oc, od, oda, osl⟩ := o
    dsimp only at hc
    subst hc
    exact wpAny_bind (wpAny_loadPart (k _ _ (Kn _ _ ho)) (wpAny_pure q))
  · cases hq : ((Value.ref ec : Value) == .ref tp) with
    | false => rfl
    | true =>
      have e : ec = tp := Value.ref.inj (beq_iff_eq.mp hq)
      subst e
      rw [Kn _ _ ho] at htp
      cases htp
      cases hc
end
/-- what stands at a: a caught error of the class C, its dict at d -/
structure KeptAt (H : Hp) (a C d : Addr) (ob : Obj) (fs : List (Str × V)) : Prop where
  at_ : H a = some (.frz ob (.own a))
  z : Zc (.ref C) (some d) ob
  f : ∃ us, ob.data = .fields us
  dict : H d = some (.xd fs)
theorem KeptAt.inst {X : Cx} {pins : List (Addr × Obj)} {σ : L2.St} {H : Hp} {s : Shared} {a C d : Addr} {ob : Obj} {fs : List (Str × V)} (I : L2.Inv X pins σ H s) (k : KeptAt H a C d ob fs) : ∃ (od : Obj) (mA : Str → Option Value), PySem.W.InstAt s.heap a ob C (some od) ∧ (∀ n, PySem.W.lookIn n od = some (mA n)) ∧ ∀ f, RelO (fs.lookup f) (mA f) := by
  obtain ⟨k1, k2, ⟨us, k3⟩, k4⟩ := k
  obtain ⟨g, _⟩ : ObjOk X.prog X.w H s.heap a (.frz ob (.own a)) := I.hok a _ k1
  obtain ⟨mA, hns, hl⟩ : ObjOk X.prog X.w H s.heap d (.xd fs) := I.hok d _ k4
  obtain ⟨od, ho, lk⟩ := lookIn_ns hns
  exact ⟨od, mA, ⟨g, k2.1, by unfold PySem.W.notCls; rw [k3] <;> rfl, by rw [k2.2]; exact ho⟩, lk, hl⟩
/-- isinstance of an error that is kept -/
theorem call_isK {X : Cx} : CallR X (.builtin "isinstance") (fun xs H Q => ∃ (a C d : Addr) (ob : Obj) (fs : List (Str × V)) (c : V) (cv : Value) (b : Bool), xs = [.ref a, c] ∧ KeptAt H a C d ob fs ∧ ExcC X.K C ∧ (∀ u, RelV c u → u = cv) ∧ PySem.W.kitOne X.K (.ref C) cv = some b ∧ Q (.bl b) H) := by
  intro pins s σ H xs us Q I r h
  obtain ⟨a, C, d, ob, fs, c, cv, b, rfl, k, ex, hcv, e, q⟩ := h
  match us, r with
  | [_, t], .cons rx (.cons rt .nil) =>
    cases rx
    obtain rfl := hcv _ rt
    obtain ⟨od, mA, J, _, _⟩ := k.inst I
    exact PySem.W.kia_one (kit_exc ex) I.kIn J e (fun z => nomatch z) fun tk => ⟨.bl b, H, I.kept (t' := tk) fun _ _ z => z, rfl, q⟩
/-- its field -/
theorem pe_fldK {X : Cx} {e : Expr} {te : TE} {pos : Pos} {n : Str} (he : PE X e te) (hb : attributeBase e n X.env (eval e X.env) = eval e X.env) :
    PE X (.Attribute e n pos) (fun σ H Q => te σ H fun x H1 => ∃ (a C d : Addr) (ob : Obj) (fs : List (Str × V)) (v : V), x = .ref a ∧ KeptAt H1 a C d ob fs ∧ XfC X.K C ∧ PySem.W.findIn X.K (.ref C) n = some none ∧ fs.lookup n = some v ∧ Q v H1) := by
  refine ⟨fun pins s σ H Q I h => attr_of hb (thn (he.run pins s σ H _ I h) fun u s1 hh => ?_)⟩
  obtain ⟨x, H1, I1, rx, a, C, d, ob, fs, v, rfl, k, T, no, lk, q⟩ := hh
  cases rx
  obtain ⟨od, mA, J, l1, l2⟩ := k.inst I1
  obtain ⟨u2, hu, ru⟩ := RelO.some_of (v := v) (o := mA n) (by rw [← lk]; exact l2 n)
  exact HandSPX.exc_get I1.kIn J T.ga T.gg T.exC (PySem.W.findObj_own T.hdC no rfl (by rw [l1, hu])) (handed_of ru) ⟨v, H1, I1.tok _, ru, q⟩
/-- isinstance of data with a class of errors -/
theorem kit_plain {K : PySem.W.Frag} {t : String} {C : Addr} (ht : t ∈ ["NoneType", "bool", "int", "str", "list", "tuple", "dict"]) (hc : ((PySem.W.clsIn K C).isSome && PySem.W.typeIn K (.ref C) == some (.type "type")) = true) : PySem.W.kitOne K (.type t) (.ref C) = some false := by
  have e : ((Value.type t == Value.ref C) = true) = False := by simp
  unfold PySem.W.kitOne
  rw [if_neg (fun z => by rw [e] at z; exact z)]
  show (if ((PySem.W.clsIn K C).isSome && PySem.W.typeIn K (.ref C) == some (.type "type")) = true then PySem.W.subIn K (.type t) (.ref C) else none) = some false
  rw [if_pos hc]
  simp only [List.mem_cons, List.not_mem_nil, or_false] at ht
  rcases ht with rfl | rfl | rfl | rfl | rfl | rfl | rfl <;> rfl
end Pv

-- Pq2
set_option Elab.async false
set_option linter.all false
set_option maxRecDepth 100000
set_option maxHeartbeats 8000000
namespace Pv
open PySem PySem.Spec L2
open PyProof.Rows (envOfC)
/-! ## a lambda is made: the heap behind it, told in full -/
/-- the heap is as it was, or one more code object stands in the table at tb -/
def OneMore (tb : Addr) (nm : Str) (H : Hp) (co : Addr) (H1 : Hp) : Prop :=
  H1 = H ∨ ∃ (old more : Array Value), H tb = some (.tbl old) ∧ H co = none ∧ H1 = upd (upd H tb (.tbl (old ++ more))) co (LamX.CodeO co nm)
theorem nd_ext {p : Heap → Prop} : ¬ IsDraw (.ext p) := fun ⟨_, _, _, z⟩ => nomatch z
theorem nd_tbl {p : Array Value} : ¬ IsDraw (.tbl p) := fun ⟨_, _, _, z⟩ => nomatch z
theorem nd_code {c : Addr} {q : Str} : ¬ IsDraw (LamX.CodeO c q) := nd_ext
theorem OneMore.frm {tb co : Addr} {nm : Str} {H H1 : Hp} (h : OneMore tb nm H co H1) : Frm H H1 := by
  rcases h with rfl | ⟨old, more, h1, h2, rfl⟩
  · exact Frm.refl _
  · intro a o e
    have nc := ne_of_none e h2
    by_cases ha : a = tb
    · subst ha
      rw [h1] at e
      cases e
      exact ⟨_, by rw [upd_ne nc, upd_same], .inr (.inr ⟨old, more, rfl, rfl⟩)⟩
    · exact ⟨o, by rw [upd_ne nc, upd_ne ha]; exact e, .inl rfl⟩
theorem OneMore.bud {P : Pa} {b : Nat} {tb co : Addr} {nm : Str} {H H1 : Hp} (h : OneMore tb nm H co H1) (U : Bud P b H) (hT : LamX.Tabs P.Tb H1) : Bud P b H1 := by
  have fr := h.frm
  rcases h with rfl | ⟨old, more, h1, h2, rfl⟩
  · exact U
  · refine ⟨⟨U.1.1, fun a l c t e => ?_⟩, hT, fun q hq => ?_, fun B hB => (U.2.2.2 B hB).trans fr⟩
    · by_cases hc : a = co
      · subst hc
        rw [upd_same] at e
        exact absurd ⟨l, c, t, Option.some.inj e⟩ nd_code
      · rw [upd_ne hc] at e
        by_cases ha : a = tb
        · subst ha
          rw [upd_same] at e
          exact absurd ⟨l, c, t, Option.some.inj e⟩ nd_tbl
        · rw [upd_ne ha] at e
          exact U.1.2 a l c t e
    · obtain ⟨k1, k2, k3⟩ := U.2.2.1 q hq
      have ha : q.1 ≠ tb := fun z => by
        rw [z, h1] at k1
        exact k3 old (Option.some.inj k1).symm
      exact ⟨by rw [upd_ne (ne_of_none k1 h2), upd_ne ha]; exact k1, k2, k3⟩
section
variable {X : Cx} {pins : List (Addr × Obj)} {σ : L2.St} {H : Hp} {s : Shared}
open LamX in
/-- the code object of a generator expression -/
theorem gen_mk {tbs : List (Addr × Str)} {co tb : Addr} {sc : Scope} {gp : Pos} {Ex : Value → Shared → Prop} {Qx : Value → Shared → Prop} (I : Inv X pins σ H s) (B : TabB X.base X.mg co tb) (hco : X.env.code = .ref co)
    (hin : (tb, X.env.qual ++ "<genexpr>") ∈ tbs) (one : ∀ q ∈ tbs, q.1 = tb → q.2 = X.env.qual ++ "<genexpr>") (hTb : Tabs tbs H)
    (fin : ∀ (cv : Value) (cn : Addr) (H1 : Hp) (s1 : Shared), Inv X pins σ H1 s1 → s.heap.objs.size ≤ s1.heap.objs.size → (∀ b o, b ≠ tb → s.heap.get? b = some o → s1.heap.get? b = some o) → OneMore tb (X.env.qual ++ "<genexpr>") H cn H1 → (H1 ≠ H → s.heap.objs.size ≤ cn) → Tabs tbs H1 → Qx cv s1) :
    wpAny (model X.prog X.w) X.A (genexprCode X.env gp (X.env.qual ++ "<genexpr>") sc) Qx Ex s := by
  obtain ⟨row, e1, e2, e3⟩ := hTb _ hin
  have onH : s.heap.get? tb = some { cls := .none, data := .fields row } := I.hok tb _ e1
  have cd := B.code.keeps I.bk
  cases known : codeAmong gp row.toList with
  | some v =>
    refine wpAny_genexprCode_hit hco (cd.code onH e2) known ?_
    exact fin v 0 H s I (Nat.le_refl _) (fun _ _ _ e => e) (.inl rfl) (fun z => absurd rfl z) hTb
  | none =>
    refine wpAny_genexprCodeX hco (cd.code onH e2) (cd.tab onH) known fun cn hp tk kp ge lt grown rec_ tab _ => ?_
    obtain ⟨cn2, ob, fs, tn, ecn, r1, r2, r3⟩ := rec_
    cases ecn
    have free : H cn = none := I.hok.fresh ge
    have tbn : tb ≠ cn := ne_of_none e1 free
    have J := inv_table (t' := tk) (more := #[rawInt gp.line, rawInt gp.col, .ref cn]) (h' := hp) I e1 (fun q o n e => kp q o n e) tab.2 ge ⟨ob, fs, tn, r1, r2, r3⟩
    have stay : ∀ q o, H q = some o → (∀ u, o ≠ .tbl u) → upd (upd H tb (.tbl (row ++ #[rawInt gp.line, rawInt gp.col, .ref cn]))) cn (CodeO cn (X.env.qual ++ "<genexpr>")) q = some o := fun q o e n => by
      have n1 : q ≠ tb := fun z => by
        rw [z, e1] at e
        exact n row (Option.some.inj e).symm
      rw [upd_ne (ne_of_none e free), upd_ne n1, e]
    refine fin (.ref cn) cn _ _ J (Nat.le_trans ge (Nat.le_of_lt lt)) (fun q o n e => kp q o n e) (.inr ⟨row, _, e1, free, rfl⟩) (fun _ => ge) fun q hq => ?_
    by_cases hb : q.1 = tb
    · rw [one q hq hb, hb]
      have eL : (row ++ #[rawInt gp.line, rawInt gp.col, .ref cn]).toList = row.toList ++ [rawInt gp.line, rawInt gp.col, .ref cn] := by simp
      refine ⟨_, by rw [upd_ne tbn, upd_same], by rw [eL]; exact PySem.TriplesOk_snoc _ _ _ _ e2, fun p' v hv => ?_⟩
      rw [eL] at hv
      cases among_app _ e2 hv with
      | inl z =>
        obtain ⟨c0, y1, y2⟩ := e3 p' v z
        exact ⟨c0, y1, stay _ _ y2 codeO_ne⟩
      | inr z => exact ⟨cn, z, upd_same⟩
    · obtain ⟨row2, y1, y2, y3⟩ := hTb q hq
      refine ⟨row2, by rw [upd_ne (ne_of_none y1 free), upd_ne hb]; exact y1, y2, fun p' v hv => ?_⟩
      obtain ⟨c0, z1, z2⟩ := y3 p' v hv
      exact ⟨c0, z1, stay _ _ z2 codeO_ne⟩
end
end Pv

-- Pq3
set_option Elab.async false
set_option linter.all false
set_option maxRecDepth 100000
set_option maxHeartbeats 8000000
namespace Pv
open PySem PySem.Spec PyProof.Rows L2
/-! ## a generator expression: the frame of its element -/
abbrev gnEnv (X : Cx) (scope : Scope) (L : Addr) (code : Value) : Env := genEnv scope (cloFrom X.env.cells scope.names []) L code builtinsNs X.env
/-- the context of the element, the frame made at s -/
abbrev gnCx (X : Cx) (scope : Scope) (code : Value) (s : Shared) (H : Hp) (ex : List Addr) : Cx where
  prog := X.prog
  w := X.w
  K := X.K
  mg := X.mg
  base := X.base
  A := X.A.in1.in1.deeper (gnEnv X scope s.heap.objs.size code)
  N := X.N
  s_0 := s
  H_0 := H
  env := gnEnv X scope s.heap.objs.size code
  outer := X.stack
  stack := gnEnv X scope s.heap.objs.size code :: X.stack
  ex := ex
  fn := fun _ => false
  calm := true
  pn := []
  xe := fun _ _ => False
/-- the scope of a generator expression; own: its own names that have slots -/
structure GnS (N : List Str) (sc scope : Scope) (own : List (Str × Nat)) : Prop where
  kind : scope.kind = .function
  co : scope.isCoroutine = false
  cell : ∀ y ∈ scope.names, y.2 ≠ .cell
  dot : scope.names.lookup (".0" : Str) = some NameKind.local
  ow : ∀ p ∈ own, N[p.2]? = some p.1
  loc : ∀ y, scope.names.lookup y = some .local → y ∈ N → y ∈ own.map (·.1)
  free : ∀ y ∈ scope.names, y.2 = .free → sc.names.lookup y.1 = some .cell ∨ sc.names.lookup y.1 = some .free
section
variable {X : Cx} {pins : List (Addr × Obj)} {σ : L2.St} {H : Hp} {s : Shared}
theorem fp_stack {b : Addr} (ok : X.Ok) (h : FpOk X pins H b) : b ∉ frs X.stack := by
  rcases ok.stk with e | ⟨e, f⟩
  · rw [e]
    exact h.2.2.1
  · intro hm
    rw [e] at hm
    obtain ⟨z, hz, q⟩ := List.mem_filterMap.mp hm
    rcases List.mem_cons.mp hz with rfl | hz
    · rw [f] at q
      exact h.2.1 (Option.some.inj q).symm
    · exact h.2.2.1 (List.mem_filterMap.mpr ⟨z, hz, q⟩)
theorem gn_start {scope : Scope} {code : Value} {own : List (Str × Nat)} {fp : List Addr} {h1 : Heap} {tk : Nat} {gs : Array GenState} {m : Str → Option Value} {gp : List (Addr × Obj)} (I : Inv X pins σ H s) (nd : X.N.Nodup) (S : GnS X.N X.env.scope scope own) (hr : X.A.handled = none) (hns : h1.Ns s.heap.objs.size m) (kp : ∀ b o, s.heap.get? b = some o → h1.get? b = some o)
    (hfp : ∀ b ∈ fp, FpOk X pins H b ∧ b < s.heap.objs.size) (hb : AllBare gs) (hgp : ∀ p ∈ gp, h1.get? p.1 = some p.2 ∧ s.heap.objs.size < p.1 ∧ ∀ v, p.2.data ≠ .cell v) :
    Inv (gnCx X scope code s H fp) gp (wipe σ (own.map (·.2))) H { s with heap := h1, gens := gs, toks := tk } := by
  have e0 := I.env0
  have hfree : ∀ y ∈ scope.names, y.2 = .free → ∃ c, X.env.cells.lookup y.1 = some c := fun y hy e => by
    rcases S.free y hy e with k | k
    · exact I.ok.has _ (.inl k)
    · exact I.ok.has _ (.inr k)
  have cm : ∀ {y c}, (cloFrom X.env.cells scope.names []).lookup y = some c → X.env.cells.lookup y = some c := fun {y c} e => by
    rcases cloFrom_mem (PySem.mem_of_lookup e) with hm | ⟨k1, k2⟩
    · cases hm
    · obtain ⟨c1, hc⟩ := hfree _ k1 rfl
      have hc : X.env.cells.lookup y = some c1 := hc
      have e2 : c = c1 := by
        rw [k2, hc] <;> rfl
      rw [e2]
      exact hc
  have look : ∀ {y}, scope.names.lookup y = some .free → ∃ c, (cloFrom X.env.cells scope.names []).lookup y = some c := fun {y} hl => mem_lookup (cloFrom_has (cells := X.env.cells) (acc := []) (PySem.mem_of_lookup hl))
  have cellK : ∀ {c : Addr} {v : Option Value}, s.heap.IsCell c v → h1.IsCell c v := fun {c v} ⟨o, ho, hd⟩ => ⟨o, kp _ _ ho, hd⟩
  have ltF : ∀ b ∈ fp, b < s.heap.objs.size := fun b hb => (hfp b hb).2
  refine ⟨⟨e0.mod, S.kind, I.ok.glob, rfl, Nat.le_refl _, fun y z c e1 e2 => I.ok.inj y z c (cm e1) (cm e2), fun y hy => ?_, fun y c z _ => ?_, fun _ => hr, Around.frames_deeper e0.frames, .inr ⟨rfl, rfl⟩, fun b hb' => ⟨Nat.ne_of_lt (ltF b hb'), fun y c e z => (hfp b hb').1.2.2.2.2.1 y c (cm e) z⟩, e0.bs, e0.bsz, fun b o e hm => ?_,
      fun b hm => fp_stack I.ok (hfp b hm).1, e0.funs, e0.frf⟩,
    rfl, hb, Un.kept kp, ⟨m, hns, fun i y v e1 e2 e3 => ?_⟩, fun y c e => ?_, e0.hok.fresh (Nat.le_refl _), fun y c e => I.freeC y c (cm e), fun q hq => ?_, e0.hok.kept kp, by rw [wipe_length]; exact I.len⟩
  · have hy : scope.names.lookup y = some .cell ∨ scope.names.lookup y = some .free := hy
    rcases hy with hy | hy
    · exact absurd rfl (S.cell _ (PySem.mem_of_lookup hy))
    · exact look hy
  · have z : false = true := z
    cases z
  · -- the iterators are none of the ground's
    have q := (e0.bs b o e)
    rcases (hfp b hm).1.2.2.2.1 with k | k
    · exact I.ok.noex b o e k
    · have hl := Heap.lt_size (I.ok.bs b o e).1
      exact absurd hl (Nat.not_lt.mpr k)
  · have e3 : Vis scope y := e3
    obtain ⟨w1, w2⟩ := wipe_some e2
    rcases e3 with k | k | k
    · have hy := S.loc y k (List.mem_of_getElem? e1)
      obtain ⟨p, hp, ep⟩ := List.mem_map.mp hy
      have e5 : X.N[p.2]? = some y := by rw [S.ow p hp, ep]
      have e6 : i = p.2 := by
        obtain ⟨h5, q5⟩ := List.getElem?_eq_some_iff.mp e5
        obtain ⟨h6, q6⟩ := List.getElem?_eq_some_iff.mp e1
        have pw := List.pairwise_iff_getElem.mp nd
        rcases Nat.lt_trichotomy i p.2 with z | z | z
        · exact absurd (q6.trans q5.symm) (pw i p.2 h6 h5 z)
        · exact z
        · exact absurd (q5.trans q6.symm) (pw p.2 i h5 h6 z)
      exact absurd (List.mem_map.mpr ⟨p, hp, e6.symm⟩) w2
    · exact absurd rfl (S.cell _ (PySem.mem_of_lookup k))
    · obtain ⟨m', hn, hl⟩ := I.loc
      have hvis : Vis X.env.scope y := (S.free _ (PySem.mem_of_lookup k) rfl).elim (fun k => .inr (.inl k)) (fun k => .inr (.inr k))
      obtain ⟨w', r, q⟩ := hl i y v e1 w1 hvis
      obtain ⟨c2, h2⟩ := look k
      refine ⟨w', r, .inr ⟨.inr k, c2, h2, ?_⟩⟩
      have c1 := cm h2
      rcases q with ⟨k', _⟩ | ⟨_, c3, e', z⟩
      · have k' : X.env.scope.names.lookup y = some .local := k'
        rcases S.free _ (PySem.mem_of_lookup k) rfl with k2 | k2 <;> rw [show X.env.scope.names.lookup y = _ from k2] at k' <;> cases k'
      · rw [c1] at e'
        cases e'
        exact cellK z
  · obtain ⟨w', z⟩ := I.cell y c (cm e)
    exact ⟨w', cellK z⟩
  · have hq' : q ∈ gp := by simpa using hq
    obtain ⟨k1, k2, k3⟩ := hgp q hq'
    refine ⟨k1, e0.hok.fresh (Nat.le_of_lt k2), Nat.ne_of_gt k2, fun hm => ?_, k3⟩
    have := I.stkSub _ hm
    rcases List.mem_cons.mp this with z | z
    · rw [z] at k2
      exact Nat.lt_asymm k2 I.lt
    · exact I.nofs (Nat.le_of_lt k2) z
end
end Pv

-- Pq4
set_option Elab.async false
set_option linter.all false
set_option maxRecDepth 100000
set_option maxHeartbeats 8000000
namespace Pv
open PySem PySem.Spec PyProof.Rows L2 GenW
theorem over_gl {A : Around} {elt iter tg : Expr} {scope : Scope} {pos : Pos} {it acc : Value} {env : Env} : A.over (.compLoop (.GeneratorExp elt [⟨tg, iter, [], 0⟩] scope pos) 0 it acc env) [] = A.deeper env := by
  obtain ⟨hd, dd, fr, gs, u⟩ := A
  simp [Around.over, Around.deeper, marksOver, frameCount, unitsOf, envsOf, guardsOf, pushEnvs, pushGuards, Code.envs, Code.env?, Code.isFrame, Code.guards, Code.isGuard, Code.weight, Code.frames, Code.isCreation, Code.isCaller, Code.cUnits]
theorem over_gs {A : Around} {elt iter tg : Expr} {scope : Scope} {pos : Pos} {it acc : Value} {env : Env} : A.over (.compStart (.GeneratorExp elt [⟨tg, iter, [], 0⟩] scope pos) 0 it acc env) [] = A.deeper env := by
  obtain ⟨hd, dd, fr, gs, u⟩ := A
  simp [Around.over, Around.deeper, marksOver, frameCount, unitsOf, envsOf, guardsOf, pushEnvs, pushGuards, Code.envs, Code.env?, Code.isFrame, Code.guards, Code.isGuard, Code.weight, Code.frames, Code.isCreation, Code.isCaller, Code.cUnits]
/-! ## the run of a generator expression whose items are truths -/
/-- what is kept of the ground: s0, H0 at the making of the frame -/
structure GFin (X : Cx) (fp : List Addr) (s0 : Shared) (H0 : Hp) (H' : Hp) (s : Shared) : Prop where
  os : s.os = s0.os
  un : Un (frs X.stack) fp H0 H' s0.heap s.heap
  hok : HOk X.prog X.w H' s.heap
/-- the state as it was, but for the table of generators -/
structure Woken (s s' : Shared) : Prop where
  heap : s'.heap = s.heap
  os : s'.os = s.os
  bare : AllBare s'.gens
/-- an item is out: a truth; a false one ends the walk -/
def GYp (X : Cx) (fp : List Addr) (s0 : Shared) (H0 : Hp) (stopAt : Bool) (Qf : Hp → Prop) (a : Addr) (g : Nat) : Protocol := fun _ _ v s kap =>
  s.heap.NoLimit ∧ s.heap.IsGen a g ∧ AllBare s.gens ∧ ∃ b : Bool, v = .bool b ∧ (b = stopAt → ∃ H', GFin X fp s0 H0 H' s ∧ Qf H') ∧ (b = !stopAt → ∀ s'', Woken s s'' → kap (.send .none) s'')
def GEn (X : Cx) (fp : List Addr) (s0 : Shared) (H0 : Hp) (Qt : Hp → Prop) : GenEnd := fun _ _ r s => ((r = .ok (.ret .none) ∨ r = .ok .next) ∧ ∃ H', GFin X fp s0 H0 H' s ∧ Qt H' ∧ AllBare s.gens) ∨ ∃ e, r = .error e ∧ False
/-- the turns -/
def GTurns (J : It) (len : Nat) (stopAt : Bool) (te : TE) (σx : V → L2.St) (Qf Qt : Hp → Prop) (W : Nat → Hp → Prop) : Prop := ∀ i H, W i H → (J.stop i H ∧ Qt H) ∨ (i < len ∧ J.go i H ∧ ∀ x H', J.yld i H x H' → te (σx x) H' fun v H3 => ∃ b, v = .bl b ∧ (b = stopAt → Qf H3) ∧ (b = !stopAt → W (i + 1) H3))
section
variable {X : Cx} {s0 : Shared} {H0 : Hp} {code : Value} {scope : Scope} {fp : List Addr} {gp : List (Addr × Obj)}
theorem gn_seg {elt iter : Expr} {x : Str} {px pos : Pos} {it a : Addr} {g ix len : Nat} {tn : Nat → Heap → Prop} {J : It} {te : TE} {σw : L2.St} {stopAt : Bool} {Qf Qt : Hp → Prop} {W : Nat → Hp → Prop}
    (hco : scope.isCoroutine = false) (T : Turn X.prog X.w X.K (.Name x px) J fp it tn) (hx : PG (gnCx X scope code s0 H0 fp) (.Name x px) (gName ix)) (he : PE (gnCx X scope code s0 H0 fp) elt te) (hw : σw[ix]? = some none)
    (fpk : ∀ b ∈ fp, b ∉ frs X.stack ∧ b ≠ (gnCx X scope code s0 H0 fp).env.locals ∧ (∀ y c, (gnCx X scope code s0 H0 fp).env.cells.lookup y = some c → c ≠ b) ∧ ∀ p ∈ gp, p.1 ≠ b) (hgp : ∃ ob, (a, ob) ∈ gp ∧ ∀ h : Heap, h.get? a = some ob → h.IsGen a g)
    (turns : GTurns J len stopAt te (fun v => σw.set ix (some v)) Qf Qt W) :
    ∀ (k i : Nat) (t0 s : Shared) (σ : L2.St) (H : Hp), len - i = k → W i H → Inv (gnCx X scope code s0 H0 fp) gp σ H s → (∃ w, σ = σw.set ix w) → tn i s.heap → (∀ b ∈ fp, H b = none) →
      Seg (model X.prog X.w) X.A.in1.in1 (GEn X fp s0 H0 Qt) (GYp X fp s0 H0 stopAt Qf a g) (len - i) t0 (.compLoop (.GeneratorExp elt [⟨.Name x px, iter, [], 0⟩] scope pos) 0 (.ref it) .none (gnEnv X scope s0.heap.objs.size code))
        ((model X.prog X.w).den (.compLoop (.GeneratorExp elt [⟨.Name x px, iter, [], 0⟩] scope pos) 0 (.ref it) .none (gnEnv X scope s0.heap.objs.size code))) [] s := by
  have mkFp : ∀ H : Hp, (∀ b ∈ fp, H b = none) → ∀ b ∈ fp, FpOk (gnCx X scope code s0 H0 fp) gp H b := fun H hn b hb => by
    obtain ⟨k1, k2, k3, k4⟩ := fpk b hb
    exact ⟨hn b hb, k2, k1, .inl hb, k3, fun p hp => k4 p (by simpa using hp)⟩
  have fin : ∀ {σ : L2.St} {H : Hp} {s : Shared} {pins : List (Addr × Obj)}, Inv (gnCx X scope code s0 H0 fp) pins σ H s → GFin X fp s0 H0 H s := fun I => ⟨I.os, I.base, I.hok⟩
  have same : ∀ {σ : L2.St} {H : Hp} {s s' : Shared} {pins : List (Addr × Obj)}, Inv (gnCx X scope code s0 H0 fp) pins σ H s → Woken s s' → Inv (gnCx X scope code s0 H0 fp) pins σ H s' := fun {σ H s s' pins} I z => by
    obtain ⟨h', g', d', t', o'⟩ := s'
    obtain ⟨e1, e2, e3⟩ := z
    have e1 : h' = s.heap := e1
    have e2 : o' = s.os := e2
    subst e1
    exact ⟨I.ok, e2.trans I.os, e3, I.base, I.loc, I.cell, I.free, I.freeC, I.pin, I.hok, I.len⟩
  intro k
  induction k with
  | zero =>
    intro i t0 s σ H hk w I hσ ht hn
    show Seg _ _ _ _ _ t0 _ ((compTurn (.GeneratorExp elt [⟨.Name x px, iter, [], 0⟩] scope pos) 0 (.ref it) .none (gnEnv X scope s0.heap.objs.size code)).onRaise (leaving (gnEnv X scope s0.heap.objs.size code))) [] s
    rw [compTurn_gen, Sem.onRaise_eq_wrap]
    refine seg_bind_wrap (wpAny_standAt ?_)
    refine seg_bind_wrap ?_
    rw [over_gl]
    rcases turns i H w with ⟨j, q⟩ | ⟨hlt, _⟩
    · refine wpAny_mono (T.done (gnCx X scope code s0 H0 fp) rfl rfl rfl rfl i gp s σ H (fun _ _ => False) I (mkFp H hn) ht j) (fun r s1 ⟨er, I1⟩ => ?_) fun _ _ z => z.elim
      subst er
      exact seg_end (.ok .next) (.inl ⟨.inr rfl, H, fin I1, q, I1.bare⟩)
    · omega
  | succ k ih =>
    intro i t0 s σ H hk w I hσ ht hn
    show Seg _ _ _ _ _ t0 _ ((compTurn (.GeneratorExp elt [⟨.Name x px, iter, [], 0⟩] scope pos) 0 (.ref it) .none (gnEnv X scope s0.heap.objs.size code)).onRaise (leaving (gnEnv X scope s0.heap.objs.size code))) [] s
    rw [compTurn_gen, Sem.onRaise_eq_wrap]
    refine seg_bind_wrap (wpAny_standAt ?_)
    refine seg_bind_wrap ?_
    rw [over_gl]
    rcases turns i H w with ⟨j, q⟩ | ⟨hlt, j, next⟩
    · refine wpAny_mono (T.done (gnCx X scope code s0 H0 fp) rfl rfl rfl rfl i gp s σ H (fun _ _ => False) I (mkFp H hn) ht j) (fun r s1 ⟨er, I1⟩ => ?_) fun _ _ z => z.elim
      subst er
      exact seg_end (.ok .next) (.inl ⟨.inr rfl, H, fin I1, q, I1.bare⟩)
    · refine wpAny_mono (T.item (gnCx X scope code s0 H0 fp) rfl rfl rfl rfl i gp s σ H (fun _ _ => False) I (mkFp H hn) ht j) (fun r s1 ⟨u, er, goes⟩ => ?_) fun _ _ z => z.elim
      subst er
      refine seg_bind_wrap ?_
      rw [over_gl]
      refine wpAny_mono goes (fun _ s2 ⟨v, H2, I2, rv, yl, t2, n2⟩ => ?_) fun _ _ z => z.elim
      obtain ⟨ip, eip⟩ : ∃ ip : List (Addr × Obj), ip = fp.filterMap fun b => (s2.heap.get? b).map fun o => (b, o) := ⟨_, rfl⟩
      have ipin : ∀ p ∈ ip, p.1 ∈ fp ∧ s2.heap.get? p.1 = some p.2 := fun p hp => by
        rw [eip] at hp
        obtain ⟨b, hb, e⟩ := List.mem_filterMap.mp hp
        obtain ⟨o, ho, e⟩ := Option.map_eq_some_iff.mp e
        subst e
        exact ⟨hb, ho⟩
      have inIp : ∀ b ∈ fp, ∀ o, s2.heap.get? b = some o → (b, o) ∈ ip := fun b hb o ho => by
        rw [eip]
        exact List.mem_filterMap.mpr ⟨b, hb, by rw [ho]; rfl⟩
      have P2 : Inv (gnCx X scope code s0 H0 fp) (gp ++ ip) σ H2 s2 := I2.pins_of fun p hp => by
        rcases List.mem_append.mp hp with hp | hp
        · exact I2.pin p (List.mem_append_right _ hp)
        · obtain ⟨k1, k2⟩ := ipin p hp
          obtain ⟨f1, f2, f3, f4⟩ := fpk p.1 k1
          obtain ⟨o, ho, nc⟩ := T.obj _ _ t2 p.1 k1
          rw [k2] at ho
          cases ho
          exact ⟨k2, n2 p.1 k1, f2, f1, nc⟩
      refine seg_bind_wrap ?_
      rw [over_gl]
      refine wpAny_mono (hx.run (gp ++ ip) s2 σ H2 v u (fun σ' H' => H' = H2 ∧ σ' = σ.set ix (some v)) P2 rv ⟨rfl, rfl⟩) (fun _ s3 ⟨σ3, H3, P3, eH, eσ⟩ => ?_) fun _ _ z => z.elim
      have eσ' : σ3 = σw.set ix (some v) := by
        obtain ⟨w', e⟩ := hσ
        rw [eσ, e, List.set_set]
      rw [eH, eσ'] at P3
      refine seg_bind_wrap (wpAny_pure ?_)
      have hy : ∀ z, yieldOut (gnEnv X scope s0.heap.objs.size code) z = yieldValue z := fun z => by
        show (if scope.isCoroutine = true then _ else _) = _
        rw [hco, if_neg Bool.false_ne_true]
      simp only [if_true, hy]
      rw [Sem.bind_eq_wrap', Sem.bind_eq_wrap', Sem.wrap_wrap, Sem.wrap_wrap]
      refine seg_wrap ?_
      rw [over_gl]
      refine wpAny_mono (he.run (gp ++ ip) s3 _ H2 _ P3 (next v H2 yl)) (fun y s4 ⟨vb, H4, P4, ry, b, eb, qf, qt⟩ => ?_) fun _ _ z => z.elim
      subst eb
      obtain rfl : y = Value.bool b := ry
      have I4 : Inv (gnCx X scope code s0 H0 fp) gp (σw.set ix (some v)) H4 s4 := P4.pins_of fun p hp => P4.pin p (List.mem_append_right _ (List.mem_append_left _ hp))
      have pinned : ∀ bb ∈ fp, ∀ o, s2.heap.get? bb = some o → s4.heap.get? bb = some o := fun bb hb o ho => (P4.pin (bb, o) (List.mem_append_right _ (List.mem_append_right _ (inIp bb hb o ho)))).1
      have n4 : ∀ bb ∈ fp, H4 bb = none := fun bb hb => by
        obtain ⟨o, ho, _⟩ := T.obj _ _ t2 bb hb
        exact (P4.pin (bb, o) (List.mem_append_right _ (List.mem_append_right _ (inIp bb hb o ho)))).2.1
      have t4 : tn (i + 1) s4.heap := T.keep _ _ _ t2 pinned
      obtain ⟨ob, hob, isg⟩ := hgp
      have ga := (P4.pin (a, ob) (List.mem_append_right _ (List.mem_append_left _ hob))).1
      have en : len - i = (len - (i + 1)) + 1 := by omega
      rw [en]
      refine seg_at (seg_yield rfl rfl rfl ⟨I4.nolimit, isg _ ga, I4.bare, b, rfl, fun e => ⟨H4, fin I4, qf e⟩, fun e s'' z => ?_⟩)
      have e1 := z.heap
      refine seg_again rfl (ih (i + 1) s'' s'' (σw.set ix (some v)) H4 (by omega) (qt e) (same I4 z) ⟨some v, rfl⟩ (by rw [e1]; exact t4) n4)
theorem gn_seg0 {elt iter : Expr} {x : Str} {px pos : Pos} {it a : Addr} {g ix len : Nat} {tn : Nat → Heap → Prop} {J : It} {te : TE} {σw : L2.St} {stopAt : Bool} {Qf Qt : Hp → Prop} {W : Nat → Hp → Prop}
    (hco : scope.isCoroutine = false) (T : Turn X.prog X.w X.K (.Name x px) J fp it tn) (hx : PG (gnCx X scope code s0 H0 fp) (.Name x px) (gName ix)) (he : PE (gnCx X scope code s0 H0 fp) elt te) (hw : σw[ix]? = some none)
    (fpk : ∀ b ∈ fp, b ∉ frs X.stack ∧ b ≠ (gnCx X scope code s0 H0 fp).env.locals ∧ (∀ y c, (gnCx X scope code s0 H0 fp).env.cells.lookup y = some c → c ≠ b) ∧ ∀ p ∈ gp, p.1 ≠ b) (hgp : ∃ ob, (a, ob) ∈ gp ∧ ∀ h : Heap, h.get? a = some ob → h.IsGen a g)
    (turns : GTurns J len stopAt te (fun v => σw.set ix (some v)) Qf Qt W) {t0 s : Shared} {H : Hp} (w : W 0 H) (I : Inv (gnCx X scope code s0 H0 fp) gp σw H s) (ht : tn 0 s.heap) (hn : ∀ b ∈ fp, H b = none) :
      Seg (model X.prog X.w) X.A.in1.in1 (GEn X fp s0 H0 Qt) (GYp X fp s0 H0 stopAt Qf a g) len t0 (.compStart (.GeneratorExp elt [⟨.Name x px, iter, [], 0⟩] scope pos) 0 (.ref it) .none (gnEnv X scope s0.heap.objs.size code))
        ((model X.prog X.w).den (.compStart (.GeneratorExp elt [⟨.Name x px, iter, [], 0⟩] scope pos) 0 (.ref it) .none (gnEnv X scope s0.heap.objs.size code))) [] s := by
  have self0 : σw.set ix none = σw := by
    refine List.ext_getElem? fun j => ?_
    rw [List.getElem?_set]
    split
    · rename_i e
      subst e
      split
      · exact hw.symm
      · rename_i z
        rw [List.getElem?_eq_none (by omega)]
    · rfl
  have loop := gn_seg (iter := iter) (px := px) (pos := pos) hco T hx he hw fpk hgp turns len 0 t0 s σw H (by omega) w I ⟨none, self0.symm⟩ ht hn
  rw [Nat.sub_zero] at loop
  show Seg _ _ _ _ _ t0 _ ((compStart (.GeneratorExp elt [⟨.Name x px, iter, [], 0⟩] scope pos) 0 (.ref it) .none (gnEnv X scope s0.heap.objs.size code)).onRaise (leaving (gnEnv X scope s0.heap.objs.size code))) [] s
  unfold compStart
  rw [Sem.onRaise_eq_wrap]
  show Seg _ _ _ _ _ t0 _ ((ask >>= _).wrap _ _ _ _) [] s
  refine seg_bind_wrap (wpAny_askSetting ?_)
  split
  · exact seg_again rfl loop
  · first
      | exact seg_bind_wrap (wpAny_rule (seg_bind_wrap (wpAny_standAt (seg_bind_wrap (T.self _ 0 s _ _ ht (seg_again rfl loop))))))
      | (refine seg_bind_wrap (wpAny_rule ?_); show Seg _ _ _ _ _ t0 _ ((standAt iter.pos >>= _).wrap _ _ _ _) [] s; exact seg_bind_wrap (wpAny_standAt (seg_bind_wrap (T.self _ 0 s _ _ ht (seg_again rfl loop)))))
/-- all(g), g such a generator -/
theorem gn_all {a : Addr} {g : Nat} {Qf Qt : Hp → Prop} {R : Result → Shared → Prop} (hh : X.A.handled = none) (hd : X.A.depth < recursionLimit)
    (hT : ∀ s H', GFin X fp s0 H0 H' s → Qt H' → AllBare s.gens → R (.ok (.ret (.bool true))) s) (hF : ∀ s H', GFin X fp s0 H0 H' s → Qf H' → AllBare s.gens → R (.ok (.ret (.bool false))) s) :
    ∀ (m : Nat) (s : Shared), s.heap.IsGen a g → s.heap.NoLimit → (∃ gs, s.gens[g]? = some gs ∧ gs.Goes (model X.prog X.w) X.A.in1.in1 (GEn X fp s0 H0 Qt) (GYp X fp s0 H0 false Qf a g) m (.send .none) (s.setGen g .running)) →
      codeAny (model X.prog X.w) X.A (.builtin "all.loop" ⟨[.ref a], []⟩) R s := by
  have grown : ∀ {H' : Hp} {s s' : Shared}, GFin X fp s0 H0 H' s → s'.os = s.os → (∀ b o, s.heap.get? b = some o → s'.heap.get? b = some o) → GFin X fp s0 H0 H' s' := fun {H' s s'} z e k => ⟨e.trans z.os, z.un.trans (Un.kept k), z.hok.kept k⟩
  intro m
  induction m with
  | zero =>
    intro s hg hl ⟨gs, hgs, hgo⟩
    refine codeAny_builtin F.entry_all_loop ?_
    rw [Around.under_plainId F.plain_all_loop _]
    show wpAny _ X.A.in1 (pyNext (.ref a) >>= _) _ _ s
    refine wpAny_bind (next_genG (A := X.A.in1) (Er := fun _ _ => False) hh hl hd hg hgs hgo (fun v s1 gs' hb hv => ?_) (fun s1 hp h' hk => ?_) fun e s1 z => z.elim)
    · obtain ⟨_, _, hbr, b, rfl, qf, qt⟩ := hv
      refine wpAny_bind (wpAny_holding (wpAny_truthy_bool ?_))
      refine wpAny_bind (wpAny_letGo ?_)
      cases b with
      | false =>
        obtain ⟨H', f, q⟩ := qf rfl
        simp only [Bool.false_eq_true, if_false]
        exact wpAny_bind (wpAny_rule (wpAny_pure (hF _ H' (grown f rfl fun _ _ e => e) q (allBare_setGen hbr hb))))
      | true => exact False.elim (qt rfl _ ⟨rfl, rfl, hbr⟩)
    · obtain ⟨H', f, q, hbr⟩ := hp
      exact wpAny_bind (wpAny_rule (wpAny_pure (hT _ H' (grown f rfl hk) q (allBare_setGen hbr rfl))))
  | succ m ih =>
    intro s hg hl ⟨gs, hgs, hgo⟩
    have hgl : g < s.gens.size := (Array.getElem?_eq_some_iff.mp hgs).1
    refine codeAny_builtin F.entry_all_loop ?_
    rw [Around.under_plainId F.plain_all_loop _]
    show wpAny _ X.A.in1 (pyNext (.ref a) >>= _) _ _ s
    refine wpAny_bind (wpAny_gsz (n := g + 1) hgl (next_genG (A := X.A.in1) (Er := fun _ _ => False) hh hl hd hg hgs hgo (fun v s1 gs' hb hv => ?_) (fun s1 hp h' hk => ?_) fun e s1 z => z.elim))
    · intro hsz
      obtain ⟨hl1, hg1, hbr, b, rfl, qf, qt⟩ := hv
      have hsz1 : g < s1.gens.size := by
        have q : (s1.setGen g gs').gens.size = s1.gens.size := setGen_size _ _ _
        have hsz' : g + 1 ≤ (s1.setGen g gs').gens.size := hsz
        omega
      refine wpAny_bind (wpAny_holding (wpAny_truthy_bool ?_))
      refine wpAny_bind (wpAny_letGo ?_)
      cases b with
      | false =>
        obtain ⟨H', f, q⟩ := qf rfl
        simp only [Bool.false_eq_true, if_false]
        exact wpAny_bind (wpAny_rule (wpAny_pure (hF _ H' (grown f rfl fun _ _ e => e) q (allBare_setGen hbr hb))))
      | true =>
        simp only [if_true]
        refine wpAny_pure ⟨plainId_quiet F.plain_all_loop _, ih _ hg1 hl1 ⟨gs', setGen_at hsz1, ?_⟩⟩
        exact qt rfl _ ⟨rfl, rfl, allBare_setGen (s := s1.setGen g gs') (allBare_setGen hbr hb) rfl⟩
    · intro hsz
      obtain ⟨H', f, q, hbr⟩ := hp
      exact wpAny_bind (wpAny_rule (wpAny_pure (hT _ H' (grown f rfl hk) q (allBare_setGen hbr rfl))))
end
end Pv

-- Pq5
set_option Elab.async false
set_option linter.all false
set_option maxRecDepth 100000
set_option maxHeartbeats 8000000
namespace Pv
open PySem PySem.Spec PyProof.Rows L2 GenW
/-! ## all(e for x in xs): the rule -/
/-- what the whole asks for: the turns, whatever code object the table has got -/
def tGen (tbs : List (Addr × Str)) (tb : Addr) (nm : Str) (stopAt : Bool) (wi : TI) (te : TE) (ix : Nat) (own : List Nat) : TE := fun σ H Q => wi σ H fun J H1 => LamX.Tabs tbs H1 ∧ ∀ cn H2, OneMore tb nm H1 cn H2 → LamX.Tabs tbs H2 →
  ∃ (len : Nat) (W : Nat → Hp → Prop), W 0 H2 ∧ GTurns J len stopAt te (fun v => (wipe σ own).set ix (some v)) (fun H' => Q (.bl stopAt) H') (fun H' => Q (.bl (!stopAt)) H') W
section
variable {X : Cx}
/-- a generator stands ready: the state behind its making -/
theorem gen_ready {co tb : Addr} {tbs : List (Addr × Str)} {elt iter : Expr} {x : Str} {px gpos : Pos} {scope : Scope} {own : List (Str × Nat)} {ix : Nat} {wi : TI} {te : TE} {stopAt : Bool} {Qu : Value → Shared → Prop}
    (hr : X.A.handled = none) (hdp : X.A.depth < recursionLimit) (B : LamX.TabB X.base X.mg co tb) (hco : X.env.code = .ref co) (hin : (tb, X.env.qual ++ "<genexpr>") ∈ tbs) (one : ∀ q ∈ tbs, q.1 = tb → q.2 = X.env.qual ++ "<genexpr>")
    (nd : X.N.Nodup) (S : GnS X.N X.env.scope scope own) (hxo : (x, ix) ∈ own) (hxl : scope.names.lookup x = some .local) (hi : PI X (.Name x px) iter wi)
    (he : ∀ (code : Value) (s : Shared) (H : Hp) (ex : List Addr), PE (gnCx X scope code s H ex) elt te) (hs : ∀ v, genFold iter X.env v = pure v)
    {pins : List (Addr × Obj)} {s : Shared} {σ : L2.St} {H : Hp} {Q : VK} (I : Inv X pins σ H s) (h : tGen tbs tb (X.env.qual ++ "<genexpr>") stopAt wi te ix (own.map (·.2)) σ H Q)
    (fin : ∀ (a : Addr) (g : Nat) (fp : List Addr) (s0 s5 : Shared) (H0 : Hp) (len : Nat) (c : Code), s5.heap.IsGen a g → s5.heap.NoLimit → s5.gens[g]? = some (.fresh c) →
      (∀ t0, Seg (model X.prog X.w) X.A.in1.in1 (GEn X fp s0 H0 fun H' => Q (.bl (!stopAt)) H') (GYp X fp s0 H0 stopAt (fun H' => Q (.bl stopAt) H') a g) len t0 c ((model X.prog X.w).den c) [] (s5.setGen g .running)) →
      (∀ s' H', GFin X fp s0 H0 H' s' → AllBare s'.gens → Inv X pins σ H' s') → Qu (.ref a) s5) :
    wpAny (model X.prog X.w) X.A (eval (.GeneratorExp elt [⟨.Name x px, iter, [], 0⟩] scope gpos) X.env) Qu X.xe s := by
  have hfree : ∀ y ∈ scope.names, y.2 = .free → ∃ c, X.env.cells.lookup y.1 = some c := fun y hy e => by
    rcases S.free y hy e with k | k
    · exact I.ok.has _ (.inl k)
    · exact I.ok.has _ (.inr k)
  refine wpAny_GeneratorExp_make S.co (closure_ok hfree) S.cell S.dot S.kind hdp ?_ hs
  refine wpAny_mono (hi.run pins s σ H _ I h) (fun xv s1 h1 => wpAny_mono h1 (fun itv s2 pie => ?_) fun _ _ e => e) fun _ _ e => e
  obtain ⟨it, fp, tn, J, H1, rfl, I2, T, t2, fpok, htabs, hturn⟩ := pie
  refine ⟨I2.nolimit, gen_mk I2 B hco hin one htabs fun code cn H3 s3 I3 big keep om hnew htabs3 => ?_⟩
  obtain ⟨bm, ob, e1, e2, _, _, e5, e6, e7, e8⟩ := B.bm
  refine wpAny_builtinsFor (m := X.mg) (by rw [I3.ok.glob]; exact I3.mod.glob.keeps I3.bk) e1 e2 (I3.bk _ _ e5) e6 e7 e8 ?_
  intro h' hns hsb
  obtain ⟨len, W, w0, turns⟩ := hturn cn H3 om htabs3
  have hsz : h'.objs.size = s3.heap.objs.size + 1 := by rw [hsb.1, Heap.size_push]
  have kp' : ∀ b o, s3.heap.get? b = some o → h'.get? b = some o := fun b o e => hsb.extBut b o (Nat.ne_of_lt (Heap.lt_size e)) (Heap.get?_push_of_some _ e)
  obtain ⟨gob, egob⟩ : ∃ gob : Obj, gob = { cls := .type "generator", data := .fields #[.int s3.gens.size 0, .str "<genexpr>" (s3.toks + 1), .str (X.env.qual ++ "<genexpr>") (s3.toks + 1 + 1)] } := ⟨_, rfl⟩
  have kp5 : ∀ b o, s3.heap.get? b = some o → (h'.push gob).get? b = some o := fun b o e => Heap.get?_push_of_some _ (kp' b o e)
  have gget : (h'.push gob).get? h'.objs.size = some gob := Heap.get?_push_size _ (by rw [egob]; rfl)
  have isg : ∀ hh : Heap, hh.get? h'.objs.size = some gob → hh.IsGen h'.objs.size s3.gens.size := fun hh e => ⟨gob, _, _, e, by rw [egob], by rw [egob], by rw [egob]⟩
  -- the iterators
  have fp3 : ∀ b ∈ fp, FpOk X pins H3 b ∧ b < s3.heap.objs.size := fun b hb => by
    obtain ⟨k1, k2, k3, k4, k5, k6⟩ := fpok b hb
    obtain ⟨o, ho, _⟩ := T.obj _ _ t2 b hb
    have hl := Heap.lt_size ho
    refine ⟨⟨?_, k2, k3, k4, k5, k6⟩, Nat.lt_of_lt_of_le hl big⟩
    rcases om with rfl | ⟨old, more, f1, f2, rfl⟩
    · exact k1
    · have n1 : b ≠ tb := fun z => by
        rw [z, f1] at k1
        cases k1
      have n2 : b ≠ cn := fun z => by
        have hne : upd (upd H1 tb (.tbl (old ++ more))) cn (LamX.CodeO cn (X.env.qual ++ "<genexpr>")) ≠ H1 := fun q => by
          have := congrFun q cn
          rw [upd_same, f2] at this
          cases this
        have q1 := hnew hne
        rw [z] at hl
        exact Nat.lt_irrefl _ (Nat.lt_of_lt_of_le hl q1)
      rw [upd_ne n2, upd_ne n1]
      exact k1
  have keep3 : ∀ b ∈ fp, ∀ o, s2.heap.get? b = some o → s3.heap.get? b = some o := fun b hb o ho => by
    refine keep b o (fun z => ?_) ho
    obtain ⟨row, f1, _⟩ := htabs _ hin
    have k1 := (fpok b hb).1
    rw [z, f1] at k1
    cases k1
  have t5 : tn 0 (h'.push gob) := T.keep _ _ _ t2 fun b hb o ho => kp5 b o (keep3 b hb o ho)
  have s5 : ∀ gs : Array GenState, AllBare gs → Inv (gnCx X scope code s3 H3 fp) [(h'.objs.size, gob)] (wipe σ (own.map (·.2))) H3 { s3 with heap := h'.push gob, gens := gs, toks := s3.toks + 1 + 1 + 1 } := fun gs hb =>
    gn_start I3 nd S hr (hns.push _) kp5 fp3 hb fun p hp => by
      rw [List.mem_singleton.mp hp]
      exact ⟨gget, by show s3.heap.objs.size < h'.objs.size; omega, fun v => by rw [egob]; exact fun z => nomatch z⟩
  have hix : X.N[ix]? = some x := S.ow _ hxo
  have hixl : ix < σ.length := by
    rw [I3.len]
    exact (List.getElem?_eq_some_iff.mp hix).1
  have hw : (wipe σ (own.map (·.2)))[ix]? = some none := by
    have key : ∀ vs : List Nat, ix ∈ vs → (wipe σ vs)[ix]? = some none := by
      intro vs
      induction vs with
      | nil => exact fun z => nomatch z
      | cons v vs ih =>
        intro hm
        unfold wipe
        rw [List.getElem?_set]
        by_cases hv : v = ix
        · rw [if_pos hv, if_pos (by rw [wipe_length, hv]; exact hixl)]
        · rw [if_neg hv]
          exact ih ((List.mem_cons.mp hm).resolve_left fun z => hv z.symm)
    exact key _ (List.mem_map.mpr ⟨_, hxo, rfl⟩)
  have hx : PG (gnCx X scope code s3 H3 fp) (.Name x px) (gName ix) := pg_name (X := gnCx X scope code s3 H3 fp) nd hix (.inl hxl) (.inr hxl)
  have fpk : ∀ b ∈ fp, b ∉ frs X.stack ∧ b ≠ (gnCx X scope code s3 H3 fp).env.locals ∧ (∀ y c, (gnCx X scope code s3 H3 fp).env.cells.lookup y = some c → c ≠ b) ∧ ∀ p ∈ [(h'.objs.size, gob)], p.1 ≠ b := fun b hb => by
    obtain ⟨k1, k2⟩ := fp3 b hb
    refine ⟨fp_stack I3.ok k1, Nat.ne_of_lt k2, fun y c e z => ?_, fun p hp => ?_⟩
    · rcases cloFrom_mem (PySem.mem_of_lookup (show (cloFrom X.env.cells scope.names []).lookup y = some c from e)) with hm | ⟨q1, q2⟩
      · cases hm
      · obtain ⟨c1, hc⟩ := hfree _ q1 rfl
        have hc : X.env.cells.lookup y = some c1 := hc
        have e2 : c = c1 := by
          rw [q2, hc] <;> rfl
        exact k1.2.2.2.2.1 y c1 hc (e2 ▸ z)
    · rw [List.mem_singleton.mp hp]
      intro z
      have z : h'.objs.size = b := z
      rw [← z, hsz] at k2
      exact absurd k2 (Nat.not_lt.mpr (Nat.le_succ _))
  rw [← egob]
  refine fin h'.objs.size s3.gens.size fp s3 _ H3 len (.compStart (.GeneratorExp elt [⟨.Name x px, iter, [], 0⟩] scope gpos) 0 (.ref it) .none (gnEnv X scope s3.heap.objs.size code)) (isg _ gget) (I3.nolimit.keeps kp5) (Array.getElem?_push_size ..) (fun t0 => ?_) (fun s' H' f hb => ?_)
  · have hbare : AllBare ((s3.gens.push (.fresh (.compStart (.GeneratorExp elt [⟨.Name x px, iter, [], 0⟩] scope gpos) 0 (.ref it) .none (gnEnv X scope s3.heap.objs.size code)))).setIfInBounds s3.gens.size .running) := allBare_setGen (s := { s3 with gens := s3.gens.push (.fresh (.compStart (.GeneratorExp elt [⟨.Name x px, iter, [], 0⟩] scope gpos) 0 (.ref it) .none (gnEnv X scope s3.heap.objs.size code))) }) (g := s3.gens.size) (x := .running) (I3.bare.push rfl) rfl
    exact gn_seg0 S.co T hx (he code s3 H3 fp) hw fpk ⟨gob, List.mem_singleton.mpr rfl, isg⟩ turns w0 (s5 _ hbare) t5 fun b hb => (fp3 b hb).1.1
  · exact I3.call' f.os f.un f.hok hb fun b hb => by
      obtain ⟨⟨_, k2, _, k4, k5, k6⟩, _⟩ := fp3 b hb
      exact ⟨k4, k2, k5, k6⟩
end
end Pv

-- Pq6
set_option Elab.async false
set_option linter.all false
set_option maxRecDepth 100000
set_option maxHeartbeats 8000000
namespace Pv
open PySem PySem.Spec PyProof.Rows L2 GenW
section
variable {X : Cx} {s0 : Shared} {H0 : Hp} {code : Value} {scope : Scope} {fp : List Addr} {gp : List (Addr × Obj)}
/-- any(g), g such a generator -/
theorem gn_any {a : Addr} {g : Nat} {Qf Qt : Hp → Prop} {R : Result → Shared → Prop} (hh : X.A.handled = none) (hd : X.A.depth < recursionLimit)
    (hT : ∀ s H', GFin X fp s0 H0 H' s → Qt H' → AllBare s.gens → R (.ok (.ret (.bool false))) s) (hF : ∀ s H', GFin X fp s0 H0 H' s → Qf H' → AllBare s.gens → R (.ok (.ret (.bool true))) s) :
    ∀ (m : Nat) (s : Shared), s.heap.IsGen a g → s.heap.NoLimit → (∃ gs, s.gens[g]? = some gs ∧ gs.Goes (model X.prog X.w) X.A.in1.in1 (GEn X fp s0 H0 Qt) (GYp X fp s0 H0 true Qf a g) m (.send .none) (s.setGen g .running)) →
      codeAny (model X.prog X.w) X.A (.builtin "any.loop" ⟨[.ref a], []⟩) R s := by
  have grown : ∀ {H' : Hp} {s s' : Shared}, GFin X fp s0 H0 H' s → s'.os = s.os → (∀ b o, s.heap.get? b = some o → s'.heap.get? b = some o) → GFin X fp s0 H0 H' s' := fun {H' s s'} z e k => ⟨e.trans z.os, z.un.trans (Un.kept k), z.hok.kept k⟩
  intro m
  induction m with
  | zero =>
    intro s hg hl ⟨gs, hgs, hgo⟩
    refine codeAny_builtin F.entry_any_loop ?_
    rw [Around.under_plainId F.plain_any_loop _]
    show wpAny _ X.A.in1 (pyNext (.ref a) >>= _) _ _ s
    refine wpAny_bind (next_genG (A := X.A.in1) (Er := fun _ _ => False) hh hl hd hg hgs hgo (fun v s1 gs' hb hv => ?_) (fun s1 hp h' hk => ?_) fun e s1 z => z.elim)
    · obtain ⟨_, _, hbr, b, rfl, qf, qt⟩ := hv
      refine wpAny_bind (wpAny_holding (wpAny_truthy_bool ?_))
      refine wpAny_bind (wpAny_letGo ?_)
      cases b with
      | true =>
        obtain ⟨H', f, q⟩ := qf rfl
        simp only [if_true]
        exact wpAny_bind (wpAny_rule (wpAny_pure (hF _ H' (grown f rfl fun _ _ e => e) q (allBare_setGen hbr hb))))
      | false => exact False.elim (qt rfl _ ⟨rfl, rfl, hbr⟩)
    · obtain ⟨H', f, q, hbr⟩ := hp
      exact wpAny_bind (wpAny_rule (wpAny_pure (hT _ H' (grown f rfl hk) q (allBare_setGen hbr rfl))))
  | succ m ih =>
    intro s hg hl ⟨gs, hgs, hgo⟩
    have hgl : g < s.gens.size := (Array.getElem?_eq_some_iff.mp hgs).1
    refine codeAny_builtin F.entry_any_loop ?_
    rw [Around.under_plainId F.plain_any_loop _]
    show wpAny _ X.A.in1 (pyNext (.ref a) >>= _) _ _ s
    refine wpAny_bind (wpAny_gsz (n := g + 1) hgl (next_genG (A := X.A.in1) (Er := fun _ _ => False) hh hl hd hg hgs hgo (fun v s1 gs' hb hv => ?_) (fun s1 hp h' hk => ?_) fun e s1 z => z.elim))
    · intro hsz
      obtain ⟨hl1, hg1, hbr, b, rfl, qf, qt⟩ := hv
      have hsz1 : g < s1.gens.size := by
        have q : (s1.setGen g gs').gens.size = s1.gens.size := setGen_size _ _ _
        have hsz' : g + 1 ≤ (s1.setGen g gs').gens.size := hsz
        omega
      refine wpAny_bind (wpAny_holding (wpAny_truthy_bool ?_))
      refine wpAny_bind (wpAny_letGo ?_)
      cases b with
      | true =>
        obtain ⟨H', f, q⟩ := qf rfl
        simp only [if_true]
        exact wpAny_bind (wpAny_rule (wpAny_pure (hF _ H' (grown f rfl fun _ _ e => e) q (allBare_setGen hbr hb))))
      | false =>
        simp only [Bool.false_eq_true, if_false]
        refine wpAny_pure ⟨plainId_quiet F.plain_any_loop _, ih _ hg1 hl1 ⟨gs', setGen_at hsz1, ?_⟩⟩
        exact qt rfl _ ⟨rfl, rfl, allBare_setGen (s := s1.setGen g gs') (allBare_setGen hbr hb) rfl⟩
    · intro hsz
      obtain ⟨H', f, q, hbr⟩ := hp
      exact wpAny_bind (wpAny_rule (wpAny_pure (hT _ H' (grown f rfl hk) q (allBare_setGen hbr rfl))))
end
section
variable {X : Cx}
theorem pe_allG {co tb : Addr} {tbs : List (Addr × Str)} {elt iter : Expr} {x : Str} {px gpos p pos : Pos} {scope : Scope} {own : List (Str × Nat)} {ix : Nat} {wi : TI} {te : TE} (hg : Gl X "all") (hm : X.mg "all" = none)
    (hr : X.A.handled = none) (hdp : X.A.depth < recursionLimit) (B : LamX.TabB X.base X.mg co tb) (hco : X.env.code = .ref co) (hin : (tb, X.env.qual ++ "<genexpr>") ∈ tbs) (one : ∀ q ∈ tbs, q.1 = tb → q.2 = X.env.qual ++ "<genexpr>")
    (nd : X.N.Nodup) (S : GnS X.N X.env.scope scope own) (hxo : (x, ix) ∈ own) (hxl : scope.names.lookup x = some .local) (hi : PI X (.Name x px) iter wi)
    (he : ∀ (code : Value) (s : Shared) (H : Hp) (ex : List Addr), PE (gnCx X scope code s H ex) elt te) (hs : ∀ v, genFold iter X.env v = pure v)
    (hst : starEach [.GeneratorExp elt [⟨.Name x px, iter, [], 0⟩] scope gpos] X.env = (false, eval (.GeneratorExp elt [⟨.Name x px, iter, [], 0⟩] scope gpos) X.env) :: starEach [] X.env := by rfl) :
    PE X (.Call (.Name "all" p) [.GeneratorExp elt [⟨.Name x px, iter, [], 0⟩] scope gpos] [] pos) (tGen tbs tb (X.env.qual ++ "<genexpr>") false wi te ix (own.map (·.2))) := by
  refine ⟨fun pins s σ H Q I h => ?_⟩
  refine wpAny_Call_Name_kw (ld_blt I hg hm (by rfl) ?_)
  refine PyProof.Rows.callWith_builtin1 ?_ hst (by rfl)
  rw [hst]
  show wpAny _ _ (spliced ((false, eval (.GeneratorExp elt [⟨.Name x px, iter, [], 0⟩] scope gpos) X.env) :: backTo pos (starEach [] X.env))) _ _ s
  refine Calls.spliced_cons (gen_ready hr hdp B hco hin one nd S hxo hxl hi he hs I h fun a g fp s0 s5 H0 len c ig lim gg seg mk => ?_)
  refine Calls.spliced_nil ?_
  refine call_function_tree F.kind_all F.plain_all F.entry_all (F.args_all1 _) ?_
  unfold Builtin.«all»
  refine wpAny_bind (m := oneArg "all" _) (wpAny_pure ?_)
  refine wpAny_bind (wpAny_pyIter_gen ig ?_)
  refine wpAny_pure ⟨plainId_quiet F.plain_all_loop _, gn_all hr hdp (fun s' H' f q hb => ⟨.bl true, H', mk s' H' f hb, rfl, q⟩) (fun s' H' f q hb => ⟨.bl false, H', mk s' H' f hb, rfl, q⟩) len s5 ig lim ⟨_, gg, rfl, seg _⟩⟩
theorem pe_anyG {co tb : Addr} {tbs : List (Addr × Str)} {elt iter : Expr} {x : Str} {px gpos p pos : Pos} {scope : Scope} {own : List (Str × Nat)} {ix : Nat} {wi : TI} {te : TE} (hg : Gl X "any") (hm : X.mg "any" = none)
    (hr : X.A.handled = none) (hdp : X.A.depth < recursionLimit) (B : LamX.TabB X.base X.mg co tb) (hco : X.env.code = .ref co) (hin : (tb, X.env.qual ++ "<genexpr>") ∈ tbs) (one : ∀ q ∈ tbs, q.1 = tb → q.2 = X.env.qual ++ "<genexpr>")
    (nd : X.N.Nodup) (S : GnS X.N X.env.scope scope own) (hxo : (x, ix) ∈ own) (hxl : scope.names.lookup x = some .local) (hi : PI X (.Name x px) iter wi)
    (he : ∀ (code : Value) (s : Shared) (H : Hp) (ex : List Addr), PE (gnCx X scope code s H ex) elt te) (hs : ∀ v, genFold iter X.env v = pure v)
    (hst : starEach [.GeneratorExp elt [⟨.Name x px, iter, [], 0⟩] scope gpos] X.env = (false, eval (.GeneratorExp elt [⟨.Name x px, iter, [], 0⟩] scope gpos) X.env) :: starEach [] X.env := by rfl) :
    PE X (.Call (.Name "any" p) [.GeneratorExp elt [⟨.Name x px, iter, [], 0⟩] scope gpos] [] pos) (tGen tbs tb (X.env.qual ++ "<genexpr>") true wi te ix (own.map (·.2))) := by
  refine ⟨fun pins s σ H Q I h => ?_⟩
  refine wpAny_Call_Name_kw (ld_blt I hg hm (by rfl) ?_)
  refine PyProof.Rows.callWith_builtin1 ?_ hst (by rfl)
  rw [hst]
  show wpAny _ _ (spliced ((false, eval (.GeneratorExp elt [⟨.Name x px, iter, [], 0⟩] scope gpos) X.env) :: backTo pos (starEach [] X.env))) _ _ s
  refine Calls.spliced_cons (gen_ready hr hdp B hco hin one nd S hxo hxl hi he hs I h fun a g fp s0 s5 H0 len c ig lim gg seg mk => ?_)
  refine Calls.spliced_nil ?_
  refine call_function_tree F.kind_any F.plain_any F.entry_any (F.args_any1 _) ?_
  unfold Builtin.«any»
  refine wpAny_bind (m := oneArg "any" _) (wpAny_pure ?_)
  refine wpAny_bind (wpAny_pyIter_gen ig ?_)
  refine wpAny_pure ⟨plainId_quiet F.plain_any_loop _, gn_any hr hdp (fun s' H' f q hb => ⟨.bl false, H', mk s' H' f hb, rfl, q⟩) (fun s' H' f q hb => ⟨.bl true, H', mk s' H' f hb, rfl, q⟩) len s5 ig lim ⟨_, gg, rfl, seg _⟩⟩
end
end Pv

-- Pv4
set_option Elab.async false
set_option linter.all false
set_option maxRecDepth 100000
set_option maxHeartbeats 4000000
namespace Pv
open PySem L2

/-! ## the shapes of syntax that the rules ask for -/
def isStar : Expr → Bool
  | .Starred .. => true
  | _ => false
theorem star_cons {e : Expr} {es : List Expr} {env : Env} (h : isStar e = false) : starEach (e :: es) env = (false, eval e env) :: starEach es env := by
  cases e <;> first | rfl | simp [isStar] at h
theorem star_any {env : Env} {pos : Pos} : ∀ {es : List Expr}, es.all (fun e => !isStar e) = true → (backTo pos (starEach es env)).any (·.1) = false
  | [], _ => rfl
  | e :: es, h => by
    rw [List.all_cons, Bool.and_eq_true] at h
    have h1 : isStar e = false := by simpa using h.1
    rw [star_cons h1]
    show (false || (backTo pos (starEach es env)).any (·.1)) = false
    rw [star_any h.2]
    rfl
def isSlice : Expr → Bool
  | .Slice .. => true
  | _ => false
theorem plain_ix {b : Expr} (h : isSlice b = false) : PlainIx b := by
  intro o i
  cases b <;> first | rfl | simp [isSlice] at h
def plainT : Expr → Bool
  | .UnaryOp .. | .BoolOp .. | .IfExp .. | .Compare .. => false
  | _ => true
theorem plain_true {e : Expr} {env : Env} (h : plainT e = true) : ∀ whole, isTrue e env whole = (do let v ← whole; standAt e.pos; holding [v] (truthy v)) := by
  intro whole
  cases e <;> first | rfl | simp [plainT] at h
def baseOk : Expr → Bool
  | .Call (.Name _ _) [] [] _ => false
  | _ => true
theorem base_ok {o : Expr} {name : Str} {env : Env} {w : Sem Value} (h : baseOk o = true) : attributeBase o name env w = w := by
  cases o with
  | Call f as ks p =>
    cases f <;> first | rfl | (cases as <;> first | rfl | (cases ks <;> first | rfl | simp [baseOk] at h))
  | _ => rfl
def isComp : Expr → Bool
  | .ListComp .. | .SetComp .. | .DictComp .. => true
  | _ => false
theorem swaps_none {e : Expr} {t : Option Expr} {l : Nat} {env : Env} (h : isComp e = false) : swapsWith e t l env = pure false := by
  cases e <;> first | rfl | simp [isComp] at h

/-! ## the surroundings of a def's body -/
/-- the fields of errors -/
def fldNames : List Str := ["given", "at", "place", "most", "ring", "path", "done", "word"]
structure FnI where
  n : Nat
  m : FnD
structure Ga where
  N : List Str
  sc : Scope
  fns : List (Str × FnI)
  con : List (Str × PyData)
  rep : Bool
  calm : Bool
  /-- names that are never stored to -/
  fz : List Str
  /-- the caught error, by its name -/
  exn : Option (Str × Er)
  /-- the parameter that is called, and what the call does -/
  thk : Option (Str × FnI)
  /-- which class of errors lies below which -/
  sub : Str → Str → Option Bool
  /-- defs that take a lambda -/
  lams : List (Str × (T PyData → T PyData))
  /-- what the lambdas' bodies may call -/
  lfns : List (Str × FnI)
  /-- classes of errors that are asked for -/
  ecl : List Str
  tryOk : Bool
  lcOk : Bool
  /-- names of lists that grow in place -/
  pls : List Str
  /-- calls by keywords alone: a def, the names as they are written; which of the values each parameter gets -/
  kwo : Str → List Str → Option (List Nat)
  /-- all(.. for ..), any(.. for ..) may stand there -/
  gx : Bool
  /-- defs that take a value, a lambda with a parameter and a value -/
  taks : List (Str × (FnD → PyData → PyData → T PyData))
abbrev Ga.mk0 (N : List Str) (sc : Scope) (fns : List (Str × FnI)) (con : List (Str × PyData)) (rep : Bool) : Ga := ⟨N, sc, fns, con, rep, true, [], none, none, fun _ _ => none, [], [], [], false, true, [], fun _ _ => none, false, []⟩
/-- a def with piles -/
abbrev Ga.mkP (N : List Str) (sc : Scope) (fns : List (Str × FnI)) (con : List (Str × PyData)) (rep : Bool) (pls : List Str) (gx : Bool := false) : Ga := ⟨N, sc, fns, con, rep, true, pls, none, none, fun _ _ => none, [], [], [], false, true, pls, fun _ _ => none, gx, []⟩
/-- the slots of the piles -/
def plOf (N pls : List Str) : List Nat := pls.filterMap fun x => N.idxOf? x
/-- the names of a lambda's body -/
abbrev lamGa (Γ : Ga) (sc : Scope) : Ga := ⟨Γ.N, sc, Γ.lfns, Γ.con, false, true, Γ.fz, none, none, fun _ _ => none, [], [], [], false, false, Γ.pls, fun _ _ => none, false, []⟩
/-- the same for a lambda with the parameter p -/
abbrev lamGa1 (Γ : Ga) (sc : Scope) (p : Str) : Ga := ⟨Γ.N ++ [p], sc, Γ.lfns, Γ.con, false, true, Γ.fz, none, none, fun _ _ => none, [], [], [], false, false, [], fun _ _ => none, false, []⟩
/-- the surroundings of the lambda's body: one slot more -/
abbrev upP (P : Pa) : Pa := ⟨P.kc, P.Tb, P.pin, P.fz, P.h0, [], P.n + 1⟩
/-- what the lambda does, the maker's names as they are -/
def lamM (fb : FE) (ρ : En) : FnD
  | [d] => fb (ρ ++ [some d])
  | _ => .stuck
/-- the names of an except suite -/
abbrev suGa (Γ : Ga) (nm : Str) (er : Er) : Ga := ⟨Γ.N, Γ.sc, [], Γ.con, Γ.rep, false, nm :: Γ.fz, some (nm, er), none, Γ.sub, [], [], Γ.ecl, false, false, Γ.pls, fun _ _ => none, false, []⟩
/-- the names of a comprehension's block -/
abbrev blkGa (Γ : Ga) (sc : Scope) : Ga := ⟨Γ.N, relS sc Γ.sc, Γ.fns, Γ.con, Γ.rep, true, Γ.fz, none, none, fun _ _ => none, [], [], [], false, false, Γ.pls, fun _ _ => none, false, []⟩
/-- the names of a generator expression -/
abbrev gnGa (Γ : Ga) (sc : Scope) : Ga := ⟨Γ.N, sc, Γ.fns, Γ.con, false, true, Γ.fz, none, none, fun _ _ => none, [], [], [], false, false, Γ.pls, fun _ _ => none, false, []⟩
/-- the block's own names that have slots -/
def lcOwn (N : List Str) (sc : Scope) : List (Str × Nat) := (sc.names.filter fun p => decide (p.2 = .local) || decide (p.2 = .cell)).filterMap fun p => (N.idxOf? p.1).map fun i => (p.1, i)
/-- what stands in an except suite -/
abbrev suP (P : Pa) (dd : Addr) (vs : List (Str × V)) (i : Nat) (a : Addr) (B : Hp) : Pa := ⟨P.kc, P.Tb, (dd, .xd vs) :: P.pin, (i, .ref a) :: P.fz, B :: P.h0, P.pl, P.n⟩
def slotOf (Γ : Ga) (x : Str) : Option Nat :=
  if (Γ.sc.names.lookup x = some .local ∨ Γ.sc.names.lookup x = some .cell ∨ Γ.sc.names.lookup x = some .free) ∧ (x == ("__debug__" : Str)) = false ∧ (x == ("__classdict__" : Str)) = false then Γ.N.idxOf? x else none
def glob (Γ : Ga) (x : Str) : Bool := decide (Γ.sc.names.lookup x = some .globalImplicit) && !(x == ("__debug__" : Str))
/-- a def's promise by its reading over data -/
def spT (P : Pa) (i : FnI) : Sp := fun vs H Q E => vs.length = i.n ∧ ∃ ds b, Bud P b H ∧ RpA P.kc H vs ds ∧ T.wp (i.m ds) b (KQ P H Q) (KW P H E)
/-- the names of built-ins that code of ours may use -/
def bltNames : List Str := ["len", "ord", "divmod", "min", "max", "sum", "str", "int", "list", "tuple", "repr", "isinstance", "bool", "dict", "range", "enumerate", "sorted", "set", "all", "any", "zip"]
/-! ## readings -/
def tEv (P : Pa) (W : WX) (f : FE) : TE := fun σ H Q => ∃ ρ b, Bud P b H ∧ Ren P H σ ρ ∧ T.wp (f ρ) b (KQ P H Q) (KW P H (WE W σ))
def tEvT (P : Pa) (W : WX) (f : FT) : TT := fun σ H Q => ∃ ρ b, Bud P b H ∧ Ren P H σ ρ ∧ T.wp (f ρ) b (fun c b' => ∀ H', Frm H H' → Bud P b' H' → Q c H') (KW P H (WE W σ))
def tEvA (P : Pa) (W : WX) (f : FA) : TA := fun σ H Q => ∃ ρ b, Bud P b H ∧ Ren P H σ ρ ∧ T.wp (f ρ) b (fun ds b' => ∀ vs H', Frm H H' → Bud P b' H' → RpA P.kc H' vs ds → Q vs H') (KW P H (WE W σ))
/-- a lambda without parameters, or with one that has a written default: its other names all come from outside -/
def lamOk (N : List Str) (sc : Scope) (params : Arguments) (scope : Scope) : Bool := match lamPar params with
  | some ps => lamNB N ps sc scope
  | none => false
/-- the values at these places -/
def pickN {α : Type} (xs : List α) : List Nat → Option (List α)
  | [] => some []
  | i :: is => xs[i]?.bind fun x => (pickN xs is).bind fun r => some (x :: r)
/-- what is known of the classes of errors -/
structure Ecl (Z : Kc) (sub : Str → Str → Option Bool) (ecl : List Str) (mg : Str → Option Value) : Prop where
  xf : ∀ cn C, Z.cl cn = some C → XfC Z.K C ∧ ExcC Z.K C ∧ ∀ f ∈ fldNames, PySem.W.findIn Z.K (.ref C) f = some none
  cat : ∀ c ∈ ecl, ∃ Cc, mg c = some (.ref Cc) ∧ (c == ("__debug__" : Str)) = false ∧ ((PySem.W.clsIn Z.K Cc).isSome && PySem.W.typeIn Z.K (.ref Cc) == some (.type "type")) = true ∧ ∀ cn b C, sub cn c = some b → Z.cl cn = some C → PySem.W.kitOne Z.K (.ref C) (.ref Cc) = some b ∧ PySem.W.exmOne Z.K (.ref C) (.ref Cc) = some b
/-- a dict of texts, as data -/
def dctD (ps : List (Str × Str)) : PyData := .dict (ps.map fun q => (.str q.1, .str q.2))
/-- what stands under a name of the top -/
def ConR (Z : Kc) (w : World) (mg : Str → Option Value) (x : Str) (d : PyData) : Prop := (∃ v u, mg x = some u ∧ RelV v u ∧ ∀ H, Rp Z H v d) ∨ ∃ ps a, d = dctD ps ∧ mg x = some (.ref a) ∧ WD Z w a ps
structure XB (P : Pa) (Γ : Ga) (X : Cx) (W : WX) : Prop where
  hK : P.kc.K = X.K
  hN : X.N = Γ.N
  hsc : X.env.scope = Γ.sc
  nd : Γ.N.Nodup
  calm : Γ.calm = true → X.calm = true
  fz : ∀ q ∈ P.fz, ∃ y, Γ.N[q.1]? = some y ∧ y ∈ Γ.fz
  pl : ∀ i ∈ P.pl, ∃ y, Γ.N[i]? = some y ∧ y ∈ Γ.fz
  pn : P.n = Γ.N.length
  hpl : P.pl = plOf Γ.N Γ.pls
  plfz : ∀ i ∈ P.pl, ∀ q ∈ P.fz, q.1 ≠ i
  u : X.A.units + 70 < cLine
  con : ∀ x d, Γ.con.lookup x = some d → ConR P.kc X.w X.mg x d
  fns : ∀ x i, Γ.fns.lookup x = some i → ∃ f, X.mg x = some (.ref f) ∧ PySem.W.keepIn X.K (.ref f) = true ∧
    ∀ (pins : List (Addr × Obj)) (σ : St) (H : Hp) (s : Shared) (Q : VK) (us : List Value) (vs : List V), Inv X pins σ H s → Vals vs us → spT P i vs H Q (WE W σ) → wpAny (model X.prog X.w) X.A (call (.ref f) us) (EP X pins σ Q) X.xe s
  blt : ∀ x, x ∈ bltNames → X.mg x = none
  grd : Γ.rep = true → X.A.guards = some []
  ek : Γ.ecl = [] ∨ Ecl P.kc Γ.sub Γ.ecl X.mg
  fnB : Γ.lcOk = true → ∀ x i, Γ.fns.lookup x = some i → ∃ f, X.mg x = some (.ref f) ∧ PySem.W.keepIn X.K (.ref f) = true ∧
    ∀ (sc : Scope) (s0 : Shared) (H0 : Hp) (ce : Env) (fp : List Addr) (pins : List (Addr × Obj)) (σ : St) (H : Hp) (s : Shared) (Q : VK) (us : List Value) (vs : List V), Inv (X.blk s0 H0 sc ce fp) pins σ H s → Vals vs us → spT P i vs H Q (fun _ _ _ => False) → wpAny (model X.prog X.w) X.A (call (.ref f) us) (EP (X.blk s0 H0 sc ce fp) pins σ Q) (fun _ _ => False) s
  kw : ∀ x nms is i, Γ.kwo x nms = some is → Γ.fns.lookup x = some i → ∃ f, X.mg x = some (.ref f) ∧ PySem.W.keepIn X.K (.ref f) = true ∧
    ∀ (pins : List (Addr × Obj)) (σ : St) (H : Hp) (s : Shared) (Q : VK) (ws : List Value) (zs vs : List V), Inv X pins σ H s → Vals zs ws → zs.length = nms.length → pickN zs is = some vs → spT P i vs H Q (WE W σ) → wpAny (model X.prog X.w) X.A (call (.ref f) [] (nms.zip ws)) (EP X pins σ Q) X.xe s
  exA : ∀ y er, Γ.exn = some (y, er) → ∀ (f : Str) (d : PyData) (p pos : Pos), f ∈ fldNames → er.fs.lookup f = some d → PE X (.Attribute (.Name y p) f pos) (tEv P W fun _ => .ret d)
  exI : ∀ y er, Γ.exn = some (y, er) → ∀ (c : Str) (b : Bool) (p p1 p2 pos : Pos), c ∈ Γ.ecl → Γ.sub er.cls c = some b → glob Γ "isinstance" = true → glob Γ c = true → PE X (.Call (.Name "isinstance" p) [.Name y p1, .Name c p2] [] pos) (tEv P W fun _ => .ret (.bool b))
  thk : ∀ a i, Γ.thk = some (a, i) → (i.n = 0 → ∀ p pos : Pos, PE X (.Call (.Name a p) [] [] pos) (tEv P W fun _ => i.m [])) ∧ (i.n = 1 → ∀ (e : Expr) (fe : FE), isStar e = false → PE X e (tEv P W fe) → ∀ p pos : Pos, PE X (.Call (.Name a p) [e] [] pos) (tEv P W fun ρ => T.bind (fe ρ) fun d => i.m [d]))
  gx : Γ.gx = true → ∃ co tb, LamX.TabB X.base X.mg co tb ∧ X.env.code = .ref co ∧ (tb, X.env.qual ++ "<genexpr>") ∈ P.Tb ∧ (∀ q ∈ P.Tb, q.1 = tb → q.2 = X.env.qual ++ "<genexpr>") ∧ X.A.handled = none ∧ X.A.depth < recursionLimit ∧ X.A.units + 80 < cLine ∧
    ∀ x i, Γ.fns.lookup x = some i → ∃ f, X.mg x = some (.ref f) ∧ PySem.W.keepIn X.K (.ref f) = true ∧
      ∀ (sc : Scope) (code : Value) (s0 : Shared) (H0 : Hp) (ex : List Addr) (pins : List (Addr × Obj)) (σ : St) (H : Hp) (s : Shared) (Q : VK) (us : List Value) (vs : List V), Inv (gnCx X sc code s0 H0 ex) pins σ H s → Vals vs us → spT P i vs H Q (fun _ _ _ => False) → wpAny (model X.prog X.w) (gnCx X sc code s0 H0 ex).A (call (.ref f) us) (EP (gnCx X sc code s0 H0 ex) pins σ Q) (fun _ _ => False) s
structure XO (P : Pa) (Γ : Ga) (X : Cx) (W : WX) : Prop extends XB P Γ X W where
  lam : ∀ x tf, Γ.lams.lookup x = some tf → ∀ (params : Arguments) (body : Expr) (scope : Scope) (fe : FE) (p lpos pos : Pos), lamOk Γ.N Γ.sc params scope = true → (∀ (X' : Cx) (W' : WX), XB P (lamGa Γ scope) X' W' → PE X' body (tEv P W' fe)) →
    glob Γ x = true → PE X (.Call (.Name x p) [.Lambda params body scope lpos] [] pos) (tEv P W fun ρ => tf (fe ρ))
  tak : ∀ x tf, Γ.taks.lookup x = some tf → ∀ (params : Arguments) (q : Str) (body e1 e2 : Expr) (scope : Scope) (f1 f2 fb : FE) (p lpos pos : Pos), lamPar1 params = some q → lamNB Γ.N [q] Γ.sc scope = true → (∀ (X' : Cx) (W' : WX), XB (upP P) (lamGa1 Γ scope q) X' W' → PE X' body (tEv (upP P) W' fb)) →
    isStar e1 = false → isStar e2 = false → PE X e1 (tEv P W f1) → PE X e2 (tEv P W f2) → glob Γ x = true → PE X (.Call (.Name x p) [e1, .Lambda params body scope lpos, e2] [] pos) (tEv P W fun ρ => T.bind (f1 ρ) fun d => T.bind (f2 ρ) fun e => tf (lamM fb ρ) d e)
theorem XB.up {P : Pa} {Γ : Ga} {X : Cx} {W : WX} (x : XB P Γ X W) (h : Γ.lams = []) (h2 : Γ.taks = [] := by rfl) : XO P Γ X W := ⟨x, fun y tf hl => (by rw [h] at hl; cases hl), fun y tf hl => (by rw [h2] at hl; cases hl)⟩
theorem impE {X : Cx} {e : Expr} {t t' : TE} (h : PE X e t) (k : ∀ σ H Q, t' σ H Q → t σ H Q) : PE X e t' := ⟨fun pins s σ H Q I q => h.run pins s σ H Q I (k σ H Q q)⟩
theorem impT {X : Cx} {e : Expr} {t t' : TT} (h : PT X e t) (k : ∀ σ H Q, t' σ H Q → t σ H Q) : PT X e t' := ⟨fun pins s σ H Q I q => h.run pins s σ H Q I (k σ H Q q)⟩
theorem impA {X : Cx} {es : List Expr} {t t' : TA} (h : PA X es t) (k : ∀ σ H Q, t' σ H Q → t σ H Q) : PA X es t' := ⟨fun pos pins s σ H Q I q => h.run pos pins s σ H Q I (k σ H Q q)⟩
section
variable {P : Pa} {W : WX} {σ : St} {H : Hp} {ρ : En} {b : Nat} {E : XK} {α : Type}
/-- one step of a bind, an expression's -/
theorem stepE {f : FE} {g : PyData → T α} {QQ : α → Nat → Prop} {EE : Er → Nat → Prop} {R : VK} (U : Bud P b H) (r : Ren P H σ ρ) (h : T.wp (T.bind (f ρ) g) b QQ EE)
    (hE : ∀ x c, EE x c → KW P H (WE W σ) x c) (k : ∀ d b1 v H1, Frm H H1 → Bud P b1 H1 → Rp P.kc H1 v d → Ren P H1 σ ρ → T.wp (g d) b1 QQ EE → R v H1) : tEv P W f σ H R :=
  ⟨ρ, b, U, r, T.wp_mono (T.wp_bind.mp h) (fun d c _ q v H1 F1 U1 r1 => k d c v H1 F1 U1 r1 (r.frm F1) q) fun x c _ e => hE x c e⟩
theorem stepT {f : FT} {g : Bool → T α} {QQ : α → Nat → Prop} {EE : Er → Nat → Prop} {R : Bool → Hp → Prop} (U : Bud P b H) (r : Ren P H σ ρ) (h : T.wp (T.bind (f ρ) g) b QQ EE)
    (hE : ∀ x c, EE x c → KW P H (WE W σ) x c) (k : ∀ d b1 H1, Frm H H1 → Bud P b1 H1 → Ren P H1 σ ρ → T.wp (g d) b1 QQ EE → R d H1) : tEvT P W f σ H R :=
  ⟨ρ, b, U, r, T.wp_mono (T.wp_bind.mp h) (fun d c _ q H1 F1 U1 => k d c H1 F1 U1 (r.frm F1) q) fun x c _ e => hE x c e⟩
theorem stepA {f : FA} {g : List PyData → T α} {QQ : α → Nat → Prop} {EE : Er → Nat → Prop} {R : List V → Hp → Prop} (U : Bud P b H) (r : Ren P H σ ρ) (h : T.wp (T.bind (f ρ) g) b QQ EE)
    (hE : ∀ x c, EE x c → KW P H (WE W σ) x c) (k : ∀ d b1 vs H1, Frm H H1 → Bud P b1 H1 → RpA P.kc H1 vs d → Ren P H1 σ ρ → T.wp (g d) b1 QQ EE → R vs H1) : tEvA P W f σ H R :=
  ⟨ρ, b, U, r, T.wp_mono (T.wp_bind.mp h) (fun d c _ q vs H1 F1 U1 r1 => k d c vs H1 F1 U1 r1 (r.frm F1) q) fun x c _ e => hE x c e⟩
/-- a wish carried over an extension -/
theorem carry {t : T PyData} {H1 : Hp} {Q : VK} (F1 : Frm H H1) (h : T.wp t b (KQ P H Q) (KW P H E)) : T.wp t b (KQ P H1 Q) (KW P H1 E) :=
  T.wp_mono h (fun _ _ _ q => q.frm F1) fun _ _ _ q => q.frm F1
/-- the errors don't matter -/
theorem noErr {t : T α} {Q : α → Nat → Prop} {EE : Er → Nat → Prop} (h : T.wp t b Q EE) : T.wp t b Q (fun _ _ => True) := T.wp_mono h (fun _ _ _ q => q) fun _ _ _ _ => trivial
theorem getSlot {i : Nat} {d : PyData} (r : Ren P H σ ρ) (hi : i < P.n) (e : ρ[i]? = some (some d)) : ∃ v, σ[i]? = some (some v) ∧ Rp P.kc H v d := r.val i d hi e
end
/-- the class of a caught error that is kept -/
def excOf : PyData → Option Str
  | .dict ((.none, .str c) :: _) => some c
  | _ => none
def plainD : PyData → Bool
  | .dict _ => false
  | _ => true
/-- isinstance with a class of errors -/
def isiX (sub : Str → Str → Option Bool) (c : Str) (d : PyData) : T PyData := match excOf d with
  | some cn => T.ofO ((sub cn c).map .bool)
  | none => if plainD d = true then .ret (.bool false) else .stuck
def fldX (f : Str) : List (PyData × PyData) → Option PyData
  | (.str g, v) :: r => if f == g then some v else fldX f r
  | _ => none
/-- a field of a caught error that is kept -/
def attX (f : Str) (d : PyData) : T PyData := match d with
  | .dict ((.none, .str _) :: r) => T.ofO (fldX f r)
  | _ => .stuck
/-- methods of lists -/
def mthL (m : Str) : Option (List PyData → PyData → T PyData) :=
  if m = "count" then some fun xs d => if (flatD d && xs.all flatD) = true then .ret (.int ((xs.countP fun z => PyData.eqv z d : Nat) : Int)) else .stuck
  else if m = "index" then some fun xs d => if (flatD d && xs.all flatD) = true then (match xs.findIdx? (fun z => PyData.eqv z d) with
    | some j => .ret (.int (j : Nat))
    | none => .stuck) else .stuck
  else none
def onL (g : List PyData → PyData → T PyData) (d : PyData) : PyData → T PyData
  | .list xs => g xs d
  | _ => .stuck
def kwNames : List Keyword → Option (List Str)
  | [] => some []
  | k :: r => k.arg.bind fun x => (kwNames r).bind fun xs => some (x :: xs)
def boolArg : List Expr → Option Bool
  | [.Constant (.bool b) _ _] => some b
  | _ => none
theorem boolArg_inv {es : List Expr} {b : Bool} (h : boolArg es = some b) : ∃ j p, es = [.Constant (.bool b) j p] := by
  match es, h with
  | [.Constant (.bool c) j p], h =>
    cases h
    exact ⟨j, p, rfl⟩
def getV (ρ : En) (i : Nat) : T PyData := T.ofO (ρ[i]?).join
def asB : PyData → T Bool
  | .bool b => .ret b
  | _ => .stuck
def truD : PyData → T Bool
  | .none => .ret false
  | .bool b => .ret b
  | .int i => .ret (i != 0)
  | .str y => if y.length ≤ big then .ret ((y.length : Int) != 0) else .stuck
  | .list xs => .ret (!xs.isEmpty)
  | .tuple xs => .ret (!xs.isEmpty)
  | .dict _ => .stuck
def fmtD : PyData → T PyData
  | .str y => if y.length ≤ big then .ret (.str y) else .stuck
  | .int i => if i.natAbs.log2 < 1920 then .ret (.str (toString i)) else .stuck
  | _ => .stuck
def joinD : List FE → Str → En → T PyData
  | [], acc, _ => .ret (.str acc)
  | f :: fs, acc, ρ => T.bind (f ρ) fun d => match d with
    | .str y => if (acc ++ y).length ≤ big then joinD fs (acc ++ y) ρ else .stuck
    | _ => .stuck
def unstar : PyData → T (List PyData)
  | .tuple xs => .ret xs
  | .list xs => .ret xs
  | _ => .stuck
def asI : PyData → T Int
  | .int i => .ret i
  | _ => .stuck
/-- methods of texts with one argument, with none -/
def mthS1 (m : Str) : Option (String × (Str → Str → T PyData)) :=
  if m = "strip" then some ("str.strip", fun a b => if a.length ≤ big then .ret (.str (Txt.stripChars a b)) else .stuck)
  else if m = "rstrip" then some ("str.rstrip", fun a b => if a.length ≤ big then .ret (.str (Txt.rstripChars a b)) else .stuck)
  else if m = "lstrip" then some ("str.lstrip", fun a b => if a.length ≤ big then .ret (.str (Txt.lstripChars a b)) else .stuck)
  else if m = "index" then some ("str.index", fun a b => match Builtin.Str.occurrences a b 0 a.length 1 with | i :: _ => .ret (.int (i : Nat)) | [] => .stuck)
  else if m = "partition" then some ("str.partition", fun a b => if (b.length == 0) = false ∧ a.length ≤ big then .ret (.tuple [.str (Txt.partition a b).1, .str (Txt.partition a b).2.1, .str (Txt.partition a b).2.2]) else .stuck)
  else none
def asS : PyData → T Str
  | .str a => .ret a
  | _ => .stuck
def onS1 (f : Str → Str → T PyData) (a : Str) : PyData → T PyData
  | .str b => f a b
  | _ => .stuck
/-- the texts of a list or a tuple -/
def txtsD : List PyData → Option (List Str)
  | [] => some []
  | .str a :: r => (txtsD r).map fun as => a :: as
  | _ :: _ => none
def joinS (a : Str) (xs : List PyData) : T PyData := match txtsD xs with
  | some ys => if (ys.map (·.length)).sum + ys.length * a.length ≤ 16777216 then .ret (.str (Txt.join a ys)) else .stuck
  | none => .stuck
/-- more methods of texts, by the number of their arguments -/
def mthSG (m : Str) (k : Nat) : Option (Str → List PyData → T PyData) :=
  if m = "startswith" ∧ k = 1 then some fun a ds => match ds with
    | [.str b] => .ret (.bool (Txt.startswith a b))
    | _ => .stuck
  else if m = "startswith" ∧ k = 2 then some fun a ds => match ds with
    | [.str b, .int i] => .ret (.bool (Txt.startswith3 a b i))
    | _ => .stuck
  else if m = "endswith" ∧ k = 1 then some fun a ds => match ds with
    | [.str b] => .ret (.bool (Txt.endswith a b))
    | _ => .stuck
  else if m = "find" ∧ k = 1 then some fun a ds => match ds with
    | [.str b] => .ret (.int (Txt.find a b))
    | _ => .stuck
  else if m = "find" ∧ k = 2 then some fun a ds => match ds with
    | [.str b, .int i] => .ret (.int (Txt.find3 a b i))
    | _ => .stuck
  else if m = "count" ∧ k = 1 then some fun a ds => match ds with
    | [.str b] => .ret (.int (Txt.count a b))
    | _ => .stuck
  else if m = "upper" ∧ k = 0 then some fun a ds => match ds with
    | [] => if a.length ≤ 5592405 then .ret (.str (Txt.upper a)) else .stuck
    | _ => .stuck
  else if m = "lower" ∧ k = 0 then some fun a ds => match ds with
    | [] => if a.length ≤ 5592405 then .ret (.str (Txt.lower a)) else .stuck
    | _ => .stuck
  else if m = "split" ∧ k = 1 then some fun a ds => match ds with
    | [.str b] => if (b.length == 0) = false ∧ a.length + 2 ≤ big then .ret (.list ((Txt.split a b).map .str)) else .stuck
    | _ => .stuck
  else if m = "join" ∧ k = 1 then some fun a ds => match ds with
    | [.list xs] => joinS a xs
    | [.tuple xs] => joinS a xs
    | _ => .stuck
  else none
/-- the built-in classes that isinstance asks for -/
def isiNames : List Str := ["int", "str", "bool", "tuple", "list", "dict"]
def tyName (c : Str) : String := if c = "int" then "int" else if c = "str" then "str" else if c = "bool" then "bool" else if c = "tuple" then "tuple" else if c = "list" then "list" else "dict"
/-- names in a row -/
def namesE : List Expr → Option (List Str)
  | [] => some []
  | .Name c _ :: r => (namesE r).map fun cs => c :: cs
  | _ :: _ => none
/-- isinstance(x, (c1, c2)) -/
def isiTup : Str → List Expr → Option (List Str)
  | f, [.Tuple es _ _] => if f = "isinstance" then namesE es else none
  | _, _ => none
def kitsB (t : String) : List Str → Option Bool
  | [] => some false
  | c :: cs => (kitB t (tyName c)).bind fun b => if b = true then some true else kitsB t cs
def isiTD (cs : List Str) (d : PyData) : T PyData := if isExc d = false then T.ofO ((kitsB (tyD d) cs).map .bool) else .stuck
def isiArg : Str → List Expr → Option Str
  | f, [.Name c _] => if f = "isinstance" then some c else none
  | _, _ => none
def itemsD : PyData → T (List PyData)
  | .list xs => .ret xs
  | .tuple xs => .ret xs
  | .str z => .ret (z.cps.toList.map fun c => .str ⟨#[c]⟩)
  | _ => .stuck
/-- no error comes out -/
def noRaise {α : Type} : T α → T α
  | .ret a => .ret a
  | .err _ => .stuck
  | .pick n f => .pick n fun i => noRaise (f i)
  | .stuck => .stuck
/-- what a for goes over, as the rule wants it: no written set -/
def foldOk : Expr → Bool
  | .Set .. => false
  | _ => true
/-! no list and no dict within -/
mutual
def lessD : PyData → Bool
  | .none | .bool _ | .int _ | .str _ => true
  | .tuple xs => lessDs xs
  | _ => false
def lessDs : List PyData → Bool
  | [] => true
  | x :: xs => lessD x && lessDs xs
end
/-- values that refer to nothing -/
def atomD : PyData → Bool
  | .none | .bool _ | .int _ | .str _ => true
  | _ => false
def enumD : List PyData → Nat → List PyData
  | [], _ => []
  | d :: r, k => .tuple [.int (k : Nat), d] :: enumD r (k + 1)
abbrev FI := En → T (List PyData)
def rangeD1 : PyData → T (List PyData)
  | .int j => if -(2 ^ 62) ≤ j ∧ j < 2 ^ 62 then .ret ((List.range j.toNat).map fun k => .int (0 + (k : Nat))) else .stuck
  | _ => .stuck
def rangeD2 : PyData → PyData → T (List PyData)
  | .int i, .int j => if -(2 ^ 62) ≤ i ∧ i < 2 ^ 62 ∧ -(2 ^ 62) ≤ j ∧ j < 2 ^ 62 then .ret ((List.range (j - i).toNat).map fun k => .int (i + (k : Nat))) else .stuck
  | _, _ => .stuck
def enumOf : PyData → T (List PyData)
  | .list xs => .ret (enumD xs 0)
  | .tuple xs => .ret (enumD xs 0)
  | _ => .stuck
def isTup : Expr → Bool
  | .Tuple .. => true
  | _ => false
def setAll (ρ : En) : List Nat → List PyData → En
  | i :: is, d :: ds => setAll (ρ.set i (some d)) is ds
  | _, _ => ρ
/-- what a comprehension stores to -/
inductive Tg where
  | one (i : Nat)
  | tup (is : List Nat)
def Tg.put : Tg → PyData → En → Option En
  | .one i, d, ρ => some (ρ.set i (some d))
  | .tup is, d, ρ => match d with
    | .tuple ds => if ds.length = is.length then some (setAll ρ is ds) else none
    | _ => none
def tgNames (own : List (Str × Nat)) (s1 s2 : Scope) : List Expr → Option (List Nat)
  | [] => some []
  | .Name y _ :: r => if decide (s1.names.lookup y = some .local) && decide (s2.names.lookup y = some .local) then (own.lookup y).bind fun i => (tgNames own s1 s2 r).bind fun is => some (i :: is) else none
  | _ => none
def tgOf (own : List (Str × Nat)) (s1 s2 : Scope) : Expr → Option Tg
  | .Name y _ => if decide (s1.names.lookup y = some .local) && decide (s2.names.lookup y = some .local) then (own.lookup y).map .one else none
  | .Tuple es _ _ => (tgNames own s1 s2 es).map .tup
  | _ => none
/-- the turns of a list comprehension -/
def lcR (ft : FT) (fe : FE) (g : Tg) (ρ : En) : List PyData → List PyData → T PyData
  | [], acc => .ret (.list acc)
  | d :: r, acc => match g.put d ρ with
    | some ρ1 => T.bind (ft ρ1) fun k => if k = true then T.bind (fe ρ1) fun y => if acc.length < big then lcR ft fe g ρ r (acc ++ [y]) else .stuck else lcR ft fe g ρ r acc
    | none => .stuck
/-- the turns of all(..), any(..) -/
def gnR (stop : Bool) (fe : FE) (i : Nat) (ρ : En) : List PyData → T PyData
  | [] => .ret (.bool (!stop))
  | d :: r => T.bind (fe (ρ.set i (some d))) fun y => T.bind (asB y) fun k => if k = stop then .ret (.bool stop) else gnR stop fe i ρ r
def gnFoldOk : Expr → Bool
  | .List .. => false
  | e => foldOk e
/-- the scope of a generator expression -/
def gnOk (N : List Str) (sc scope : Scope) : Bool :=
  decide (scope.kind = .function) && !scope.isCoroutine && scope.names.all (fun y => decide (y.2 ≠ .cell)) && decide (scope.names.lookup (".0" : Str) = some .local) && scope.names.all (fun y => decide (y.2 ≠ .free) || (decide (sc.names.lookup y.1 = some .cell) || decide (sc.names.lookup y.1 = some .free)))
def gnArg : List Expr → Option (Expr × Str × Pos × Expr × Scope)
  | [.GeneratorExp elt [⟨.Name x px, iter, [], 0⟩] scope _] => some (elt, x, px, iter, scope)
  | _ => none
def wipeE (ρ : En) : List Nat → En
  | [] => ρ
  | v :: vs => (wipeE ρ vs).set v none
/-- the caught error, as an expression -/
def isE (Γ : Ga) : Expr → Option Er
  | .Name x _ => match Γ.exn with
    | some (y, er) => if x = y then some er else none
    | none => none
  | _ => none
def cAtt (Γ : Ga) (o : Expr) (f : Str) : Option FE := if fldNames.contains f then (isE Γ o).map fun er _ => T.ofO (er.fs.lookup f) else none
def cThk (Γ : Ga) (f : Str) : Option FE := match Γ.thk with
  | some (y, i) => if f = y ∧ i.n = 0 then some fun _ => i.m [] else none
  | none => none
def oneArg : List Expr → Option Expr
  | [a] => some a
  | _ => none
theorem oneArg_inv {es : List Expr} {a : Expr} (h : oneArg es = some a) : es = [a] := by
  unfold oneArg at h
  split at h
  · cases h
    rfl
  · cases h
/-- a value, a lambda, a value -/
def takArg : List Expr → Option (Expr × Arguments × Expr × Scope × Expr)
  | [e1, .Lambda params body scope _, e2] => some (e1, params, body, scope, e2)
  | _ => none
def lamArg : List Expr → Option (Arguments × Expr × Scope)
  | [.Lambda params body scope _] => some (params, body, scope)
  | _ => none
/-- a written dict of texts, read back -/
def strD : List (PyData × PyData) → Option (List (Str × Str))
  | [] => some []
  | (.str a, .str b) :: r => (strD r).map fun ps => (a, b) :: ps
  | _ :: _ => none
def dctOf : PyData → Option (List (Str × Str))
  | .dict (q :: r) => strD (q :: r)
  | _ => none
def dctE (Γ : Ga) : Expr → Option (List (Str × Str))
  | .Name y _ => if glob Γ y then (Γ.con.lookup y).bind dctOf else none
  | _ => none
def inOp : CmpOp → Option Bool
  | .In => some false
  | .NotIn => some true
  | _ => none
def dinD (ps : List (Str × Str)) (neg : Bool) : PyData → T PyData
  | .str z => .ret (.bool ((ps.lookup z).isSome != neg))
  | _ => .stuck
def dgetD (ps : List (Str × Str)) : PyData → T PyData
  | .str z => T.ofO ((ps.lookup z).map .str)
  | _ => .stuck
/-- o.replace(y, z) -/
def replArg (m : Str) : List Expr → Option (Str × Str)
  | [.Constant (.str y) _ _, .Constant (.str z) _ _] => if m = "replace" then some (y, z) else none
  | _ => none
def replD (y z : Str) (x : Str) : T PyData := if x.length + (x.length + 1) * z.length ≤ 16777216 then .ret (.str (Txt.replace x y z)) else .stuck
/-- behind it a token is out -/
def tokE (Γ : Ga) : Expr → Bool
  | .Subscript a (.Constant (.int _) _ _) _ => (dctE Γ a).isNone
  | .Call (.Attribute _ m _) args [] _ => (replArg m args).isSome
  | _ => false
mutual
def cE (Γ : Ga) : Nat → Expr → Option FE
  | 0, _ => none
  | n + 1, e => match e with
    | .Constant .none _ _ => some fun _ => .ret .none
    | .Constant (.bool b) _ _ => some fun _ => .ret (.bool b)
    | .Constant (.int i) _ _ => some fun _ => .ret (.int i)
    | .Constant (.str s) _ _ => some fun _ => .ret (.str s)
    | .Name x _ => match slotOf Γ x with
      | some i => some fun ρ => getV ρ i
      | none => if glob Γ x then (Γ.con.lookup x).bind fun d => if noDict d = true then some fun _ => .ret d else none else none
    | .BinOp a op c _ => (cE Γ n a).bind fun fa => (cE Γ n c).bind fun fc => some fun ρ => T.bind (fa ρ) fun x => T.bind (fc ρ) fun y => opB op x y
    | .UnaryOp .Not a _ => (cE Γ n a).bind fun fa => some fun ρ => T.bind (fa ρ) fun x => T.bind (asB x) fun c => .ret (.bool (!c))
    | .UnaryOp .USub a _ => (cE Γ n a).bind fun fa => some fun ρ => T.bind (fa ρ) fun x => T.bind (asI x) fun i => .ret (.int (-i))
    | .Compare a [op] [c] _ => if behindInMarks op c then none else match dctE Γ c with
      | some ps => (inOp op).bind fun neg => (cE Γ n a).bind fun fa => some fun ρ => T.bind (fa ρ) (dinD ps neg)
      | none => (cE Γ n a).bind fun fa => (cE Γ n c).bind fun fc => some fun ρ => T.bind (fa ρ) fun x => T.bind (fc ρ) fun y => opC op x y
    | .Compare a [op, op'] [c, d] _ => if behindInMarks op' d then none else (cE Γ n a).bind fun fa => (cE Γ n c).bind fun fc => (cE Γ n d).bind fun fd => some fun ρ => T.bind (fa ρ) fun x => T.bind (fc ρ) fun y => T.bind (opC op x y) fun z => T.bind (asB z) fun k => if k = true then T.bind (fd ρ) fun w => opC op' y w else .ret (.bool false)
    | .BoolOp _ [a] _ => cE Γ n a
    | .BoolOp .And (a :: c :: r) p => (cE Γ n a).bind fun fa => (cE Γ n (.BoolOp .And (c :: r) p)).bind fun fc => some fun ρ => T.bind (fa ρ) fun x => T.bind (asB x) fun k => if k = true then fc ρ else .ret (.bool false)
    | .BoolOp .Or (a :: c :: r) p => (cE Γ n a).bind fun fa => (cE Γ n (.BoolOp .Or (c :: r) p)).bind fun fc => some fun ρ => T.bind (fa ρ) fun x => T.bind (asB x) fun k => if k = true then .ret (.bool true) else fc ρ
    | .IfExp c a d _ => (cT Γ n c).bind fun fc => (cE Γ n a).bind fun fa => (cE Γ n d).bind fun fd => some fun ρ => T.bind (fc ρ) fun k => if k = true then fa ρ else fd ρ
    | .Tuple es _ _ => (cA Γ n es).bind fun fs => some fun ρ => T.bind (fs ρ) fun ds => if ds.length ≤ big then .ret (.tuple ds) else .stuck
    | .List es _ => (cA Γ n es).bind fun fs => some fun ρ => T.bind (fs ρ) fun ds => if ds.length ≤ big then .ret (.list ds) else .stuck
    | .Dict [] [] _ => some fun _ => .ret (.dict [])
    | .Subscript a (.Slice lo hi none _) _ => (cE Γ n a).bind fun fa => (cO Γ n lo).bind fun fl => (cO Γ n hi).bind fun fh => some fun ρ => T.bind (fa ρ) fun x => T.bind (fl ρ) fun l => T.bind (fh ρ) fun h => opS x l h
    | .Subscript a c _ => if isSlice c then none else match dctE Γ a with
      | some ps => (cE Γ n c).bind fun fc => some fun ρ => T.bind (fc ρ) (dgetD ps)
      | none => (cE Γ n a).bind fun fa => (cE Γ n c).bind fun fc => some fun ρ => T.bind (fa ρ) fun x => T.bind (fc ρ) fun y => opI x y
    | .Call (.Name f _) (a :: r) [] _ => match isiTup f r with
     | some cs => if (isE Γ a).isNone && glob Γ f && cs.all (fun c => glob Γ c && isiNames.contains c) && !isStar a && decide (cs.length ≤ 100) then (cE Γ n a).bind fun fa => some fun ρ => T.bind (fa ρ) fun x => isiTD cs x else none
     | none => match isiArg f r with
      | some c => (match isE Γ a with
        | some er => if glob Γ f && glob Γ c && Γ.ecl.contains c then some fun _ => T.bind (T.ofO (Γ.sub er.cls c)) fun k => .ret (.bool k) else none
        | none => if glob Γ f && glob Γ c && isiNames.contains c && !isStar a then (cE Γ n a).bind fun fa => some fun ρ => T.bind (fa ρ) fun x => isiD (tyName c) x
          else if glob Γ f && glob Γ c && Γ.ecl.contains c && !isStar a then (cE Γ n a).bind fun fa => some fun ρ => T.bind (fa ρ) fun x => isiX Γ.sub c x else none)
      | none => cCall Γ n f (a :: r)
    | .ListComp elt [⟨tg, iter, ifs, 0⟩] scope _ => if Γ.calm && Γ.lcOk && foldOk iter && blkC Γ.N Γ.sc scope (lcOwn Γ.N scope) && (lcOwn Γ.N scope).all (fun p => !Γ.fz.contains p.1) then
        (tgOf (lcOwn Γ.N scope) scope (relS scope Γ.sc) tg).bind fun g => (cI Γ n tg iter).bind fun fi => (cF (blkGa Γ scope) n ifs).bind fun ft => (cE (blkGa Γ scope) n elt).bind fun fe => some fun ρ => T.bind (fi ρ) fun ds => noRaise (lcR ft fe g (wipeE ρ ((lcOwn Γ.N scope).map (·.2))) ds []) else none
    | .Call (.Name f _) [] [] _ => match cThk Γ f with
      | some fe => some fe
      | none => if glob Γ f then (Γ.fns.lookup f).bind fun i => some fun _ => if i.n = 0 then i.m [] else .stuck else none
    | .Call (.Name f _) [] (k :: ks) _ => if glob Γ f then (kwNames (k :: ks)).bind fun nms => (Γ.kwo f nms).bind fun is => (Γ.fns.lookup f).bind fun i => (cK Γ n (k :: ks)).bind fun fs => some fun ρ => T.bind (fs ρ) fun ds => if is.length = i.n ∧ ds.length = nms.length then (match pickN ds is with
      | some es => i.m es
      | none => .stuck) else .stuck else none
    | .Attribute o f _ => match cAtt Γ o f with
      | some fe => some fe
      | none => if fldNames.contains f && baseOk o && !Γ.ecl.isEmpty then (cE Γ n o).bind fun fo => some fun ρ => T.bind (fo ρ) fun x => attX f x else none
    | .Call (.Attribute o m ap) args [] cp => match boolArg args with
     | some b => if baseOk o && (ap.endLine == cp.line) then (mthL m).bind fun g => (cE Γ n o).bind fun fo => some fun ρ => T.bind (fo ρ) fun x => onL g (.bool b) x else none
     | none => match replArg m args with
      | some q => if baseOk o && tokE Γ o && !(q.1 == q.2) && (ap.endLine == cp.line) then (cE Γ n o).bind fun fo => some fun ρ => T.bind (fo ρ) fun x => T.bind (asS x) (replD q.1 q.2) else none
      | none => match mthSG m args.length with
      | some f => if baseOk o && args.all (fun e => !isStar e) && (ap.endLine == cp.line) && decide (args.length < 20) then (cE Γ n o).bind fun fo => (cA Γ n args).bind fun fs => some fun ρ => T.bind (fo ρ) fun x => T.bind (asS x) fun z => T.bind (fs ρ) fun ds => f z ds else none
      | none => (oneArg args).bind fun a => if baseOk o && !isStar a && (ap.endLine == cp.line) then (mthS1 m).bind fun i => (cE Γ n o).bind fun fo => (cE Γ n a).bind fun fa => some fun ρ => T.bind (fo ρ) fun x => T.bind (asS x) fun z => T.bind (fa ρ) fun y => onS1 i.2 z y else none
    | .JoinedStr (v :: w :: r) _ => (cJ Γ n (v :: w :: r)).bind fun fs => some fun ρ => joinD fs Str.empty ρ
    | _ => none
def cI (Γ : Ga) : Nat → Expr → Expr → Option FI
  | 0, _, _ => none
  | n + 1, tg, e => match e with
    | .Call (.Name f _) [a] [] _ => if f = "range" && glob Γ f && !isStar a then (cE Γ n a).bind fun fa => some fun ρ => T.bind (fa ρ) rangeD1
      else if f = "enumerate" && glob Γ f && !isStar a && isTup tg then (cE Γ n a).bind fun fa => some fun ρ => T.bind (fa ρ) enumOf
      else (cE Γ n e).bind fun fe => some fun ρ => T.bind (fe ρ) itemsD
    | .Call (.Name f _) [a, c] [] _ => if f = "range" && glob Γ f && !isStar a && !isStar c then (cE Γ n a).bind fun fa => (cE Γ n c).bind fun fc => some fun ρ => T.bind (fa ρ) fun x => T.bind (fc ρ) fun y => rangeD2 x y
      else (cE Γ n e).bind fun fe => some fun ρ => T.bind (fe ρ) itemsD
    | e => (cE Γ n e).bind fun fe => some fun ρ => T.bind (fe ρ) itemsD
def cCall (Γ : Ga) : Nat → Str → List Expr → Option FE
  | 0, _, _ => none
  | n + 1, f, es => match lamArg es with
    | some l => if glob Γ f && lamOk Γ.N Γ.sc l.1 l.2.2 then (Γ.lams.lookup f).bind fun tf => (cE (lamGa Γ l.2.2) n l.2.1).bind fun fe => some fun ρ => tf (fe ρ) else none
    | none => match takArg es with
     | some (e1, params, body, scope, e2) => if glob Γ f && !isStar e1 && !isStar e2 then (lamPar1 params).bind fun q => if lamNB Γ.N [q] Γ.sc scope then (Γ.taks.lookup f).bind fun tf => (cE Γ n e1).bind fun f1 => (cE (lamGa1 Γ scope q) n body).bind fun fb => (cE Γ n e2).bind fun f2 => some fun ρ => T.bind (f1 ρ) fun d => T.bind (f2 ρ) fun e => tf (lamM fb ρ) d e else none else none
     | none => match gnArg es with
     | some (elt, x, px, iter, scope) => if glob Γ f && (decide (f = "all") || decide (f = "any")) && Γ.gx && gnFoldOk iter && gnOk Γ.N Γ.sc scope && (lcOwn Γ.N scope).all (fun p => !Γ.fz.contains p.1) && decide (scope.names.lookup x = some .local) then
        ((lcOwn Γ.N scope).lookup x).bind fun ix => (cI Γ n (.Name x px) iter).bind fun fi => (cE (gnGa Γ scope) n elt).bind fun fe => some fun ρ => T.bind (fi ρ) fun ds => noRaise (gnR (decide (f = "any")) fe ix (wipeE ρ ((lcOwn Γ.N scope).map (·.2))) ds) else none
     | none => if glob Γ f && es.all (fun e => !isStar e) then (match Γ.fns.lookup f with
      | some i => (cA Γ n es).bind fun fs => some fun ρ => T.bind (fs ρ) fun ds => if ds.length = i.n then i.m ds else .stuck
      | none => if bltNames.contains f && (Γ.calm || !(bltFn f).isSome) then (match bltFn f with
          | some i => (cA Γ n es).bind fun fs => some fun ρ => T.bind (fs ρ) i.2
          | none => match bltTy f with
            | some i => (cA Γ n es).bind fun fs => some fun ρ => T.bind (fs ρ) i.2
            | none => if f = "repr" && Γ.rep then (cA Γ n es).bind fun fs => some fun ρ => T.bind (fs ρ) f_repr else none) else none) else match Γ.thk with
      | some (y, i) => if f = y ∧ i.n = 1 then (oneArg es).bind fun a => if isStar a then none else (cE Γ n a).bind fun fe => some fun ρ => T.bind (fe ρ) fun d => i.m [d] else none
      | none => none
def cT (Γ : Ga) : Nat → Expr → Option FT
  | 0, _ => none
  | n + 1, e => match e with
    | .UnaryOp .Not a _ => (cT Γ n a).bind fun fa => some fun ρ => T.bind (fa ρ) fun c => .ret (!c)
    | .BoolOp _ [a] _ => cT Γ n a
    | .BoolOp .And (a :: c :: r) p => (cT Γ n a).bind fun fa => (cT Γ n (.BoolOp .And (c :: r) p)).bind fun fc => some fun ρ => T.bind (fa ρ) fun k => if k = true then fc ρ else .ret false
    | .BoolOp .Or (a :: c :: r) p => (cT Γ n a).bind fun fa => (cT Γ n (.BoolOp .Or (c :: r) p)).bind fun fc => some fun ρ => T.bind (fa ρ) fun k => if k = true then .ret true else fc ρ
    | .Compare a [op] [c] _ => if behindInMarks op c then none else match dctE Γ c with
      | some ps => (inOp op).bind fun neg => (cE Γ n a).bind fun fa => some fun ρ => T.bind (fa ρ) fun x => T.bind (dinD ps neg x) asB
      | none => (cE Γ n a).bind fun fa => (cE Γ n c).bind fun fc => some fun ρ => T.bind (fa ρ) fun x => T.bind (fc ρ) fun y => T.bind (opC op x y) asB
    | .Compare a [op, op'] [c, d] _ => if behindInMarks op' d then none else (cE Γ n a).bind fun fa => (cE Γ n c).bind fun fc => (cE Γ n d).bind fun fd => some fun ρ => T.bind (fa ρ) fun x => T.bind (fc ρ) fun y => T.bind (opC op x y) fun z => T.bind (asB z) fun k => if k = true then T.bind (fd ρ) fun w => T.bind (opC op' y w) asB else .ret false
    | e => if plainT e then (cE Γ n e).bind fun fe => some fun ρ => T.bind (fe ρ) truD else none
def cA (Γ : Ga) : Nat → List Expr → Option FA
  | 0, _ => none
  | n + 1, es => match es with
    | [] => some fun _ => .ret []
    | .Starred e _ :: r => (cE Γ n e).bind fun fe => (cA Γ n r).bind fun fr => some fun ρ => T.bind (fe ρ) fun x => T.bind (unstar x) fun xs => T.bind (fr ρ) fun ys => .ret (xs ++ ys)
    | e :: r => if isStar e then none else (cE Γ n e).bind fun fe => (cA Γ n r).bind fun fr => some fun ρ => T.bind (fe ρ) fun x => T.bind (fr ρ) fun ys => .ret (x :: ys)
def cK (Γ : Ga) : Nat → List Keyword → Option FA
  | 0, _ => none
  | n + 1, ks => match ks with
    | [] => some fun _ => .ret []
    | k :: r => (cE Γ n k.value).bind fun fe => (cK Γ n r).bind fun fr => some fun ρ => T.bind (fe ρ) fun x => T.bind (fr ρ) fun ys => .ret (x :: ys)
def cF (Γ : Ga) : Nat → List Expr → Option FT
  | 0, _ => none
  | n + 1, es => match es with
    | [] => some fun _ => .ret true
    | [c] => cT Γ n c
    | _ => none
def cO (Γ : Ga) : Nat → Option Expr → Option (En → T (Option Int))
  | 0, _ => none
  | n + 1, e => match e with
    | none => some fun _ => .ret none
    | some e => (cE Γ n e).bind fun fe => some fun ρ => T.bind (fe ρ) fun x => T.bind (asI x) fun i => .ret (some i)
def cJ (Γ : Ga) : Nat → List Expr → Option (List FE)
  | 0, _ => none
  | n + 1, es => match es with
    | [] => some []
    | .Constant (.str s) _ _ :: r => (cJ Γ n r).bind fun fs => some ((fun _ => .ret (.str s)) :: fs)
    | .FormattedValue e (-1) none _ :: r => (cE Γ n e).bind fun fe => (cJ Γ n r).bind fun fs => some ((fun ρ => T.bind (fe ρ) fmtD) :: fs)
    | _ => none
end
end Pv

-- Pv5
set_option Elab.async false
set_option linter.all false
set_option maxRecDepth 100000
set_option maxHeartbeats 4000000
namespace Pv
open PySem L2
def tEvO (P : Pa) (W : WX) (f : En → T (Option Int)) : TO := fun σ H Q => ∃ ρ b, Bud P b H ∧ Ren P H σ ρ ∧ T.wp (f ρ) b (fun o b' => ∀ H', Frm H H' → Bud P b' H' → Q o H') (KW P H (WE W σ))
theorem bnd {α β : Type} {o : Option α} {g : α → Option β} {y : β} (h : o.bind g = some y) : ∃ x, o = some x ∧ g x = some y := Option.bind_eq_some_iff.mp h
theorem itS {c : Prop} [Decidable c] {α : Type} {o : Option α} {y : α} (h : (if c then o else none) = some y) : c ∧ o = some y := by
  by_cases hc : c
  · rw [if_pos hc] at h; exact ⟨hc, h⟩
  · rw [if_neg hc] at h; cases h
theorem itN {c : Prop} [Decidable c] {α : Type} {o : Option α} {y : α} (h : (if c then none else o) = some y) : ¬ c ∧ o = some y := by
  by_cases hc : c
  · rw [if_pos hc] at h; cases h
  · rw [if_neg hc] at h; exact ⟨hc, h⟩
theorem asB_wp {d : PyData} {α : Type} {g : Bool → T α} {b : Nat} {Q : α → Nat → Prop} {E : Er → Nat → Prop} (h : T.wp (T.bind (asB d) g) b Q E) : ∃ c, d = .bool c ∧ T.wp (g c) b Q E := by
  cases d <;> first | exact h.elim | exact ⟨_, rfl, h⟩
theorem asI_wp {d : PyData} {α : Type} {g : Int → T α} {b : Nat} {Q : α → Nat → Prop} {E : Er → Nat → Prop} (h : T.wp (T.bind (asI d) g) b Q E) : ∃ c, d = .int c ∧ T.wp (g c) b Q E := by
  cases d <;> first | exact h.elim | exact ⟨_, rfl, h⟩
section
variable {P : Pa} {Γ : Ga} {X : Cx} {W : WX}
theorem slot_of (x : XO P Γ X W) {y : Str} {i : Nat} (h : slotOf Γ y = some i) : X.N[i]? = some y ∧ Vis X.env.scope y ∧ (y == ("__debug__" : Str)) = false ∧ (y == ("__classdict__" : Str)) = false := by
  obtain ⟨h1, h2⟩ := itS h
  have := List.idxOf?_eq_some_iff.mp h2
  obtain ⟨hi, e, _⟩ := this
  rw [x.hN, x.hsc]
  refine ⟨?_, h1.1, h1.2.1, h1.2.2⟩
  rw [List.getElem?_eq_getElem hi]
  exact congrArg some (by simpa using e)
theorem slot_lt (x : XB P Γ X W) {y : Str} {i : Nat} (h : slotOf Γ y = some i) : i < P.n := by
  obtain ⟨h1, h2⟩ := itS h
  obtain ⟨hi, e, _⟩ := List.idxOf?_eq_some_iff.mp h2
  rw [x.pn]
  exact hi
theorem fre_of (x : XB P Γ X W) {y : Str} {i : Nat} (h : Γ.N[i]? = some y) (nf : Γ.fz.contains y = false) : Fre P i := by
  have no : ∀ y', y' = y → y' ∈ Γ.fz → False := fun y' e hm => by
    subst e
    have : Γ.fz.contains y' = true := by simpa using hm
    rw [nf] at this
    cases this
  refine ⟨fun q hq z => ?_, fun k hk z => ?_, ?_⟩
  · obtain ⟨y', k1, k2⟩ := x.fz q hq
    rw [z, h] at k1
    cases k1
    exact no y rfl k2
  · obtain ⟨y', k1, k2⟩ := x.pl k hk
    rw [z, h] at k1
    cases k1
    exact no y rfl k2
  · rw [x.pn]
    exact (List.getElem?_eq_some_iff.mp h).1
theorem glob_of (x : XO P Γ X W) {y : Str} (h : glob Γ y = true) : Gl X y ∧ (y == ("__debug__" : Str)) = false := by
  unfold glob at h
  rw [Bool.and_eq_true] at h
  refine ⟨?_, by simpa using h.2⟩
  show X.env.scope.names.lookup y = some .globalImplicit
  rw [x.hsc]
  exact of_decide_eq_true h.1
theorem s_var (x : XO P Γ X W) {y : Str} {p : Pos} {i : Nat} (h : slotOf Γ y = some i) : PE X (.Name y p) (tEv P W fun ρ => getV ρ i) := by
  obtain ⟨h1, h2, h3, h4⟩ := slot_of x h
  refine impE (pe_var (i := i) h1 h2 h3 h4) fun σ H Q q => ?_
  obtain ⟨ρ, b, U, R, q⟩ := q
  obtain ⟨d, hd, q⟩ := ofO_wp q
  cases e : ρ[i]? with
  | none => rw [e] at hd; cases hd
  | some o =>
    rw [e] at hd
    cases o with
    | none => cases hd
    | some d' =>
      cases hd
      obtain ⟨v, hv, r⟩ := R.val i d (slot_lt x.toXB h) e
      exact ⟨v, hv, KQ.now q U r⟩
theorem s_con (x : XO P Γ X W) {y : Str} {p : Pos} {d : PyData} (hg : glob Γ y = true) (h : Γ.con.lookup y = some d) (hd : noDict d = true) : PE X (.Name y p) (tEv P W fun _ => .ret d) := by
  obtain ⟨g1, g2⟩ := glob_of x hg
  rcases x.con y d h with ⟨v, u, hm, rv, hr⟩ | ⟨ps, a, e, _⟩
  · refine impE (pe_glob g1 hm rv g2) fun σ H Q q => ?_
    obtain ⟨ρ, b, U, R, q⟩ := q
    exact KQ.now q U (hr H)
  · subst e
    simp [dctD, noDict] at hd
theorem strD_map : ∀ ps : List (Str × Str), strD (ps.map fun q => (.str q.1, .str q.2)) = some ps
  | [] => rfl
  | (a, b) :: r => by
    show (strD (r.map fun q => (PyData.str q.1, PyData.str q.2))).map (fun ps => (a, b) :: ps) = _
    rw [strD_map r]
    rfl
theorem dctE_of (x : XO P Γ X W) {e : Expr} {ps : List (Str × Str)} (h : dctE Γ e = some ps) : ∃ y p a, e = .Name y p ∧ Gl X y ∧ (y == ("__debug__" : Str)) = false ∧ X.mg y = some (.ref a) ∧ WD P.kc X.w a ps := by
  cases e with
  | Name y p =>
    obtain ⟨hg, h⟩ := itS (show (if glob Γ y = true then (Γ.con.lookup y).bind dctOf else none) = some ps from h)
    obtain ⟨g1, g2⟩ := glob_of x hg
    obtain ⟨d, hd, h⟩ := bnd h
    rcases x.con y d hd with ⟨v, u, hm, rv, hr⟩ | ⟨ps', a, e, hm, wd⟩
    · have r := hr fun _ => none
      cases r <;> simp [dctOf, excD, drawD, strD] at h
    · subst e
      have e2 : ps' = ps := by
        cases ps' with
        | nil => simp [dctD, dctOf] at h
        | cons q r =>
          have k := strD_map (q :: r)
          have h' : strD ((q :: r).map fun q => (PyData.str q.1, PyData.str q.2)) = some ps := h
          rw [k] at h'
          exact Option.some.inj h'
      subst e2
      exact ⟨y, p, a, rfl, g1, g2, hm, wd⟩
  | _ => cases h
theorem dinD_wp {ps : List (Str × Str)} {neg : Bool} {d : PyData} {b : Nat} {Q : PyData → Nat → Prop} {E : Er → Nat → Prop} (h : T.wp (dinD ps neg d) b Q E) : ∃ z, d = .str z ∧ Q (.bool ((ps.lookup z).isSome != neg)) b := by
  cases d <;> first | exact h.elim | exact ⟨_, rfl, h⟩
theorem s_inD (x : XO P Γ X W) {op : CmpOp} {a c : Expr} {p : Pos} {fa : FE} {ps : List (Str × Str)} {neg : Bool} (hb : behindInMarks op c = false) (hd : dctE Γ c = some ps) (ho : inOp op = some neg) (ha : PE X a (tEv P W fa)) : PE X (.Compare a [op] [c] p) (tEv P W fun ρ => T.bind (fa ρ) (dinD ps neg)) := by
  obtain ⟨y, py, ad, rfl, g1, g2, hm, wd⟩ := dctE_of x hd
  have key : OpR X (compareOp op) (rInD P.kc X.w neg) := by
    cases op <;> cases ho
    · exact op_inD x.hK
    · exact op_ninD x.hK
  refine impE (pe_cmpR key ha (pe_glob (v := .ref ad) g1 hm rfl g2) hb) fun σ H Q q => ?_
  obtain ⟨ρ, b, U, R, q⟩ := q
  refine stepE U R q (fun _ _ e => e) fun d b1 v H1 F1 U1 r1 R1 q1 => ?_
  obtain ⟨z, e, q1⟩ := dinD_wp q1
  subst e
  cases r1
  exact ⟨z, ad, ps, rfl, rfl, wd, KQ.bl (KQ.frm F1 q1) U1⟩
theorem s_inDT (x : XO P Γ X W) {op : CmpOp} {a c : Expr} {p : Pos} {fa : FE} {ps : List (Str × Str)} {neg : Bool} (hb : behindInMarks op c = false) (hd : dctE Γ c = some ps) (ho : inOp op = some neg) (ha : PE X a (tEv P W fa)) : PT X (.Compare a [op] [c] p) (tEvT P W fun ρ => T.bind (fa ρ) fun x => T.bind (dinD ps neg x) asB) := by
  obtain ⟨y, py, ad, rfl, g1, g2, hm, wd⟩ := dctE_of x hd
  have key : OpR X (compareOp op) (rInD P.kc X.w neg) := by
    cases op <;> cases ho
    · exact op_inD x.hK
    · exact op_ninD x.hK
  refine impT (pt_cmpR key ha (pe_glob (v := .ref ad) g1 hm rfl g2) hb) fun σ H Q q => ?_
  obtain ⟨ρ, b, U, R, q⟩ := q
  refine stepE U R q (fun _ _ e => e) fun d b1 v H1 F1 U1 r1 R1 q1 => ?_
  obtain ⟨z, e, q1⟩ := dinD_wp (T.wp_bind.mp q1)
  subst e
  cases r1
  exact ⟨z, ad, ps, rfl, rfl, wd, _, rfl, (show ∀ H', Frm H H' → Bud P b1 H' → Q _ H' from q1) H1 F1 U1⟩
theorem s_ixD (x : XO P Γ X W) {a c : Expr} {p : Pos} {fc : FE} {ps : List (Str × Str)} (hs : isSlice c = false) (hd : dctE Γ a = some ps) (hc : PE X c (tEv P W fc)) : PE X (.Subscript a c p) (tEv P W fun ρ => T.bind (fc ρ) (dgetD ps)) := by
  obtain ⟨y, py, ad, rfl, g1, g2, hm, wd⟩ := dctE_of x hd
  refine impE (pe_ix (ix_dd x.hK) (pe_glob (v := .ref ad) g1 hm rfl g2) hc (plain_ix hs)) fun σ H Q q => ?_
  obtain ⟨ρ, b, U, R, q⟩ := q
  refine stepE U R q (fun _ _ e => e) fun d b1 v H1 F1 U1 r1 R1 q1 => ?_
  cases d with
  | str z =>
    obtain ⟨o, ho, q1⟩ := ofO_wp (show T.wp (T.ofO ((ps.lookup z).map PyData.str)) b1 _ _ from q1)
    obtain ⟨w, hw, ew⟩ := Option.map_eq_some_iff.mp ho
    subst ew
    cases r1
    exact ⟨ad, z, ps, w, rfl, rfl, wd, hw, KQ.str (KQ.frm F1 q1) U1⟩
  | _ => exact q1.elim
/-- o.replace(y, z), both written -/
theorem s_repl (x : XO P Γ X W) {o : Expr} {y z : Str} {j k : Nat} {c0 c1 ap cp : Pos} {fo : FE} (ho : PEK X o (tEv P W fo)) (hyz : (y == z) = false) (hb : baseOk o = true) (hl : (ap.endLine == cp.line) = true) :
    PEK X (.Call (.Attribute o "replace" ap) [.Constant (.str y) j c0, .Constant (.str z) k c1] [] cp) (tEv P W fun ρ => T.bind (fo ρ) fun x => T.bind (asS x) (replD y z)) := by
  refine impK (pek_rep ho hyz (base_ok hb) hl) fun σ H Q q => ?_
  obtain ⟨ρ, b, U, R, q⟩ := q
  refine stepE U R q (fun _ _ e => e) fun d b1 v H1 F1 U1 r1 R1 q1 => ?_
  cases d with
  | str s =>
    obtain ⟨hc, q1⟩ := ite_wp (show T.wp (if s.length + (s.length + 1) * z.length ≤ 16777216 then T.ret (PyData.str (Txt.replace s y z)) else .stuck) b1 _ _ from q1)
    cases r1
    exact ⟨s, rfl, hc, KQ.str (KQ.frm F1 q1) U1⟩
  | _ => exact q1.elim
theorem s_ixK (x : XO P Γ X W) {a : Expr} {i : Int} {j : Nat} {p pos : Pos} {fa : FE} (ha : PE X a (tEv P W fa)) : PEK X (.Subscript a (.Constant (.int i) j p) pos) (tEv P W fun ρ => T.bind (fa ρ) fun x => T.bind (T.ret (PyData.int i)) fun y => opI x y) := by
  refine impK (pek_ix (ok_opI x.hK) ha (plain_ix rfl)) fun σ H Q q => ?_
  obtain ⟨ρ, b, U, R, q⟩ := q
  refine stepE U R q (fun _ _ e => e) fun d b1 v H1 F1 U1 r1 R1 q1 => ?_
  exact ⟨d, .int i, b1, U1, r1, .int i, noErr (carry F1 q1)⟩
theorem s_bin (x : XO P Γ X W) {op : Operator} {a c : Expr} {p : Pos} {fa fc : FE} (ha : PE X a (tEv P W fa)) (hc : PE X c (tEv P W fc)) : PE X (.BinOp a op c p) (tEv P W fun ρ => T.bind (fa ρ) fun x => T.bind (fc ρ) fun y => opB op x y) := by
  refine impE (pe_op (ok_opB x.hK op) ha hc) fun σ H Q q => ?_
  obtain ⟨ρ, b, U, R, q⟩ := q
  refine stepE U R q (fun _ _ e => e) fun d b1 v H1 F1 U1 r1 R1 q1 => ?_
  refine stepE U1 R1 q1 (fun _ _ e => e.frm F1) fun e b2 w H2 F2 U2 r2 R2 q2 => ?_
  exact ⟨d, e, b2, U2, r1.frm F2, r2, noErr (carry (F1.trans F2) q2)⟩
theorem s_cmp (x : XO P Γ X W) {op : CmpOp} {a c : Expr} {p : Pos} {fa fc : FE} (hb : behindInMarks op c = false) (ha : PE X a (tEv P W fa)) (hc : PE X c (tEv P W fc)) : PE X (.Compare a [op] [c] p) (tEv P W fun ρ => T.bind (fa ρ) fun x => T.bind (fc ρ) fun y => opC op x y) := by
  refine impE (pe_cmpR (ok_opC x.hK op (by have := x.u; omega)) ha hc hb) fun σ H Q q => ?_
  obtain ⟨ρ, b, U, R, q⟩ := q
  refine stepE U R q (fun _ _ e => e) fun d b1 v H1 F1 U1 r1 R1 q1 => ?_
  refine stepE U1 R1 q1 (fun _ _ e => e.frm F1) fun e b2 w H2 F2 U2 r2 R2 q2 => ?_
  exact ⟨d, e, b2, U2, r1.frm F2, r2, noErr (carry (F1.trans F2) q2)⟩
theorem s_cmpT (x : XO P Γ X W) {op : CmpOp} {a c : Expr} {p : Pos} {fa fc : FE} (hb : behindInMarks op c = false) (ha : PE X a (tEv P W fa)) (hc : PE X c (tEv P W fc)) : PT X (.Compare a [op] [c] p) (tEvT P W fun ρ => T.bind (fa ρ) fun x => T.bind (fc ρ) fun y => T.bind (opC op x y) asB) := by
  refine impT (pt_cmpR (ok_opC x.hK op (by have := x.u; omega)) ha hc hb) fun σ H Q q => ?_
  obtain ⟨ρ, b, U, R, q⟩ := q
  refine stepE U R q (fun _ _ e => e) fun d b1 v H1 F1 U1 r1 R1 q1 => ?_
  refine stepE U1 R1 q1 (fun _ _ e => e.frm F1) fun e b2 w H2 F2 U2 r2 R2 q2 => ?_
  refine ⟨d, e, b2, U2, r1.frm F2, r2, noErr (T.wp_mono (T.wp_bind.mp q2) (fun z c _ qz => ?_) fun _ _ _ e => e)⟩
  intro v' H' F' U' r'
  cases z <;> first | exact qz.elim | skip
  cases r'
  exact ⟨_, rfl, qz H' ((F1.trans F2).trans F') U'⟩
theorem s_chain (x : XO P Γ X W) {op op' : CmpOp} {a c e : Expr} {p : Pos} {fa fc fe : FE} (hb : behindInMarks op' e = false) (ha : PE X a (tEv P W fa)) (hc : PE X c (tEv P W fc)) (he : PE X e (tEv P W fe)) :
    PE X (.Compare a [op, op'] [c, e] p) (tEv P W fun ρ => T.bind (fa ρ) fun x => T.bind (fc ρ) fun y => T.bind (opC op x y) fun z => T.bind (asB z) fun k => if k = true then T.bind (fe ρ) fun w => opC op' y w else .ret (.bool false)) := by
  refine impE (pe_chain (ok_opC x.hK op (by have := x.u; omega)) (ok_opC x.hK op' (by have := x.u; omega)) ha hc he (by show behindInMarks op' e = false; exact hb)) fun σ H Q q => ?_
  obtain ⟨ρ, b, U, R, q⟩ := q
  refine stepE U R q (fun _ _ e => e) fun d b1 v H1 F1 U1 r1 R1 q1 => ?_
  refine stepE U1 R1 q1 (fun _ _ e => e.frm F1) fun e b2 w H2 F2 U2 r2 R2 q2 => ?_
  refine ⟨d, e, b2, U2, r1.frm F2, r2, noErr (T.wp_mono (T.wp_bind.mp q2) (fun z c _ qz => ?_) fun _ _ _ e => e)⟩
  intro v' H' F' U' r'
  obtain ⟨k, ek, qk⟩ := asB_wp qz
  subst ek
  clear qz
  cases r'
  refine ⟨k, rfl, ?_⟩
  have F3 := (F1.trans F2).trans F'
  cases k with
  | false =>
    rw [if_neg Bool.false_ne_true] at qk ⊢
    exact qk _ H' F3 U' (.bl false)
  | true =>
    rw [if_pos rfl] at qk ⊢
    refine stepE U' (R2.frm F') qk (fun _ _ e => e.frm F3) fun g b3 u H4 F4 U4 r4 R4 q4 => ?_
    exact ⟨e, g, b3, U4, (r2.frm F').frm F4, r4, noErr (carry (F3.trans F4) q4)⟩
theorem s_chainT (x : XO P Γ X W) {op op' : CmpOp} {a c e : Expr} {p : Pos} {fa fc fe : FE} (hb : behindInMarks op' e = false) (ha : PE X a (tEv P W fa)) (hc : PE X c (tEv P W fc)) (he : PE X e (tEv P W fe)) :
    PT X (.Compare a [op, op'] [c, e] p) (tEvT P W fun ρ => T.bind (fa ρ) fun x => T.bind (fc ρ) fun y => T.bind (opC op x y) fun z => T.bind (asB z) fun k => if k = true then T.bind (fe ρ) fun w => T.bind (opC op' y w) asB else .ret false) := by
  refine impT (pt_chain (ok_opC x.hK op (by have := x.u; omega)) (ok_opC x.hK op' (by have := x.u; omega)) ha hc he (by show behindInMarks op' e = false; exact hb)) fun σ H Q q => ?_
  obtain ⟨ρ, b, U, R, q⟩ := q
  refine stepE U R q (fun _ _ e => e) fun d b1 v H1 F1 U1 r1 R1 q1 => ?_
  refine stepE U1 R1 q1 (fun _ _ e => e.frm F1) fun e b2 w H2 F2 U2 r2 R2 q2 => ?_
  refine ⟨d, e, b2, U2, r1.frm F2, r2, noErr (T.wp_mono (T.wp_bind.mp q2) (fun z c _ qz => ?_) fun _ _ _ e => e)⟩
  intro v' H' F' U' r'
  obtain ⟨k, ek, qk⟩ := asB_wp qz
  subst ek
  clear qz
  cases r'
  refine ⟨k, rfl, ?_⟩
  have F3 := (F1.trans F2).trans F'
  cases k with
  | false =>
    rw [if_neg Bool.false_ne_true] at qk ⊢
    exact ⟨_, rfl, qk H' F3 U'⟩
  | true =>
    rw [if_pos rfl] at qk ⊢
    refine stepE U' (R2.frm F') qk (fun _ _ e => e.frm F3) fun g b3 u H4 F4 U4 r4 R4 q4 => ?_
    refine ⟨e, g, b3, U4, (r2.frm F').frm F4, r4, noErr (T.wp_mono (T.wp_bind.mp q4) (fun z c _ qz => ?_) fun _ _ _ e => e)⟩
    intro v5 H5 F5 U5 r5
    cases z <;> first | exact qz.elim | skip
    cases r5
    exact ⟨_, rfl, qz H5 ((F3.trans F4).trans F5) U5⟩
theorem s_not (x : XO P Γ X W) {a : Expr} {p : Pos} {fa : FE} (ha : PE X a (tEv P W fa)) : PE X (.UnaryOp .Not a p) (tEv P W fun ρ => T.bind (fa ρ) fun x => T.bind (asB x) fun c => .ret (.bool (!c))) := by
  refine impE (pe_not ha) fun σ H Q q => ?_
  obtain ⟨ρ, b, U, R, q⟩ := q
  refine stepE U R q (fun _ _ e => e) fun d b1 v H1 F1 U1 r1 R1 q1 => ?_
  obtain ⟨k, ek, qz⟩ := asB_wp q1
  subst ek
  cases r1
  exact ⟨k, rfl, qz _ H1 F1 U1 (.bl _)⟩
theorem s_neg (x : XO P Γ X W) {a : Expr} {p : Pos} {fa : FE} (ha : PE X a (tEv P W fa)) : PE X (.UnaryOp .USub a p) (tEv P W fun ρ => T.bind (fa ρ) fun x => T.bind (asI x) fun i => .ret (.int (-i))) := by
  refine impE (pe_un un_neg ha) fun σ H Q q => ?_
  obtain ⟨ρ, b, U, R, q⟩ := q
  refine stepE U R q (fun _ _ e => e) fun d b1 v H1 F1 U1 r1 R1 q1 => ?_
  obtain ⟨k, ek, qz⟩ := asI_wp q1
  subst ek
  cases r1
  exact ⟨k, rfl, qz _ H1 F1 U1 (.int _)⟩
theorem s_and (x : XO P Γ X W) {a c : Expr} {r : List Expr} {p : Pos} {fa fc : FE} (ha : PE X a (tEv P W fa)) (hc : PE X (.BoolOp .And (c :: r) p) (tEv P W fc)) :
    PE X (.BoolOp .And (a :: c :: r) p) (tEv P W fun ρ => T.bind (fa ρ) fun x => T.bind (asB x) fun k => if k = true then fc ρ else .ret (.bool false)) := by
  refine impE (pe_and ha hc) fun σ H Q q => ?_
  obtain ⟨ρ, b, U, R, q⟩ := q
  refine stepE U R q (fun _ _ e => e) fun d b1 v H1 F1 U1 r1 R1 q1 => ?_
  obtain ⟨k, ek, qz⟩ := asB_wp q1
  subst ek
  cases r1
  refine ⟨k, rfl, ?_⟩
  cases k with
  | false =>
    rw [if_neg Bool.false_ne_true] at qz ⊢
    exact qz _ H1 F1 U1 (.bl _)
  | true =>
    rw [if_pos rfl] at qz ⊢
    exact ⟨ρ, b1, U1, R1, carry F1 qz⟩
theorem s_or (x : XO P Γ X W) {a c : Expr} {r : List Expr} {p : Pos} {fa fc : FE} (ha : PE X a (tEv P W fa)) (hc : PE X (.BoolOp .Or (c :: r) p) (tEv P W fc)) :
    PE X (.BoolOp .Or (a :: c :: r) p) (tEv P W fun ρ => T.bind (fa ρ) fun x => T.bind (asB x) fun k => if k = true then .ret (.bool true) else fc ρ) := by
  refine impE (pe_or ha hc) fun σ H Q q => ?_
  obtain ⟨ρ, b, U, R, q⟩ := q
  refine stepE U R q (fun _ _ e => e) fun d b1 v H1 F1 U1 r1 R1 q1 => ?_
  obtain ⟨k, ek, qz⟩ := asB_wp q1
  subst ek
  cases r1
  refine ⟨k, rfl, ?_⟩
  cases k with
  | true =>
    rw [if_pos rfl] at qz ⊢
    exact qz _ H1 F1 U1 (.bl _)
  | false =>
    rw [if_neg Bool.false_ne_true] at qz ⊢
    exact ⟨ρ, b1, U1, R1, carry F1 qz⟩
theorem s_if (x : XO P Γ X W) {c a e : Expr} {p : Pos} {fc : FT} {fa fe : FE} (hc : PT X c (tEvT P W fc)) (ha : PE X a (tEv P W fa)) (he : PE X e (tEv P W fe)) :
    PE X (.IfExp c a e p) (tEv P W fun ρ => T.bind (fc ρ) fun k => if k = true then fa ρ else fe ρ) := by
  refine impE (pe_ifExp hc ha he) fun σ H Q q => ?_
  obtain ⟨ρ, b, U, R, q⟩ := q
  refine stepT U R q (fun _ _ e => e) fun k b1 H1 F1 U1 R1 q1 => ?_
  cases k with
  | true =>
    rw [if_pos rfl] at q1 ⊢
    exact ⟨ρ, b1, U1, R1, carry F1 q1⟩
  | false =>
    rw [if_neg Bool.false_ne_true] at q1 ⊢
    exact ⟨ρ, b1, U1, R1, carry F1 q1⟩
theorem s_tup (x : XO P Γ X W) {es : List Expr} {k : Nat} {p : Pos} {fs : FA} (h : PA X es (tEvA P W fs)) : PE X (.Tuple es k p) (tEv P W fun ρ => T.bind (fs ρ) fun ds => if ds.length ≤ big then .ret (.tuple ds) else .stuck) := by
  refine impE (pe_tup h) fun σ H Q q => ?_
  obtain ⟨ρ, b, U, R, q⟩ := q
  refine stepA U R q (fun _ _ e => e) fun ds b1 vs H1 F1 U1 r1 R1 q1 => ?_
  obtain ⟨hl, q1⟩ := ite_wp q1
  exact ⟨by rw [r1.length]; exact big_line hl, fun p hp => KQ.laidT (KQ.frm F1 q1) U1 hp r1⟩
theorem s_lst (x : XO P Γ X W) {es : List Expr} {p : Pos} {fs : FA} (h : PA X es (tEvA P W fs)) : PE X (.List es p) (tEv P W fun ρ => T.bind (fs ρ) fun ds => if ds.length ≤ big then .ret (.list ds) else .stuck) := by
  refine impE (pe_lst h) fun σ H Q q => ?_
  obtain ⟨ρ, b, U, R, q⟩ := q
  refine stepA U R q (fun _ _ e => e) fun ds b1 vs H1 F1 U1 r1 R1 q1 => ?_
  obtain ⟨hl, q1⟩ := ite_wp q1
  exact ⟨by rw [r1.length]; exact big_line hl, fun p hp => KQ.laidL (KQ.frm F1 q1) U1 hp r1⟩
theorem s_emp (x : XO P Γ X W) {p : Pos} : PE X (.Dict [] [] p) (tEv P W fun _ => .ret (.dict [])) := by
  refine impE pe_dnewK fun σ H Q q => ?_
  obtain ⟨ρ, b, U, R, q⟩ := q
  exact fun p hp => q _ _ (Frm.new hp) (U.new hp nd_emp) (.emp upd_same)
theorem s_ix (x : XO P Γ X W) {a c : Expr} {p : Pos} {fa fc : FE} (hs : isSlice c = false) (ha : PE X a (tEv P W fa)) (hc : PE X c (tEv P W fc)) : PE X (.Subscript a c p) (tEv P W fun ρ => T.bind (fa ρ) fun x => T.bind (fc ρ) fun y => opI x y) := by
  refine impE (pe_ix (ok_opI x.hK) ha hc (plain_ix hs)) fun σ H Q q => ?_
  obtain ⟨ρ, b, U, R, q⟩ := q
  refine stepE U R q (fun _ _ e => e) fun d b1 v H1 F1 U1 r1 R1 q1 => ?_
  refine stepE U1 R1 q1 (fun _ _ e => e.frm F1) fun e b2 w H2 F2 U2 r2 R2 q2 => ?_
  exact ⟨d, e, b2, U2, r1.frm F2, r2, noErr (carry (F1.trans F2) q2)⟩
theorem s_sl (x : XO P Γ X W) {a : Expr} {lo hi : Option Expr} {p p2 : Pos} {fa : FE} {fl fh : En → T (Option Int)} (ha : PE X a (tEv P W fa)) (hl : PO X lo (tEvO P W fl)) (hh : PO X hi (tEvO P W fh)) :
    PE X (.Subscript a (.Slice lo hi none p2) p) (tEv P W fun ρ => T.bind (fa ρ) fun x => T.bind (fl ρ) fun l => T.bind (fh ρ) fun h => opS x l h) := by
  refine impE (pe_slice (ok_opS x.hK) ha hl hh) fun σ H Q q => ?_
  obtain ⟨ρ, b, U, R, q⟩ := q
  refine stepE U R q (fun _ _ e => e) fun d b1 v H1 F1 U1 r1 R1 q1 => ?_
  refine ⟨ρ, b1, U1, R1, T.wp_mono (T.wp_bind.mp q1) (fun l c _ q2 H2 F2 U2 => ?_) fun _ _ _ e => e.frm F1⟩
  refine ⟨ρ, c, U2, R1.frm F2, T.wp_mono (T.wp_bind.mp q2) (fun h c3 _ q3 H3 F3 U3 => ?_) fun _ _ _ e => e.frm (F1.trans F2)⟩
  exact ⟨d, c3, U3, (r1.frm F2).frm F3, noErr (carry ((F1.trans F2).trans F3) q3)⟩
end
end Pv

-- Pv6
set_option Elab.async false
set_option linter.all false
set_option maxRecDepth 100000
set_option maxHeartbeats 4000000
namespace Pv
open PySem L2
section
variable {P : Pa} {Γ : Ga} {X : Cx} {W : WX}
theorem s_nilA : PA X [] (tEvA P W fun _ => .ret []) := by
  refine impA pa_nil fun σ H Q q => ?_
  obtain ⟨ρ, b, U, R, q⟩ := q
  exact q [] H (Frm.refl H) U .nil
theorem s_consA {e : Expr} {es : List Expr} {fe : FE} {fr : FA} (hs : isStar e = false) (he : PE X e (tEv P W fe)) (hr : PA X es (tEvA P W fr)) :
    PA X (e :: es) (tEvA P W fun ρ => T.bind (fe ρ) fun x => T.bind (fr ρ) fun ys => .ret (x :: ys)) := by
  refine impA (pa_cons he hr (star_cons hs)) fun σ H Q q => ?_
  obtain ⟨ρ, b, U, R, q⟩ := q
  refine stepE U R q (fun _ _ e => e) fun d b1 v H1 F1 U1 r1 R1 q1 => ?_
  refine stepA U1 R1 q1 (fun _ _ e => e.frm F1) fun ds b2 vs H2 F2 U2 r2 R2 q2 => ?_
  exact q2 _ H2 (F1.trans F2) U2 (.cons (r1.frm F2) r2)
theorem s_starA (x : XO P Γ X W) {e : Expr} {p : Pos} {es : List Expr} {fe : FE} {fr : FA} (he : PE X e (tEv P W fe)) (hr : PA X es (tEvA P W fr)) :
    PA X (.Starred e p :: es) (tEvA P W fun ρ => T.bind (fe ρ) fun x => T.bind (unstar x) fun xs => T.bind (fr ρ) fun ys => .ret (xs ++ ys)) := by
  have hK := x.hK
  refine impA (StX.pa_star he hr) fun σ H Q q => ?_
  obtain ⟨ρ, b, U, R, q⟩ := q
  refine stepE U R q (fun _ _ e => e) fun d b1 v H1 F1 U1 r1 R1 q1 => ?_
  cases r1 with
  | @lst a vs ds h1 k1 =>
    rw [hK] at h1
    refine ⟨a, vs, rfl, .inr h1, ?_⟩
    refine stepA U1 R1 q1 (fun _ _ e => e.frm F1) fun es' b2 ws H2 F2 U2 r2 R2 q2 => ?_
    exact q2 _ H2 (F1.trans F2) U2 ((k1.frm F2).append r2)
  | @tup a vs ds h1 k1 =>
    rw [hK] at h1
    refine ⟨a, vs, rfl, .inl h1, ?_⟩
    refine stepA U1 R1 q1 (fun _ _ e => e.frm F1) fun es' b2 ws H2 F2 U2 r2 R2 q2 => ?_
    exact q2 _ H2 (F1.trans F2) U2 ((k1.frm F2).append r2)
  | _ => exact q1.elim
theorem s_isi (x : XO P Γ X W) {a : Expr} {c : Str} {p p1 p2 : Pos} {fa : FE} (hg : glob Γ "isinstance" = true) (hc : glob Γ c = true) (hi : c ∈ isiNames) (hs : isStar a = false) (ha : PE X a (tEv P W fa)) :
    PE X (.Call (.Name "isinstance" p1) [a, .Name c p2] [] p) (tEv P W fun ρ => T.bind (fa ρ) fun x => isiD (tyName c) x) := by
  obtain ⟨g1, g2⟩ := glob_of x hg
  obtain ⟨g3, g4⟩ := glob_of x hc
  have hm := x.blt "isinstance" (by decide)
  have key : ∃ t : String, bootBuiltins c = some (.type t) ∧ t = tyName c ∧ X.mg c = none ∧ c ≠ "__name__" := by
    simp only [isiNames, List.mem_cons, List.not_mem_nil, or_false] at hi
    rcases hi with rfl | rfl | rfl | rfl | rfl | rfl
    · exact ⟨"int", by decide +kernel, by decide +kernel, x.blt _ (by decide), by decide⟩
    · exact ⟨"str", by decide +kernel, by decide +kernel, x.blt _ (by decide), by decide⟩
    · exact ⟨"bool", by decide +kernel, by decide +kernel, x.blt _ (by decide), by decide⟩
    · exact ⟨"tuple", by decide +kernel, by decide +kernel, x.blt _ (by decide), by decide⟩
    · exact ⟨"list", by decide +kernel, by decide +kernel, x.blt _ (by decide), by decide⟩
    · exact ⟨"dict", by decide +kernel, by decide +kernel, x.blt _ (by decide), by decide⟩
  obtain ⟨t, h1, rfl, h3, h4⟩ := key
  refine impE (pe_callB (ok_isi x.hK (tyName c)) g1 hm (by decide +kernel) (pa_cons ha (pa_cons (pe_bltn (v := .ty (tyName c)) g3 h3 h1 rfl h4 g4) pa_nil (by rfl)) (star_cons hs)) (by decide) g2 (star_cons hs) (star_any (by rfl))) fun σ H Q q => ?_
  obtain ⟨ρ, b, U, R, q⟩ := q
  refine stepE U R q (fun _ _ e => e) fun d b1 v H1 F1 U1 r1 R1 q1 => ?_
  exact ⟨v, d, b1, rfl, U1, r1, noErr (carry F1 q1)⟩
theorem s_call (x : XO P Γ X W) {f : Str} {i : FnI} {e : Expr} {es : List Expr} {p pos : Pos} {fs : FA} (hg : glob Γ f = true) (hi : Γ.fns.lookup f = some i) (h0 : isStar e = false) (hs : es.all (fun e => !isStar e) = true) (ha : PA X (e :: es) (tEvA P W fs)) :
    PE X (.Call (.Name f p) (e :: es) [] pos) (tEv P W fun ρ => T.bind (fs ρ) fun ds => if ds.length = i.n then i.m ds else .stuck) := by
  obtain ⟨g1, g2⟩ := glob_of x hg
  obtain ⟨a, hm, hk, run⟩ := x.fns f i hi
  refine ⟨fun pins s σ H Q I q => ?_⟩
  obtain ⟨ρ, b, U, R, q⟩ := q
  refine wpAny_Call_Name_kw (ld_glob I g1 hm ?_ g2)
  have go := ha.run pos pins s σ H (fun vs H1 => spT P i vs H1 Q (WE W σ)) I (stepA U R q (fun _ _ e => e) fun ds b1 vs H1 F1 U1 r1 R1 q1 => by
    obtain ⟨hl, q1⟩ := ite_wp q1
    exact ⟨by rw [r1.length, hl], ds, b1, U1, r1, carry F1 q1⟩)
  refine PySem.W.callWith_K (h₀ := X.base) I.ok.mod.kin hk (thn go fun us s1 hh => ?_) (star_cons h0) (star_any hs)
  obtain ⟨vs, H1, I1, r1, q1⟩ := hh
  exact ⟨I1.kIn, run pins σ H1 s1 Q us vs I1 r1 q1⟩
theorem s_bltF (x : XO P Γ X W) {f : Str} {id : String} {m : FnD} {e : Expr} {es : List Expr} {p pos : Pos} {fs : FA} (hg : glob Γ f = true) (hb : f ∈ bltNames) (hv : bootBuiltins f = some (.builtin id)) (hn : f ≠ "__name__") (hm : CallR X (.builtin id) (DCall P m)) (h0 : isStar e = false)
    (hs : es.all (fun e => !isStar e) = true) (ha : PA X (e :: es) (tEvA P W fs)) : PE X (.Call (.Name f p) (e :: es) [] pos) (tEv P W fun ρ => T.bind (fs ρ) m) := by
  obtain ⟨g1, g2⟩ := glob_of x hg
  refine impE (pe_callB hm g1 (x.blt f hb) hv ha hn g2 (star_cons h0) (star_any hs)) fun σ H Q q => ?_
  obtain ⟨ρ, b, U, R, q⟩ := q
  refine stepA U R q (fun _ _ e => e) fun ds b1 vs H1 F1 U1 r1 R1 q1 => ?_
  exact ⟨ds, b1, U1, r1, noErr (carry F1 q1)⟩
theorem s_bltT (x : XO P Γ X W) {f : Str} {id : String} {m : FnD} {e : Expr} {es : List Expr} {p pos : Pos} {fs : FA} (hg : glob Γ f = true) (hb : f ∈ bltNames) (hv : bootBuiltins f = some (.type id)) (hn : f ≠ "__name__") (hm : CallR X (.type id) (DCall P m)) (h0 : isStar e = false)
    (hs : es.all (fun e => !isStar e) = true) (ha : PA X (e :: es) (tEvA P W fs)) : PE X (.Call (.Name f p) (e :: es) [] pos) (tEv P W fun ρ => T.bind (fs ρ) m) := by
  obtain ⟨g1, g2⟩ := glob_of x hg
  refine impE (pe_callTy hm g1 (x.blt f hb) hv ha hn g2 (star_cons h0) (star_any hs)) fun σ H Q q => ?_
  obtain ⟨ρ, b, U, R, q⟩ := q
  refine stepA U R q (fun _ _ e => e) fun ds b1 vs H1 F1 U1 r1 R1 q1 => ?_
  exact ⟨ds, b1, U1, r1, noErr (carry F1 q1)⟩
theorem s_truth (x : XO P Γ X W) {e : Expr} {fe : FE} (hp : plainT e = true) (he : PE X e (tEv P W fe)) : PT X e (tEvT P W fun ρ => T.bind (fe ρ) truD) := by
  have hK := x.hK
  refine impT (pt_truth he (plain_true hp)) fun σ H Q q => ?_
  obtain ⟨ρ, b, U, R, q⟩ := q
  refine stepE U R q (fun _ _ e => e) fun d b1 v H1 F1 U1 r1 R1 q1 => ?_
  cases r1 with
  | non => exact ⟨false, rfl, q1 H1 F1 U1⟩
  | bl c => exact ⟨c, rfl, q1 H1 F1 U1⟩
  | int i => exact ⟨_, rfl, q1 H1 F1 U1⟩
  | str y =>
    obtain ⟨hz, q1⟩ := ite_wp q1
    exact ⟨_, ⟨big_line hz, rfl⟩, q1 H1 F1 U1⟩
  | @lst a vs ds h1 k1 =>
    rw [hK] at h1
    have e : (!vs.isEmpty) = !ds.isEmpty := by cases k1 <;> rfl
    exact ⟨_, .inl ⟨vs, h1, rfl⟩, by rw [e]; exact q1 H1 F1 U1⟩
  | @tup a vs ds h1 k1 =>
    rw [hK] at h1
    have e : (!vs.isEmpty) = !ds.isEmpty := by cases k1 <;> rfl
    exact ⟨_, .inr (.inl ⟨vs, h1, rfl⟩), by rw [e]; exact q1 H1 F1 U1⟩
  | _ => exact q1.elim
theorem s_notT {a : Expr} {p : Pos} {fa : FT} (ha : PT X a (tEvT P W fa)) : PT X (.UnaryOp .Not a p) (tEvT P W fun ρ => T.bind (fa ρ) fun c => .ret (!c)) := by
  refine impT (pt_not ha) fun σ H Q q => ?_
  obtain ⟨ρ, b, U, R, q⟩ := q
  exact stepT U R q (fun _ _ e => e) fun k b1 H1 F1 U1 R1 q1 => q1 H1 F1 U1
theorem impW {e : Expr} {t t' : TT} (h : PW X e t) (k : ∀ σ H Q, t' σ H Q → t σ H Q) : PW X e t' := ⟨fun wh pins s σ H Q I q => h.run wh pins s σ H Q I (k σ H Q q)⟩
theorem carryT {t : T Bool} {H H1 : Hp} {E : XK} {b : Nat} {Q : Bool → Hp → Prop} (F1 : Frm H H1) (h : T.wp t b (fun c b' => ∀ H', Frm H H' → Bud P b' H' → Q c H') (KW P H E)) : T.wp t b (fun c b' => ∀ H', Frm H1 H' → Bud P b' H' → Q c H') (KW P H1 E) :=
  T.wp_mono h (fun _ _ _ q H' F' U' => q H' (F1.trans F') U') fun _ _ _ q => q.frm F1
theorem s_andW {a c : Expr} {r : List Expr} {p : Pos} {fa fc : FT} (ha : PT X a (tEvT P W fa)) (hc : PW X (.BoolOp .And (c :: r) p) (tEvT P W fc)) :
    PW X (.BoolOp .And (a :: c :: r) p) (tEvT P W fun ρ => T.bind (fa ρ) fun k => if k = true then fc ρ else .ret false) := by
  refine impW (pw_and ha hc) fun σ H Q q => ?_
  obtain ⟨ρ, b, U, R, q⟩ := q
  refine stepT U R q (fun _ _ e => e) fun k b1 H1 F1 U1 R1 q1 => ?_
  cases k with
  | false =>
    rw [if_neg Bool.false_ne_true] at q1 ⊢
    exact q1 H1 F1 U1
  | true =>
    rw [if_pos rfl] at q1 ⊢
    exact ⟨ρ, b1, U1, R1, carryT F1 q1⟩
theorem s_orW {a c : Expr} {r : List Expr} {p : Pos} {fa fc : FT} (ha : PT X a (tEvT P W fa)) (hc : PW X (.BoolOp .Or (c :: r) p) (tEvT P W fc)) :
    PW X (.BoolOp .Or (a :: c :: r) p) (tEvT P W fun ρ => T.bind (fa ρ) fun k => if k = true then .ret true else fc ρ) := by
  refine impW (pw_or ha hc) fun σ H Q q => ?_
  obtain ⟨ρ, b, U, R, q⟩ := q
  refine stepT U R q (fun _ _ e => e) fun k b1 H1 F1 U1 R1 q1 => ?_
  cases k with
  | true =>
    rw [if_pos rfl] at q1 ⊢
    exact q1 H1 F1 U1
  | false =>
    rw [if_neg Bool.false_ne_true] at q1 ⊢
    exact ⟨ρ, b1, U1, R1, carryT F1 q1⟩
theorem s_joined {es : List Expr} {fs : List FE} {v w : Expr} {p : Pos} (h : PJ X (v :: w :: es) (fs.map (tEv P W))) : PE X (.JoinedStr (v :: w :: es) p) (tEv P W fun ρ => joinD fs Str.empty ρ) := by
  refine impE (pe_joined h) fun σ H Q q => ?_
  obtain ⟨ρ, b, U, R, q⟩ := q
  have core : ∀ (fs : List FE) (acc : Str) (b : Nat) (H1 : Hp), Frm H H1 → Bud P b H1 → Ren P H1 σ ρ → T.wp (joinD fs acc ρ) b (KQ P H Q) (KW P H (WE W σ)) → tJs (fs.map (tEv P W)) acc σ H1 fun out H1 => Q (.str out) H1 := by
    intro fs
    induction fs with
    | nil => intro acc b H1 F1 U1 R1 q; exact q _ H1 F1 U1 (.str _)
    | cons f fs ih =>
      intro acc b H1 F1 U1 R1 q
      refine stepE U1 R1 q (fun _ _ e => e.frm F1) fun d b2 v H2 F2 U2 r2 R2 q2 => ?_
      cases r2 with
      | str y =>
        obtain ⟨hz, q2⟩ := ite_wp q2
        exact ⟨y, rfl, big_line hz, ih (acc ++ y) b2 H2 (F1.trans F2) U2 R2 q2⟩
      | _ => exact q2.elim
  exact core fs Str.empty b H (Frm.refl H) U R q
theorem s_fmt {e : Expr} {p : Pos} {fe : FE} (he : PE X e (tEv P W fe)) : PE X (.FormattedValue e (-1) none p) (tEv P W fun ρ => T.bind (fe ρ) fmtD) := by
  refine impE (pe_fmt he) fun σ H Q q => ?_
  obtain ⟨ρ, b, U, R, q⟩ := q
  refine stepE U R q (fun _ _ e => e) fun d b2 v H2 F2 U2 r2 R2 q2 => ?_
  cases r2 with
  | str y =>
    obtain ⟨hz, q2⟩ := ite_wp q2
    exact .inl ⟨y, rfl, big_line hz, q2 _ H2 F2 U2 (.str y)⟩
  | int i =>
    obtain ⟨hz, q2⟩ := ite_wp q2
    exact .inr ⟨i, rfl, hz, q2 _ H2 F2 U2 (.str _)⟩
  | _ => exact q2.elim
theorem s_none : PO X none (tEvO P W fun _ => .ret none) := by
  refine ⟨fun pins s σ H Q I q => ?_⟩
  obtain ⟨ρ, b, U, R, q⟩ := q
  exact po_none.run pins s σ H Q I (q H (Frm.refl H) U)
theorem s_some {e : Expr} {fe : FE} (he : PE X e (tEv P W fe)) : PO X (some e) (tEvO P W fun ρ => T.bind (fe ρ) fun x => T.bind (asI x) fun i => .ret (some i)) := by
  refine ⟨fun pins s σ H Q I q => ?_⟩
  obtain ⟨ρ, b, U, R, q⟩ := q
  refine (po_some he).run pins s σ H Q I (stepE U R q (fun _ _ e => e) fun d b2 v H2 F2 U2 r2 R2 q2 => ?_)
  obtain ⟨i, ei, qi⟩ := asI_wp q2
  subst ei
  cases r2
  exact ⟨i, rfl, qi H2 F2 U2⟩
/-- a text's method of one argument -/
theorem s_m1 (x : XO P Γ X W) {m : Str} {id : String} {g : Str → Str → T PyData} {r : V → List V → Hp → VK → Prop} {o a : Expr} {ap p : Pos} {fo fa : FE} (slot : Slot "str" m id) (ty : typeOf (.builtin id) = pure (.type "method_descriptor")) (rule : MtR X id r)
    (hr : ∀ (y z : Str) (b : Nat) (H : Hp) (Q : VK), Bud P b H → T.wp (g y z) b (KQ P H Q) (fun _ _ => True) → r (.str y) [.str z] H Q) (hb : baseOk o = true) (hs : isStar a = false) (hl : (ap.endLine == p.line) = true) (ho : PE X o (tEv P W fo)) (ha : PE X a (tEv P W fa)) :
    PE X (.Call (.Attribute o m ap) [a] [] p) (tEv P W fun ρ => T.bind (fo ρ) fun x => T.bind (asS x) fun z => T.bind (fa ρ) fun y => onS1 g z y) := by
  refine impE (pe_m1 slot ty rule ho ha (star_cons hs) (base_ok hb) hl) fun σ H Q q => ?_
  obtain ⟨ρ, b, U, R, q⟩ := q
  refine stepE U R q (fun _ _ e => e) fun d b1 v H1 F1 U1 r1 R1 q1 => ?_
  cases r1 with
  | str y =>
    refine ⟨⟨y, rfl⟩, ?_⟩
    refine stepE U1 R1 q1 (fun _ _ e => e.frm F1) fun e b2 w H2 F2 U2 r2 R2 q2 => ?_
    cases r2 with
    | str z => exact hr y z b2 H2 Q U2 (noErr (carry (F1.trans F2) q2))
    | _ => exact q2.elim
  | _ => exact q1.elim
theorem s_mth (x : XO P Γ X W) {m : Str} {i : String × (Str → Str → T PyData)} {o a : Expr} {ap p : Pos} {fo fa : FE} (hm : mthS1 m = some i) (hb : baseOk o = true) (hs : isStar a = false) (hl : (ap.endLine == p.line) = true) (ho : PE X o (tEv P W fo)) (ha : PE X a (tEv P W fa)) :
    PE X (.Call (.Attribute o m ap) [a] [] p) (tEv P W fun ρ => T.bind (fo ρ) fun x => T.bind (asS x) fun z => T.bind (fa ρ) fun y => onS1 i.2 z y) := by
  unfold mthS1 at hm
  split at hm
  · rename_i e; cases hm; subst e
    refine s_m1 x PySem.F.slot_str_strip PySem.F.type_str_strip mt_stripChars (fun y z b H Q U q => ?_) hb hs hl ho ha
    obtain ⟨hz, q⟩ := ite_wp q
    exact ⟨y, z, rfl, rfl, big_line hz, KQ.str q U⟩
  split at hm
  · rename_i e; cases hm; subst e
    refine s_m1 x PySem.F.slot_str_rstrip PySem.F.type_str_rstrip mt_rstripChars (fun y z b H Q U q => ?_) hb hs hl ho ha
    obtain ⟨hz, q⟩ := ite_wp q
    exact ⟨y, z, rfl, rfl, big_line hz, KQ.str q U⟩
  split at hm
  · rename_i e; cases hm; subst e
    refine s_m1 x PySem.F.slot_str_lstrip PySem.F.type_str_lstrip mt_lstripChars (fun y z b H Q U q => ?_) hb hs hl ho ha
    obtain ⟨hz, q⟩ := ite_wp q
    exact ⟨y, z, rfl, rfl, big_line hz, KQ.str q U⟩
  split at hm
  · rename_i e; cases hm; subst e
    refine s_m1 x PySem.F.slot_str_index PySem.F.type_str_index mt_sindex (fun y z b H Q U q => ?_) hb hs hl ho ha
    dsimp only at q
    cases ho' : Builtin.Str.occurrences y z 0 y.length 1 with
    | nil => rw [ho'] at q; exact q.elim
    | cons j r => rw [ho'] at q; exact ⟨y, z, j, r, rfl, rfl, ho', KQ.int q U⟩
  split at hm
  · rename_i e; cases hm; subst e
    refine s_m1 x PySem.F.slot_str_partition PySem.F.type_str_partition mt_partition (fun y z b H Q U q => ?_) hb hs hl ho ha
    obtain ⟨hz, q⟩ := ite_wp q
    exact ⟨y, z, rfl, rfl, hz.1, big_line hz.2, fun p hp => KQ.laidT q U hp (.cons (.str _) (.cons (.str _) (.cons (.str _) .nil)))⟩
  · cases hm
end
end Pv

-- Pv6b
set_option Elab.async false
set_option linter.all false
set_option maxRecDepth 100000
set_option maxHeartbeats 8000000
namespace Pv
open PySem L2
/-! ## what a loop goes over -/
/-- the iterator J gives these items, from the heap H on -/
structure ItD (P : Pa) (J : It) (H : Hp) (ds : List PyData) : Prop where
  go : ∀ i H1, FrmW H H1 → i < ds.length → J.go i H1
  yld : ∀ i H1 x H2, FrmW H H1 → J.yld i H1 x H2 → ∀ d, ds[i]? = some d → Frm H1 H2 ∧ (∀ b, Bud P b H1 → Bud P b H2) ∧ Rp P.kc H2 x d
  stop : ∀ i H1, FrmW H H1 → ds.length ≤ i → J.stop i H1
  /-- also where another new thing is told in another way -/
  hid : ∀ i H1 x H2, FrmW H H1 → J.yld i H1 x H2 → ∀ d, ds[i]? = some d → ∀ D o, H D = none → H1 D ≠ none → Rp P.kc (upd H2 D o) x d
section
variable {P : Pa} {H : Hp}
theorem SqL.same {K : PySem.W.Frag} {H : Hp} {a : Addr} {xs ys : List V} (h : SqL K H a xs) (k : SqL K H a ys) (nk : ∀ o, H a = some o → K.lookup a = none) : xs = ys := by
  rcases h with (h | ⟨o, h⟩) | ⟨o, its, n, h1, h2, h3, h4, h5, h6⟩
  · rcases k with (k | ⟨o, k⟩) | ⟨o, its, n, k1, _⟩
    · rw [h] at k; cases k; rfl
    · rw [h] at k; cases k
    · rw [nk _ h] at k1; cases k1
  · rcases k with (k | ⟨o, k⟩) | ⟨o, its, n, k1, _⟩
    · rw [h] at k; cases k
    · rw [h] at k; cases k; rfl
    · rw [nk _ h] at k1; cases k1
  · rcases k with (k | ⟨o, k⟩) | ⟨o', its', n', k1, k2, k3, k4, k5, k6⟩
    · rw [nk _ k] at h1; cases h1
    · rw [nk _ k] at h1; cases h1
    · rw [h1] at k1; cases k1
      rw [h4] at k4; cases k4
      exact Vals.inj h6 k6
theorem enum_len : ∀ (ds : List PyData) (k : Nat), (enumD ds k).length = ds.length
  | [], _ => rfl
  | _ :: r, k => by simp only [enumD, List.length_cons, enum_len r]
theorem enum_get : ∀ (ds : List PyData) (k i : Nat) (e : PyData), (enumD ds k)[i]? = some e → ∃ d, ds[i]? = some d ∧ e = .tuple [.int ((k + i : Nat)), d]
  | [], _, _, _, h => by simp [enumD] at h
  | d :: r, k, 0, e, h => ⟨d, rfl, by simpa [enumD] using h.symm⟩
  | d :: r, k, i + 1, e, h => by
    obtain ⟨d', h1, h2⟩ := enum_get r (k + 1) i e (by simpa [enumD] using h)
    exact ⟨d', by simpa using h1, by rw [h2]; congr 3; omega⟩
theorem frw_new {H H1 : Hp} {D : Addr} {o : HO} (F : FrmW H H1) (n : H D = none) : FrmW H (upd H1 D o) := fun a u e k => by
  obtain ⟨u', e', k'⟩ := F a u e k
  exact ⟨u', by rw [upd_ne (ne_of_none e n)]; exact e', k'⟩
theorem it_list {a : Addr} {vs : List V} {ds : List PyData} (h : SqL P.kc.K H a vs) (r : RpA P.kc H vs ds) : ItD P (Itl P.kc.K a) H ds where
  go := fun i H1 F hi => by
    have hi' : i < vs.length := by rw [r.length]; exact hi
    exact ⟨vs, vs[i], F.l h, by simp [hi']⟩
  yld := fun i H1 x H2 F y d hd => by
    obtain ⟨rfl, y⟩ := y
    obtain ⟨v, hv, rv⟩ := r.get hd
    have e := y vs (F.l h)
    rw [hv] at e
    cases e
    exact ⟨Frm.refl _, fun b U => U, rv.frw F⟩
  stop := fun i H1 F hi => ⟨vs, F.l h, by rw [r.length]; exact hi⟩
  hid := fun i H1 x H2 F y d hd D o n _ => by
    obtain ⟨rfl, y⟩ := y
    obtain ⟨v, hv, rv⟩ := r.get hd
    have e := y vs (F.l h)
    rw [hv] at e
    cases e
    exact rv.frw (frw_new F n)
theorem it_tup {a : Addr} {vs : List V} {ds : List PyData} (h : SqT P.kc.K H a vs) (r : RpA P.kc H vs ds) : ItD P (Itt P.kc.K a) H ds where
  go := fun i H1 F hi => by
    have hi' : i < vs.length := by rw [r.length]; exact hi
    exact ⟨vs, vs[i], F.t h, by simp [hi']⟩
  yld := fun i H1 x H2 F y d hd => by
    obtain ⟨rfl, y⟩ := y
    obtain ⟨v, hv, rv⟩ := r.get hd
    have e := y vs (F.t h)
    rw [hv] at e
    cases e
    exact ⟨Frm.refl _, fun b U => U, rv.frw F⟩
  stop := fun i H1 F hi => ⟨vs, F.t h, by rw [r.length]; exact hi⟩
  hid := fun i H1 x H2 F y d hd D o n _ => by
    obtain ⟨rfl, y⟩ := y
    obtain ⟨v, hv, rv⟩ := r.get hd
    have e := y vs (F.t h)
    rw [hv] at e
    cases e
    exact rv.frw (frw_new F n)
theorem it_str {z : Str} : ItD P (Its z) H (z.cps.toList.map fun c => .str ⟨#[c]⟩) where
  go := fun i H1 F hi => by
    show i < z.cps.size
    simpa using hi
  yld := fun i H1 x H2 F y d hd => by
    obtain ⟨rfl, c, hc, rfl⟩ := y
    rw [List.getElem?_map, Array.getElem?_toList, hc] at hd
    cases hd
    exact ⟨Frm.refl _, fun b U => U, .str _⟩
  stop := fun i H1 F hi => by
    show z.cps.size ≤ i
    simpa using hi
  hid := fun i H1 x H2 F y d hd D o n _ => by
    obtain ⟨rfl, c, hc, rfl⟩ := y
    rw [List.getElem?_map, Array.getElem?_toList, hc] at hd
    cases hd
    exact .str _
theorem it_range {lo : Int} {n : Nat} : ItD P (Itr lo n) H ((List.range n).map fun k => .int (lo + (k : Nat))) where
  go := fun i H1 F hi => by
    show i < n
    simpa using hi
  yld := fun i H1 x H2 F y d hd => by
    obtain ⟨rfl, rfl⟩ := y
    rw [List.getElem?_map] at hd
    cases e : (List.range n)[i]? with
    | none => rw [e] at hd; cases hd
    | some k =>
      rw [e] at hd
      cases hd
      obtain ⟨hk, ek⟩ := List.getElem?_eq_some_iff.mp e
      rw [List.getElem_range] at ek
      subst ek
      exact ⟨Frm.refl _, fun b U => U, .int _⟩
  stop := fun i H1 F hi => by
    show n ≤ i
    simpa using hi
  hid := fun i H1 x H2 F y d hd D o _ _ => by
    obtain ⟨rfl, rfl⟩ := y
    rw [List.getElem?_map] at hd
    cases e : (List.range n)[i]? with
    | none => rw [e] at hd; cases hd
    | some k =>
      rw [e] at hd
      cases hd
      obtain ⟨hk, ek⟩ := List.getElem?_eq_some_iff.mp e
      rw [List.getElem_range] at ek
      subst ek
      exact .int _
theorem it_enum {a : Addr} {vs : List V} {ds : List PyData} (h : SqL P.kc.K H a vs) (r : RpA P.kc H vs ds) : ItD P (Ite P.kc.K a) H (enumD ds 0) where
  go := fun i H1 F hi => by
    rw [enum_len] at hi
    have hi' : i < vs.length := by rw [r.length]; exact hi
    exact ⟨vs, vs[i], F.l h, by simp [hi']⟩
  yld := fun i H1 x H2 F y e he => by
    obtain ⟨d, hd, rfl⟩ := enum_get ds 0 i e he
    obtain ⟨T, w, rfl, hn, rfl, y⟩ := y
    obtain ⟨v, hv, rv⟩ := r.get hd
    have e := y vs (F.l h)
    rw [hv] at e
    cases e
    refine ⟨Frm.new hn, fun b U => U.new hn nd_tup, ?_⟩
    rw [Nat.zero_add]
    exact .tup (SqT.of upd_same) (.cons (.int _) (.cons ((rv.frw F).frm (Frm.new hn)) .nil))
  stop := fun i H1 F hi => ⟨vs, F.l h, by rw [enum_len] at hi; rw [r.length]; exact hi⟩
  hid := fun i H1 x H2 F y e he D o n nd => by
    obtain ⟨d, hd, rfl⟩ := enum_get ds 0 i e he
    obtain ⟨T, w, rfl, hn, rfl, y⟩ := y
    obtain ⟨v, hv, rv⟩ := r.get hd
    have e := y vs (F.l h)
    rw [hv] at e
    cases e
    have nT : T ≠ D := fun z => nd (by rw [← z]; exact hn)
    rw [Nat.zero_add]
    exact .tup (SqT.of (by rw [upd_ne nT]; exact upd_same)) (.cons (.int _) (.cons (rv.frw (frw_new (F.trans (Frm.new hn).w) n)) .nil))
theorem it_enumT {a : Addr} {vs : List V} {ds : List PyData} (h : SqT P.kc.K H a vs) (r : RpA P.kc H vs ds) : ItD P (IteT P.kc.K a) H (enumD ds 0) where
  go := fun i H1 F hi => by
    rw [enum_len] at hi
    have hi' : i < vs.length := by rw [r.length]; exact hi
    exact ⟨vs, vs[i], F.t h, by simp [hi']⟩
  yld := fun i H1 x H2 F y e he => by
    obtain ⟨d, hd, rfl⟩ := enum_get ds 0 i e he
    obtain ⟨T, w, rfl, hn, rfl, y⟩ := y
    obtain ⟨v, hv, rv⟩ := r.get hd
    have e := y vs (F.t h)
    rw [hv] at e
    cases e
    refine ⟨Frm.new hn, fun b U => U.new hn nd_tup, ?_⟩
    rw [Nat.zero_add]
    exact .tup (SqT.of upd_same) (.cons (.int _) (.cons ((rv.frw F).frm (Frm.new hn)) .nil))
  stop := fun i H1 F hi => ⟨vs, F.t h, by rw [enum_len] at hi; rw [r.length]; exact hi⟩
  hid := fun i H1 x H2 F y e he D o n nd => by
    obtain ⟨d, hd, rfl⟩ := enum_get ds 0 i e he
    obtain ⟨T, w, rfl, hn, rfl, y⟩ := y
    obtain ⟨v, hv, rv⟩ := r.get hd
    have e := y vs (F.t h)
    rw [hv] at e
    cases e
    have nT : T ≠ D := fun z => nd (by rw [← z]; exact hn)
    rw [Nat.zero_add]
    exact .tup (SqT.of (by rw [upd_ne nT]; exact upd_same)) (.cons (.int _) (.cons (rv.frw (frw_new (F.trans (Frm.new hn).w) n)) .nil))
end
/-- a list, a tuple, a text -/
def iAny (K : PySem.W.Frag) (te : TE) : TI := fun σ H R => te σ H fun x H1 => (∃ a xs, x = .ref a ∧ SqL K H1 a xs ∧ R (Itl K a) H1) ∨ (∃ a xs, x = .ref a ∧ SqT K H1 a xs ∧ R (Itt K a) H1) ∨ ∃ z, x = .str z ∧ R (Its z) H1
theorem pi_any {X : Cx} {tg e : Expr} {te : TE} (he : PE X e te) : PI X tg e (iAny X.K te) := by
  refine ⟨fun pins s σ H R I h => thn (he.run pins s σ H _ I h) fun v s1 hv => ?_⟩
  obtain ⟨y, H1, I1, r1, q⟩ := hv
  rcases q with ⟨a, xs, rfl, hq, q⟩ | ⟨a, xs, rfl, hq, q⟩ | ⟨z, rfl, q⟩
  · cases r1
    obtain ⟨its, rv, p, hz⟩ := I1.list hq
    exact wpAny_pyIter_list p.isList (pi_one (tk := s1.toks) I1 _ (turn_list a _) ⟨_, Heap.get?_push_size _ rfl, rfl, rfl⟩ q)
  · cases r1
    obtain ⟨its, rv, p, hz⟩ := I1.tuple hq
    exact wpAny_pyIter_tuple (show s1.heap.IsTuple a its.toArray from p) (pi_one (tk := s1.toks) I1 _ (turn_tuple a _) ⟨_, Heap.get?_push_size _ rfl, rfl, rfl⟩ q)
  · obtain ⟨t, rfl⟩ := r1
    cases ha : z.cps.all (· < 128)
    · exact wpAny_pyIter_wide ha (pi_one (tk := s1.toks) I1 _ (turn_str _ z t "str_iterator" (.inr rfl)) ⟨_, Heap.get?_push_size _ rfl, rfl, rfl⟩ q)
    · exact wpAny_pyIter_ascii ha (pi_one (tk := s1.toks) I1 _ (turn_str _ z t "str_ascii_iterator" (.inl rfl)) ⟨_, Heap.get?_push_size _ rfl, rfl, rfl⟩ q)
def tEvI (P : Pa) (W : WX) (f : FI) : TI := fun σ H R => ∃ ρ b, Bud P b H ∧ Ren P H σ ρ ∧ T.wp (f ρ) b (fun ds b' => ∀ J H', Frm H H' → Bud P b' H' → ItD P J H' ds → R J H') (KW P H (WE W σ))
theorem impI {X : Cx} {tg e : Expr} {t t' : TI} (h : PI X tg e t) (k : ∀ σ H R, t' σ H R → t σ H R) : PI X tg e t' := ⟨fun pins s σ H R I q => h.run pins s σ H R I (k σ H R q)⟩
section
variable {P : Pa} {Γ : Ga} {X : Cx} {W : WX}
theorem s_any (x : XO P Γ X W) {tg e : Expr} {fe : FE} (he : PE X e (tEv P W fe)) : PI X tg e (tEvI P W fun ρ => T.bind (fe ρ) itemsD) := by
  have hK := x.hK
  refine impI (pi_any he) fun σ H R q => ?_
  obtain ⟨ρ, b, U, Re, q⟩ := q
  refine stepE U Re q (fun _ _ e => e) fun d b1 v H1 F1 U1 r1 R1 q1 => ?_
  cases r1 with
  | @lst a vs ds h1 k1 => exact .inl ⟨a, vs, rfl, by rw [← hK]; exact h1, q1 _ H1 F1 U1 (by rw [← hK]; exact it_list h1 k1)⟩
  | @tup a vs ds h1 k1 => exact .inr (.inl ⟨a, vs, rfl, by rw [← hK]; exact h1, q1 _ H1 F1 U1 (by rw [← hK]; exact it_tup h1 k1)⟩)
  | str z => exact .inr (.inr ⟨z, rfl, q1 _ H1 F1 U1 it_str⟩)
  | _ => exact q1.elim
end
structure Snd (P : Pa) (Γ : Ga) (X : Cx) (W : WX) (n : Nat) : Prop where
  K : ∀ ks f, cK Γ n ks = some f → PK X ks (tEvA P W f)
  I : ∀ tg e f, cI Γ n tg e = some f → PI X tg e (tEvI P W f)
  F : ∀ es f, cF Γ n es = some f → PTs X es (tEvT P W f)
  E : ∀ e f, cE Γ n e = some f → PE X e (tEv P W f)
  C : ∀ f e es p pos fe, cCall Γ n f (e :: es) = some fe → PE X (.Call (.Name f p) (e :: es) [] pos) (tEv P W fe)
  B : ∀ op es p f, cT Γ n (.BoolOp op es p) = some f → PW X (.BoolOp op es p) (tEvT P W f)
  T : ∀ e f, cT Γ n e = some f → PT X e (tEvT P W f)
  A : ∀ es f, cA Γ n es = some f → PA X es (tEvA P W f)
  O : ∀ o f, cO Γ n o = some f → PO X o (tEvO P W f)
  J : ∀ es fs, cJ Γ n es = some fs → PJ X es (fs.map (tEv P W))
  Kt : ∀ e f, tokE Γ e = true → cE Γ n e = some f → PEK X e (tEv P W f)
end Pv

-- Pv28
set_option Elab.async false
set_option linter.all false
set_option maxRecDepth 100000
set_option maxHeartbeats 4000000
namespace Pv
open PySem L2
/-! ## a tracked thing told in another way -/
/-- what nothing else leans on -/
def Lone (o : HO) : Prop := (∀ xs, o ≠ .tup xs) ∧ (∀ ob u, o ≠ .frz ob u) ∧ (∀ ps, o ≠ .tbl ps) ∧ ∀ x, o ≠ .own x
theorem lone_ext {φ : Heap → Prop} : Lone (.ext φ) := ⟨(fun _ z => nomatch z), (fun _ _ z => nomatch z), (fun _ z => nomatch z), fun _ z => nomatch z⟩
theorem lone_lst {xs : List V} : Lone (.lst xs) := ⟨(fun _ z => nomatch z), (fun _ _ z => nomatch z), (fun _ z => nomatch z), fun _ z => nomatch z⟩
section
variable {X : Cx} {pins : List (Addr × Obj)} {σ : List (Option V)} {H : Hp} {s : Shared} {a : Addr} {o o' : HO}
theorem inv_upd (I : Inv X pins σ H s) (h : H a = some o) (l : Lone o) (k : ObjOk X.prog X.w (upd H a o') s.heap a o') : Inv X pins σ (upd H a o') s := by
  have ne : ∀ {b : Addr}, H b = none → b ≠ a := fun {b} e z => by
    rw [z, h] at e
    cases e
  refine ⟨I.ok, I.os, I.bare, ⟨I.base.keep, I.base.slot, fun b u e n hx => ?_, I.base.there, fun b xs e => ?_, fun b ob u e => ?_, fun b ps e => ?_⟩, I.loc, I.cell, ?_, fun x c e => ?_, fun p hp => ?_, fun b u e => ?_, I.len⟩
  · have := I.base.free b u e n hx
    rw [upd_ne (ne this)]
    exact this
  · have := I.base.tups b xs e
    rw [upd_ne (fun z => by rw [z, h] at this; exact l.1 xs (Option.some.inj this))]
    exact this
  · have := I.base.frzs b ob u e
    rw [upd_ne (fun z => by rw [z, h] at this; exact l.2.1 ob u (Option.some.inj this))]
    exact this
  · obtain ⟨more, this⟩ := I.base.tbls b ps e
    refine ⟨more, ?_⟩
    rw [upd_ne (fun z => by rw [z, h] at this; exact l.2.2.1 _ (Option.some.inj this))]
    exact this
  · rw [upd_ne (ne I.free)]
    exact I.free
  · rw [upd_ne (ne (I.freeC x c e))]
    exact I.freeC x c e
  · obtain ⟨h1, h2, h3⟩ := I.pin p hp
    exact ⟨h1, by rw [upd_ne (ne h2)]; exact h2, h3⟩
  · by_cases hb : b = a
    · subst hb
      rw [upd_same] at e
      cases e
      exact k
    · rw [upd_ne hb] at e
      refine (I.hok b u e).stay (fun c v _ q => q) (fun c q => ?_) fun c xs q => ?_
      · rw [upd_ne (fun z => by rw [z, h] at q; exact l.2.2.2 _ (Option.some.inj q))]
        exact q
      · rw [upd_ne (fun z => by rw [z, h] at q; exact l.1 _ (Option.some.inj q))]
        exact q
theorem hid_ok {P : Program} {w : World} {H : Hp} {h : Heap} {ob : Obj} (e : h.get? a = some ob) : ObjOk P w H h a (hidO a ob) := ⟨e, ⟨ob, e⟩, fun h1 h2 e1 k => k _ e1⟩
/-- a list is hidden -/
theorem inv_hide {vs : List V} (I : Inv X pins σ H s) (h : H a = some (.lst vs)) : ∃ (its : List Value) (n : Nat), Vals vs its ∧ vs.length ≤ sizeLine ∧ Inv X pins σ (upd H a (hidO a { cls := .type "list", data := .seq its.toArray n })) s := by
  obtain ⟨z, its, n, r, e⟩ := I.hok a _ h
  exact ⟨its, n, r, z, inv_upd I h lone_lst (hid_ok e)⟩
/-- it is shown again -/
theorem inv_show {vs : List V} {its : List Value} {n : Nat} (I : Inv X pins σ H s) (h : H a = some (hidO a { cls := .type "list", data := .seq its.toArray n })) (r : Vals vs its) (z : vs.length ≤ sizeLine) : Inv X pins σ (upd H a (.lst vs)) s :=
  inv_upd I h lone_ext ⟨z, its, n, r, (I.hok a _ h).1⟩
end
abbrev lob (its : List Value) (n : Nat) : Obj := { cls := .type "list", data := .seq its.toArray n }
/-- a list is no code object -/
theorem hid_nocode {h : Heap} {a : Addr} {its : List Value} {n : Nat} (e : h.get? a = some (lob its n)) : ∀ q, hidO a (lob its n) ≠ LamX.CodeO a q := fun q z => by
  unfold hidO LamX.CodeO at z
  have z' := HO.ext.inj z
  have k : (fun h : Heap => h.get? a = some (lob its n)) h := e
  rw [z'] at k
  obtain ⟨oc, vs, t, k1, k2, _⟩ := k
  rw [e] at k1
  cases k1
  cases k2
end Pv

-- Pv6c
set_option Elab.async false
set_option linter.all false
set_option maxRecDepth 100000
set_option maxHeartbeats 8000000
namespace Pv
open PySem L2
/-! ## list comprehensions whose items refer to nothing -/
theorem wipe_get (σ : St) (j : Nat) : ∀ vs : List Nat, (wipe σ vs)[j]? = if j ∈ vs ∧ j < σ.length then some none else σ[j]?
  | [] => by simp [wipe]
  | v :: vs => by
    show ((wipe σ vs).set v none)[j]? = _
    rw [List.getElem?_set, wipe_get σ j vs, wipe_length]
    by_cases hv : v = j
    · subst hv
      by_cases hl : v < σ.length
      · simp [hl]
      · simp [hl]
    · have hv' : ¬ j = v := fun e => hv e.symm
      simp [hv, hv']
theorem wipe_back {σ : St} {i : Nat} {v : Option V} {vs : List Nat} (h : i ∈ vs) : wipe ((wipe σ vs).set i v) vs = wipe σ vs := List.ext_getElem? fun j => by
  rw [wipe_get, wipe_get, List.length_set, wipe_length, List.getElem?_set, wipe_get]
  by_cases hj : j ∈ vs ∧ j < σ.length
  · rw [if_pos hj, if_pos hj]
  · rw [if_neg hj, if_neg hj]
    by_cases hi : i = j
    · subst hi
      have hl : ¬ i < σ.length := fun z => hj ⟨h, z⟩
      rw [if_pos rfl, if_neg (by rw [wipe_length]; exact hl)]
      rw [List.getElem?_eq_none (by omega)]
    · rw [if_neg hi]
theorem wipe_set {σ : L2.St} {i : Nat} {v : Option V} {vs : List Nat} (h : i ∈ vs) : wipe (σ.set i v) vs = wipe σ vs := by
  refine List.ext_getElem? fun j => ?_
  rw [wipe_get, wipe_get, List.length_set, List.getElem?_set]
  by_cases hj : j ∈ vs ∧ j < σ.length
  · rw [if_pos hj, if_pos hj]
  · rw [if_neg hj, if_neg hj]
    by_cases hi : i = j
    · subst hi
      have hl : ¬ i < σ.length := fun z => hj ⟨h, z⟩
      rw [if_pos rfl, if_neg hl, List.getElem?_eq_none (by omega)]
    · rw [if_neg hi]
theorem wipe_twice {σ : L2.St} {vs : List Nat} : wipe (wipe σ vs) vs = wipe σ vs := by
  refine List.ext_getElem? fun j => ?_
  rw [wipe_get, wipe_get, wipe_length]
  by_cases hj : j ∈ vs ∧ j < σ.length
  · rw [if_pos hj, if_pos hj]
  · rw [if_neg hj]
/-- values stored one after the other -/
def setV (σ : L2.St) : List Nat → List V → L2.St
  | i :: is, v :: vs => setV (σ.set i (some v)) is vs
  | _, _ => σ
theorem wipe_setV {own : List Nat} : ∀ {is : List Nat} {vs : List V} {σ : L2.St}, (∀ i ∈ is, i ∈ own) → wipe (setV σ is vs) own = wipe σ own
  | [], _, _, _ => by unfold setV; rfl
  | _ :: _, [], _, _ => by unfold setV; rfl
  | i :: is, v :: vs, σ, h => (wipe_setV (is := is) (vs := vs) (σ := σ.set i (some v)) fun j hj => h j (List.mem_cons_of_mem _ hj)).trans (wipe_set (h i List.mem_cons_self))
def gNames : List Nat → TGs
  | [] => gNil
  | i :: is => gCons (gName i) (gNames is)
theorem names_run : ∀ {is : List Nat} {ds : List PyData} {vs : List V} {σ : St} {H : Hp} {ρ : En} {Q : St → Hp → Prop}, (∀ i ∈ is, Fre P i) → ds.length = is.length → RpA P.kc H vs ds → Ren P H σ ρ → (∀ σ', Ren P H σ' (setAll ρ is ds) → Q σ' H) → gNames is vs σ H Q
  | [], [], _, σ, H, ρ, Q, _, _, .nil, r, q => ⟨rfl, q σ r⟩
  | i :: is, d :: ds, _, σ, H, ρ, Q, nf, hl, .cons r1 rr, r, q => ⟨_, _, rfl, names_run (fun j hj => nf j (List.mem_cons_of_mem _ hj)) (by simpa using hl) rr (r.set (nf i List.mem_cons_self) r1) q⟩
theorem gNames_set : ∀ {is : List Nat} {vs : List V} {σ : L2.St} {H : Hp} {Q : L2.St → Hp → Prop}, vs.length = is.length → Q (setV σ is vs) H → gNames is vs σ H Q
  | [], [], _, _, _, _, q => ⟨rfl, q⟩
  | i :: is, v :: vs, _, _, _, h, q => ⟨v, vs, rfl, gNames_set (is := is) (by simpa using h) q⟩
theorem Ren.setV {P : Pa} {H : Hp} : ∀ {is : List Nat} {vs : List V} {ds : List PyData} {σ : L2.St} {ρ : En}, Ren P H σ ρ → (∀ i ∈ is, Fre P i) → RpA P.kc H vs ds → ds.length = is.length → Ren P H (Pv.setV σ is vs) (setAll ρ is ds)
  | [], [], _, _, _, r, _, .nil, _ => r
  | [], _ :: _, _ :: _, _, _, _, _, _, h => by simp at h
  | _ :: _, [], _, _, _, _, _, .nil, h => by simp at h
  | i :: is, v :: vs, d :: ds, _, _, r, nf, .cons r1 rr, h => Ren.setV (is := is) (r.set (nf i List.mem_cons_self) r1) (fun j hj => nf j (List.mem_cons_of_mem _ hj)) rr (by simpa using h)
/-- the rule for what a comprehension stores to -/
def tgP (K : PySem.W.Frag) : Tg → TG
  | .one i => gName i
  | .tup is => fun v σ H Q => ∃ a vs, v = .ref a ∧ SqT K H a vs ∧ vs.length = is.length ∧ gNames is vs σ H Q
def Tg.own : Tg → List Nat
  | .one i => [i]
  | .tup is => is
theorem Rp.atom {Z : Kc} {H H' : Hp} {v : V} {d : PyData} (h : atomD d = true) (r : Rp Z H v d) : Rp Z H' v d := by
  cases r with
  | non => exact .non
  | bl b => exact .bl b
  | int i => exact .int i
  | str x => exact .str x
  | _ => cases h
/-- a store, told by its slots; D: what is told in another way -/
theorem tg_run {P : Pa} {K : PySem.W.Frag} {H : Hp} {D : Addr} {φ : Heap → Prop} {σ : L2.St} {ρ ρ1 : En} {g : Tg} {own : List Nat} {v : V} {d : PyData} {Q : L2.St → Hp → Prop} (hK : P.kc.K = K) (ho : ∀ i ∈ g.own, i ∈ own) (nf : ∀ i ∈ own, Fre P i) (r : Rp P.kc (upd H D (.ext φ)) v d) (hp : g.put d ρ = some ρ1)
    (q : ∀ σ2, wipe σ2 own = wipe σ own → (∀ H', Ren P H' (wipe σ own) ρ → FrmW (upd H D (.ext φ)) H' → Ren P H' σ2 ρ1) → Q σ2 H) : tgP K g v (wipe σ own) H Q := by
  cases g with
  | one i =>
    cases hp
    exact q _ (by rw [wipe_set (ho i List.mem_cons_self), wipe_twice]) fun H' R F => R.set (nf i (ho i List.mem_cons_self)) (r.frw F)
  | tup is =>
    cases r with
    | @tup a vs ds h1 k1 =>
      have hp' : (if ds.length = is.length then some (setAll ρ is ds) else none) = some ρ1 := hp
      split at hp'
      · rename_i hl
        cases hp'
        subst hK
        have h2 : SqT P.kc.K H a vs := by
          have nx : ∀ o : HO, (∀ ψ, o ≠ .ext ψ) → upd H D (.ext φ) a = some o → H a = some o := fun o no e => by
            by_cases ha : a = D
            · subst ha
              rw [upd_same] at e
              exact absurd (Option.some.inj e).symm (no φ)
            · rw [upd_ne ha] at e
              exact e
          rcases h1 with (h | ⟨o, h⟩) | h
          · exact .inl (.inl (nx _ (fun _ z => nomatch z) h))
          · exact .inl (.inr ⟨o, nx _ (fun _ z => nomatch z) h⟩)
          · exact .inr h
        have how : ∀ i ∈ is, i ∈ own := ho
        exact ⟨a, vs, rfl, h2, by rw [k1.length, hl], gNames_set (by rw [k1.length, hl]) (q _ (by rw [wipe_setV how, wipe_twice]) fun H' R F => R.setV (fun i hi => nf i (how i hi)) (k1.frw F) hl)⟩
      · cases hp'
    | _ => cases hp
section
variable {P : Pa} {Γ : Ga} {X : Cx} {W : WX}
theorem Ren.wiped {H : Hp} {σ : St} {ρ : En} (R : Ren P H σ ρ) : ∀ {vs : List Nat}, (∀ i ∈ vs, Fre P i) → Ren P H (wipe σ vs) (wipeE ρ vs)
  | [], _ => R
  | v :: vs, nf => (Ren.wiped R fun i hi => nf i (List.mem_cons_of_mem _ hi)).unset (nf v List.mem_cons_self) none
/-- a list that is new since B grows -/
theorem grow_frm {B H : Hp} {D : Addr} {o : HO} (F : Frm B H) (n : B D = none) : Frm B (upd H D o) := fun a u e => by
  obtain ⟨u', e', k⟩ := F a u e
  exact ⟨u', by rw [upd_ne (ne_of_none e n)]; exact e', k⟩
theorem grow_bud {B H : Hp} {D : Addr} {acc ys : List V} {b c : Nat} (U1 : Bud P c B) (F : Frm B H) (n : B D = none) (U : Bud P b H) (h : H D = some (.lst acc)) : Bud P b (upd H D (.lst ys)) := by
  refine ⟨⟨U.1.1, fun a l c t e => ?_⟩, fun p hp => ?_, fun q hq => ?_, fun C hC => (U1.2.2.2 C hC).trans (grow_frm F n)⟩
  · by_cases ha : a = D
    · subst ha
      rw [upd_same] at e
      cases e
    · rw [upd_ne ha] at e
      exact U.1.2 a l c t e
  · obtain ⟨ps, h1, h2, h3⟩ := U.2.1 p hp
    have n1 : p.1 ≠ D := fun z => by
      rw [z, h] at h1
      cases h1
    refine ⟨ps, by rw [upd_ne n1]; exact h1, h2, fun pos cv hc => ?_⟩
    obtain ⟨c0, e1, e2⟩ := h3 pos cv hc
    have n2 : c0 ≠ D := fun z => by
      rw [z, h] at e2
      have e3 := Option.some.inj e2
      unfold LamX.CodeO at e3
      cases e3
    exact ⟨c0, e1, by rw [upd_ne n2]; exact e2⟩
  · obtain ⟨k1, k2, k3⟩ := U1.2.2.1 q hq
    have n1 : q.1 ≠ D := ne_of_none k1 n
    refine ⟨?_, k2, k3⟩
    rw [upd_ne n1]
    exact (U.2.2.1 q hq).1
/-- .. it is hidden, shown again -/
theorem grow_budE {B H : Hp} {D : Addr} {φ : Heap → Prop} {o : HO} {b c : Nat} (U1 : Bud P c B) (F : Frm B H) (n : B D = none) (U : Bud P b H) (h : H D = some (.ext φ)) (nc : ∀ q, HO.ext φ ≠ LamX.CodeO D q) (hn : ¬ IsDraw o) (ht : ∀ ps, o ≠ .tbl ps) : Bud P b (upd H D o) := by
  refine ⟨⟨U.1.1, fun a l c t e => ?_⟩, fun p hp => ?_, fun q hq => ?_, fun C hC => (U1.2.2.2 C hC).trans (grow_frm F n)⟩
  · by_cases ha : a = D
    · subst ha
      rw [upd_same] at e
      exact absurd ⟨l, c, t, Option.some.inj e⟩ hn
    · rw [upd_ne ha] at e
      exact U.1.2 a l c t e
  · obtain ⟨ps, h1, h2, h3⟩ := U.2.1 p hp
    have n1 : p.1 ≠ D := fun z => by
      rw [z, h] at h1
      cases h1
    refine ⟨ps, by rw [upd_ne n1]; exact h1, h2, fun pos cv hc => ?_⟩
    obtain ⟨c0, e1, e2⟩ := h3 pos cv hc
    have n2 : c0 ≠ D := fun z => by
      rw [z, h] at e2
      exact nc _ (Option.some.inj e2)
    exact ⟨c0, e1, by rw [upd_ne n2]; exact e2⟩
  · obtain ⟨k1, k2, k3⟩ := U1.2.2.1 q hq
    have n1 : q.1 ≠ D := ne_of_none k1 n
    refine ⟨?_, k2, k3⟩
    rw [upd_ne n1]
    exact (U.2.2.1 q hq).1
theorem grow_budH {B H : Hp} {D : Addr} {acc : List V} {φ : Heap → Prop} {b c : Nat} (U1 : Bud P c B) (F : Frm B H) (n : B D = none) (U : Bud P b H) (h : H D = some (.lst acc)) : Bud P b (upd H D (.ext φ)) := by
  refine ⟨⟨U.1.1, fun a l c t e => ?_⟩, fun p hp => ?_, fun q hq => ?_, fun C hC => (U1.2.2.2 C hC).trans (grow_frm F n)⟩
  · by_cases ha : a = D
    · subst ha
      rw [upd_same] at e
      cases e
    · rw [upd_ne ha] at e
      exact U.1.2 a l c t e
  · obtain ⟨ps, h1, h2, h3⟩ := U.2.1 p hp
    have n1 : p.1 ≠ D := fun z => by
      rw [z, h] at h1
      cases h1
    refine ⟨ps, by rw [upd_ne n1]; exact h1, h2, fun pos cv hc => ?_⟩
    obtain ⟨c0, e1, e2⟩ := h3 pos cv hc
    have n2 : c0 ≠ D := fun z => by
      rw [z, h] at e2
      have e3 := Option.some.inj e2
      unfold LamX.CodeO at e3
      cases e3
    exact ⟨c0, e1, by rw [upd_ne n2]; exact e2⟩
  · obtain ⟨k1, k2, k3⟩ := U1.2.2.1 q hq
    have n1 : q.1 ≠ D := ne_of_none k1 n
    refine ⟨?_, k2, k3⟩
    rw [upd_ne n1]
    exact (U.2.2.1 q hq).1
/-- what is told at D in another way -/
abbrev hx (D : Addr) (H : Hp) : Hp := upd H D (.ext fun _ => True)
theorem frw_ext {H H' : Hp} {D : Addr} {φ : Heap → Prop} (F : Frm H H') {o : HO} : FrmW (upd H D (.ext φ)) (upd H' D o) := fun a u e k => by
  have ne : a ≠ D := fun z => by
    rw [z, upd_same] at e
    cases e
    exact k φ rfl
  rw [upd_ne ne] at e ⊢
  exact F a u e
theorem frw_back {H : Hp} {D : Addr} {φ : Heap → Prop} : FrmW (upd H D (.ext φ)) H := fun a u e k => by
  have ne : a ≠ D := fun z => by
    rw [z, upd_same] at e
    cases e
    exact k φ rfl
  rw [upd_ne ne] at e
  exact ⟨u, e, .inl rfl⟩
theorem frw_at {H : Hp} {D : Addr} {φ : Heap → Prop} {o : HO} (h : H D = some (.ext φ)) : FrmW H (upd H D o) := fun a u e k => by
  have ne : a ≠ D := fun z => by
    rw [z, h] at e
    cases e
    exact k φ rfl
  exact ⟨u, by rw [upd_ne ne]; exact e, .inl rfl⟩
/-- an expression runs with a list hidden -/
def tHid (te : TE) : TE := fun σ H Q => ∃ D acc, H D = some (.lst acc) ∧ ∀ (its : List Value) (n : Nat), (∀ q, hidO D (lob its n) ≠ LamX.CodeO D q) → te σ (upd H D (hidO D (lob its n))) fun y H' => H' D = some (hidO D (lob its n)) ∧ Q y (upd H' D (.lst acc))
theorem pe_hid {X : Cx} {e : Expr} {te : TE} (h : PE X e te) : PE X e (tHid te) := by
  refine ⟨fun pins s σ H Q I q => ?_⟩
  obtain ⟨D, acc, hD, q⟩ := q
  obtain ⟨its, n, rv, hz, I2⟩ := inv_hide I hD
  exact thn (h.run pins s σ _ _ I2 (q its n (hid_nocode (I2.hok D _ upd_same).1))) fun v s1 ⟨y, H', I', r, e, k⟩ => ⟨y, _, inv_show I' e rv hz, r, k⟩
theorem noRaise_wp {α : Type} {Q : α → Nat → Prop} {EE : Er → Nat → Prop} : ∀ {t : T α} {b : Nat}, T.wp (noRaise t) b Q EE → T.wp t b Q (fun _ _ => False)
  | .ret _, _, h => h
  | .err _, _, h => h.elim
  | .pick _ _, 0, h => h
  | .pick _ _, _ + 1, h => fun i h0 h1 => noRaise_wp (h i h0 h1)
  | .stuck, _, h => h.elim
abbrev WF : WX := fun _ _ _ _ => False
theorem fold_ok {e : Expr} {env : Env} (h : foldOk e = true) : ∀ x, foldedSetIterable e env x = pure x := by
  intro x
  cases e <;> first | rfl | simp [foldOk] at h
theorem lookup_in {α : Type} {y : Str} {i : α} : ∀ {l : List (Str × α)}, l.lookup y = some i → (y, i) ∈ l
  | [], h => by cases h
  | (z, j) :: l, h => by
    rw [List.lookup_cons] at h
    split at h
    · rename_i e
      cases h
      rw [show y = z by simpa using e]
      exact List.mem_cons_self
    · exact List.mem_cons_of_mem _ (lookup_in h)
theorem own_ix {N : List Str} {sc : Scope} {y : Str} {i : Nat} (h : (lcOwn N sc).lookup y = some i) : (y, i) ∈ lcOwn N sc := by
  have : ∀ {l : List (Str × Nat)}, l.lookup y = some i → (y, i) ∈ l := by
    intro l
    induction l with
    | nil => intro h; cases h
    | cons p l ih =>
      obtain ⟨z, j⟩ := p
      intro h
      rw [List.lookup_cons] at h
      split at h
      · rename_i e
        cases h
        have e' : y = z := by simpa using e
        subst e'
        exact List.mem_cons_self
      · exact List.mem_cons_of_mem _ (ih h)
  exact this h
theorem own_get {N : List Str} {sc : Scope} {p : Str × Nat} (h : p ∈ lcOwn N sc) : N[p.2]? = some p.1 := by
  unfold lcOwn at h
  obtain ⟨q, _, hq⟩ := List.mem_filterMap.mp h
  obtain ⟨i, hi, e⟩ := Option.map_eq_some_iff.mp hq
  subst e
  obtain ⟨hl, e, _⟩ := List.idxOf?_eq_some_iff.mp hi
  rw [List.getElem?_eq_getElem hl]
  exact congrArg some (by simpa using e)
theorem tgNames_own {own : List (Str × Nat)} {s1 s2 : Scope} : ∀ {es : List Expr} {is : List Nat}, tgNames own s1 s2 es = some is → ∀ i ∈ is, i ∈ own.map (·.2)
  | [], is, h => by
    cases h
    exact fun i hi => nomatch hi
  | e :: es, is, h => by
    cases e with
    | Name y p =>
      obtain ⟨_, h⟩ := itS (show (if (decide (s1.names.lookup y = some .local) && decide (s2.names.lookup y = some .local)) = true then (own.lookup y).bind _ else none) = some is from h)
      obtain ⟨i, hi, h⟩ := bnd h
      obtain ⟨js, hj, h⟩ := bnd h
      cases h
      intro k hk
      rcases List.mem_cons.mp hk with rfl | hk
      · exact List.mem_map.mpr ⟨_, lookup_in hi, rfl⟩
      · exact tgNames_own hj k hk
    | _ => cases h
theorem tgNames_ok {N : List Str} {own : List (Str × Nat)} {s1 s2 : Scope} {Y : Cx} (hN : Y.N = N) (nd : N.Nodup) (hs : Y.env.scope = s2) (ow : ∀ p ∈ own, N[p.2]? = some p.1) : ∀ {es : List Expr} {is : List Nat}, tgNames own s1 s2 es = some is → PGs Y es (gNames is) ∧ (assignEach es Y.env).length = is.length ∧ (assignEach es Y.env).findIdx? (·.1) = none
  | [], is, h => by
    cases h
    exact ⟨pgs_nil, rfl, rfl⟩
  | e :: es, is, h => by
    cases e with
    | Name y p =>
      obtain ⟨hx, h⟩ := itS (show (if (decide (s1.names.lookup y = some .local) && decide (s2.names.lookup y = some .local)) = true then (own.lookup y).bind _ else none) = some is from h)
      rw [Bool.and_eq_true] at hx
      obtain ⟨i, hi, h⟩ := bnd h
      obtain ⟨js, hj, h⟩ := bnd h
      cases h
      obtain ⟨k1, k2, k3⟩ := tgNames_ok (Y := Y) hN nd hs ow hj
      have hy : Y.env.scope.names.lookup y = some NameKind.local := by
        rw [hs]
        exact of_decide_eq_true hx.2
      have e0 : assignEach (.Name y p :: es) Y.env = (false, assign (.Name y p) Y.env) :: assignEach es Y.env := rfl
      refine ⟨pgs_cons (pg_name (by rw [hN]; exact nd) (by rw [hN]; exact ow _ (lookup_in hi)) (.inl hy) (.inr hy)) k1, ?_, ?_⟩
      · rw [e0, List.length_cons, k2, List.length_cons]
      · rw [e0, List.findIdx?_cons, k3]
        rfl
    | _ => cases h
theorem tg_ok {N : List Str} {own : List (Str × Nat)} {s1 s2 : Scope} {Y : Cx} {g : Tg} {e : Expr} (cm : Y.calm = true) (hN : Y.N = N) (nd : N.Nodup) (hs : Y.env.scope = s2) (ow : ∀ p ∈ own, N[p.2]? = some p.1) (h : tgOf own s1 s2 e = some g) : PG Y e (tgP Y.K g) ∧ ∀ i ∈ g.own, i ∈ own.map (·.2) := by
  cases e with
  | Name y p =>
    obtain ⟨hx, h⟩ := itS (show (if (decide (s1.names.lookup y = some .local) && decide (s2.names.lookup y = some .local)) = true then (own.lookup y).map _ else none) = some g from h)
    rw [Bool.and_eq_true] at hx
    obtain ⟨i, hi, e⟩ := Option.map_eq_some_iff.mp h
    subst e
    have hy : Y.env.scope.names.lookup y = some NameKind.local := by
      rw [hs]
      exact of_decide_eq_true hx.2
    exact ⟨pg_name (by rw [hN]; exact nd) (by rw [hN]; exact ow _ (lookup_in hi)) (.inl hy) (.inr hy), fun j hj => by
      rw [List.mem_singleton.mp hj]
      exact List.mem_map.mpr ⟨_, lookup_in hi, rfl⟩⟩
  | Tuple es k p =>
    obtain ⟨is, hi, e⟩ := Option.map_eq_some_iff.mp (show (tgNames own s1 s2 es).map _ = some g from h)
    subst e
    obtain ⟨k1, k2, k3⟩ := tgNames_ok (Y := Y) hN nd hs ow hi
    exact ⟨⟨fun pins s σ H v u Q I r ⟨a, vs, e1, e2, e3, e4⟩ => (pg_tup cm k1 (n := is.length) k2 k3).run pins s σ H v u Q I r ⟨a, vs, e1, e2, e3, e4⟩⟩, tgNames_own hi⟩
  | _ => cases h
/-- what a comprehension gives: a list of its own -/
def KQL (P : Pa) (H : Hp) (Q : VK) : PyData → Nat → Prop := fun d b => ∀ D zs ds H', d = .list ds → Frm H H' → Bud P b H' → H' D = some (.lst zs) → RpA P.kc H' zs ds → Q (.ref D) H'
def tEvL (P : Pa) (W : WX) (f : FE) : TE := fun σ H Q => ∃ ρ b, Bud P b H ∧ Ren P H σ ρ ∧ T.wp (f ρ) b (KQL P H Q) (KW P H (WE W σ))
theorem tEv_l {f : FE} {σ : St} {H : Hp} {Q : VK} (h : tEv P W f σ H Q) : tEvL P W f σ H Q := by
  obtain ⟨ρ, b, U, R, q⟩ := h
  exact ⟨ρ, b, U, R, T.wp_mono q (fun d c _ k D zs ds H' e F U' hD ra => by
    subst e
    exact k _ H' F U' (.lst (.inl (.inl hD)) ra)) fun _ _ _ e => e⟩
theorem lc_parts (x : XO P Γ X W) (cm : Γ.calm = true) {elt iter tg : Expr} {ifs : List Expr} {scope : Scope} {pos : Pos} {g : Tg} {fi : FI} {ft : FT} {fe : FE}
    (hf : foldOk iter = true) (hb : blkC Γ.N Γ.sc scope (lcOwn Γ.N scope) = true) (nf : ∀ p ∈ lcOwn Γ.N scope, Γ.fz.contains p.1 = false) (hg : tgOf (lcOwn Γ.N scope) scope (relS scope Γ.sc) tg = some g)
    (ei : PI X tg iter (tEvI P W fi)) (et : ∀ (s : Shared) (H : Hp) (C : Addr) (cl : List (Str × Addr)) (fp : List Addr), PTs (X.blk s H scope (compEnvC scope cl C X.env) fp) ifs (tEvT P WF ft)) (ee : ∀ (s : Shared) (H : Hp) (C : Addr) (cl : List (Str × Addr)) (fp : List Addr), PE (X.blk s H scope (compEnvC scope cl C X.env) fp) elt (tEv P WF fe)) :
    ∃ (gT : TG) (tt : TT) (te : TE), (∀ (s : Shared) (H : Hp) (C : Addr) (cl : List (Str × Addr)) (fp : List Addr), PG (X.blk s H scope (compEnvC scope cl C X.env) fp) tg gT) ∧ (∀ (s : Shared) (H : Hp) (C : Addr) (cl : List (Str × Addr)) (fp : List Addr), PTs (X.blk s H scope (compEnvC scope cl C X.env) fp) ifs tt) ∧ (∀ (s : Shared) (H : Hp) (C : Addr) (cl : List (Str × Addr)) (fp : List Addr), PE (X.blk s H scope (compEnvC scope cl C X.env) fp) elt te) ∧
      ∀ σ H Q, tEvL P W (fun ρ => T.bind (fi ρ) fun ds => noRaise (lcR ft fe g (wipeE ρ ((lcOwn Γ.N scope).map (·.2))) ds [])) σ H Q → tLc (tEvI P W fi) gT tt te ((lcOwn Γ.N scope).map (·.2)) σ H Q := by
  have nfz : ∀ j ∈ (lcOwn Γ.N scope).map (·.2), Fre P j := fun j hj => by
    obtain ⟨p, hp, rfl⟩ := List.mem_map.mp hj
    exact fre_of x.toXB (own_get hp) (nf p hp)
  have nd : X.N.Nodup := by
    rw [x.hN]
    exact x.nd
  have hK := x.hK
  have cmX := x.calm cm
  have gk : ∀ (s : Shared) (H : Hp) (C : Addr) (cl : List (Str × Addr)) (fp : List Addr), PG (X.blk s H scope (compEnvC scope cl C X.env) fp) tg (tgP X.K g) ∧ ∀ i ∈ g.own, i ∈ (lcOwn Γ.N scope).map (·.2) := fun s H C cl fp =>
    tg_ok (Y := X.blk s H scope (compEnvC scope cl C X.env) fp) cmX x.hN x.nd (show relS scope X.env.scope = relS scope Γ.sc by rw [x.hsc]) (fun p hp => own_get hp) hg
  have gown : ∀ i ∈ g.own, i ∈ (lcOwn Γ.N scope).map (·.2) := (gk X.s_0 X.H_0 0 [] []).2
  refine ⟨tgP X.K g, tEvT P WF ft, _, fun s H C cl fp => (gk s H C cl fp).1, et, fun s H C cl fp => pe_hid (ee s H C cl fp), fun σ H Q q => ?_⟩
  obtain ⟨ρ, b, U, R, q⟩ := q
  refine ⟨ρ, b, U, R, ?_⟩
  refine T.wp_mono (T.wp_bind.mp q) (fun ds b1 _ q1 J H1 F1 U1 itd => ?_) fun _ _ _ e => e
  have q2 := noRaise_wp q1
  intro D hD
  have R1 := (R.frm F1).wiped nfz
  refine ⟨fun t m H2 => m = ds.length - t ∧ t ≤ ds.length ∧ ∃ (acc : List V) (accD : List PyData) (b2 : Nat), Frm H1 H2 ∧ Bud P b2 H2 ∧ H2 D = some (.lst acc) ∧ RpA P.kc (hx D H2) acc accD ∧ T.wp (lcR ft fe g (wipeE ρ ((lcOwn Γ.N scope).map (·.2))) (ds.drop t) accD) b2 (KQL P H Q) (fun _ _ => False),
    ⟨ds.length, by simp, Nat.zero_le _, [], [], b1, Frm.new hD, U1.new hD nd_lst, upd_same, .nil, q2⟩, ?_⟩
  rintro t m H2 ⟨rfl, hle, acc, accD, b2, F2, U2, hDl, ra, w⟩
  by_cases hlt : t < ds.length
  · refine .inr ⟨itd.go t H2 F2.w hlt, fun H' => t + 1 ≤ ds.length ∧ ∃ (acc : List V) (accD : List PyData) (b2 : Nat), Frm H1 H' ∧ Bud P b2 H' ∧ H' D = some (.lst acc) ∧ RpA P.kc (hx D H') acc accD ∧ T.wp (lcR ft fe g (wipeE ρ ((lcOwn Γ.N scope).map (·.2))) (ds.drop (t + 1)) accD) b2 (KQL P H Q) (fun _ _ => False),
      fun H' h => ⟨ds.length - (t + 1), by omega, rfl, h⟩, fun v H3 hy => ?_⟩
    obtain ⟨F3, U3, r3⟩ := itd.yld t H2 v H3 F2.w hy ds[t] (by simp [hlt])
    rw [List.drop_eq_getElem_cons hlt] at w
    have F13 := F2.trans F3
    cases hput : g.put ds[t] (wipeE ρ ((lcOwn Γ.N scope).map (·.2))) with
    | none =>
      unfold lcR at w
      rw [hput] at w
      exact w.elim
    | some ρ1 =>
    unfold lcR at w
    rw [hput] at w
    have rx := itd.hid t H2 v H3 F2.w hy ds[t] (by simp [hlt]) D (.ext fun _ => True) hD (by rw [hDl]; exact fun z => nomatch z)
    refine tg_run hK gown nfz rx hput fun σ2 hw RR => ⟨hw, ?_⟩
    have R3 := RR H3 (R1.frm F13) frw_back
    refine stepT (U3 _ U2) R3 (show T.wp (T.bind (ft _) _) b2 _ _ from w) (fun _ _ e => e.elim) fun k b3 H4 F4 U4 R4 w4 => ?_
    have F14 := F13.trans F4
    cases k with
    | false =>
      rw [if_neg Bool.false_ne_true] at w4 ⊢
      exact ⟨hlt, acc, accD, b3, F14, U4, (F3.trans F4).lst hDl, ra.frw (frw_ext (F3.trans F4)), w4⟩
    | true =>
      rw [if_pos rfl] at w4 ⊢
      have hD4 := (F3.trans F4).lst hDl
      refine ⟨D, acc, hD4, fun its n nc => ?_⟩
      have Rh : Ren P (upd H4 D (hidO D (lob its n))) σ2 ρ1 := RR _ (R1.frm (grow_frm F14 hD)) (frw_ext F4)
      refine stepE (grow_budH U1 F14 hD U4 hD4) Rh w4 (fun _ _ e => e.elim) fun d b5 u H5 F5 U5 r5 R5 w5 => ?_
      have F15 := (grow_frm (o := hidO D (lob its n)) F14 hD).trans F5
      have hD5 : H5 D = some (hidO D (lob its n)) := F5.ext upd_same
      obtain ⟨h2, w5⟩ := ite_wp w5
      have hlen : acc.length < big := by
        rw [ra.length]
        exact h2
      refine ⟨hD5, acc, upd_same, by rw [sizeLine_eq]; unfold big at hlen; omega, hlt, acc ++ [u], accD ++ [d], b5, ?_, ?_, upd_same, ?_, w5⟩
      · rw [upd_upd]
        exact grow_frm F15 hD
      · rw [upd_upd]
        exact grow_budE U1 F15 hD U5 hD5 nc nd_lst (fun ps z => nomatch z)
      · unfold hx
        rw [upd_upd, upd_upd]
        exact (((ra.frw (frw_ext (F3.trans F4))).frw F5.w).frw (frw_at hD5)).append (.cons (r5.frw (frw_at hD5)) .nil)
  · refine .inl ⟨itd.stop t H2 F2.w (by omega), ?_⟩
    rw [List.drop_eq_nil_of_le (by omega)] at w
    exact (show KQL P H Q (.list accD) b2 from w) D acc accD H2 rfl (F1.trans F2) U2 hDl (ra.frw frw_back)
theorem s_lc (x : XO P Γ X W) (cm : Γ.calm = true) {elt iter tg : Expr} {ifs : List Expr} {scope : Scope} {pos : Pos} {g : Tg} {fi : FI} {ft : FT} {fe : FE}
    (hf : foldOk iter = true) (hb : blkC Γ.N Γ.sc scope (lcOwn Γ.N scope) = true) (nf : ∀ p ∈ lcOwn Γ.N scope, Γ.fz.contains p.1 = false) (hg : tgOf (lcOwn Γ.N scope) scope (relS scope Γ.sc) tg = some g)
    (ei : PI X tg iter (tEvI P W fi)) (et : ∀ (s : Shared) (H : Hp) (C : Addr) (cl : List (Str × Addr)) (fp : List Addr), PTs (X.blk s H scope (compEnvC scope cl C X.env) fp) ifs (tEvT P WF ft)) (ee : ∀ (s : Shared) (H : Hp) (C : Addr) (cl : List (Str × Addr)) (fp : List Addr), PE (X.blk s H scope (compEnvC scope cl C X.env) fp) elt (tEv P WF fe)) :
    PE X (.ListComp elt [⟨tg, iter, ifs, 0⟩] scope pos) (tEv P W fun ρ => T.bind (fi ρ) fun ds => noRaise (lcR ft fe g (wipeE ρ ((lcOwn Γ.N scope).map (·.2))) ds [])) := by
  obtain ⟨gT, tt, te, h1, h2, h3, h4⟩ := lc_parts (pos := pos) x cm hf hb nf hg ei et ee
  exact impE (pe_lc (x.calm cm) (by rw [x.hN]; exact x.nd) ei (blkOk_by (by rw [x.hN, x.hsc]; exact hb)) h1 h2 h3 (fold_ok hf)) fun σ H Q q => h4 σ H Q (tEv_l q)
/-- .. a list of its own -/
theorem s_lcL (x : XO P Γ X W) (cm : Γ.calm = true) {elt iter tg : Expr} {ifs : List Expr} {scope : Scope} {pos : Pos} {g : Tg} {fi : FI} {ft : FT} {fe : FE}
    (hf : foldOk iter = true) (hb : blkC Γ.N Γ.sc scope (lcOwn Γ.N scope) = true) (nf : ∀ p ∈ lcOwn Γ.N scope, Γ.fz.contains p.1 = false) (hg : tgOf (lcOwn Γ.N scope) scope (relS scope Γ.sc) tg = some g)
    (ei : PI X tg iter (tEvI P W fi)) (et : ∀ (s : Shared) (H : Hp) (C : Addr) (cl : List (Str × Addr)) (fp : List Addr), PTs (X.blk s H scope (compEnvC scope cl C X.env) fp) ifs (tEvT P WF ft)) (ee : ∀ (s : Shared) (H : Hp) (C : Addr) (cl : List (Str × Addr)) (fp : List Addr), PE (X.blk s H scope (compEnvC scope cl C X.env) fp) elt (tEv P WF fe)) :
    PE X (.ListComp elt [⟨tg, iter, ifs, 0⟩] scope pos) (tEvL P W fun ρ => T.bind (fi ρ) fun ds => noRaise (lcR ft fe g (wipeE ρ ((lcOwn Γ.N scope).map (·.2))) ds [])) := by
  obtain ⟨gT, tt, te, h1, h2, h3, h4⟩ := lc_parts (pos := pos) x cm hf hb nf hg ei et ee
  exact impE (pe_lc (x.calm cm) (by rw [x.hN]; exact x.nd) ei (blkOk_by (by rw [x.hN, x.hsc]; exact hb)) h1 h2 h3 (fold_ok hf)) h4
/-- the same, stored under a plain name -/
theorem s_lcSet (x : XO P Γ X W) (cm : Γ.calm = true) {elt iter tg : Expr} {ifs : List Expr} {scope : Scope} {pos : Pos} {g : Tg} {fi : FI} {ft : FT} {fe : FE}
    (hf : foldOk iter = true) (hb : blkC Γ.N Γ.sc scope (lcOwn Γ.N scope) = true) (nf : ∀ p ∈ lcOwn Γ.N scope, Γ.fz.contains p.1 = false) (hg : tgOf (lcOwn Γ.N scope) scope (relS scope Γ.sc) tg = some g)
    (ei : PI X tg iter (tEvI P W fi)) (et : ∀ (s : Shared) (H : Hp) (C : Addr) (cl : List (Str × Addr)) (fp : List Addr), PTs (X.blk s H scope (compEnvC scope cl C X.env) fp) ifs (tEvT P WF ft)) (ee : ∀ (s : Shared) (H : Hp) (C : Addr) (cl : List (Str × Addr)) (fp : List Addr), PE (X.blk s H scope (compEnvC scope cl C X.env) fp) elt (tEv P WF fe))
    {i : Nat} {y : Str} {py spos : Pos} (hy : X.N[i]? = some y) (hyl : X.env.scope.names.lookup y = some .local) (hsw : swapsWith (.ListComp elt [⟨tg, iter, ifs, 0⟩] scope pos) (some (.Name y py)) spos.line X.env = pure true) :
    ∃ t : TE, PS X (.Assign [.Name y py] (.ListComp elt [⟨tg, iter, ifs, 0⟩] scope pos) spos) (tAsg t (gName i)) ∧ ∀ σ H Q, tEv P W (fun ρ => T.bind (fi ρ) fun ds => noRaise (lcR ft fe g (wipeE ρ ((lcOwn Γ.N scope).map (·.2))) ds [])) σ H Q → t σ H Q := by
  obtain ⟨gT, tt, te, h1, h2, h3, h4⟩ := lc_parts (pos := pos) x cm hf hb nf hg ei et ee
  exact ⟨_, ps_setLc (x.calm cm) (by rw [x.hN]; exact x.nd) hy hyl hsw ei (blkOk_by (by rw [x.hN, x.hsc]; exact hb)) h1 h2 h3 (fold_ok hf), fun σ H Q q => h4 σ H Q (tEv_l q)⟩
/-- the surroundings of the block -/
theorem blk_xo (x : XO P Γ X W) (cm : Γ.calm = true) (lc : Γ.lcOk = true) {scope : Scope} (s : Shared) (H : Hp) (C : Addr) (cl : List (Str × Addr)) (fp : List Addr) : XO P (blkGa Γ scope) (X.blk s H scope (compEnvC scope cl C X.env) fp) WF := by
  refine XB.up { hK := x.hK, hN := x.hN, hsc := ?_, nd := x.nd, calm := (fun _ => x.calm cm), fz := x.fz, pl := x.pl, pn := x.pn, hpl := x.hpl, plfz := x.plfz, u := x.u, con := x.con, fns := fun y i hi => ?_, blt := x.blt, grd := x.grd, ek := .inl rfl, kw := (fun _ _ _ _ h => nomatch h), fnB := (fun z => nomatch z), gx := (fun z => nomatch z), exA := (fun _ _ h => nomatch h), exI := (fun _ _ h => nomatch h), thk := (fun _ _ h => nomatch h) } rfl
  · show relS scope X.env.scope = relS scope Γ.sc
    rw [x.hsc]
  · obtain ⟨f, k1, k2, k3⟩ := x.fnB lc y i hi
    exact ⟨f, k1, k2, fun pins σ H1 s1 Q us vs I r h => k3 scope s H _ fp pins σ H1 s1 Q us vs I r h⟩
end
end Pv

-- Pq7
set_option Elab.async false
set_option linter.all false
set_option maxRecDepth 100000
set_option maxHeartbeats 8000000
namespace Pv
open PySem PySem.Spec L2
/-! ## all(e for x in xs), any(e for x in xs): over data -/
theorem gnArg_inv {es : List Expr} {q : Expr × Str × Pos × Expr × Scope} (h : gnArg es = some q) : ∃ gpos, es = [.GeneratorExp q.1 [⟨.Name q.2.1 q.2.2.1, q.2.2.2.1, [], 0⟩] q.2.2.2.2 gpos] := by
  unfold gnArg at h
  split at h
  · cases h
    exact ⟨_, rfl⟩
  · cases h
theorem gnS_by {N : List Str} {sc scope : Scope} (h : gnOk N sc scope = true) : GnS N sc scope (lcOwn N scope) := by
  unfold gnOk at h
  simp only [Bool.and_eq_true, decide_eq_true_eq] at h
  obtain ⟨⟨⟨⟨h1, h2⟩, h3⟩, h4⟩, h5⟩ := h
  refine ⟨h1, by simpa using h2, fun y hy => by simpa using List.all_eq_true.mp h3 y hy, h4, fun p hp => own_get hp, fun y hl hN => ?_, fun y hy hf => ?_⟩
  · obtain ⟨i, hi⟩ : ∃ i, N.idxOf? y = some i := by
      cases e : N.idxOf? y with
      | none => exact absurd hN (by rw [List.idxOf?_eq_none_iff] at e; exact e)
      | some i => exact ⟨i, rfl⟩
    refine List.mem_map.mpr ⟨(y, i), List.mem_filterMap.mpr ⟨(y, .local), List.mem_filter.mpr ⟨PySem.mem_of_lookup hl, rfl⟩, by rw [hi]; rfl⟩, rfl⟩
  · have := List.all_eq_true.mp h5 y hy
    simpa [hf] using this
theorem gnFold_ok {e : Expr} {env : Env} (h : gnFoldOk e = true) : ∀ v, PySem.genFold e env v = pure v := by
  intro x
  cases e <;> first | rfl | simp [gnFoldOk, foldOk] at h
section
variable {P : Pa} {Γ : Ga} {X : Cx} {W : WX}
theorem gn_xo (x : XO P Γ X W) (g : Γ.gx = true) {scope : Scope} (code : Value) (s : Shared) (H : Hp) (ex : List Addr) : XO P (gnGa Γ scope) (gnCx X scope code s H ex) WF := by
  obtain ⟨co, tb, _, _, _, _, _, _, un, fn⟩ := x.gx g
  refine XB.up { hK := x.hK, hN := x.hN, hsc := rfl, nd := x.nd, calm := (fun _ => rfl), fz := x.fz, pl := x.pl, pn := x.pn, hpl := x.hpl, plfz := x.plfz, u := ?_, con := x.con, fns := fun y i hi => ?_, blt := x.blt, grd := (fun z => nomatch z), ek := .inl rfl, kw := (fun _ _ _ _ h => nomatch h), fnB := (fun z => nomatch z), gx := (fun z => nomatch z), exA := (fun _ _ h => nomatch h), exI := (fun _ _ h => nomatch h), thk := (fun _ _ h => nomatch h) } rfl
  · show X.A.units + 1 + 1 + 3 + 70 < cLine
    omega
  · obtain ⟨f, k1, k2, k3⟩ := fn y i hi
    exact ⟨f, k1, k2, fun pins σ H1 s1 Q us vs I r h => k3 scope code s H ex pins σ H1 s1 Q us vs I r h⟩
/-- the turns, over the heap -/
theorem gn_turns {stop : Bool} {fe : FE} {ix : Nat} {own : List Nat} {J : It} {H H1 H2 : Hp} {σ : St} {ρ : En} {b2 : Nat} {ds : List PyData} {Q : VK} (itd : ItD P J H1 ds) (F2 : Frm H H1) (F12 : Frm H1 H2) (U2 : Bud P b2 H2) (R : Ren P H2 (wipe σ own) (wipeE ρ own)) (nfz : Fre P ix)
    (w : T.wp (gnR stop fe ix (wipeE ρ own) ds) b2 (KQ P H Q) (fun _ _ => False)) :
    ∃ (len : Nat) (Wf : Nat → Hp → Prop), Wf 0 H2 ∧ GTurns J len stop (tEv P WF fe) (fun v => (wipe σ own).set ix (some v)) (fun H' => Q (.bl stop) H') (fun H' => Q (.bl (!stop)) H') Wf := by
  refine ⟨ds.length, fun i H' => i ≤ ds.length ∧ ∃ b3, Frm H1 H' ∧ Bud P b3 H' ∧ Ren P H' (wipe σ own) (wipeE ρ own) ∧ T.wp (gnR stop fe ix (wipeE ρ own) (ds.drop i)) b3 (KQ P H Q) (fun _ _ => False), ⟨Nat.zero_le _, b2, F12, U2, R, by simpa using w⟩, ?_⟩
  rintro i H' ⟨hle, b3, F3, U3, R3, w3⟩
  by_cases hlt : i < ds.length
  · refine .inr ⟨hlt, itd.go i H' F3.w hlt, fun v H4 hy => ?_⟩
    obtain ⟨F4, U4, r4⟩ := itd.yld i H' v H4 F3.w hy ds[i] (by simp [hlt])
    rw [List.drop_eq_getElem_cons hlt] at w3
    unfold gnR at w3
    have R4 := (R3.frm F4).set nfz r4
    refine stepE (U4 _ U3) R4 w3 (fun _ _ e => e.elim) fun d b5 u H5 F5 U5 r5 R5 w5 => ?_
    cases d with
    | bool k =>
      cases r5
      have w5 : T.wp (if k = stop then T.ret (.bool stop) else gnR stop fe ix (wipeE ρ own) (ds.drop (i + 1))) b5 (KQ P H Q) (fun _ _ => False) := w5
      refine ⟨k, rfl, fun e => ?_, fun e => ?_⟩
      · rw [if_pos e] at w5
        exact (show KQ P H Q (.bool stop) b5 from w5) _ H5 (F2.trans (F3.trans (F4.trans F5))) U5 (.bl _)
      · rw [if_neg (by rw [e]; cases stop <;> decide)] at w5
        exact ⟨hlt, b5, F3.trans (F4.trans F5), U5, R3.frm (F4.trans F5), w5⟩
    | _ => exact w5.elim
  · refine .inl ⟨itd.stop i H' F3.w (by omega), ?_⟩
    rw [List.drop_eq_nil_of_le (by omega)] at w3
    exact (show KQ P H Q (.bool (!stop)) b3 from w3) _ H' (F2.trans F3) U3 (.bl _)
theorem s_gn (x : XO P Γ X W) {f nm : Str} {elt iter : Expr} {px p pos gpos : Pos} {scope : Scope} {ix : Nat} {fi : FI} {fe : FE} (hg : glob Γ f = true) (hf : f = "all" ∨ f = "any") (gx : Γ.gx = true) (hfo : gnFoldOk iter = true) (ho : gnOk Γ.N Γ.sc scope = true)
    (nf : ∀ p ∈ lcOwn Γ.N scope, Γ.fz.contains p.1 = false) (hxl : scope.names.lookup nm = some .local) (hix : (lcOwn Γ.N scope).lookup nm = some ix) (ei : PI X (.Name nm px) iter (tEvI P W fi))
    (ee : ∀ (code : Value) (s : Shared) (H : Hp) (ex : List Addr), PE (gnCx X scope code s H ex) elt (tEv P WF fe)) :
    PE X (.Call (.Name f p) [.GeneratorExp elt [⟨.Name nm px, iter, [], 0⟩] scope gpos] [] pos) (tEv P W fun ρ => T.bind (fi ρ) fun ds => noRaise (gnR (decide (f = "any")) fe ix (wipeE ρ ((lcOwn Γ.N scope).map (·.2))) ds)) := by
  have gl : Gl X f := (glob_of x hg).1
  have nfz : ∀ j ∈ (lcOwn Γ.N scope).map (·.2), Fre P j := fun j hj => by
    obtain ⟨p, hp, rfl⟩ := List.mem_map.mp hj
    exact fre_of x.toXB (own_get hp) (nf p hp)
  have nd : X.N.Nodup := by
    rw [x.hN]
    exact x.nd
  have S : GnS X.N X.env.scope scope (lcOwn Γ.N scope) := by
    rw [x.hN, x.hsc]
    exact gnS_by ho
  have hxo := lookup_in hix
  obtain ⟨co, tb, B, hco, hin, one, hr, hdp, _, _⟩ := x.gx gx
  have main : ∀ (stop : Bool) (σ : St) (H : Hp) (Q : VK), tEv P W (fun ρ => T.bind (fi ρ) fun ds => noRaise (gnR stop fe ix (wipeE ρ ((lcOwn Γ.N scope).map (·.2))) ds)) σ H Q → tGen P.Tb tb (X.env.qual ++ "<genexpr>") stop (tEvI P W fi) (tEv P WF fe) ix ((lcOwn Γ.N scope).map (·.2)) σ H Q := by
    intro stop σ H Q q
    obtain ⟨ρ, b, U, R, q⟩ := q
    refine ⟨ρ, b, U, R, ?_⟩
    refine T.wp_mono (T.wp_bind.mp q) (fun ds b1 _ q1 J H1 F1 U1 itd => ?_) fun _ _ _ e => e
    refine ⟨U1.2.1, fun cn H2 om hT => ?_⟩
    exact gn_turns itd F1 om.frm (om.bud U1 hT) (((R.frm F1).frm om.frm).wiped nfz) (nfz ix (List.mem_map.mpr ⟨_, hxo, rfl⟩)) (noRaise_wp q1)
  rcases hf with rfl | rfl
  · exact impE (pe_allG gl (x.blt _ (by decide)) hr hdp B hco hin one nd S hxo hxl ei ee (gnFold_ok hfo)) fun σ H Q q => main false σ H Q q
  · exact impE (pe_anyG gl (x.blt _ (by decide)) hr hdp B hco hin one nd S hxo hxl ei ee (gnFold_ok hfo)) fun σ H Q q => main true σ H Q q
end
end Pv

-- Pv6d
set_option Elab.async false
set_option linter.all false
set_option maxRecDepth 100000
set_option maxHeartbeats 8000000
namespace Pv
open PySem L2
theorem star_noall {env : Env} {pos : Pos} {es : List Expr} (h : es.all (fun e => !isStar e) = true) : (backTo pos (starEach es env)).all (fun x => !x.1) = true := by
  have k := star_any (env := env) (pos := pos) h
  rw [List.any_eq_false] at k
  rw [List.all_eq_true]
  intro x hx
  have := k x hx
  simpa using this
section
variable {X : Cx} {o : Expr} {es : List Expr} {to : TE} {t : TA}
/-- a text's method -/
theorem pe_mN {id : String} {name : Str} {ap p : Pos} {r : V → List V → Hp → VK → Prop} (slot : Slot "str" name id) (ty : typeOf (.builtin id) = pure (.type "method_descriptor")) (rule : MtR X id r) (ho : PE X o to) (ha : PA X es t)
    (ne : es ≠ []) (hs : es.all (fun e => !isStar e) = true) (hn : es.length < 20) (hb : attributeBase o name X.env (eval o X.env) = eval o X.env) (hl : (ap.endLine == p.line) = true) :
    PE X (.Call (.Attribute o name ap) es [] p) (fun σ H Q => to σ H fun x H1 => (∃ a, x = .str a) ∧ t σ H1 fun ys H2 => r x ys H2 Q) := by
  refine ⟨fun pins s σ H Q I h => ?_⟩
  refine wpAny_Call_method_late hb ?_ hl rfl (thn (ho.run pins s σ H _ I h) fun v s1 ⟨x, H1, I1, r1, q1⟩ => ?_)
  · rw [star_noall hs]
    simp [backToKw, keywordEach]
    omega
  obtain ⟨⟨a, rfl⟩, q1⟩ := q1
  obtain ⟨tk, rfl⟩ := _root_.id r1
  refine ⟨"str", _, F.plainAttrs_str, slot, ty, typeIs_str _ _ _, (fun _ e => nomatch e), Calls.callWith_builtin (by show (false || (backTo p (starEach es X.env)).any (·.1)) = false; rw [star_any hs] <;> rfl) ?_⟩
  have hA := ha.run p pins s1 σ H1 _ I1 q1
  cases es with
  | nil => exact absurd rfl ne
  | cons e r =>
    rw [List.all_cons, Bool.and_eq_true] at hs
    rw [star_cons (by simpa using hs.1)] at hA ⊢
    exact Calls.evalArgs_plain (thn hA fun us s2 ⟨ys, H2, I2, r2, q2⟩ => rule pins s2 σ H2 _ ys _ us Q I2 r1 r2 q2)
end
section
variable {P : Pa} {Γ : Ga} {X : Cx} {W : WX}
theorem s_mG (x : XO P Γ X W) {m : Str} {id : String} {g : Str → List PyData → T PyData} {r : V → List V → Hp → VK → Prop} {o : Expr} {es : List Expr} {ap p : Pos} {fo : FE} {fs : FA} (slot : Slot "str" m id) (ty : typeOf (.builtin id) = pure (.type "method_descriptor")) (rule : MtR X id r)
    (hr : ∀ (y : Str) (ds : List PyData) (vs : List V) (b : Nat) (H : Hp) (Q : VK), Bud P b H → RpA P.kc H vs ds → T.wp (g y ds) b (KQ P H Q) (fun _ _ => True) → r (.str y) vs H Q) (hb : baseOk o = true) (ne : es ≠ []) (hs : es.all (fun e => !isStar e) = true) (hn : es.length < 20) (hl : (ap.endLine == p.line) = true) (ho : PE X o (tEv P W fo)) (ha : PA X es (tEvA P W fs)) :
    PE X (.Call (.Attribute o m ap) es [] p) (tEv P W fun ρ => T.bind (fo ρ) fun x => T.bind (asS x) fun z => T.bind (fs ρ) fun ds => g z ds) := by
  refine impE (pe_mN slot ty rule ho ha ne hs hn (base_ok hb) hl) fun σ H Q q => ?_
  obtain ⟨ρ, b, U, R, q⟩ := q
  refine stepE U R q (fun _ _ e => e) fun d b1 v H1 F1 U1 r1 R1 q1 => ?_
  cases r1 with
  | str y =>
    refine ⟨⟨y, rfl⟩, ?_⟩
    exact stepA U1 R1 q1 (fun _ _ e => e.frm F1) fun ds b2 vs H2 F2 U2 r2 R2 q2 => hr y ds vs b2 H2 Q U2 r2 (noErr (carry (F1.trans F2) q2))
  | _ => exact q1.elim
theorem s_mG0 {m : Str} {id : String} {g : Str → List PyData → T PyData} {r : V → List V → Hp → VK → Prop} {o : Expr} {ap p : Pos} {fo : FE} {fs : FA} (slot : Slot "str" m id) (ty : typeOf (.builtin id) = pure (.type "method_descriptor")) (rule : MtR X id r)
    (hr : ∀ (y : Str) (b : Nat) (H : Hp) (Q : VK), Bud P b H → T.wp (g y []) b (KQ P H Q) (fun _ _ => True) → r (.str y) [] H Q) (hb : baseOk o = true) (hl : (ap.endLine == p.line) = true) (ho : PE X o (tEv P W fo)) (hf : fs = fun _ => .ret []) :
    PE X (.Call (.Attribute o m ap) [] [] p) (tEv P W fun ρ => T.bind (fo ρ) fun x => T.bind (asS x) fun z => T.bind (fs ρ) fun ds => g z ds) := by
  subst hf
  refine impE (pe_m0 slot ty rule ho (base_ok hb) hl) fun σ H Q q => ?_
  obtain ⟨ρ, b, U, R, q⟩ := q
  refine stepE U R q (fun _ _ e => e) fun d b1 v H1 F1 U1 r1 R1 q1 => ?_
  cases r1 with
  | str y => exact ⟨⟨y, rfl⟩, hr y b1 H1 Q U1 (noErr (carry F1 (show T.wp (g y []) b1 _ _ from q1)))⟩
  | _ => exact q1.elim
theorem txts_rp {Z : Kc} {H : Hp} : ∀ {ds : List PyData} {ys : List Str} {vs : List V}, txtsD ds = some ys → RpA Z H vs ds → vs = ys.map V.str
  | [], ys, vs, h, r => by
    cases h
    cases r
    rfl
  | d :: ds, ys, vs, h, r => by
    cases d with
    | str a =>
      obtain ⟨zs, hz, e⟩ := Option.map_eq_some_iff.mp (show (txtsD ds).map _ = some ys from h)
      subst e
      cases r with
      | cons r1 r2 =>
        cases r1
        rw [txts_rp hz r2]
        rfl
    | _ => cases h
theorem rp_txts {Z : Kc} {H : Hp} : ∀ {ys : List Str}, RpA Z H (ys.map V.str) (ys.map PyData.str)
  | [] => .nil
  | y :: ys => .cons (.str y) rp_txts
theorem s_mthG (x : XO P Γ X W) {m : Str} {f : Str → List PyData → T PyData} {o : Expr} {es : List Expr} {ap p : Pos} {fo : FE} {fs : FA} (hm : mthSG m es.length = some f) (hb : baseOk o = true) (hs : es.all (fun e => !isStar e) = true) (hn : es.length < 20) (hl : (ap.endLine == p.line) = true) (ho : PE X o (tEv P W fo)) (ha : PA X es (tEvA P W fs)) (h0 : es = [] → fs = fun _ => .ret []) :
    PE X (.Call (.Attribute o m ap) es [] p) (tEv P W fun ρ => T.bind (fo ρ) fun x => T.bind (asS x) fun z => T.bind (fs ρ) fun ds => f z ds) := by
  have ne : es.length ≠ 0 → es ≠ [] := fun h z => h (by rw [z]; rfl)
  unfold mthSG at hm
  split at hm
  · rename_i e; cases hm; obtain ⟨rfl, e⟩ := e
    refine s_mG x PySem.F.slot_str_startswith PySem.F.type_str_startswith mt_startswith (fun y ds vs b H Q U r q => ?_) hb (ne (by omega)) hs hn hl ho ha
    try dsimp only at q
    split at q
    · cases r with
      | cons r1 r2 => cases r1; cases r2; exact ⟨_, _, rfl, rfl, KQ.bl q U⟩
    · exact q.elim
  split at hm
  · rename_i e; cases hm; obtain ⟨rfl, e⟩ := e
    refine s_mG x PySem.F.slot_str_startswith PySem.F.type_str_startswith mt_startswith3 (fun y ds vs b H Q U r q => ?_) hb (ne (by omega)) hs hn hl ho ha
    try dsimp only at q
    split at q
    · cases r with
      | cons r1 r2 => cases r1; cases r2 with
        | cons r3 r4 => cases r3; cases r4; exact ⟨_, _, _, rfl, rfl, KQ.bl q U⟩
    · exact q.elim
  split at hm
  · rename_i e; cases hm; obtain ⟨rfl, e⟩ := e
    refine s_mG x PySem.F.slot_str_endswith PySem.F.type_str_endswith mt_endswith (fun y ds vs b H Q U r q => ?_) hb (ne (by omega)) hs hn hl ho ha
    try dsimp only at q
    split at q
    · cases r with
      | cons r1 r2 => cases r1; cases r2; exact ⟨_, _, rfl, rfl, KQ.bl q U⟩
    · exact q.elim
  split at hm
  · rename_i e; cases hm; obtain ⟨rfl, e⟩ := e
    refine s_mG x PySem.F.slot_str_find PySem.F.type_str_find mt_find (fun y ds vs b H Q U r q => ?_) hb (ne (by omega)) hs hn hl ho ha
    try dsimp only at q
    split at q
    · cases r with
      | cons r1 r2 => cases r1; cases r2; exact ⟨_, _, rfl, rfl, KQ.int q U⟩
    · exact q.elim
  split at hm
  · rename_i e; cases hm; obtain ⟨rfl, e⟩ := e
    refine s_mG x PySem.F.slot_str_find PySem.F.type_str_find mt_find3 (fun y ds vs b H Q U r q => ?_) hb (ne (by omega)) hs hn hl ho ha
    try dsimp only at q
    split at q
    · cases r with
      | cons r1 r2 => cases r1; cases r2 with
        | cons r3 r4 => cases r3; cases r4; exact ⟨_, _, _, rfl, rfl, KQ.int q U⟩
    · exact q.elim
  split at hm
  · rename_i e; cases hm; obtain ⟨rfl, e⟩ := e
    refine s_mG x PySem.F.slot_str_count PySem.F.type_str_count mt_count (fun y ds vs b H Q U r q => ?_) hb (ne (by omega)) hs hn hl ho ha
    try dsimp only at q
    split at q
    · cases r with
      | cons r1 r2 => cases r1; cases r2; exact ⟨_, _, rfl, rfl, KQ.int q U⟩
    · exact q.elim
  split at hm
  · rename_i e; cases hm; obtain ⟨rfl, e⟩ := e
    obtain rfl := List.length_eq_zero_iff.mp e
    refine s_mG0 PySem.F.slot_str_upper PySem.F.type_str_upper mt_upper (fun y b H Q U q => ?_) hb hl ho (h0 rfl)
    obtain ⟨hz, q⟩ := ite_wp q
    exact ⟨_, rfl, rfl, hz, KQ.str q U⟩
  split at hm
  · rename_i e; cases hm; obtain ⟨rfl, e⟩ := e
    obtain rfl := List.length_eq_zero_iff.mp e
    refine s_mG0 PySem.F.slot_str_lower PySem.F.type_str_lower mt_lower (fun y b H Q U q => ?_) hb hl ho (h0 rfl)
    obtain ⟨hz, q⟩ := ite_wp q
    exact ⟨_, rfl, rfl, hz, KQ.str q U⟩
  split at hm
  · rename_i e; cases hm; obtain ⟨rfl, e⟩ := e
    refine s_mG x PySem.F.slot_str_split PySem.F.type_str_split mt_split (fun y ds vs b H Q U r q => ?_) hb (ne (by omega)) hs hn hl ho ha
    try dsimp only at q
    split at q
    · cases r with
      | cons r1 r2 =>
        cases r1; cases r2
        obtain ⟨hz, q⟩ := ite_wp q
        exact ⟨_, _, rfl, rfl, hz.1, big_line hz.2, fun p hp => KQ.laidL q U hp rp_txts⟩
    · exact q.elim
  split at hm
  · rename_i e; cases hm; obtain ⟨rfl, e⟩ := e
    refine s_mG x PySem.F.slot_str_join PySem.F.type_str_join mt_join (fun y ds vs b H Q U r q => ?_) hb (ne (by omega)) hs hn hl ho ha
    try dsimp only at q
    split at q
    · cases r with
      | cons r1 r2 =>
        cases r2
        cases r1 with
        | lst h1 rr =>
          unfold joinS at q
          split at q
          · rename_i ys hy
            obtain ⟨hz, q⟩ := ite_wp q
            have e := txts_rp hy rr
            subst e
            exact ⟨_, _, ys, rfl, rfl, .inl (by rw [← x.hK]; exact h1), hz, KQ.str q U⟩
          · exact q.elim
    · cases r with
      | cons r1 r2 =>
        cases r2
        cases r1 with
        | tup h1 rr =>
          unfold joinS at q
          split at q
          · rename_i ys hy
            obtain ⟨hz, q⟩ := ite_wp q
            have e := txts_rp hy rr
            subst e
            exact ⟨_, _, ys, rfl, rfl, .inr (by rw [← x.hK]; exact h1), hz, KQ.str q U⟩
          · exact q.elim
    · exact q.elim
  · cases hm
def tNames (cs : List Str) : TA := fun _ H Q => Q (cs.map fun c => V.ty (tyName c)) H
theorem isi_key (x : XO P Γ X W) {c : Str} (hi : c ∈ isiNames) : bootBuiltins c = some (.type (tyName c)) ∧ X.mg c = none ∧ c ≠ "__name__" := by
  simp only [isiNames, List.mem_cons, List.not_mem_nil, or_false] at hi
  rcases hi with rfl | rfl | rfl | rfl | rfl | rfl
  · exact ⟨by decide +kernel, x.blt _ (by decide), by decide⟩
  · exact ⟨by decide +kernel, x.blt _ (by decide), by decide⟩
  · exact ⟨by decide +kernel, x.blt _ (by decide), by decide⟩
  · exact ⟨by decide +kernel, x.blt _ (by decide), by decide⟩
  · exact ⟨by decide +kernel, x.blt _ (by decide), by decide⟩
  · exact ⟨by decide +kernel, x.blt _ (by decide), by decide⟩
theorem pa_names (x : XO P Γ X W) : ∀ {es : List Expr} {cs : List Str}, namesE es = some cs → (∀ c ∈ cs, glob Γ c = true ∧ c ∈ isiNames) → PA X es (tNames cs)
  | [], cs, h, _ => by
    cases h
    exact pa_nil
  | e :: es, cs, h, k => by
    cases e with
    | Name c p =>
      obtain ⟨cs', h', e⟩ := Option.map_eq_some_iff.mp (show (namesE es).map _ = some cs from h)
      subst e
      obtain ⟨k1, k2⟩ := k c List.mem_cons_self
      obtain ⟨g3, g4⟩ := glob_of x k1
      obtain ⟨h1, h3, h4⟩ := isi_key x k2
      exact pa_cons (pe_bltn (v := .ty (tyName c)) g3 h3 h1 rfl h4 g4) (pa_names x h' fun c hc => k c (List.mem_cons_of_mem _ hc)) (by rfl)
    | _ => cases h
theorem kits_any {K : PySem.W.Frag} {t : String} : ∀ {cs : List Str} {r : Bool}, kitsB t cs = some r → PySem.W.kitAny K (.type t) (cs.map fun c => Value.type (tyName c)) = some r
  | [], r, h => by
    cases h
    rfl
  | c :: cs, r, h => by
    obtain ⟨b, hb, h⟩ := Option.bind_eq_some_iff.mp (show (kitB t (tyName c)).bind _ = some r from h)
    cases b with
    | true =>
      cases h
      exact kitAny_cons (kit_ty hb) (fun z => nomatch z) (fun _ => rfl)
    | false => exact kitAny_cons (kit_ty hb) (fun _ => kits_any h) (fun z => nomatch z)
theorem pair_cls : ∀ cs : List Str, Paired ClsV (cs.map fun c => V.ty (tyName c)) (cs.map fun c => Value.type (tyName c))
  | [] => .nil
  | c :: cs => .cons (.ty (tyName c)) (pair_cls cs)
theorem names_len2 : ∀ {es : List Expr} {cs : List Str}, namesE es = some cs → cs.length = es.length
  | [], _, h => by cases h; rfl
  | e :: es, cs, h => by
    cases e with
    | Name c p =>
      obtain ⟨cs', h', e⟩ := Option.map_eq_some_iff.mp (show (namesE es).map _ = some cs from h)
      subst e
      simp [names_len2 h']
    | _ => cases h
theorem s_isiT (x : XO P Γ X W) {a : Expr} {es : List Expr} {cs : List Str} {k : Nat} {p p1 p2 : Pos} {fa : FE} (hg : glob Γ "isinstance" = true) (hn : namesE es = some cs) (hc : ∀ c ∈ cs, glob Γ c = true ∧ c ∈ isiNames) (hz : cs.length ≤ 100) (hs : isStar a = false) (ha : PE X a (tEv P W fa)) :
    PE X (.Call (.Name "isinstance" p1) [a, .Tuple es k p2] [] p) (tEv P W fun ρ => T.bind (fa ρ) fun x => isiTD cs x) := by
  obtain ⟨g1, g2⟩ := glob_of x hg
  have hm := x.blt "isinstance" (by decide)
  refine impE (pe_callB call_isiT g1 hm (by decide +kernel) (pa_cons ha (pa_cons (pe_tup (pa_names x hn hc)) pa_nil (by rfl)) (star_cons hs)) (by decide) g2 (star_cons hs) (star_any (by rfl))) fun σ H Q q => ?_
  obtain ⟨ρ, b, U, R, q⟩ := q
  refine stepE U R q (fun _ _ e => e) fun d b1 v H1 F1 U1 r1 R1 q1 => ?_
  refine ⟨by rw [List.length_map, sizeLine_eq]; omega, fun p hp => ?_⟩
  obtain ⟨ne, q1⟩ := ite_wp q1
  obtain ⟨o, ho, q2⟩ := ofO_wp (noErr (carry F1 q1))
  obtain ⟨r, hr, e⟩ := Option.map_eq_some_iff.mp ho
  subst e
  rw [← x.hK]
  exact ⟨v, p, _, _, _, r, rfl, upd_same, pair_cls cs, ty_of (r1.frm (Frm.new hp)) ne, kits_any hr, KQ.bl (KQ.frm (Frm.new hp) q2) (U1.new hp nd_tup)⟩
theorem excOf_inv {d : PyData} {c : Str} (h : excOf d = some c) : ∃ r, d = .dict ((.none, .str c) :: r) := by
  cases d with
  | dict kvs =>
    match kvs, h with
    | (.none, .str c') :: r, h =>
      cases h
      exact ⟨r, rfl⟩
  | _ => cases h
theorem fldX_map {f : Str} : ∀ {ds : List (Str × PyData)}, fldX f (ds.map fun q => (.str q.1, q.2)) = ds.lookup f
  | [] => rfl
  | (g, d) :: ds => by
    show (if (f == g) = true then some d else fldX f (ds.map _)) = _
    rw [List.lookup_cons, fldX_map]
    cases f == g <;> rfl
theorem lookup_both {Z : Kc} {H : Hp} {f : Str} {d : PyData} : ∀ {vs : List (Str × V)} {ds : List (Str × PyData)}, vs.map (·.1) = ds.map (·.1) → RpA Z H (vs.map (·.2)) (ds.map (·.2)) → ds.lookup f = some d → ∃ v, vs.lookup f = some v ∧ Rp Z H v d
  | [], [], _, _, h => by cases h
  | [], _ :: _, h, _, _ => by simp at h
  | _ :: _, [], h, _, _ => by simp at h
  | (x, v) :: vs, (y, e) :: ds, h, r, hl => by
    simp only [List.map_cons, List.cons.injEq] at h
    obtain ⟨rfl, h⟩ := h
    cases r with
    | cons r rr =>
      rw [List.lookup_cons] at hl ⊢
      cases hx : f == x with
      | true =>
        rw [hx] at hl
        cases hl
        exact ⟨v, rfl, r⟩
      | false =>
        rw [hx] at hl
        exact lookup_both h rr hl
/-- a value that is a kept error -/
theorem exc_rp {Z : Kc} {H : Hp} {v : V} {c : Str} {r : List (PyData × PyData)} (h : Rp Z H v (.dict ((.none, .str c) :: r))) : ∃ (a d C : Addr) (ob : Obj) (vs : List (Str × V)) (ds : List (Str × PyData)), v = .ref a ∧ KeptAt H a C d ob vs ∧ Z.cl c = some C ∧ r = (ds.map fun q => (.str q.1, q.2)) ∧ vs.map (·.1) = ds.map (·.1) ∧ RpA Z H (vs.map (·.2)) (ds.map (·.2)) := by
  generalize e : PyData.dict ((.none, .str c) :: r) = d at h
  cases h with
  | @exc a d C oe c' vs ds h1 h2 h3 h4 h5 h6 h7 =>
    unfold excD at e
    injection e with e
    injection e with e1 e2
    injection e1 with _ e3
    injection e3 with e4
    subst e4
    exact ⟨a, d, C, oe, vs, ds, rfl, ⟨h1, h2, h3, h5⟩, h4, e2, h6, h7⟩
  | drw h d =>
    unfold drawD at e
    simp at e
  | _ => cases e
theorem plain_ty {d : PyData} (h : plainD d = true) : isExc d = false ∧ tyD d ∈ ["NoneType", "bool", "int", "str", "list", "tuple", "dict"] := by
  cases d with
  | dict k => cases h
  | _ => exact ⟨rfl, by simp [tyD]⟩
theorem s_isK (x : XO P Γ X W) {a : Expr} {c : Str} {p p1 p2 : Pos} {fa : FE} (hg : glob Γ "isinstance" = true) (hc : glob Γ c = true) (hm : c ∈ Γ.ecl) (hs : isStar a = false) (ha : PE X a (tEv P W fa)) :
    PE X (.Call (.Name "isinstance" p1) [a, .Name c p2] [] p) (tEv P W fun ρ => T.bind (fa ρ) fun d => isiX Γ.sub c d) := by
  obtain ⟨g1, g2⟩ := glob_of x hg
  obtain ⟨g3, g4⟩ := glob_of x hc
  have K : Ecl P.kc Γ.sub Γ.ecl X.mg := by
    rcases x.ek with e | e
    · rw [e] at hm
      cases hm
    · exact e
  obtain ⟨Cc, m1, m2, m3, m4⟩ := K.cat c hm
  have args : PA X [a, .Name c p2] _ := pa_cons ha (pa_cons (pe_glob (v := .ref Cc) g3 m1 rfl m2) pa_nil) (star_cons hs)
  have rel : ∀ u, RelV (.ref Cc) u → u = .ref Cc := fun u r => by cases r; rfl
  have hK := x.hK
  have rule : CallR X (.builtin "isinstance") (fun xs H Q => _ ∨ _) := fun pins s σ H xs us Q I r h => h.elim (call_isK pins s σ H xs us Q I r) (call_isi pins s σ H xs us Q I r)
  refine impE (pe_callB (id := "isinstance") rule g1 (x.blt "isinstance" (by decide)) (by decide +kernel) args (by decide) g2 (star_cons hs)) fun σ H Q q => ?_
  obtain ⟨ρ, b, U, R, q⟩ := q
  refine stepE U R q (fun _ _ e => e) fun d b1 v H1 F1 U1 r1 R1 q1 => ?_
  unfold isiX at q1
  cases hx : excOf d with
  | some cn =>
    rw [hx] at q1
    obtain ⟨w, hw, q2⟩ := ofO_wp q1
    obtain ⟨k, hk, e⟩ := Option.map_eq_some_iff.mp hw
    subst e
    obtain ⟨r, e⟩ := excOf_inv hx
    subst e
    obtain ⟨a', d', C, ob, vs, ds, rfl, kp, hC, _⟩ := exc_rp r1
    exact .inl ⟨a', C, d', ob, vs, .ref Cc, .ref Cc, k, rfl, kp, hK ▸ (K.xf _ _ hC).2.1, rel, hK ▸ (m4 _ _ _ hk hC).1, KQ.bl (KQ.frm F1 q2) U1⟩
  | none =>
    rw [hx] at q1
    obtain ⟨hp, q2⟩ := ite_wp q1
    obtain ⟨ne, ht⟩ := plain_ty hp
    exact .inr ⟨v, .ref Cc, _, _, false, rfl, .own Cc, hK ▸ ty_of r1 ne, hK ▸ kit_plain ht m3, KQ.bl (KQ.frm F1 q2) U1⟩
theorem s_fldK (x : XO P Γ X W) {o : Expr} {f : Str} {p : Pos} {fo : FE} (hf : f ∈ fldNames) (he : Γ.ecl ≠ []) (hb : baseOk o = true) (ho : PE X o (tEv P W fo)) : PE X (.Attribute o f p) (tEv P W fun ρ => T.bind (fo ρ) fun d => attX f d) := by
  have K : Ecl P.kc Γ.sub Γ.ecl X.mg := x.ek.resolve_left he
  have hK := x.hK
  refine impE (pe_fldK ho (base_ok hb)) fun σ H Q q => ?_
  obtain ⟨ρ, b, U, R, q⟩ := q
  refine stepE U R q (fun _ _ e => e) fun d b1 v H1 F1 U1 r1 R1 q1 => ?_
  match d, r1, q1 with
  | .dict ((.none, .str c) :: r), r1, q1 =>
    obtain ⟨w, hw, q2⟩ := ofO_wp q1
    obtain ⟨a', d', C, ob, vs, ds, rfl, kp, hC, er, hn, ra⟩ := exc_rp r1
    subst er
    rw [fldX_map] at hw
    obtain ⟨u, hu, ru⟩ := lookup_both hn ra hw
    obtain ⟨k1, _, k3⟩ := K.xf _ _ hC
    exact ⟨a', C, d', ob, vs, u, rfl, kp, hK ▸ k1, hK ▸ k3 f hf, hu, KQ.now (KQ.frm F1 q2) U1 ru⟩
/-- methods of lists -/
theorem eqv_count {Z : Kc} {H : Hp} {v : V} {d : PyData} (r : Rp Z H v d) (h : flatD d = true) : ∀ {vs : List V} {ds : List PyData}, RpA Z H vs ds → ds.all flatD = true → (vs.countP fun z => eqV z v) = ds.countP fun z => PyData.eqv z d
  | _, _, .nil, _ => rfl
  | _, _, .cons q t, k => by
    rw [List.all_cons, Bool.and_eq_true] at k
    rw [List.countP_cons, List.countP_cons, eqv_count r h t k.2, eqV_of q r k.1 h]
theorem flat_all {ds : List PyData} (h : ds.all flatD = true) {j : Nat} {d : PyData} (e : ds[j]? = some d) : flatD d = true := List.all_eq_true.mp h d (List.mem_of_getElem? e)
theorem s_mL (x : XO P Γ X W) {m : Str} {g : List PyData → PyData → T PyData} {o : Expr} {b : Bool} {j : Nat} {p1 ap p : Pos} {fo : FE} (hm : mthL m = some g) (hb : baseOk o = true) (hl : (ap.endLine == p.line) = true) (ho : PE X o (tEv P W fo)) :
    PE X (.Call (.Attribute o m ap) [.Constant (.bool b) j p1] [] p) (tEv P W fun ρ => T.bind (fo ρ) fun d => onL g (.bool b) d) := by
  have hK := x.hK
  unfold mthL at hm
  split at hm
  · rename_i e
    subst e
    cases hm
    refine impE (pe_bm PySem.F.plainAttrs_list PySem.F.slot_list_count PySem.F.type_list_count mt_countV ho (pa_cons pe_bl pa_nil) (base_ok hb) (by rfl) hl) fun σ H Q q => ?_
    obtain ⟨ρ, b0, U, R, q⟩ := q
    refine stepE U R q (fun _ _ e => e) fun d b1 v H1 F1 U1 r1 R1 q1 => ?_
    cases r1 with
    | @lst a vs ds h1 k1 =>
      obtain ⟨hc, q2⟩ := ite_wp (show T.wp (if (flatD (.bool b) && ds.all flatD) = true then _ else .stuck) b1 _ _ from q1)
      rw [Bool.and_eq_true] at hc
      rw [show P.kc.K = X.K from hK] at h1
      refine ⟨.inl ⟨rfl, vs, h1⟩, a, vs, .bl b, rfl, rfl, h1, rfl, flats_of k1 hc.2, ?_⟩
      rw [eqv_count (.bl b) rfl k1 hc.2]
      exact KQ.int (KQ.frm F1 q2) U1
    | _ => exact q1.elim
  split at hm
  · rename_i e
    subst e
    cases hm
    refine impE (pe_bm PySem.F.plainAttrs_list PySem.F.slot_list_index PySem.F.type_list_index mt_index ho (pa_cons pe_bl pa_nil) (base_ok hb) (by rfl) hl) fun σ H Q q => ?_
    obtain ⟨ρ, b0, U, R, q⟩ := q
    refine stepE U R q (fun _ _ e => e) fun d b1 v H1 F1 U1 r1 R1 q1 => ?_
    cases r1 with
    | @lst a vs ds h1 k1 =>
      obtain ⟨hc, q2⟩ := ite_wp (show T.wp (if (flatD (.bool b) && ds.all flatD) = true then _ else .stuck) b1 _ _ from q1)
      rw [Bool.and_eq_true] at hc
      rw [show P.kc.K = X.K from hK] at h1
      cases hf : ds.findIdx? (fun z => PyData.eqv z (.bool b)) with
      | none =>
        rw [hf] at q2
        exact q2.elim
      | some i =>
        rw [hf] at q2
        obtain ⟨hi, e1, e2⟩ := List.findIdx?_eq_some_iff_getElem.mp hf
        obtain ⟨z, hz, rz⟩ := k1.get (List.getElem?_eq_getElem hi)
        refine ⟨.inl ⟨rfl, vs, h1⟩, a, vs, .bl b, i, z, rfl, rfl, h1, rfl, flats_of k1 hc.2, hz, ?_, fun m z' hm hz' => ?_, KQ.int (KQ.frm F1 q2) U1⟩
        · rw [eqV_of rz (.bl b) (flat_all hc.2 (List.getElem?_eq_getElem hi)) rfl]
          exact e1
        · obtain ⟨d', hd', rd'⟩ := k1.get' hz'
          rw [eqV_of rd' (.bl b) (flat_all hc.2 hd') rfl]
          have hlt : m < ds.length := (List.getElem?_eq_some_iff.mp hd').1
          have e3 := e2 m hm
          rw [List.getElem?_eq_getElem hlt] at hd'
          cases hd'
          simpa using e3
    | _ => exact q1.elim
  · cases hm
theorem impKw {ks : List Keyword} {t t' : TA} (h : PK X ks t) (k : ∀ σ H Q, t' σ H Q → t σ H Q) : PK X ks t' := ⟨fun pos pins s σ H Q I q => h.run pos pins s σ H Q I (k σ H Q q)⟩
theorem s_consK {k : Keyword} {r : List Keyword} {fe : FE} {fr : FA} (he : PE X k.value (tEv P W fe)) (hr : PK X r (tEvA P W fr)) : PK X (k :: r) (tEvA P W fun ρ => T.bind (fe ρ) fun x => T.bind (fr ρ) fun ys => .ret (x :: ys)) := by
  obtain ⟨nm, v, kp⟩ := k
  refine impKw (pk_cons he hr) fun σ H Q q => ?_
  obtain ⟨ρ, b, U, R, q⟩ := q
  refine stepE U R q (fun _ _ e => e) fun d b1 v H1 F1 U1 r1 R1 q1 => ?_
  refine stepA U1 R1 q1 (fun _ _ e => e.frm F1) fun ds b2 vs H2 F2 U2 r2 R2 q2 => ?_
  exact (show ∀ vs H', Frm H H' → Bud P b2 H' → RpA P.kc H' vs (d :: ds) → Q vs H' from q2) _ H2 (F1.trans F2) U2 (.cons (r1.frm F2) r2)
theorem s_nilK : PK X [] (tEvA P W fun _ => .ret []) := by
  refine impKw pk_nil fun σ H Q q => ?_
  obtain ⟨ρ, b, U, R, q⟩ := q
  exact (show ∀ vs H', Frm H H' → Bud P b H' → RpA P.kc H' vs [] → Q vs H' from q) _ H (Frm.refl H) U .nil
theorem pick_rp {Z : Kc} {H : Hp} {zs : List V} {ds : List PyData} (r : RpA Z H zs ds) : ∀ {is : List Nat} {es : List PyData}, pickN ds is = some es → ∃ vs, pickN zs is = some vs ∧ RpA Z H vs es
  | [], es, h => by
    cases h
    exact ⟨[], rfl, .nil⟩
  | i :: is, es, h => by
    obtain ⟨d, hd, h⟩ := bnd h
    obtain ⟨fs, hf, h⟩ := bnd h
    cases h
    obtain ⟨v, hv, rv⟩ := r.get hd
    obtain ⟨vs, hvs, rvs⟩ := pick_rp r hf
    exact ⟨v :: vs, by unfold pickN; rw [hv, hvs]; rfl, .cons rv rvs⟩
theorem pick_len {α : Type} {xs : List α} : ∀ {is : List Nat} {ys : List α}, pickN xs is = some ys → ys.length = is.length
  | [], ys, h => by
    cases h
    rfl
  | i :: is, ys, h => by
    obtain ⟨d, hd, h⟩ := bnd h
    obtain ⟨fs, hf, h⟩ := bnd h
    cases h
    simp [pick_len hf]
theorem kw_names {env : Env} {pos : Pos} : ∀ {ks : List Keyword} {nms : List Str}, kwNames ks = some nms → (backToKw pos (keywordEach ks env)).all (·.1.isSome) = true ∧ (backToKw pos (keywordEach ks env)).filterMap (·.1) = nms ∧ (backToKw pos (keywordEach ks env)).any (·.1.isNone) = false
  | [], nms, h => by
    cases h
    exact ⟨rfl, rfl, rfl⟩
  | ⟨nm, v, kp⟩ :: ks, nms, h => by
    obtain ⟨x, hx, h⟩ := bnd h
    obtain ⟨xs, hxs, h⟩ := bnd h
    cases h
    obtain rfl : nm = some x := hx
    obtain ⟨k1, k2, k3⟩ := kw_names (env := env) (pos := pos) hxs
    exact ⟨by simpa [keywordEach, backToKw] using k1, by simpa [keywordEach, backToKw] using k2, by simpa [keywordEach, backToKw] using k3⟩
/-- a call without arguments -/
theorem s_call0 (x : XO P Γ X W) {f : Str} {p pos : Pos} {i : FnI} (hg : glob Γ f = true) (hi : Γ.fns.lookup f = some i) : PE X (.Call (.Name f p) [] [] pos) (tEv P W fun _ => if i.n = 0 then i.m [] else .stuck) := by
  obtain ⟨g1, g2⟩ := glob_of x hg
  obtain ⟨a, m1, m2, m3⟩ := x.fns f i hi
  refine ⟨fun pins s σ H Q I q => ?_⟩
  obtain ⟨ρ, b, U, R, q⟩ := q
  obtain ⟨h0, q⟩ := ite_wp q
  refine wpAny_Call_Name_kw (ld_glob I g1 m1 ?_ g2)
  exact PySem.W.callWith_K0 I.kIn m2 (m3 pins σ H s Q [] [] I .nil ⟨h0.symm, [], b, U, .nil, q⟩)
/-- a call by keywords alone -/
theorem s_kw (x : XO P Γ X W) {f : Str} {p pos : Pos} {ks : List Keyword} {nms : List Str} {is : List Nat} {i : FnI} {fs : FA} (hg : glob Γ f = true) (hn : kwNames ks = some nms) (hk : Γ.kwo f nms = some is) (hi : Γ.fns.lookup f = some i) (ha : PK X ks (tEvA P W fs)) :
    PE X (.Call (.Name f p) [] ks pos) (tEv P W fun ρ => T.bind (fs ρ) fun ds => if is.length = i.n ∧ ds.length = nms.length then (match pickN ds is with
      | some es => i.m es
      | none => .stuck) else .stuck) := by
  obtain ⟨g1, g2⟩ := glob_of x hg
  obtain ⟨a, m1, m2, m3⟩ := x.kw f nms is i hk hi
  obtain ⟨k1, k2, k3⟩ := kw_names (env := X.env) (pos := pos) hn
  refine ⟨fun pins s σ H Q I q => ?_⟩
  refine wpAny_Call_Name_kw (ld_glob I g1 m1 ?_ g2)
  refine PySem.W.callWith_KW0 (h₀ := X.base) I.ok.mod.kin m2 k1 ?_ (by rw [k3]; rfl)
  obtain ⟨ρ, b, U, R, q⟩ := q
  refine thn (ha.run pos pins s σ H (fun zs H2 => ∃ vs, zs.length = nms.length ∧ pickN zs is = some vs ∧ spT P i vs H2 Q (WE W σ)) I (stepA U R q (fun _ _ e => e) fun ds b1 zs H1 F1 U1 r1 R1 q1 => ?_)) fun ws s2 ⟨zs, H2, I2, rz, vs, hl, hp, sp⟩ => ⟨I2.kIn, ?_⟩
  · obtain ⟨⟨h1, h2⟩, q1⟩ := ite_wp q1
    cases hp : pickN ds is with
    | none =>
      rw [hp] at q1
      exact q1.elim
    | some es =>
      rw [hp] at q1
      obtain ⟨vs, hv, rv⟩ := pick_rp r1 hp
      exact ⟨vs, by rw [r1.length, h2], hv, by rw [pick_len hv, h1], es, b1, U1, rv, carry F1 q1⟩
  · rw [k2]
    exact m3 pins σ H2 s2 Q ws zs vs I2 rz hl hp sp
end
end Pv

-- Pv7
set_option Elab.async false
set_option linter.all false
set_option maxRecDepth 100000
set_option maxHeartbeats 8000000
namespace Pv
open PySem L2
section
variable {P : Pa} {Γ : Ga} {X : Cx} {W : WX}
theorem ok_bool {a b : Bool} (h : (a && b) = true) : a = true ∧ b = true := Bool.and_eq_true_iff.mp h
theorem nstar {e : Expr} (h : (!isStar e) = true) : isStar e = false := by simpa using h
theorem snd_A0 (x : XO P Γ X W) {n : Nat} (S : Snd P Γ X W n) {e : Expr} {r : List Expr} {f : FA} (h : (if isStar e then none else (cE Γ n e).bind fun fe => (cA Γ n r).bind fun fr => some fun ρ => T.bind (fe ρ) fun x => T.bind (fr ρ) fun ys => .ret (x :: ys)) = some f) : PA X (e :: r) (tEvA P W f) := by
  have h' := itN h
  obtain ⟨fe, he, h⟩ := bnd h'.2
  obtain ⟨fr, hr, h⟩ := bnd h
  cases h
  exact s_consA (by simpa using h'.1) (S.E _ _ he) (S.A _ _ hr)
theorem snd_A (x : XO P Γ X W) {n : Nat} (S : Snd P Γ X W n) : ∀ es f, cA Γ (n + 1) es = some f → PA X es (tEvA P W f) := by
  intro es f h
  cases es with
  | nil =>
    cases h
    exact s_nilA
  | cons e r =>
    cases e with
    | Starred e p =>
      obtain ⟨fe, he, h⟩ := bnd (show (cE Γ n e).bind _ = _ from h)
      obtain ⟨fr, hr, h⟩ := bnd h
      cases h
      exact s_starA x (S.E _ _ he) (S.A _ _ hr)
    | _ => exact snd_A0 x S h
theorem snd_O (x : XO P Γ X W) {n : Nat} (S : Snd P Γ X W n) : ∀ o f, cO Γ (n + 1) o = some f → PO X o (tEvO P W f) := by
  intro o f h
  cases o with
  | none => cases h; exact s_none
  | some e =>
    obtain ⟨fe, he, h⟩ := bnd (show (cE Γ n e).bind _ = _ from h)
    cases h
    exact s_some (S.E _ _ he)
theorem snd_J (x : XO P Γ X W) {n : Nat} (S : Snd P Γ X W n) : ∀ es fs, cJ Γ (n + 1) es = some fs → PJ X es (fs.map (tEv P W)) := by
  intro es fs h
  cases es with
  | nil => cases h; exact .nil
  | cons e r =>
    cases e with
    | Constant c k p =>
      cases c with
      | str s =>
        obtain ⟨fr, hr, h⟩ := bnd (show (cJ Γ n r).bind _ = _ from h)
        cases h
        refine .cons (impE pe_str fun σ H Q q => ?_) (S.J _ _ hr)
        obtain ⟨ρ, b, U, R, q⟩ := q
        exact KQ.str q U
      | _ => cases h
    | FormattedValue e c sp p =>
      cases sp with
      | some _ => cases c with
        | ofNat k => cases h
        | negSucc k => cases k <;> cases h
      | none =>
        cases c with
        | ofNat k => cases h
        | negSucc k =>
          cases k with
          | succ _ => cases h
          | zero =>
            obtain ⟨fe, he, h⟩ := bnd (show (cE Γ n e).bind _ = _ from h)
            obtain ⟨fr, hr, h⟩ := bnd h
            cases h
            exact .cons (s_fmt (S.E _ _ he)) (S.J _ _ hr)
    | _ => cases h
theorem impTs {es : List Expr} {t t' : TT} (h : PTs X es t) (k : ∀ σ H Q, t' σ H Q → t σ H Q) : PTs X es t' := ⟨fun pins s σ H Q I q => h.run pins s σ H Q I (k σ H Q q)⟩
theorem snd_F (x : XO P Γ X W) {n : Nat} (S : Snd P Γ X W n) : ∀ es f, cF Γ (n + 1) es = some f → PTs X es (tEvT P W f) := by
  intro es f h
  match es, h with
  | [], h =>
    cases h
    exact impTs pts_nil fun σ H Q ⟨ρ, b, U, R, q⟩ => q H (Frm.refl H) U
  | [c], h => exact pts_one (S.T _ _ h)
  | _ :: _ :: _, h => cases h
theorem takArg_inv {es : List Expr} {e1 e2 body : Expr} {params : Arguments} {scope : Scope} (h : takArg es = some (e1, params, body, scope, e2)) : ∃ lp, es = [e1, .Lambda params body scope lp, e2] := by
  unfold takArg at h
  split at h
  · cases h
    exact ⟨_, rfl⟩
  · cases h
theorem snd_C (x : XO P Γ X W) {n : Nat} (S : Snd P Γ X W n) (L : ∀ (P' : Pa) (Γ' : Ga) (X' : Cx) (W' : WX), XO P' Γ' X' W' → Snd P' Γ' X' W' n) : ∀ f e es p pos fe, cCall Γ (n + 1) f (e :: es) = some fe → PE X (.Call (.Name f p) (e :: es) [] pos) (tEv P W fe) := by
  intro f e es p pos fe h
  unfold cCall at h
  split at h
  · rename_i l hl
    obtain ⟨hc, h⟩ := itS h
    obtain ⟨hg, hlam⟩ := ok_bool hc
    obtain ⟨tf, htf, h⟩ := bnd h
    obtain ⟨fe', he', h⟩ := bnd h
    cases h
    cases es with
    | cons _ _ => cases e <;> cases hl
    | nil =>
      cases e with
      | Lambda params body scope lp =>
        cases hl
        exact x.lam f tf htf params body scope fe' p lp pos hlam (fun X' W' xb => (L _ _ X' W' (xb.up rfl)).E _ _ he') hg
      | _ => cases hl
  split at h
  · rename_i e1 params body scope e2 hq
    obtain ⟨hc, h⟩ := itS h
    obtain ⟨hc, h2⟩ := ok_bool hc
    obtain ⟨hg, h1⟩ := ok_bool hc
    obtain ⟨q, hp, h⟩ := bnd h
    obtain ⟨hl, h⟩ := itS h
    obtain ⟨tf, htf, h⟩ := bnd h
    obtain ⟨f1, hf1, h⟩ := bnd h
    obtain ⟨fb, hfb, h⟩ := bnd h
    obtain ⟨f2, hf2, h⟩ := bnd h
    cases h
    obtain ⟨lp, eq⟩ := takArg_inv hq
    cases eq
    exact x.tak f tf htf params q body _ _ scope f1 f2 fb p lp pos hp hl (fun X' W' xb => (L _ _ X' W' (xb.up rfl)).E _ _ hfb) (by simpa using h1) (by simpa using h2) (S.E _ _ hf1) (S.E _ _ hf2) hg
  split at h
  · rename_i elt nm px iter scope hq
    obtain ⟨gpos, eq⟩ := gnArg_inv hq
    cases eq
    obtain ⟨hc, h⟩ := itS h
    obtain ⟨hc, hxl⟩ := ok_bool hc
    obtain ⟨hc, hnf⟩ := ok_bool hc
    obtain ⟨hc, hok⟩ := ok_bool hc
    obtain ⟨hc, hfo⟩ := ok_bool hc
    obtain ⟨hc, hgx⟩ := ok_bool hc
    obtain ⟨hg, hff⟩ := ok_bool hc
    obtain ⟨ix, hix, h⟩ := bnd h
    obtain ⟨fi, hfi, h⟩ := bnd h
    obtain ⟨fe', hfe, h⟩ := bnd h
    cases h
    exact s_gn x hg (by simpa using hff) hgx hfo hok (fun p hp => by simpa using List.all_eq_true.mp hnf p hp) (of_decide_eq_true hxl) hix (S.I _ _ _ hfi) fun code s H ex => (L _ _ _ _ (gn_xo x hgx code s H ex)).E _ _ hfe
  by_cases hc : (glob Γ f && (e :: es).all (fun e => !isStar e)) = true
  rotate_left
  · rw [if_neg hc] at h
    split at h
    · rename_i y i ht
      obtain ⟨⟨e1, e2⟩, h⟩ := itS h
      obtain ⟨a, ea, h⟩ := bnd h
      obtain ⟨hst, h⟩ := itN h
      obtain ⟨fe', he', h⟩ := bnd h
      cases h
      have ea' := oneArg_inv ea
      cases ea'
      subst e1
      exact (x.thk _ _ ht).2 e2 _ _ (by simpa using hst) (S.E _ _ he') p pos
    · cases h
  rw [if_pos hc] at h
  obtain ⟨hg, hs⟩ := ok_bool hc
  rw [List.all_cons, Bool.and_eq_true] at hs
  have h0 := nstar hs.1
  split at h
  · rename_i i hi
    obtain ⟨fs, ha, h⟩ := bnd h
    cases h
    exact s_call x hg hi h0 hs.2 (S.A _ _ ha)
  · obtain ⟨hb, h⟩ := itS h
    obtain ⟨hb, hcm⟩ := ok_bool hb
    have hb' : f ∈ bltNames := by simpa using hb
    split at h
    · rename_i i hi
      obtain ⟨fs, ha, h⟩ := bnd h
      cases h
      rw [hi] at hcm
      obtain ⟨k1, k2, k3, k4⟩ := ok_bltFn x.hK (x.calm (by simpa using hcm)) (id := i.1) (m := i.2) hi
      exact s_bltF x hg hb' k2 k3 k1 h0 hs.2 (S.A _ _ ha)
    · split at h
      · rename_i i hi
        obtain ⟨fs, ha, h⟩ := bnd h
        cases h
        obtain ⟨k1, k2, k3, k4⟩ := ok_bltTy x.hK (id := i.1) (m := i.2) hi
        exact s_bltT x hg hb' k2 k3 k1 h0 hs.2 (S.A _ _ ha)
      · obtain ⟨hr, h2⟩ := itS h
        obtain ⟨fs, ha, h3⟩ := bnd h2
        cases h3
        obtain ⟨hf, hr⟩ := ok_bool hr
        have hf' : f = "repr" := of_decide_eq_true hf
        clear h h2
        subst hf'
        exact s_bltF (id := "repr") x hg hb' (by decide +kernel) (by decide) (ok_repr x.hK (x.grd hr) x.u) h0 hs.2 (S.A _ _ ha)
theorem snd_B (x : XO P Γ X W) {n : Nat} (S : Snd P Γ X W n) : ∀ op es p f, cT Γ (n + 1) (.BoolOp op es p) = some f → PW X (.BoolOp op es p) (tEvT P W f) := by
  intro op es p f h
  cases es with
  | nil => cases op <;> cases h
  | cons a r =>
    cases r with
    | nil =>
      cases op with
      | And => exact pw_and1 (S.T _ _ h)
      | Or => exact pw_or1 (S.T _ _ h)
    | cons c r =>
      cases op with
      | And =>
        obtain ⟨fa, ha, h⟩ := bnd (show (cT Γ n a).bind _ = _ from h)
        obtain ⟨fc, hc, h⟩ := bnd h
        cases h
        exact s_andW (S.T _ _ ha) (S.B _ _ _ _ hc)
      | Or =>
        obtain ⟨fa, ha, h⟩ := bnd (show (cT Γ n a).bind _ = _ from h)
        obtain ⟨fc, hc, h⟩ := bnd h
        cases h
        exact s_orW (S.T _ _ ha) (S.B _ _ _ _ hc)
theorem snd_T0 (x : XO P Γ X W) {n : Nat} (S : Snd P Γ X W n) {e : Expr} {f : FT} (h : (if plainT e then (cE Γ n e).bind fun fe => some fun ρ => T.bind (fe ρ) truD else none) = some f) : PT X e (tEvT P W f) := by
  obtain ⟨hp, h⟩ := itS h
  obtain ⟨fe, he, h⟩ := bnd h
  cases h
  exact s_truth x hp (S.E _ _ he)
theorem snd_T (x : XO P Γ X W) {n : Nat} (S : Snd P Γ X W n) : ∀ e f, cT Γ (n + 1) e = some f → PT X e (tEvT P W f) := by
  intro e f h
  cases e with
  | BoolOp op es p => exact (snd_B x S op es p f h).pt
  | UnaryOp op a p =>
    cases op with
    | Not =>
      obtain ⟨fa, ha, h⟩ := bnd (show (cT Γ n a).bind _ = _ from h)
      cases h
      exact s_notT (S.T _ _ ha)
    | _ => exact snd_T0 x S h
  | Compare a ops cs p =>
    match ops, cs, h with
    | [op], [c], h =>
      obtain ⟨hb, h⟩ := itN h
      split at h
      · rename_i ps hps
        obtain ⟨neg, hn, h⟩ := bnd h
        obtain ⟨fa, ha, h⟩ := bnd h
        cases h
        exact s_inDT x (by simpa using hb) hps hn (S.E _ _ ha)
      obtain ⟨fa, ha, h⟩ := bnd h
      obtain ⟨fc, hc, h⟩ := bnd h
      cases h
      exact s_cmpT x (by simpa using hb) (S.E _ _ ha) (S.E _ _ hc)
    | [op, op'], [c, d], h =>
      obtain ⟨hb, h⟩ := itN h
      obtain ⟨fa, ha, h⟩ := bnd h
      obtain ⟨fc, hc, h⟩ := bnd h
      obtain ⟨fd, hd, h⟩ := bnd h
      cases h
      exact s_chainT x (by simpa using hb) (S.E _ _ ha) (S.E _ _ hc) (S.E _ _ hd)
    | [], [], h => exact snd_T0 x S h
    | [], _ :: _, h => exact snd_T0 x S h
    | [_], [], h => exact snd_T0 x S h
    | [_], _ :: _ :: _, h => exact snd_T0 x S h
    | [_, _], [], h => exact snd_T0 x S h
    | [_, _], [_], h => exact snd_T0 x S h
    | [_, _], _ :: _ :: _ :: _, h => exact snd_T0 x S h
    | _ :: _ :: _ :: _, _, h => exact snd_T0 x S h
  | _ => exact snd_T0 x S h
theorem isE_of {y : Str} {p : Pos} {er : Er} (h : isE Γ (.Name y p) = some er) : ∃ z, Γ.exn = some (z, er) ∧ y = z := by
  have h' : (match Γ.exn with
    | some (z, er) => if y = z then some er else none
    | none => none) = some er := h
  split at h'
  · rename_i z er' hz
    obtain ⟨e, h'⟩ := itS h'
    cases h'
    exact ⟨z, hz, e⟩
  · cases h'
/-- a rule may be chosen when the wish is known -/
theorem impE' {e : Expr} {t : TE} (h : ∀ σ H Q, t σ H Q → ∃ t', PE X e t' ∧ t' σ H Q) : PE X e t := ⟨fun pins s σ H Q I q => by
  obtain ⟨t', k, q'⟩ := h σ H Q q
  exact k.run pins s σ H Q I q'⟩
theorem star_one {a : Expr} {env : Env} (h : isStar a = false) : starEach [a] env = [(false, eval a env)] := star_cons h
theorem snd_K (x : XO P Γ X W) {n : Nat} (S : Snd P Γ X W n) : ∀ ks f, cK Γ (n + 1) ks = some f → PK X ks (tEvA P W f) := by
  intro ks f h
  cases ks with
  | nil =>
    cases h
    exact s_nilK
  | cons k r =>
    obtain ⟨fe, he, h⟩ := bnd h
    obtain ⟨fr, hr, h⟩ := bnd h
    cases h
    exact s_consK (S.E _ _ he) (S.K _ _ hr)
theorem snd_I (x : XO P Γ X W) {n : Nat} (S : Snd P Γ X W n) : ∀ tg e f, cI Γ (n + 1) tg e = some f → PI X tg e (tEvI P W f) := by
  intro tg e f h
  have hK := x.hK
  have plain : (cE Γ n e).bind (fun fe => some fun ρ => T.bind (fe ρ) itemsD) = some f → PI X tg e (tEvI P W f) := fun h => by
    obtain ⟨fe, he, h⟩ := bnd h
    cases h
    exact s_any x (S.E _ _ he)
  unfold cI at h
  split at h
  · rename_i g p a pos
    split at h
    · rename_i hc
      obtain ⟨hc, h3⟩ := ok_bool hc
      obtain ⟨h1, h2⟩ := ok_bool hc
      have h1' : g = "range" := of_decide_eq_true h1
      obtain ⟨fa, ha, hf⟩ := bnd h
      cases hf
      clear h plain
      subst h1'
      obtain ⟨g1, g2⟩ := glob_of x h2
      refine impI (pi_range1 g1 (x.blt _ (by decide)) (pa_cons (S.E _ _ ha) pa_nil (star_cons (nstar h3))) (star_one (nstar h3))) fun σ H R q => ?_
      obtain ⟨ρ, b, U, Re, q⟩ := q
      refine stepE U Re q (fun _ _ e => e) fun d b1 v H1 F1 U1 r1 R1 q1 => ?_
      cases r1 with
      | int j =>
        obtain ⟨hj, q1⟩ := ite_wp q1
        exact ⟨j, rfl, hj.1, hj.2, q1 _ H1 F1 U1 it_range⟩
      | _ => exact q1.elim
    · split at h
      · rename_i hc
        obtain ⟨hc, h4⟩ := ok_bool hc
        obtain ⟨hc, h3⟩ := ok_bool hc
        obtain ⟨h1, h2⟩ := ok_bool hc
        have h1' : g = "enumerate" := of_decide_eq_true h1
        obtain ⟨fa, ha, hf⟩ := bnd h
        cases hf
        cases tg with
        | Tuple elts kk tp =>
          clear h plain
          subst h1'
          obtain ⟨g1, g2⟩ := glob_of x h2
          refine impI (pi_enumB g1 (x.blt _ (by decide)) (pa_cons (S.E _ _ ha) pa_nil (star_cons (nstar h3))) (star_one (nstar h3))) fun σ H R q => ?_
          obtain ⟨ρ, b, U, Re, q⟩ := q
          refine stepE U Re q (fun _ _ e => e) fun d b1 v H1 F1 U1 r1 R1 q1 => ?_
          cases r1 with
          | @lst a vs ds k1 k2 => exact ⟨a, vs, rfl, .inl ⟨by rw [← hK]; exact k1, q1 _ H1 F1 U1 (by rw [← hK]; exact it_enum k1 k2)⟩⟩
          | @tup a vs ds k1 k2 => exact ⟨a, vs, rfl, .inr ⟨by rw [← hK]; exact k1, q1 _ H1 F1 U1 (by rw [← hK]; exact it_enumT k1 k2)⟩⟩
          | _ => exact q1.elim
        | _ => simp [isTup] at h4
      · exact plain h
  · rename_i g p a c pos
    split at h
    · rename_i hc
      obtain ⟨hc, h4⟩ := ok_bool hc
      obtain ⟨hc, h3⟩ := ok_bool hc
      obtain ⟨h1, h2⟩ := ok_bool hc
      have h1' : g = "range" := of_decide_eq_true h1
      obtain ⟨fa, ha, hf⟩ := bnd h
      obtain ⟨fc, hc', hf⟩ := bnd hf
      cases hf
      clear h plain
      subst h1'
      obtain ⟨g1, g2⟩ := glob_of x h2
      refine impI (pi_range2 g1 (x.blt _ (by decide)) (pa_cons (S.E _ _ ha) (pa_cons (S.E _ _ hc') pa_nil (star_cons (nstar h4))) (star_cons (nstar h3))) (by rw [star_cons (nstar h3), star_one (nstar h4)]) (star_one (nstar h4))) fun σ H R q => ?_
      obtain ⟨ρ, b, U, Re, q⟩ := q
      refine stepE U Re q (fun _ _ e => e) fun d b1 v H1 F1 U1 r1 R1 q1 => ?_
      refine stepE U1 R1 q1 (fun _ _ e => e.frm F1) fun e b2 w H2 F2 U2 r2 R2 q2 => ?_
      cases r1 with
      | int i =>
        cases r2 with
        | int j =>
          obtain ⟨hj, q2⟩ := ite_wp q2
          exact ⟨i, j, rfl, hj, q2 _ H2 (F1.trans F2) U2 it_range⟩
        | _ => exact q2.elim
      | _ => cases r2 <;> exact q2.elim
    · exact plain h
  · exact plain h
theorem replArg_inv {m : Str} {args : List Expr} {q : Str × Str} (h : replArg m args = some q) : m = "replace" ∧ ∃ j c0 k c1, args = [.Constant (.str q.1) j c0, .Constant (.str q.2) k c1] := by
  unfold replArg at h
  split at h
  · obtain ⟨hm, h⟩ := itS h
    cases h
    exact ⟨hm, _, _, _, _, rfl⟩
  · cases h
theorem rep_of (x : XO P Γ X W) {n : Nat} (S : Snd P Γ X W n) {o : Expr} {m : Str} {ap p : Pos} {args : List Expr} {q : Str × Str} {f : FE} (hq : replArg m args = some q)
    (h : (if baseOk o && tokE Γ o && !(q.1 == q.2) && (ap.endLine == p.line) then (cE Γ n o).bind fun fo => some fun ρ => T.bind (fo ρ) fun x => T.bind (asS x) (replD q.1 q.2) else none) = some f) : PEK X (.Call (.Attribute o m ap) args [] p) (tEv P W f) := by
  obtain ⟨hm, j, c0, k, c1, e⟩ := replArg_inv hq
  subst hm e
  obtain ⟨hx, h⟩ := itS h
  obtain ⟨hx, h4⟩ := ok_bool hx
  obtain ⟨hx, h3⟩ := ok_bool hx
  obtain ⟨h1, h2⟩ := ok_bool hx
  obtain ⟨fo, ho, h⟩ := bnd h
  cases h
  exact s_repl x (S.Kt _ _ h2 ho) (by simpa using h3) h1 h4
theorem snd_Kt (x : XO P Γ X W) {n : Nat} (S : Snd P Γ X W n) : ∀ e f, tokE Γ e = true → cE Γ (n + 1) e = some f → PEK X e (tEv P W f) := by
  intro e f ht h
  unfold tokE at ht
  split at ht
  · rename_i a i j p pos
    have hn : dctE Γ a = none := by simpa using ht
    have h' : (if isSlice (.Constant (.int i) j p) then none else match dctE Γ a with
      | some ps => (cE Γ n (.Constant (.int i) j p)).bind fun fc => some fun ρ => T.bind (fc ρ) (dgetD ps)
      | none => (cE Γ n a).bind fun fa => (cE Γ n (.Constant (.int i) j p)).bind fun fc => some fun ρ => T.bind (fa ρ) fun x => T.bind (fc ρ) fun y => opI x y) = some f := h
    rw [hn] at h'
    obtain ⟨_, h'⟩ := itN h'
    obtain ⟨fa, ha, h'⟩ := bnd h'
    obtain ⟨fc, hc, h'⟩ := bnd h'
    cases h'
    cases n with
    | zero => cases hc
    | succ n =>
      cases hc
      exact s_ixK x (S.E _ _ ha)
  · rename_i o m ap args cp
    obtain ⟨q, hq⟩ := Option.isSome_iff_exists.mp ht
    have hb : boolArg args = none := by
      obtain ⟨_, j, c0, k, c1, e⟩ := replArg_inv hq
      subst e
      rfl
    have h' : (match boolArg args with
          | some b => if baseOk o && (ap.endLine == cp.line) then (mthL m).bind fun g => (cE Γ n o).bind fun fo => some fun ρ => T.bind (fo ρ) fun x => onL g (.bool b) x else none
          | none => match replArg m args with
          | some q => if baseOk o && tokE Γ o && !(q.1 == q.2) && (ap.endLine == cp.line) then (cE Γ n o).bind fun fo => some fun ρ => T.bind (fo ρ) fun x => T.bind (asS x) (replD q.1 q.2) else none
          | none => match mthSG m args.length with
          | some f => if baseOk o && args.all (fun e => !isStar e) && (ap.endLine == cp.line) && decide (args.length < 20) then (cE Γ n o).bind fun fo => (cA Γ n args).bind fun fs => some fun ρ => T.bind (fo ρ) fun x => T.bind (asS x) fun z => T.bind (fs ρ) fun ds => f z ds else none
          | none => (oneArg args).bind fun a => if baseOk o && !isStar a && (ap.endLine == cp.line) then (mthS1 m).bind fun i => (cE Γ n o).bind fun fo => (cE Γ n a).bind fun fa => some fun ρ => T.bind (fo ρ) fun x => T.bind (asS x) fun z => T.bind (fa ρ) fun y => onS1 i.2 z y else none) = some f := h
    rw [hb, hq] at h'
    exact rep_of x S hq h'
  · cases ht
theorem snd_E (x : XO P Γ X W) {n : Nat} (S : Snd P Γ X W n) (L : ∀ (P' : Pa) (Γ' : Ga) (X' : Cx) (W' : WX), XO P' Γ' X' W' → Snd P' Γ' X' W' n) : ∀ e f, cE Γ (n + 1) e = some f → PE X e (tEv P W f) := by
  intro e f h
  cases e with
  | Constant c k p =>
    cases c with
    | none => cases h; exact impE pe_non fun σ H Q ⟨ρ, b, U, R, q⟩ => KQ.now q U .non
    | bool c => cases h; exact impE pe_bl fun σ H Q ⟨ρ, b, U, R, q⟩ => KQ.now q U (.bl c)
    | int i => cases h; exact impE pe_int fun σ H Q ⟨ρ, b, U, R, q⟩ => KQ.now q U (.int i)
    | str s => cases h; exact impE pe_str fun σ H Q ⟨ρ, b, U, R, q⟩ => KQ.now q U (.str s)
    | _ => cases h
  | Name y p =>
    have h' : (match slotOf Γ y with
      | some i => some fun ρ => getV ρ i
      | none => if glob Γ y then (Γ.con.lookup y).bind fun d => if noDict d = true then some fun _ => .ret d else none else none) = some f := h
    split at h'
    · rename_i i hi
      cases h'
      exact s_var x hi
    · obtain ⟨hg, h'⟩ := itS h'
      obtain ⟨d, hd, h'⟩ := bnd h'
      obtain ⟨hn, e⟩ := itS h'
      cases e
      exact s_con x hg hd hn
  | BinOp a op c p =>
    obtain ⟨fa, ha, h⟩ := bnd (show (cE Γ n a).bind _ = _ from h)
    obtain ⟨fc, hc, h⟩ := bnd h
    cases h
    exact s_bin x (S.E _ _ ha) (S.E _ _ hc)
  | UnaryOp op a p =>
    cases op with
    | Not =>
      obtain ⟨fa, ha, h⟩ := bnd (show (cE Γ n a).bind _ = _ from h)
      cases h
      exact s_not x (S.E _ _ ha)
    | USub =>
      obtain ⟨fa, ha, h⟩ := bnd (show (cE Γ n a).bind _ = _ from h)
      cases h
      exact s_neg x (S.E _ _ ha)
    | _ => cases h
  | Compare a ops cs p =>
    match ops, cs, h with
    | [op], [c], h =>
      obtain ⟨hb, h⟩ := itN h
      split at h
      · rename_i ps hps
        obtain ⟨neg, hn, h⟩ := bnd h
        obtain ⟨fa, ha, h⟩ := bnd h
        cases h
        exact s_inD x (by simpa using hb) hps hn (S.E _ _ ha)
      obtain ⟨fa, ha, h⟩ := bnd h
      obtain ⟨fc, hc, h⟩ := bnd h
      cases h
      exact s_cmp x (by simpa using hb) (S.E _ _ ha) (S.E _ _ hc)
    | [op, op'], [c, d], h =>
      obtain ⟨hb, h⟩ := itN h
      obtain ⟨fa, ha, h⟩ := bnd h
      obtain ⟨fc, hc, h⟩ := bnd h
      obtain ⟨fd, hd, h⟩ := bnd h
      cases h
      exact s_chain x (by simpa using hb) (S.E _ _ ha) (S.E _ _ hc) (S.E _ _ hd)
    | [], [], h => cases h
    | [], _ :: _, h => cases h
    | [_], [], h => cases h
    | [_], _ :: _ :: _, h => cases h
    | [_, _], [], h => cases h
    | [_, _], [_], h => cases h
    | [_, _], _ :: _ :: _ :: _, h => cases h
    | _ :: _ :: _ :: _, _, h => cases h
  | BoolOp op es p =>
    cases es with
    | nil => cases op <;> cases h
    | cons a r =>
      cases r with
      | nil => cases op <;> exact pe_one (S.E _ _ h)
      | cons c r =>
        cases op with
        | And =>
          obtain ⟨fa, ha, h⟩ := bnd (show (cE Γ n a).bind _ = _ from h)
          obtain ⟨fc, hc, h⟩ := bnd h
          cases h
          exact s_and x (S.E _ _ ha) (S.E _ _ hc)
        | Or =>
          obtain ⟨fa, ha, h⟩ := bnd (show (cE Γ n a).bind _ = _ from h)
          obtain ⟨fc, hc, h⟩ := bnd h
          cases h
          exact s_or x (S.E _ _ ha) (S.E _ _ hc)
  | IfExp c a d p =>
    obtain ⟨fc, hc, h⟩ := bnd (show (cT Γ n c).bind _ = _ from h)
    obtain ⟨fa, ha, h⟩ := bnd h
    obtain ⟨fd, hd, h⟩ := bnd h
    cases h
    exact s_if x (S.T _ _ hc) (S.E _ _ ha) (S.E _ _ hd)
  | Tuple es k p =>
    obtain ⟨fs, ha, h⟩ := bnd (show (cA Γ n es).bind _ = _ from h)
    cases h
    exact s_tup x (S.A _ _ ha)
  | List es p =>
    obtain ⟨fs, ha, h⟩ := bnd (show (cA Γ n es).bind _ = _ from h)
    cases h
    exact s_lst x (S.A _ _ ha)
  | Dict ks vs p =>
    cases ks with
    | nil => cases vs with
      | nil => cases h; exact s_emp x
      | cons _ _ => cases h
    | cons _ _ => cases h
  | JoinedStr es p =>
    match es, h with
    | v :: w :: r, h =>
      obtain ⟨fs, ha, h⟩ := bnd (show (cJ Γ n (v :: w :: r)).bind _ = _ from h)
      cases h
      exact s_joined (S.J _ _ ha)
    | [], h => cases h
    | [_], h => cases h
  | Subscript a c p =>
    have other : (if isSlice c then none else match dctE Γ a with
      | some ps => (cE Γ n c).bind fun fc => some fun ρ => T.bind (fc ρ) (dgetD ps)
      | none => (cE Γ n a).bind fun fa => (cE Γ n c).bind fun fc => some fun ρ => T.bind (fa ρ) fun x => T.bind (fc ρ) fun y => opI x y) = some f → PE X (.Subscript a c p) (tEv P W f) := fun h => by
      obtain ⟨hs, h⟩ := itN h
      split at h
      · rename_i ps hps
        obtain ⟨fc, hc, h⟩ := bnd h
        cases h
        exact s_ixD x (by simpa using hs) hps (S.E _ _ hc)
      obtain ⟨fa, ha, h⟩ := bnd h
      obtain ⟨fc, hc, h⟩ := bnd h
      cases h
      exact s_ix x (by simpa using hs) (S.E _ _ ha) (S.E _ _ hc)
    cases c with
    | Slice lo hi st p2 =>
      cases st with
      | none =>
        obtain ⟨fa, ha, h⟩ := bnd (show (cE Γ n a).bind _ = _ from h)
        obtain ⟨fl, hl, h⟩ := bnd h
        obtain ⟨fh, hh, h⟩ := bnd h
        cases h
        exact s_sl x (S.E _ _ ha) (S.O _ _ hl) (S.O _ _ hh)
      | some _ => exact other h
    | _ => exact other h
  | Call fn args kws p =>
    cases kws with
    | cons kk kr =>
      cases args with
      | nil =>
        cases fn with
        | Name g p1 =>
          obtain ⟨hg, h⟩ := itS h
          obtain ⟨nms, hn, h⟩ := bnd h
          obtain ⟨is, hk, h⟩ := bnd h
          obtain ⟨i, hi, h⟩ := bnd h
          obtain ⟨fs, hf, h⟩ := bnd h
          cases h
          exact s_kw x hg hn hk hi (S.K _ _ hf)
        | _ => cases h
      | cons a r => rcases r with _ | ⟨b, r⟩ <;> cases fn <;> cases h
    | nil =>
      cases fn with
      | Name g p1 =>
        cases args with
        | nil =>
          have h' : (match cThk Γ g with
            | some fe => some fe
            | none => if glob Γ g then (Γ.fns.lookup g).bind fun i => some fun _ => if i.n = 0 then i.m [] else .stuck else none) = some f := h
          split at h'
          · rename_i fe he
            cases h'
            unfold cThk at he
            split at he
            · rename_i y th ht
              obtain ⟨⟨e, e0⟩, he⟩ := itS he
              cases he
              subst e
              exact (x.thk _ _ ht).1 e0 p1 p
            · cases he
          · obtain ⟨hg, h'⟩ := itS h'
            obtain ⟨i, hi, h'⟩ := bnd h'
            cases h'
            exact s_call0 x hg hi
        | cons a r =>
          have h' : (match isiTup g r with
            | some cs => if (isE Γ a).isNone && glob Γ g && cs.all (fun c => glob Γ c && isiNames.contains c) && !isStar a && decide (cs.length ≤ 100) then (cE Γ n a).bind fun fa => some fun ρ => T.bind (fa ρ) fun x => isiTD cs x else none
            | none => match isiArg g r with
            | some c => (match isE Γ a with
              | some er => if glob Γ g && glob Γ c && Γ.ecl.contains c then some fun _ => T.bind (T.ofO (Γ.sub er.cls c)) fun k => .ret (.bool k) else none
              | none => if glob Γ g && glob Γ c && isiNames.contains c && !isStar a then (cE Γ n a).bind fun fa => some fun ρ => T.bind (fa ρ) fun x => isiD (tyName c) x
            else if glob Γ g && glob Γ c && Γ.ecl.contains c && !isStar a then (cE Γ n a).bind fun fa => some fun ρ => T.bind (fa ρ) fun x => isiX Γ.sub c x else none)
            | none => cCall Γ n g (a :: r)) = some f := h
          split at h'
          · rename_i cs hcs
            obtain ⟨hx, h'⟩ := itS h'
            obtain ⟨hx, h5⟩ := ok_bool hx
            obtain ⟨hx, h4⟩ := ok_bool hx
            obtain ⟨hx, h3⟩ := ok_bool hx
            obtain ⟨h1, h2⟩ := ok_bool hx
            obtain ⟨fa, ha, h'⟩ := bnd h'
            cases h'
            match r, hcs with
            | [.Tuple es k p2], hcs =>
              obtain ⟨e1, e2⟩ := itS (show (if g = "isinstance" then namesE es else none) = some cs from hcs)
              subst e1
              exact s_isiT x h2 e2 (fun c hc => by
                have := List.all_eq_true.mp h3 c hc
                simpa using this) (of_decide_eq_true h5) (nstar h4) (S.E _ _ ha)
          split at h'
          · rename_i c hc
            split at h'
            · rename_i er her
              obtain ⟨hx, h'⟩ := itS h'
              obtain ⟨hx, h3⟩ := ok_bool hx
              obtain ⟨h1, h2⟩ := ok_bool hx
              cases h'
              match r, hc with
              | [.Name c' p2], hc =>
                obtain ⟨e1, e2⟩ := itS (show (if g = "isinstance" then some c' else none) = some c from hc)
                cases e2
                subst e1
                cases a with
                | Name y py =>
                  obtain ⟨z, hz, ez⟩ := isE_of her
                  subst ez
                  refine impE' fun σ H Q q => ?_
                  obtain ⟨ρ, b, U, R, q⟩ := q
                  obtain ⟨k, hk, q⟩ := ofO_wp (T.wp_bind.mp q)
                  exact ⟨_, x.exI _ er hz c k p1 py p2 p (by simpa using h3) hk h1 h2, ρ, b, U, R, q⟩
                | _ => cases her
            split at h'
            · rename_i hx
              obtain ⟨hx, h4⟩ := ok_bool hx
              obtain ⟨hx, h3⟩ := ok_bool hx
              obtain ⟨h1, h2⟩ := ok_bool hx
              obtain ⟨fa, ha, h'⟩ := bnd h'
              cases h'
              match r, hc with
              | [.Name c' p2], hc =>
                obtain ⟨e1, e2⟩ := itS (show (if g = "isinstance" then some c' else none) = some c from hc)
                cases e2
                subst e1
                exact s_isi x h1 h2 (by simpa using h3) (nstar h4) (S.E _ _ ha)
            · obtain ⟨hx, h'⟩ := itS h'
              obtain ⟨hx, h4⟩ := ok_bool hx
              obtain ⟨hx, h3⟩ := ok_bool hx
              obtain ⟨h1, h2⟩ := ok_bool hx
              obtain ⟨fa, ha, h'⟩ := bnd h'
              cases h'
              match r, hc with
              | [.Name c' p2], hc =>
                obtain ⟨e1, e2⟩ := itS (show (if g = "isinstance" then some c' else none) = some c from hc)
                cases e2
                subst e1
                exact s_isK x h1 h2 (by simpa using h3) (nstar h4) (S.E _ _ ha)
          · exact S.C _ _ _ _ _ _ h'
      | Attribute o m ap =>
        have h' : (match boolArg args with
          | some b => if baseOk o && (ap.endLine == p.line) then (mthL m).bind fun g => (cE Γ n o).bind fun fo => some fun ρ => T.bind (fo ρ) fun x => onL g (.bool b) x else none
          | none => match replArg m args with
          | some q => if baseOk o && tokE Γ o && !(q.1 == q.2) && (ap.endLine == p.line) then (cE Γ n o).bind fun fo => some fun ρ => T.bind (fo ρ) fun x => T.bind (asS x) (replD q.1 q.2) else none
          | none => match mthSG m args.length with
          | some f => if baseOk o && args.all (fun e => !isStar e) && (ap.endLine == p.line) && decide (args.length < 20) then (cE Γ n o).bind fun fo => (cA Γ n args).bind fun fs => some fun ρ => T.bind (fo ρ) fun x => T.bind (asS x) fun z => T.bind (fs ρ) fun ds => f z ds else none
          | none => (oneArg args).bind fun a => if baseOk o && !isStar a && (ap.endLine == p.line) then (mthS1 m).bind fun i => (cE Γ n o).bind fun fo => (cE Γ n a).bind fun fa => some fun ρ => T.bind (fo ρ) fun x => T.bind (asS x) fun z => T.bind (fa ρ) fun y => onS1 i.2 z y else none) = some f := h
        clear h
        split at h'
        · rename_i b hb
          obtain ⟨hx, h'⟩ := itS h'
          obtain ⟨h1, h2⟩ := ok_bool hx
          obtain ⟨g, hg, h'⟩ := bnd h'
          obtain ⟨fo, ho, h'⟩ := bnd h'
          cases h'
          obtain ⟨jj, pp, e⟩ := boolArg_inv hb
          subst e
          exact s_mL x hg h1 h2 (S.E _ _ ho)
        split at h'
        · rename_i q hq
          exact (rep_of x S hq h').pe
        split at h'
        · rename_i g hg
          obtain ⟨hx, h'⟩ := itS h'
          obtain ⟨hx, h4⟩ := ok_bool hx
          obtain ⟨hx, h3⟩ := ok_bool hx
          obtain ⟨h1, h2⟩ := ok_bool hx
          obtain ⟨fo, ho, h'⟩ := bnd h'
          obtain ⟨fs, ha, h'⟩ := bnd h'
          cases h'
          refine s_mthG x hg h1 h2 (of_decide_eq_true h4) h3 (S.E _ _ ho) (S.A _ _ ha) fun z => ?_
          subst z
          cases n with
          | zero => cases ha
          | succ n =>
            cases ha
            rfl
        obtain ⟨a, e1, h⟩ := bnd h'
        have e2 := oneArg_inv e1
        subst e2
        obtain ⟨hx, h⟩ := itS h
        obtain ⟨hx, h3⟩ := ok_bool hx
        obtain ⟨h1, h2⟩ := ok_bool hx
        obtain ⟨i, hi, h⟩ := bnd h
        obtain ⟨fo, ho, h⟩ := bnd h
        obtain ⟨fa, ha, h⟩ := bnd h
        cases h
        exact s_mth x hi h1 (nstar h2) h3 (S.E _ _ ho) (S.E _ _ ha)
      | _ => cases h
  | ListComp elt gs scope p =>
    rcases gs with _ | ⟨⟨tg, iter, ifs, k⟩, _ | ⟨g2, gr⟩⟩
    · cases h
    · rcases k with (_ | k) | k
      rotate_left
      · cases h
      · cases h
      · obtain ⟨hx, h⟩ := itS h
        obtain ⟨hx, h7⟩ := ok_bool hx
        obtain ⟨hx, h4⟩ := ok_bool hx
        obtain ⟨hx, h3⟩ := ok_bool hx
        obtain ⟨h1, h2⟩ := ok_bool hx
        obtain ⟨g, hg, h⟩ := bnd h
        obtain ⟨fi, ei, h⟩ := bnd h
        obtain ⟨ft, et, h⟩ := bnd h
        obtain ⟨fe, ee, h⟩ := bnd h
        cases h
        refine s_lc x h1 h3 h4 (fun q hq => ?_) hg (S.I _ _ _ ei) (fun s H C cl fp => (L _ _ _ _ (blk_xo x h1 h2 s H C cl fp)).F _ _ et) (fun s H C cl fp => (L _ _ _ _ (blk_xo x h1 h2 s H C cl fp)).E _ _ ee)
        have := List.all_eq_true.mp h7 q hq
        simpa using this
    · rcases k with (_ | k) | k <;> cases h
  | Attribute o g p =>
    have h' : (match cAtt Γ o g with
      | some fe => some fe
      | none => if fldNames.contains g && baseOk o && !Γ.ecl.isEmpty then (cE Γ n o).bind fun fo => some fun ρ => T.bind (fo ρ) fun x => attX g x else none) = some f := h
    clear h
    split at h'
    rotate_left
    · obtain ⟨hx, h'⟩ := itS h'
      obtain ⟨hx, h3⟩ := ok_bool hx
      obtain ⟨h1, h2⟩ := ok_bool hx
      obtain ⟨fo, ho, h'⟩ := bnd h'
      cases h'
      exact s_fldK x (by simpa using h1) (fun z => by rw [z] at h3; cases h3) h2 (S.E _ _ ho)
    rename_i fe hfe
    cases h'
    have h := hfe
    obtain ⟨hfl, h⟩ := itS (show (if fldNames.contains g = true then (isE Γ o).map _ else none) = some f from h)
    obtain ⟨er, her, e⟩ := Option.map_eq_some_iff.mp h
    subst e
    cases o with
    | Name y py =>
      obtain ⟨z, hz, ez⟩ := isE_of her
      subst ez
      refine impE' fun σ H Q q => ?_
      obtain ⟨ρ, b, U, R, q⟩ := q
      obtain ⟨d, hd, q⟩ := ofO_wp q
      exact ⟨_, x.exA _ er hz g d py p (by simpa using hfl) hd, ρ, b, U, R, q⟩
    | _ => cases her
  | _ => cases h
theorem snd_zero : Snd P Γ X W 0 where
  K := fun _ _ h => nomatch h
  I := fun _ _ _ h => nomatch h
  F := fun _ _ h => nomatch h
  E := fun _ _ h => nomatch h
  C := fun _ _ _ _ _ _ h => nomatch h
  B := fun _ _ _ _ h => nomatch h
  T := fun _ _ h => nomatch h
  A := fun _ _ h => nomatch h
  O := fun _ _ h => nomatch h
  J := fun _ _ h => nomatch h
  Kt := fun _ _ _ h => nomatch h
theorem snd_all : ∀ (n : Nat) (P : Pa) (Γ : Ga) (X : Cx) (W : WX), XO P Γ X W → Snd P Γ X W n
  | 0, _, _, _, _, _ => snd_zero
  | n + 1, P, Γ, X, W, x => ⟨snd_K x (snd_all n P Γ X W x), snd_I x (snd_all n P Γ X W x), snd_F x (snd_all n P Γ X W x), snd_E x (snd_all n P Γ X W x) (snd_all n), snd_C x (snd_all n P Γ X W x) (snd_all n), snd_B x (snd_all n P Γ X W x), snd_T x (snd_all n P Γ X W x), snd_A x (snd_all n P Γ X W x), snd_O x (snd_all n P Γ X W x), snd_J x (snd_all n P Γ X W x), snd_Kt x (snd_all n P Γ X W x)⟩
theorem snd (x : XO P Γ X W) (n : Nat) : Snd P Γ X W n := snd_all n P Γ X W x
end
end Pv

-- Pv8
set_option Elab.async false
set_option linter.all false
set_option maxRecDepth 100000
set_option maxHeartbeats 8000000
namespace Pv
open PySem L2

end Pv

-- Pv9
set_option Elab.async false
set_option linter.all false
set_option maxRecDepth 100000
set_option maxHeartbeats 8000000
namespace Pv
open PySem L2

/-! ## targets -/
def storeOf (Γ : Ga) (x : Str) : Option Nat := if (Γ.sc.names.lookup x = some .local ∨ Γ.sc.names.lookup x = some .cell) ∧ Γ.fz.contains x = false then Γ.N.idxOf? x else none
def namesOf (Γ : Ga) : List Expr → Option (List Nat)
  | [] => some []
  | .Name x _ :: r => (storeOf Γ x).bind fun i => (namesOf Γ r).bind fun is => some (i :: is)
  | _ => none
def cG (Γ : Ga) : Expr → Option (PyData → En → T En)
  | .Name x _ => (storeOf Γ x).bind fun i => some fun d ρ => .ret (ρ.set i (some d))
  | .Tuple es _ _ => if Γ.calm then (namesOf Γ es).bind fun is => some fun d ρ => match d with
    | .tuple ds => if ds.length = is.length then .ret (setAll ρ is ds) else .stuck
    | _ => .stuck
    else none
  | _ => none
/-- what a try wants of its surroundings -/
structure XTr (P : Pa) (Γ : Ga) (X : Cx) : Prop where
  nopl : P.pl = []
  ex0 : X.ex = []
  hs : X.stack = X.env :: X.outer
  hf : X.env.frame = some X.env.locals
  tr : ∀ (pn : List (Addr × Obj)) (xe : Value → Shared → Prop) (W : WX), Takes (X.tr pn xe) W → PassesOwn (model X.prog X.w) X.A X.env xe → XO P Γ (X.tr pn xe) W
  cat : ∀ c, c ∈ Γ.ecl → glob Γ c = true → ∃ Cc, Names X c (.ref Cc) ∧ ∀ cn b C, Γ.sub cn c = some b → P.kc.cl cn = some C → PySem.W.exmOne X.K (.ref C) (.ref Cc) = some b
  su : ∀ (a : Addr) (oe : Obj) (C dd : Addr) (pn : List (Addr × Obj)) (nm : Str) (i : Nat) (er : Er) (vs : List (Str × V)) (B : Hp), Zc (.ref C) (some dd) oe → (∃ vs, oe.data = .fields vs) → P.kc.cl er.cls = some C → RpF P.kc B vs er.fs → slotOf Γ nm = some i →
    XO (suP P dd vs i a B) (suGa Γ nm er) (X.suite a ((a, oe) :: pn)) (fun _ _ _ _ => False)
/-- the surroundings, for statements -/
structure XS (P : Pa) (Γ : Ga) (errs : List (Str × List Str)) (X : Cx) (E : XK) : Prop where
  x : XO P Γ X (fun c d _ H => E c d H)
  fn : ∀ y, X.fn y = true
  bk : X.env.blockKind = .function
  tk : Γ.calm = true → Takes X (fun c d _ H => E c d H)
  own : Γ.calm = true → PassesOwn (model X.prog X.w) X.A X.env X.xe
  try_ : Γ.tryOk = true → XTr P Γ X
  rz : ∀ c fs, errs.lookup c = some fs → ∃ C, P.kc.cl c = some C ∧ ∀ (e : Expr) (es : List Expr) (p pos : Pos) (fa : FA), isStar e = false → es.all (fun e => !isStar e) = true → PA X (e :: es) (tEvA P (fun c d _ H => E c d H) fa) →
    PMk X (.Call (.Name c p) (e :: es) [] pos) (fun σ H Q => tEvA P (fun c d _ H => E c d H) fa σ H fun vs H1 => vs.length = fs.length ∧ ∀ d, H1 d = none → Q (.ref C) (some d) (upd H1 d (.xd (fs.zip vs))))
def tG (P : Pa) (f : PyData → En → T En) : TG := fun v σ H Q => ∃ d ρ b, Bud P b H ∧ Rp P.kc H v d ∧ Ren P H σ ρ ∧ T.wp (f d ρ) b (fun ρ' b' => ∀ σ' H', Frm H H' → Bud P b' H' → Ren P H' σ' ρ' → Q σ' H') (fun _ _ => True)
theorem impG {X : Cx} {e : Expr} {t t' : TG} (h : PG X e t) (k : ∀ v σ H Q, t' v σ H Q → t v σ H Q) : PG X e t' := ⟨fun pins s σ H v u Q I r q => h.run pins s σ H v u Q I r (k v σ H Q q)⟩
section
variable {P : Pa} {Γ : Ga} {errs : List (Str × List Str)} {X : Cx} {E : XK}
theorem store_of (S : XS P Γ errs X E) {y : Str} {i : Nat} (h : storeOf Γ y = some i) : X.N[i]? = some y ∧ Loc X.env.scope y ∧ Fre P i := by
  obtain ⟨⟨h1, hf⟩, h2⟩ := itS h
  obtain ⟨hi, e, _⟩ := List.idxOf?_eq_some_iff.mp h2
  rw [S.x.hN, S.x.hsc]
  have ey : Γ.N[i]? = some y := by
    rw [List.getElem?_eq_getElem hi]
    exact congrArg some (by simpa using e)
  exact ⟨ey, h1, fre_of S.x.toXB ey hf⟩
theorem pg_of (S : XS P Γ errs X E) {y : Str} {p : Pos} {i : Nat} (h : storeOf Γ y = some i) : PG X (.Name y p) (gName i) := by
  obtain ⟨h1, h2, _⟩ := store_of S h
  exact pg_name (by rw [S.x.hN]; exact S.x.nd) h1 h2 (.inl (S.fn y))
theorem pgs_of (S : XS P Γ errs X E) : ∀ {es : List Expr} {is : List Nat}, namesOf Γ es = some is → PGs X es (gNames is)
  | [], is, h => by
    cases h
    exact pgs_nil
  | e :: es, is, h => by
    cases e with
    | Name y p =>
      obtain ⟨i, hi, h⟩ := bnd (show (storeOf Γ y).bind _ = _ from h)
      obtain ⟨js, hj, h⟩ := bnd h
      cases h
      exact pgs_cons (pg_of S hi) (pgs_of S hj)
    | _ => cases h
theorem names_len : ∀ {es : List Expr} {is : List Nat}, namesOf Γ es = some is → es.length = is.length
  | [], is, h => by cases h; rfl
  | e :: es, is, h => by
    cases e with
    | Name y p =>
      obtain ⟨i, hi, h⟩ := bnd (show (storeOf Γ y).bind _ = _ from h)
      obtain ⟨js, hj, h⟩ := bnd h
      cases h
      simp only [List.length_cons, names_len hj]
    | _ => cases h
theorem names_each {env : Env} : ∀ {es : List Expr} {is : List Nat}, namesOf Γ es = some is → (assignEach es env).length = es.length ∧ (assignEach es env).findIdx? (·.1) = none
  | [], is, h => ⟨rfl, rfl⟩
  | e :: es, is, h => by
    cases e with
    | Name y p =>
      obtain ⟨i, hi, h⟩ := bnd (show (storeOf Γ y).bind _ = _ from h)
      obtain ⟨js, hj, h⟩ := bnd h
      obtain ⟨k1, k2⟩ := names_each (env := env) hj
      have e0 : assignEach (.Name y p :: es) env = (false, assign (.Name y p) env) :: assignEach es env := rfl
      rw [e0]
      refine ⟨by simp only [List.length_cons, k1], ?_⟩
      rw [List.findIdx?_cons, k2]
      rfl
    | _ => cases h
theorem names_nf (S : XS P Γ errs X E) : ∀ {es : List Expr} {is : List Nat}, namesOf Γ es = some is → ∀ i ∈ is, Fre P i
  | [], is, h => by
    cases h
    exact fun i hi => nomatch hi
  | e :: es, is, h => by
    cases e with
    | Name y p =>
      obtain ⟨i, hi, h⟩ := bnd (show (storeOf Γ y).bind _ = _ from h)
      obtain ⟨js, hj, h⟩ := bnd h
      cases h
      intro j hm
      rcases List.mem_cons.mp hm with rfl | hm
      · exact (store_of S hi).2.2
      · exact names_nf S hj j hm
    | _ => cases h
theorem s_tg (S : XS P Γ errs X E) {e : Expr} {f : PyData → En → T En} (h : cG Γ e = some f) : PG X e (tG P f) := by
  have hK := S.x.hK
  cases e with
  | Name y p =>
    obtain ⟨i, hi, h⟩ := bnd (show (storeOf Γ y).bind _ = _ from h)
    cases h
    refine impG (pg_of S hi) fun v σ H Q q => ?_
    obtain ⟨d, ρ, b, U, r, R, q⟩ := q
    exact q _ H (Frm.refl H) U (R.set (store_of S hi).2.2 r)
  | Tuple es k p =>
    obtain ⟨hcm, h⟩ := itS (show (if Γ.calm = true then _ else none) = some f from h)
    obtain ⟨is, hi, h⟩ := bnd (show (namesOf Γ es).bind _ = _ from h)
    cases h
    obtain ⟨e1, e2⟩ := names_each (env := X.env) hi
    refine impG (pg_tup (S.x.calm hcm) (pgs_of S hi) (n := is.length) (by rw [e1, names_len hi]) e2) fun v σ H Q q => ?_
    obtain ⟨d, ρ, b, U, r, R, q⟩ := q
    cases r with
    | @tup a vs ds h1 r1 =>
      obtain ⟨hl, q⟩ := ite_wp q
      refine ⟨a, vs, rfl, by rw [← hK]; exact h1, by rw [r1.length, hl], names_run (names_nf S hi) hl r1 R fun σ' R' => q σ' H (Frm.refl H) U R'⟩
    | _ => exact q.elim
  | _ => cases h
end
/-! ## statements -/
inductive Out where
  | nx (ρ : En) | rt (d : PyData) | bk (ρ : En) | ct (ρ : En)
abbrev FS := Nat → En → T Out
def outQ (P : Pa) (H : Hp) (D : Ends) : Out → Nat → Prop
  | .nx ρ, b => ∀ σ' H', FrmW H H' → Bud P b H' → Ren P H' σ' ρ → D.nx σ' H'
  | .rt d, b => KQW P H D.rt d b
  | .bk ρ, b => ∀ σ' H', FrmW H H' → Bud P b H' → Ren P H' σ' ρ → D.bk σ' H'
  | .ct ρ, b => ∀ σ' H', FrmW H H' → Bud P b H' → Ren P H' σ' ρ → D.ct σ' H'
theorem outQ.frm {P : Pa} {H H1 : Hp} {D : Ends} {o : Out} {b : Nat} (F : FrmW H H1) (h : outQ P H D o b) : outQ P H1 D o b := by
  cases o with
  | nx ρ => exact fun σ' H' F' U R => h σ' H' (F.trans F') U R
  | rt d => exact KQW.frm F h
  | bk ρ => exact fun σ' H' F' U R => h σ' H' (F.trans F') U R
  | ct ρ => exact fun σ' H' F' U R => h σ' H' (F.trans F') U R
def tS (P : Pa) (E : XK) (f : FS) : TS := fun D σ H => ∃ n ρ b, Bud P b H ∧ Ren P H σ ρ ∧ T.wp (f n ρ) b (outQ P H D) (KWW P H E)
def seqT (o : Out) (g : En → T Out) : T Out := match o with
  | .nx ρ => g ρ
  | o => .ret o
def forL (step : PyData → En → T Out) : List PyData → En → T Out
  | [], ρ => .ret (.nx ρ)
  | d :: r, ρ => T.bind (step d ρ) fun o => match o with
    | .nx ρ' => forL step r ρ'
    | .ct ρ' => forL step r ρ'
    | .bk ρ' => .ret (.nx ρ')
    | .rt d => .ret (.rt d)
def runW (test : FT) (body : En → T Out) : Nat → En → T Out
  | 0, _ => .stuck
  | m + 1, ρ => T.bind (test ρ) fun c => if c = true then T.bind (body ρ) fun o => match o with
      | .nx ρ' => runW test body m ρ'
      | .ct ρ' => runW test body m ρ'
      | .bk ρ' => .ret (.nx ρ')
      | .rt d => .ret (.rt d)
    else .ret (.nx ρ)
/-- two names of the def's own, stored from the right -/
def par2 (Γ : Ga) (x y : Str) (px py : Pos) (es : List Expr) : Bool :=
  decide (Γ.sc.names.lookup x = some .local) && decide (Γ.sc.names.lookup y = some .local) && (py.line == px.line) && !(x == y) && es.all (fun e => !isStar e) && !(es.all (foldedForSure 8)) && !(es.all (constantsAlone 8)) && (es.length == 2) && Γ.calm
def hasCell (Γ : Ga) : List Expr → Bool
  | [] => false
  | .Name x _ :: r => !decide (Γ.sc.names.lookup x = some .local) || hasCell Γ r
  | _ :: _ => false
def isDisp : Expr → Bool
  | .Tuple .. | .List .. => true
  | _ => false
def twoNames : Expr → Expr → Option (Str × Pos × Str × Pos × List Expr)
  | .Tuple [.Name x px, .Name y py] _ _, .Tuple es _ _ => some (x, px, y, py, es)
  | _, _ => none
/-- the errors that a clause takes -/
def tryR (sub : Str → Option Bool) (hd : Er → T Out) : T Out → T Out
  | .ret o => .ret o
  | .err e => match sub e.cls with
    | some true => hd e
    | some false => .err e
    | none => .stuck
  | .pick n f => .pick n fun i => tryR sub hd (f i)
  | .stuck => .stuck
def unsetO (i : Nat) : Out → Out
  | .nx ρ => .nx (ρ.set i none)
  | .rt d => .rt d
  | .bk ρ => .bk (ρ.set i none)
  | .ct ρ => .ct (ρ.set i none)
/-- a statement that does one thing -/
def simpS (Γ : Ga) (n : Nat) : Stmt → Option FS
  | .Assign [.Name y _] e _ => if isComp e then none else (storeOf Γ y).bind fun i => (cE Γ n e).bind fun fe => some fun _ ρ => T.bind (fe ρ) fun d => .ret (.nx (ρ.set i (some d)))
  | .Expr e _ => if isComp e then none else (cE Γ n e).bind fun fe => some fun _ ρ => T.bind (fe ρ) fun _ => .ret (.nx ρ)
  | .Return (some e) _ => (cE Γ n e).bind fun fe => some fun _ ρ => T.bind (fe ρ) fun d => .ret (.rt d)
  | _ => none
def runSu (f : Option FS) (i m : Nat) (ρ : En) : T Out := match f with
  | some fs => noRaise (T.bind (fs m (ρ.set i none)) fun o => .ret (unsetO i o))
  | none => .stuck
/-! ## lists that grow in place -/
/-- one more item on a pile -/
def appR (k : Nat) (fe : FE) : FS := fun _ ρ => match ρ[k]? with
  | some (some (.list xs)) => T.bind (fe ρ) fun d => if xs.length < big then .ret (.nx (ρ.set k (some (.list (xs ++ [d]))))) else .stuck
  | _ => .stuck
def pileR (i k : Nat) (fs : FA) : FS := fun _ ρ => T.bind (fs ρ) fun ds => if ds.length ≤ big then .ret (.nx ((ρ.set i none).set k (some (.list ds)))) else .stuck
/-- the reading sees pile k in its slot i -/
def viewF {α : Type} (i k : Nat) (f : En → T α) : En → T α := fun ρ => match ρ[k]? with
  | some (some d) => f ((ρ.set i (some d)).set k none)
  | _ => f ρ
/-- x = e + [..] for a pile: it is another list then, and again nothing leans on it -/
def addR (i k : Nat) (fe : FE) (fs : FA) : FS := fun _ ρ => match ρ[k]? with
  | some (some (.list xs)) => T.bind (fe ((ρ.set i (some (.list xs))).set k none)) fun d => match d with
    | .list ys => T.bind (fs ((ρ.set i (some (.list xs))).set k none)) fun ds => if ds.length ≤ big then (if ys.length + ds.length ≤ big then .ret (.nx ((((ρ.set i (some (.list xs))).set k none).set i none).set k (some (.list (ys ++ ds))))) else .stuck) else .stuck
    | _ => .stuck
  | _ => .stuck
/-- a pile's name takes a value of another kind -/
def repR (i k : Nat) (fe : FE) : FS := fun _ ρ => T.bind (fe ρ) fun d => .ret (.nx ((ρ.set i (some d)).set k none))
def addArg : Expr → Option (Expr × List Expr)
  | .BinOp e .Add (.List es _) _ => some (e, es)
  | _ => none
/-- x[-1] = e for a pile -/
def lastR (k : Nat) (fe : FE) : FS := fun _ ρ => T.bind (fe ρ) fun d => match ρ[k]? with
  | some (some (.list xs)) => if xs.length ≤ big ∧ xs ≠ [] then .ret (.nx (ρ.set k (some (.list (xs.set (xs.length - 1) d))))) else .stuck
  | _ => .stuck
def isM1 : Expr → Bool
  | .UnaryOp .USub (.Constant (.int 1) _ _) _ => true
  | _ => false
def lastArg : Expr → Option Str
  | .Subscript (.Name x _) i _ => if isM1 i = true then some x else none
  | _ => none
def lstArg : Expr → Option (List Expr)
  | .List es _ => some es
  | _ => none
def atomT (t : T PyData) : T PyData := T.bind t fun d => if lessD d = true then .ret d else .stuck
/-- whether a name seems to stand in an expression; a choice only, nothing rests on it -/
def ment (x : Str) : Nat → Expr → Bool
  | 0, _ => false
  | n + 1, e => match e with
    | .Name y _ => x == y
    | .BoolOp _ es _ => es.any (ment x n)
    | .BinOp a _ b _ => ment x n a || ment x n b
    | .UnaryOp _ a _ => ment x n a
    | .Lambda _ b _ _ => ment x n b
    | .IfExp a b c _ => ment x n a || ment x n b || ment x n c
    | .ListComp e gs _ _ => ment x n e || gs.any fun g => ment x n g.iter || g.ifs.any (ment x n)
    | .GeneratorExp e gs _ _ => ment x n e || gs.any fun g => ment x n g.iter || g.ifs.any (ment x n)
    | .Compare a _ es _ => ment x n a || es.any (ment x n)
    | .Call f es ks _ => ment x n f || es.any (ment x n) || ks.any fun k => ment x n k.value
    | .FormattedValue a _ _ _ => ment x n a
    | .JoinedStr es _ => es.any (ment x n)
    | .Attribute a _ _ => ment x n a
    | .Subscript a b _ => ment x n a || ment x n b
    | .Starred a _ => ment x n a
    | .List es _ => es.any (ment x n)
    | .Tuple es _ _ => es.any (ment x n)
    | .Set es _ _ => es.any (ment x n)
    | .Dict ks vs _ => ks.any (fun k => match k with | some k => ment x n k | none => false) || vs.any (ment x n)
    | .Slice a b c _ => (match a with | some a => ment x n a | none => false) || (match b with | some b => ment x n b | none => false) || (match c with | some c => ment x n c | none => false)
    | _ => false
/-- the piles that an expression seems to look at -/
def vis (Γ : Ga) (e : Expr) : List (Nat × Nat) := (plOf Γ.N Γ.pls).zipIdx.filter fun q => match Γ.N[q.1]? with
  | some y => ment y 60 e
  | none => false
def cEW (Γ : Ga) (n : Nat) (e : Expr) : Option FE := match vis Γ e with
  | [] => cE Γ n e
  | [q] => (cE Γ n e).bind fun fe => some fun ρ => atomT (viewF q.1 (Γ.N.length + q.2) fe ρ)
  | _ => none
def cER (Γ : Ga) (n : Nat) (e : Expr) : Option FE := match vis Γ e with
  | [] => cE Γ n e
  | [q] => (cE Γ n e).bind fun fe => some (viewF q.1 (Γ.N.length + q.2) fe)
  | _ => none
def cTW (Γ : Ga) (n : Nat) (e : Expr) : Option FT := match vis Γ e with
  | [] => cT Γ n e
  | [q] => (cT Γ n e).bind fun fe => some (viewF q.1 (Γ.N.length + q.2) fe)
  | _ => none
/-- the slot and the number of a pile -/
def pileIx (Γ : Ga) (x : Str) : Option (Nat × Nat) := (slotOf Γ x).bind fun i => ((plOf Γ.N Γ.pls).idxOf? i).bind fun j => if (Γ.sc.names.lookup x = some .local ∨ Γ.sc.names.lookup x = some .cell) ∧ (plOf Γ.N Γ.pls).Nodup then some (i, j) else none
/-- a pile is begun, or another name takes what is seen of one -/
def pileA (Γ : Ga) (n : Nat) (tg e : Expr) : Option FS := match tg with
  | .Name x _ => match pileIx Γ x with
    | some q => match lstArg e with
      | some es => (cA Γ n es).bind fun fs => some (pileR q.1 (Γ.N.length + q.2) fs)
      | none => match addArg e with
        | some (e1, es) => (cE Γ n e1).bind fun fe => (cA Γ n es).bind fun fs => some (addR q.1 (Γ.N.length + q.2) fe fs)
        | none => if isComp e ∨ vis Γ e ≠ [] then none else (cE Γ n e).bind fun fe => some (repR q.1 (Γ.N.length + q.2) fe)
    | none => if isComp e ∨ vis Γ e = [] then none else (storeOf Γ x).bind fun i => (cEW Γ n e).bind fun fe => some fun _ ρ => T.bind (fe ρ) fun d => .ret (.nx (ρ.set i (some d)))
  | tg => match lastArg tg with
    | some x => if isComp e then none else (pileIx Γ x).bind fun q => (cEW Γ n e).bind fun fe => some (lastR (Γ.N.length + q.2) fe)
    | none => none
/-- a comprehension with one for -/
def lcOne : Expr → Bool
  | .ListComp _ [⟨_, _, _, 0⟩] _ _ => true
  | _ => false
/-- x.extend([..]) -/
def extR (k : Nat) (fe : FE) : FS := fun _ ρ => match ρ[k]? with
  | some (some (.list xs)) => T.bind (fe ρ) fun d => match d with
    | .list ys => if xs.length + ys.length ≤ big then .ret (.nx (ρ.set k (some (.list (xs ++ ys))))) else .stuck
    | _ => .stuck
  | _ => .stuck
/-- x.append(e), x.extend([..]) -/
def pileB (Γ : Ga) (n : Nat) : Expr → Option FS
  | .Call (.Attribute (.Name x _) m ap) [e] [] cp => if m = "append" ∧ (ap.endLine == cp.line) = true ∧ isStar e = false then (pileIx Γ x).bind fun q => (cEW Γ n e).bind fun fe => some (appR (Γ.N.length + q.2) fe)
    else if m = "extend" ∧ (ap.endLine == cp.line) = true ∧ lcOne e = true then (pileIx Γ x).bind fun q => (cE Γ n e).bind fun fe => some (extR (Γ.N.length + q.2) fe) else none
  | _ => none
/-- what x op= e does to ints -/
def augI : Operator → Option (Int → Int → Int)
  | .Add => some fun a b => a + b
  | .Sub => some fun a b => a - b
  | _ => none
def asg2 : Stmt → Option (Str × Str)
  | .Assign [.Name y _] (.Name z _) _ => some (y, z)
  | _ => none
/-- an except suite that only keeps the error -/
def keepOf (nm : Str) (b0 : Stmt) (su : List Stmt) : Option Str := (asg2 b0).bind fun q => if q.2 = nm ∧ su.isEmpty = true then some q.1 else none
theorem asg2_inv {b0 : Stmt} {q : Str × Str} (h : asg2 b0 = some q) : ∃ p1 p2 p3, b0 = .Assign [.Name q.1 p1] (.Name q.2 p2) p3 := by
  unfold asg2 at h
  split at h
  · cases h
    exact ⟨_, _, _, rfl⟩
  · cases h
theorem keepOf_inv {nm y : Str} {b0 : Stmt} {su : List Stmt} (h : keepOf nm b0 su = some y) : ∃ p1 p2 p3, b0 = .Assign [.Name y p1] (.Name nm p2) p3 ∧ su = [] := by
  obtain ⟨q, hq, h⟩ := Option.bind_eq_some_iff.mp h
  obtain ⟨p1, p2, p3, e⟩ := asg2_inv hq
  split at h
  · rename_i k
    cases h
    obtain ⟨k1, k2⟩ := k
    subst k1
    exact ⟨p1, p2, p3, e, by simpa using k2⟩
  · cases h
/-- an except that names two or three classes -/
def anyS (sub : Str → Str → Option Bool) (cn : Str) : List Str → Option Bool
  | [] => some false
  | c :: r => (sub cn c).bind fun b => (anyS sub cn r).map fun d => b || d
def clsOk (Γ : Ga) (c : Str) : Bool := glob Γ c && Γ.ecl.contains c
def tupC (Γ : Ga) : List Expr → Option (List Str)
  | [.Name c1 _, .Name c2 _] => if clsOk Γ c1 && clsOk Γ c2 then some [c1, c2] else none
  | [.Name c1 _, .Name c2 _, .Name c3 _] => if clsOk Γ c1 && (clsOk Γ c2 && clsOk Γ c3) then some [c1, c2, c3] else none
  | _ => none
/-- three names at once -/
def threeNames : Expr → Expr → Option ((Str × Pos) × (Str × Pos) × (Str × Pos) × List Expr)
  | .Tuple [.Name x px, .Name y py, .Name z pz] _ _, .Tuple es _ _ => some ((x, px), (y, py), (z, pz), es)
  | _, _ => none
def par3 (Γ : Ga) (x y z : Str) (px py pz : Pos) (es : List Expr) : Bool :=
  decide (Γ.sc.names.lookup x = some .local) && (decide (Γ.sc.names.lookup y = some .local) && (decide (Γ.sc.names.lookup z = some .local) && ((py.line == px.line) && ((pz.line == px.line) && (!(x == y) && (!(x == z) && (!(y == z) && (es.all (fun e => !isStar e) && (!(es.all (foldedForSure 8)) && (!(es.all (constantsAlone 8)) && ((es.length == 3) && Γ.calm)))))))))))
/-- the first of three is a list, for a pile -/
def par3P (i k j l : Nat) (fs : FA) (f2 f3 : FE) : FS := fun _ ρ => T.bind (fs ρ) fun ds => if ds.length ≤ big then T.bind (f2 ρ) fun d => T.bind (f3 ρ) fun e => .ret (.nx ((((ρ.set i none).set k (some (.list ds))).set j (some d)).set l (some e))) else .stuck
def par2P (i k j : Nat) (fs : FA) (f2 : FE) : FS := fun _ ρ => T.bind (fs ρ) fun ds => if ds.length ≤ big then T.bind (f2 ρ) fun d => .ret (.nx (((ρ.set i none).set k (some (.list ds))).set j (some d))) else .stuck
def par3F (i j l : Nat) (fs : FA) : FS := fun _ ρ => T.bind (fs ρ) fun ds => match ds with
  | [a, b, c] => .ret (.nx (((ρ.set i (some a)).set j (some b)).set l (some c)))
  | _ => .stuck
def lst3 : List Expr → Option (List Expr × Expr × Expr)
  | [.List es _, e2, e3] => some (es, e2, e3)
  | _ => none
def lst2 : List Expr → Option (List Expr × Expr)
  | [.List es _, e2] => some (es, e2)
  | _ => none
def parC (Γ : Ga) (n : Nat) (tg e : Expr) : Option FS := match threeNames tg e with
  | some ((x, px), (y, py), (z, pz), es) => if par3 Γ x y z px py pz es then (match pileIx Γ x with
    | some q => (lst3 es).bind fun r => (storeOf Γ y).bind fun j => (storeOf Γ z).bind fun l => if j = l then none else (cA Γ n r.1).bind fun fs => (cE Γ n r.2.1).bind fun f2 => (cE Γ n r.2.2).bind fun f3 => some (par3P q.1 (Γ.N.length + q.2) j l fs f2 f3)
    | none => (storeOf Γ x).bind fun i => (storeOf Γ y).bind fun j => (storeOf Γ z).bind fun l => if i = j ∨ i = l ∨ j = l then none else (cA Γ n es).bind fun fs => some (par3F i j l fs)) else none
  | none => match twoNames tg e with
    | some (x, px, y, py, es) => if par2 Γ x y px py es then (pileIx Γ x).bind fun q => (lst2 es).bind fun r => (storeOf Γ y).bind fun j => (cA Γ n r.1).bind fun fs => (cE Γ n r.2).bind fun f2 => some (par2P q.1 (Γ.N.length + q.2) j fs f2) else none
    | none => none
/-- a written value that a suite hands back -/
def constD : Const → Option PyData
  | .none => some .none
  | .bool b => some (.bool b)
  | .int i => some (.int i)
  | .str s => some (.str s)
  | _ => none
def suD : List Stmt → Option PyData
  | [.Return (some (.Constant k _ _)) _] => constD k
  | _ => none
theorem suD_inv {su : List Stmt} {d : PyData} (h : suD su = some d) : ∃ k j p2 p3, su = [.Return (some (.Constant k j p2)) p3] ∧ constD k = some d := by
  unfold suD at h
  split at h
  · exact ⟨_, _, _, _, rfl, h⟩
  · cases h
mutual
/-- a comprehension that is stored under a plain name as it is made -/
def lcPlain (Γ : Ga) (x : Str) (p : Pos) : Expr → Bool
  | .ListComp _ [⟨_, _, _, 0⟩] scope pos => decide (Γ.sc.kind = .function) && decide (Γ.sc.names.lookup x = some .local) && (p.line == pos.line) && !(scope.names.any fun (n, k) => n == x && (k == .local || k == .cell))
  | _ => false
def cS (Γ : Ga) (errs : List (Str × List Str)) : Nat → Stmt → Option FS
  | 0, _ => none
  | n + 1, s => match s with
    | .Assign [tg] e _ => match pileA Γ n tg e with
     | some f => some f
     | none => match parC Γ n tg e with
     | some f => some f
     | none => match twoNames tg e with
      | some (x, px, y, py, es) =>
        if par2 Γ x y px py es then (storeOf Γ x).bind fun i => (storeOf Γ y).bind fun j => if i = j then none else (cA Γ n es).bind fun fs => some fun _ ρ => T.bind (fs ρ) fun ds => match ds with
          | [d, e] => .ret (.nx ((ρ.set i (some d)).set j (some e)))
          | _ => .stuck
        else if hasCell Γ [.Name x px, .Name y py] && (es.length == 2) then (cG Γ tg).bind fun g => (cE Γ n e).bind fun fe => some fun _ ρ => T.bind (fe ρ) fun d => T.bind (g d ρ) fun ρ' => .ret (.nx ρ')
        else if es.all (foldedForSure 8) then (cG Γ tg).bind fun g => (cE Γ n e).bind fun fe => some fun _ ρ => T.bind (fe ρ) fun d => T.bind (g d ρ) fun ρ' => .ret (.nx ρ')
        else none
      | none => match tg with
        | .Name x px => if isComp e && (!decide (Γ.sc.names.lookup x = some .cell) && !lcPlain Γ x px e) then none else (storeOf Γ x).bind fun i => (cE Γ n e).bind fun fe => some fun _ ρ => T.bind (fe ρ) fun d => .ret (.nx (ρ.set i (some d)))
        | .Tuple ts k p => if isComp e || isDisp e then none else (cG Γ (.Tuple ts k p)).bind fun g => (cE Γ n e).bind fun fe => some fun _ ρ => T.bind (fe ρ) fun d => T.bind (g d ρ) fun ρ' => .ret (.nx ρ')
        | _ => none
    | .Expr (.Constant (.str _) _ _) _ => some fun _ ρ => .ret (.nx ρ)
    | .Expr e _ => match pileB Γ n e with
      | some f => some f
      | none => if isComp e then none else (cE Γ n e).bind fun fe => some fun _ ρ => T.bind (fe ρ) fun _ => .ret (.nx ρ)
    | .Return (some e) _ => (cER Γ n e).bind fun fe => some fun _ ρ => T.bind (fe ρ) fun d => .ret (.rt d)
    | .Return none _ => some fun _ _ => .ret (.rt .none)
    | .If c a b _ => (cTW Γ n c).bind fun fc => (cSs Γ errs n a).bind fun fa => (cSs Γ errs n b).bind fun fb => some fun m ρ => T.bind (fc ρ) fun k => if k = true then fa m ρ else fb m ρ
    | .While c b [] _ => (cTW Γ n c).bind fun fc => (cSs Γ errs n b).bind fun fb => if Γ.calm then some fun m ρ => runW fc (fb m) m ρ else none
    | .For tg it b [] _ => (cI Γ n tg it).bind fun fi => (cG Γ tg).bind fun g => (cSs Γ errs n b).bind fun fb => if foldOk it && Γ.calm then some fun m ρ => T.bind (fi ρ) fun ds => forL (fun d ρ' => T.bind (g d ρ') (fb m)) ds ρ else none
    | .Raise (some (.Call (.Name c _) (e :: es) [] _)) none _ => if !isStar e && es.all (fun e => !isStar e) && Γ.calm then (errs.lookup c).bind fun fs => (cA Γ n (e :: es)).bind fun fa => some fun _ ρ => T.bind (fa ρ) fun ds => if ds.length = fs.length then .err ⟨c, fs.zip ds⟩ else .stuck else none
    | .Try [s0] [.ExceptHandler (some (.Name c _)) (some nm) (b0 :: su) _] [] [] _ => if Γ.tryOk && Γ.calm && glob Γ c && Γ.ecl.contains c && decide (Γ.sc.names.lookup nm = some .local) && decide (slotOf Γ nm = storeOf Γ nm) then (storeOf Γ nm).bind fun i => (simpS Γ n s0).bind fun f0 => match keepOf nm b0 su with
      | some y => if decide (Γ.sc.names.lookup y = some .local) then (storeOf Γ y).bind fun j => if i = j then none else some fun m ρ => tryR (fun cn => Γ.sub cn c) (fun er => .ret (.nx (((ρ.set i none).set j (some (excD er.cls er.fs))).set i none))) (f0 m ρ) else none
      | none => some fun m ρ => tryR (fun cn => Γ.sub cn c) (fun er => runSu (cSs (suGa Γ nm er) [] n (b0 :: su)) i m ρ) (f0 m ρ) else none
    | .Try [s0] [.ExceptHandler (some (.Name c _)) none su _] [] [] _ => if Γ.tryOk && Γ.calm && glob Γ c && Γ.ecl.contains c then (simpS Γ n s0).bind fun f0 => (suD su).bind fun d => some fun m ρ => tryR (fun cn => Γ.sub cn c) (fun _ => .ret (.rt d)) (f0 m ρ) else none
    | .Try [s0] [.ExceptHandler (some (.Tuple es _ _)) (some nm) (b0 :: su) _] [] [] _ => if Γ.tryOk && Γ.calm && decide (Γ.sc.names.lookup nm = some .local) && decide (slotOf Γ nm = storeOf Γ nm) then (tupC Γ es).bind fun cs => (storeOf Γ nm).bind fun i => (simpS Γ n s0).bind fun f0 => (keepOf nm b0 su).bind fun y => if decide (Γ.sc.names.lookup y = some .local) then (storeOf Γ y).bind fun j => if i = j then none else some fun m ρ => tryR (fun cn => anyS Γ.sub cn cs) (fun er => .ret (.nx (((ρ.set i none).set j (some (excD er.cls er.fs))).set i none))) (f0 m ρ) else none else none
    | .AugAssign (.Name x _) op e _ => (augI op).bind fun g => (storeOf Γ x).bind fun i => (cEW Γ n e).bind fun fe => some fun _ ρ => T.bind (getV ρ i) fun x => T.bind (asI x) fun a => T.bind (fe ρ) fun y => T.bind (asI y) fun b => .ret (.nx (ρ.set i (some (.int (g a b)))))
    | .Pass _ => some fun _ ρ => .ret (.nx ρ)
    | .Break _ => some fun _ ρ => .ret (.bk ρ)
    | .Continue _ => some fun _ ρ => .ret (.ct ρ)
    | _ => none
def cSs (Γ : Ga) (errs : List (Str × List Str)) : Nat → List Stmt → Option FS
  | 0, _ => none
  | n + 1, ss => match ss with
    | [] => some fun _ ρ => .ret (.nx ρ)
    | s :: r => (cS Γ errs n s).bind fun fs => (cSs Γ errs n r).bind fun fr => some fun m ρ => T.bind (fs m ρ) fun o => seqT o (fr m)
end
end Pv

-- Pv10
set_option Elab.async false
set_option linter.all false
set_option maxRecDepth 100000
set_option maxHeartbeats 8000000
namespace Pv
open PySem L2
theorem impS {X : Cx} {s : Stmt} {t t' : TS} (h : PS X s t) (k : ∀ D σ H, t' D σ H → t D σ H) : PS X s t' := ⟨fun pins s σ H D I q => h.run pins s σ H D I (k D σ H q)⟩
theorem impSs {X : Cx} {s : List Stmt} {t t' : TS} (h : PSs X s t) (k : ∀ D σ H, t' D σ H → t D σ H) : PSs X s t' := ⟨fun pins s σ H D I q => h.run pins s σ H D I (k D σ H q)⟩
theorem star_m (a : Expr) : (match a with | .Starred .. => true | _ => false) = isStar a := by cases a <;> rfl
theorem swap2 {env : Env} {x y : Str} {px py pt p2 : Pos} {kt k2 : Nat} {a b : Expr} (hb : env.blockKind = .function) (hx : env.kindOf x = some .local) (hy : env.kindOf y = some .local) (hl : (py.line == px.line) = true) (hne : (x == y) = false)
    (h0 : isStar a = false) (h1 : isStar b = false) (h2 : [a, b].all (foldedForSure 8) = false) (h3 : [a, b].all (constantsAlone 8) = false) : swappedStores [.Tuple [.Name x px, .Name y py] kt pt] (.Tuple [a, b] k2 p2) env = pure (some [x, y]) := by
  have hne' : ¬ y = x := fun e => by rw [e] at hne; simp at hne
  have hl' : py.line = px.line := by simpa using hl
  unfold swappedStores
  simp only [List.any_cons, List.any_nil, star_m, h0, h1, hb, List.length_cons, List.length_nil, List.head?_cons, Option.map_some, Option.getD_some, List.filterMap_cons, List.filterMap_nil, hx, hy, h2, h3, hl', Expr.pos, beq_self_eq_true, Bool.and_self, if_true]
  have e1 : ([x, y] : List Str).eraseDups = [x, y] := by
    simp [List.eraseDups_cons, hne']
  simp [e1]
  intro h
  exfalso
  rcases h with h | h
  · cases a <;> first | (simp [isStar] at h0; done) | (simp at h; done)
  · cases b <;> first | (simp [isStar] at h1; done) | (simp at h; done)
theorem swapC {env : Env} {x y : Str} {px py pt p2 : Pos} {kt k2 : Nat} {a b : Expr} (hb : env.blockKind = .function) (h : (env.kindOf x = some .local ∧ env.kindOf y = some .local) → False) (h0 : isStar a = false) (h1 : isStar b = false) :
    swappedStores [.Tuple [.Name x px, .Name y py] kt pt] (.Tuple [a, b] k2 p2) env = pure none := by
  unfold swappedStores
  simp only [List.any_cons, List.any_nil, star_m, h0, h1, hb, List.length_cons, List.length_nil, List.head?_cons, Option.map_some, Option.getD_some, List.filterMap_cons, List.filterMap_nil, Expr.pos, beq_self_eq_true, Bool.and_self, if_true]
  by_cases hx : env.kindOf x = some .local
  · have hy : ¬ env.kindOf y = some .local := fun z => h ⟨hx, z⟩
    simp [hx, hy]
  · by_cases hy : env.kindOf y = some .local
    · by_cases hl : py.line = px.line <;> simp [hx, hy, hl]
    · simp [hx, hy]
theorem swapF {ts vs : List Expr} {kt k2 : Nat} {pt p2 : Pos} {env : Env} (h : vs.all (foldedForSure 8) = true) : swappedStores [.Tuple ts kt pt] (.Tuple vs k2 p2) env = pure none := by
  unfold swappedStores
  simp only [h, if_true]
  split
  · rfl
  · split
    · rfl
    · split <;> rfl
theorem swapN {ts : List Expr} {k : Nat} {p : Pos} {e : Expr} {env : Env} (h : isDisp e = false) : swappedStores [.Tuple ts k p] e env = pure none := by
  cases e <;> first | rfl | simp [isDisp] at h
section
variable {P : Pa} {Γ : Ga} {errs : List (Str × List Str)} {X : Cx} {E : XK}
structure SndS (P : Pa) (Γ : Ga) (errs : List (Str × List Str)) (X : Cx) (E : XK) (n : Nat) : Prop where
  S : ∀ s f, cS Γ errs n s = some f → PS X s (tS P E f)
  B : ∀ ss f, cSs Γ errs n ss = some f → PSs X ss (tS P E f)
abbrev W0 (E : XK) : WX := fun c d _ H => E c d H
/-- the steps, with errors that stay as they are -/
theorem stE {α : Type} {σ : St} {H H0 : Hp} {ρ : En} {b : Nat} {f : FE} {g : PyData → T α} {QQ : α → Nat → Prop} {R : VK} (F : FrmW H0 H) (U : Bud P b H) (r : Ren P H σ ρ) (h : T.wp (T.bind (f ρ) g) b QQ (KWW P H0 E))
    (k : ∀ d b1 v H1, FrmW H0 H1 → Bud P b1 H1 → Rp P.kc H1 v d → Ren P H1 σ ρ → T.wp (g d) b1 QQ (KWW P H0 E) → R v H1) : tEv P (W0 E) f σ H R :=
  stepE U r h (fun _ _ e => (e.frm F).e) fun d b1 v H1 F1 U1 r1 R1 q => k d b1 v H1 (F.trans F1.w) U1 r1 R1 q
theorem stT {α : Type} {σ : St} {H H0 : Hp} {ρ : En} {b : Nat} {f : FT} {g : Bool → T α} {QQ : α → Nat → Prop} {R : Bool → Hp → Prop} (F : FrmW H0 H) (U : Bud P b H) (r : Ren P H σ ρ) (h : T.wp (T.bind (f ρ) g) b QQ (KWW P H0 E))
    (k : ∀ d b1 H1, FrmW H0 H1 → Bud P b1 H1 → Ren P H1 σ ρ → T.wp (g d) b1 QQ (KWW P H0 E) → R d H1) : tEvT P (W0 E) f σ H R :=
  stepT U r h (fun _ _ e => (e.frm F).e) fun d b1 H1 F1 U1 R1 q => k d b1 H1 (F.trans F1.w) U1 R1 q
theorem stA {α : Type} {σ : St} {H H0 : Hp} {ρ : En} {b : Nat} {f : FA} {g : List PyData → T α} {QQ : α → Nat → Prop} {R : List V → Hp → Prop} (F : FrmW H0 H) (U : Bud P b H) (r : Ren P H σ ρ) (h : T.wp (T.bind (f ρ) g) b QQ (KWW P H0 E))
    (k : ∀ d b1 vs H1, FrmW H0 H1 → Bud P b1 H1 → RpA P.kc H1 vs d → Ren P H1 σ ρ → T.wp (g d) b1 QQ (KWW P H0 E) → R vs H1) : tEvA P (W0 E) f σ H R :=
  stepA U r h (fun _ _ e => (e.frm F).e) fun d b1 vs H1 F1 U1 r1 R1 q => k d b1 vs H1 (F.trans F1.w) U1 r1 R1 q
theorem errT {α : Type} {t : T α} {b : Nat} {Q : α → Nat → Prop} {EE : Er → Nat → Prop} (h : T.wp t b Q EE) : T.wp t b Q (fun _ _ => True) := T.wp_mono h (fun _ _ _ q => q) fun _ _ _ _ => trivial
/-- a target's store behind the value: the target itself raises nothing -/
def NoErr (g : PyData → En → T En) : Prop := ∀ d ρ, (∃ ρ', g d ρ = .ret ρ') ∨ g d ρ = .stuck
theorem cG_pure {Γ : Ga} {e : Expr} {g : PyData → En → T En} (h : cG Γ e = some g) : NoErr g := by
  intro d ρ
  cases e with
  | Name y p =>
    obtain ⟨i, hi, h⟩ := bnd (show (storeOf Γ y).bind _ = _ from h)
    cases h
    exact .inl ⟨_, rfl⟩
  | Tuple es k p =>
    obtain ⟨_, h⟩ := itS (show (if Γ.calm = true then _ else none) = some g from h)
    obtain ⟨is, hi, h⟩ := bnd (show (namesOf Γ es).bind _ = _ from h)
    cases h
    cases d with
    | tuple ds =>
      by_cases hl : ds.length = is.length
      · exact .inl ⟨_, if_pos hl⟩
      · exact .inr (if_neg hl)
    | _ => exact .inr rfl
  | _ => cases h
/-- v is stored: what follows has the names -/
theorem store_run {α : Type} {σ : St} {H : Hp} {ρ : En} {b : Nat} {g : PyData → En → T En} {k : En → T α} {QQ : α → Nat → Prop} {EE : Er → Nat → Prop} {d : PyData} {v : V} {Q : St → Hp → Prop} (hg : NoErr g) (U : Bud P b H) (r : Ren P H σ ρ) (rv : Rp P.kc H v d) (h : T.wp (T.bind (g d ρ) k) b QQ EE)
    (q : ∀ σ' H' ρ', Frm H H' → Bud P b H' → Ren P H' σ' ρ' → T.wp (k ρ') b QQ EE → Q σ' H') : tG P g v σ H Q := by
  refine ⟨d, ρ, b, U, rv, r, ?_⟩
  rcases hg d ρ with ⟨ρ', e⟩ | e
  · rw [e] at h ⊢
    exact fun σ' H' F U' R' => q σ' H' ρ' F U' R' h
  · rw [e] at h
    exact h.elim
theorem swaps_at {X : Cx} {Γ : Ga} {e : Expr} {y : Str} {p : Pos} {l : Nat} (hsc : X.env.scope = Γ.sc) (h : isComp e = true → Γ.sc.names.lookup y = some .cell) : swapsWith e (some (.Name y p)) l X.env = pure false := by
  cases hc : isComp e with
  | false => exact swaps_none hc
  | true =>
    have hk : X.env.kindOf y = some .cell := by
      show X.env.scope.names.lookup y = _
      rw [hsc]
      exact h hc
    have hn : (X.env.kindOf y == some NameKind.local) = false := by rw [hk]; rfl
    cases e <;> first | (exfalso; simp [isComp] at hc; done) | (unfold swapsWith; simp [hn])
theorem s_set (S : XS P Γ errs X E) {y : Str} {p pos : Pos} {e : Expr} {i : Nat} {fe : FE} (hs : swapsWith e (some (.Name y p)) pos.line X.env = pure false) (hi : storeOf Γ y = some i) (he : PE X e (tEv P (W0 E) fe)) :
    PS X (.Assign [.Name y p] e pos) (tS P E fun _ ρ => T.bind (fe ρ) fun d => .ret (.nx (ρ.set i (some d)))) := by
  obtain ⟨h1, h2, nf⟩ := store_of S hi
  refine impS (ps_set (by rw [S.x.hN]; exact S.x.nd) h1 h2 he hs (.inl (S.fn y))) fun D σ H q => ?_
  obtain ⟨n, ρ, b, U, R, q⟩ := q
  exact stE (FrmW.refl H) U R q fun d b1 v H1 F1 U1 r1 R1 q1 => q1 _ H1 F1 U1 (R1.set nf r1)
theorem lc_own (x : XO P Γ X W) {n : Nat} {e : Expr} {fe : FE} (hp : lcOne e = true) (he : cE Γ n e = some fe) : PE X e (tEvL P W fe) := by
  unfold lcOne at hp
  split at hp
  · match n, he with
    | m + 1, h =>
      obtain ⟨hx, h⟩ := itS h
      obtain ⟨hx, h7⟩ := ok_bool hx
      obtain ⟨hx, h4⟩ := ok_bool hx
      obtain ⟨hx, h3⟩ := ok_bool hx
      obtain ⟨h1, h2⟩ := ok_bool hx
      obtain ⟨g, hg, h⟩ := bnd h
      obtain ⟨fi, ei, h⟩ := bnd h
      obtain ⟨ft, et, h⟩ := bnd h
      obtain ⟨fe', ee, h⟩ := bnd h
      cases h
      have Sm := snd x m
      exact s_lcL x h1 h3 h4 (fun q hq => by
        have := List.all_eq_true.mp h7 q hq
        simpa using this) hg (Sm.I _ _ _ ei) (fun s H C cl fp => (snd (blk_xo x h1 h2 s H C cl fp) m).F _ _ et) (fun s H C cl fp => (snd (blk_xo x h1 h2 s H C cl fp) m).E _ _ ee)
  · cases hp
theorem s_setLc (S : XS P Γ errs X E) {n : Nat} {y : Str} {p pos : Pos} {e : Expr} {i : Nat} {fe : FE} (hp : lcPlain Γ y p e = true) (hi : storeOf Γ y = some i) (he : cE Γ n e = some fe) :
    PS X (.Assign [.Name y p] e pos) (tS P E fun _ ρ => T.bind (fe ρ) fun d => .ret (.nx (ρ.set i (some d)))) := by
  obtain ⟨h1', h2', nf⟩ := store_of S hi
  unfold lcPlain at hp
  split at hp
  · rename_i elt tg iter ifs scope lp
    simp only [Bool.and_eq_true, decide_eq_true_eq, Bool.not_eq_true'] at hp
    obtain ⟨⟨⟨k1, k2⟩, k3⟩, k4⟩ := hp
    match n, he with
    | m + 1, h =>
      obtain ⟨hx, h⟩ := itS h
      obtain ⟨hx, h7⟩ := ok_bool hx
      obtain ⟨hx, h4⟩ := ok_bool hx
      obtain ⟨hx, h3⟩ := ok_bool hx
      obtain ⟨h1, h2⟩ := ok_bool hx
      obtain ⟨g, hg, h⟩ := bnd h
      obtain ⟨fi, ei, h⟩ := bnd h
      obtain ⟨ft, et, h⟩ := bnd h
      obtain ⟨fe', ee, h⟩ := bnd h
      cases h
      have x := S.x
      have Sm := snd x m
      have yl : X.env.scope.names.lookup y = some .local := by rw [x.hsc]; exact k2
      obtain ⟨t, hps, himp⟩ := s_lcSet (pos := lp) x h1 h3 h4 (fun q hq => by
        have := List.all_eq_true.mp h7 q hq
        simpa using this) hg (Sm.I _ _ _ ei) (fun s H C cl fp => (snd (blk_xo x h1 h2 s H C cl fp) m).F _ _ et) (fun s H C cl fp => (snd (blk_xo x h1 h2 s H C cl fp) m).E _ _ ee) (spos := pos) h1' yl (sw_true (by rw [x.hsc]; exact k1) yl k3 k4)
      refine impS hps fun D σ H q => ?_
      obtain ⟨n, ρ, b, U, R, q⟩ := q
      exact himp _ _ _ (stE (FrmW.refl H) U R q fun d b1 v H1 F1 U1 r1 R1 q1 => q1 _ H1 F1 U1 (R1.set nf r1))
  · cases hp
theorem s_asg (S : XS P Γ errs X E) {tg e : Expr} {pos : Pos} {g : PyData → En → T En} {fe : FE} (hc : isComp e = false) (hg : cG Γ tg = some g) (he : PE X e (tEv P (W0 E) fe)) (hw : swappedStores [tg] e X.env = pure none) :
    PS X (.Assign [tg] e pos) (tS P E fun _ ρ => T.bind (fe ρ) fun d => T.bind (g d ρ) fun ρ' => .ret (.nx ρ')) := by
  refine impS (ps_asg he (s_tg S hg) (swaps_none hc) hw (by cases tg <;> first | rfl | (simp [cG] at hg; done))) fun D σ H q => ?_
  obtain ⟨n, ρ, b, U, R, q⟩ := q
  exact stE (FrmW.refl H) U R q fun d b1 v H1 F1 U1 r1 R1 q1 => store_run (cG_pure hg) U1 R1 r1 q1 fun σ' H' ρ' F U' R' q' => q' σ' H' (F1.trans F.w) U' R'
theorem s_par (S : XS P Γ errs X E) {x y : Str} {px py pt p2 pos : Pos} {kt k2 : Nat} {es : List Expr} {i j : Nat} {fs : FA} (hp : par2 Γ x y px py es = true) (hi : storeOf Γ x = some i) (hj : storeOf Γ y = some j) (hij : ¬ i = j) (ha : PA X es (tEvA P (W0 E) fs)) :
    PS X (.Assign [.Tuple [.Name x px, .Name y py] kt pt] (.Tuple es k2 p2) pos) (tS P E fun _ ρ => T.bind (fs ρ) fun ds => match ds with
      | [d, e] => .ret (.nx ((ρ.set i (some d)).set j (some e)))
      | _ => .stuck) := by
  unfold par2 at hp
  simp only [Bool.and_eq_true, decide_eq_true_eq, Bool.not_eq_true', beq_iff_eq, List.all_eq_true] at hp
  obtain ⟨⟨⟨⟨⟨⟨⟨⟨k1, k2'⟩, k3⟩, k4⟩, k5⟩, k6⟩, k7⟩, k8⟩, kcm⟩ := hp
  match es, k8 with
  | [a, c], _ =>
    obtain ⟨h1, h2, nfi⟩ := store_of S hi
    obtain ⟨h3, h4, nfj⟩ := store_of S hj
    have l1 : X.env.scope.names.lookup x = some .local := by rw [S.x.hsc]; exact k1
    have l2 : X.env.scope.names.lookup y = some .local := by rw [S.x.hsc]; exact k2'
    refine impS (ps_par (S.x.calm kcm) (by rw [S.x.hN]; exact S.x.nd) h1 h3 hij l1 l2 ha (swap2 S.bk l1 l2 (by simpa using k3) k4 (by simpa using k5 a (by simp)) (by simpa using k5 c (by simp)) k6 k7)) fun D σ H q => ?_
    obtain ⟨n, ρ, b, U, R, q⟩ := q
    refine stA (FrmW.refl H) U R q fun ds b1 vs H1 F1 U1 r1 R1 q1 => ?_
    match ds, r1, q1 with
    | [d, e], r1, q1 =>
      obtain ⟨v, w, rfl, rd, re⟩ := len2 r1
      exact ⟨v, w, rfl, q1 _ H1 F1 U1 ((R1.set nfi rd).set nfj re)⟩
    | [], _, q1 => exact q1.elim
    | [_], _, q1 => exact q1.elim
    | _ :: _ :: _ :: _, _, q1 => exact q1.elim
theorem s_if2 {c : Expr} {a d : List Stmt} {p : Pos} {fc : FT} {fa fb : FS} (hc : PT X c (tEvT P (W0 E) fc)) (ha : PSs X a (tS P E fa)) (hb : PSs X d (tS P E fb)) :
    PS X (.If c a d p) (tS P E fun m ρ => T.bind (fc ρ) fun k => if k = true then fa m ρ else fb m ρ) := by
  refine impS (ps_if hc ha hb) fun D σ H q => ?_
  obtain ⟨n, ρ, b, U, R, q⟩ := q
  refine stT (FrmW.refl H) U R q fun k b1 H1 F1 U1 R1 q1 => ?_
  have go : ∀ t : T Out, T.wp t b1 (outQ P H D) (KWW P H E) → T.wp t b1 (outQ P H1 D) (KWW P H1 E) := fun t h => T.wp_mono h (fun _ _ _ q => q.frm F1) fun _ _ _ q => q.frm F1
  cases k with
  | true =>
    rw [if_pos rfl] at q1 ⊢
    exact ⟨n, ρ, b1, U1, R1, go _ q1⟩
  | false =>
    rw [if_neg Bool.false_ne_true] at q1 ⊢
    exact ⟨n, ρ, b1, U1, R1, go _ q1⟩
theorem s_while (S : XS P Γ errs X E) (cm : Γ.calm = true) {c : Expr} {body : List Stmt} {p : Pos} {fc : FT} {fb : FS} (hc : PT X c (tEvT P (W0 E) fc)) (hb : PSs X body (tS P E fb)) :
    PS X (.While c body [] p) (tS P E fun m ρ => runW fc (fb m) m ρ) := by
  refine impS (ps_while (S.own cm) hc hb) fun D σ H q => ?_
  obtain ⟨n, ρ, b, U, R, q⟩ := q
  refine ⟨fun m σ1 H1 => ∃ ρ1 b1, FrmW H H1 ∧ Bud P b1 H1 ∧ Ren P H1 σ1 ρ1 ∧ T.wp (runW fc (fb n) m ρ1) b1 (outQ P H D) (KWW P H E), ⟨n, ρ, b, FrmW.refl H, U, R, q⟩, ?_⟩
  rintro m σ1 H1 ⟨ρ1, b1, F1, U1, R1, q1⟩
  cases m with
  | zero => exact q1.elim
  | succ m =>
    refine stT F1 U1 R1 q1 fun k b2 H2 F2 U2 R2 q2 => ?_
    cases k with
    | false =>
      rw [if_neg Bool.false_ne_true] at q2 ⊢
      exact q2 σ1 H2 F2 U2 R2
    | true =>
      rw [if_pos rfl] at q2 ⊢
      refine ⟨fun σ' H' => ∃ ρ3 b3, FrmW H H' ∧ Bud P b3 H' ∧ Ren P H' σ' ρ3 ∧ T.wp (runW fc (fb n) m ρ3) b3 (outQ P H D) (KWW P H E), fun σ' H' h => ⟨m, Nat.lt_succ_self m, h⟩, ?_⟩
      refine ⟨n, ρ1, b2, U2, R2, T.wp_mono (T.wp_bind.mp q2) (fun o c _ qo => ?_) fun _ _ _ e => e.frm F2⟩
      cases o with
      | nx ρ' => exact fun σ' H' F' U' R' => ⟨ρ', c, F2.trans F', U', R', qo⟩
      | ct ρ' => exact fun σ' H' F' U' R' => ⟨ρ', c, F2.trans F', U', R', qo⟩
      | bk ρ' => exact fun σ' H' F' U' R' => qo σ' H' (F2.trans F') U' R'
      | rt d => exact KQW.frm F2 qo
theorem s_for (S : XS P Γ errs X E) {tg it : Expr} {body : List Stmt} {p : Pos} {fi : FI} {g : PyData → En → T En} {fb : FS} (cm : Γ.calm = true) (hf : foldOk it = true) (hi : PI X tg it (tEvI P (W0 E) fi)) (hg : cG Γ tg = some g) (hb : PSs X body (tS P E fb)) :
    PS X (.For tg it body [] p) (tS P E fun m ρ => T.bind (fi ρ) fun ds => forL (fun d ρ' => T.bind (g d ρ') (fb m)) ds ρ) := by
  refine impS (ps_for (S.own cm) (S.x.calm cm) hi (s_tg S hg) hb (fold_ok hf)) fun D σ H q => ?_
  obtain ⟨n, ρ, b, U, R, q⟩ := q
  refine ⟨ρ, b, U, R, T.wp_mono (T.wp_bind.mp q) (fun ds b1 _ q1 J H1 F1 U1 itd => ?_) fun _ _ _ e => e.e⟩
  refine ⟨fun i m σ2 H2 => m = ds.length - i ∧ i ≤ ds.length ∧ ∃ ρ2 b2, FrmW H1 H2 ∧ Bud P b2 H2 ∧ Ren P H2 σ2 ρ2 ∧ T.wp (forL (fun d ρ' => T.bind (g d ρ') (fb n)) (ds.drop i) ρ2) b2 (outQ P H D) (KWW P H E),
    ⟨ds.length, by simp, Nat.zero_le _, ρ, b1, FrmW.refl H1, U1, R.frm F1, q1⟩, ?_⟩
  rintro i m σ2 H2 ⟨rfl, hle, ρ2, b2, F2, U2, R2, q2⟩
  by_cases hlt : i < ds.length
  · refine .inr ⟨itd.go i H2 F2 hlt, fun σ' H' => ∃ ρ3 b3, FrmW H1 H' ∧ Bud P b3 H' ∧ Ren P H' σ' ρ3 ∧ T.wp (forL (fun d ρ' => T.bind (g d ρ') (fb n)) (ds.drop (i + 1)) ρ3) b3 (outQ P H D) (KWW P H E),
      fun σ' H' h => ⟨ds.length - (i + 1), by omega, rfl, hlt, h⟩, fun x H3 hy => ?_⟩
    obtain ⟨F3, U3, r3⟩ := itd.yld i H2 x H3 F2 hy ds[i] (by simp [hlt])
    have F13 := F2.trans F3.w
    rw [List.drop_eq_getElem_cons hlt] at q2
    have q3 : T.wp (T.bind (T.bind (g ds[i] ρ2) (fb n)) fun o => match o with
        | .nx ρ' => forL (fun d ρ' => T.bind (g d ρ') (fb n)) (ds.drop (i + 1)) ρ'
        | .ct ρ' => forL (fun d ρ' => T.bind (g d ρ') (fb n)) (ds.drop (i + 1)) ρ'
        | .bk ρ' => .ret (.nx ρ')
        | .rt d => .ret (.rt d)) b2 (outQ P H D) (KWW P H E) := q2
    rw [T.bind_assoc] at q3
    refine store_run (cG_pure hg) (U3 _ U2) (R2.frm F3) r3 q3 fun σ4 H4 ρ4 F4 U4 R4 q4 => ?_
    refine ⟨n, ρ4, b2, U4, R4, T.wp_mono (T.wp_bind.mp q4) (fun o c _ qo => ?_) fun _ _ _ e => e.frm (F1.w.trans (F13.trans F4.w))⟩
    cases o with
    | nx ρ' => exact fun σ' H' F' U' R' => ⟨ρ', c, (F13.trans F4.w).trans F', U', R', qo⟩
    | ct ρ' => exact fun σ' H' F' U' R' => ⟨ρ', c, (F13.trans F4.w).trans F', U', R', qo⟩
    | bk ρ' => exact fun σ' H' F' U' R' => qo σ' H' ((F1.w.trans (F13.trans F4.w)).trans F') U' R'
    | rt d => exact KQW.frm (F1.w.trans (F13.trans F4.w)) qo
  · refine .inl ⟨itd.stop i H2 F2 (by omega), ?_⟩
    rw [List.drop_eq_nil_of_le (by omega)] at q2
    exact q2 σ2 H2 (F1.w.trans F2) U2 R2
theorem nd_xd {fs : List (Str × V)} : ¬ IsDraw (.xd fs) := fun ⟨_, _, _, z⟩ => nomatch z
theorem zip_fst {α β : Type} : ∀ {xs : List α} {ys : List β}, ys.length = xs.length → (xs.zip ys).map (·.1) = xs
  | [], [], _ => rfl
  | x :: xs, y :: ys, h => by simp only [List.zip_cons_cons, List.map_cons, zip_fst (show ys.length = xs.length by simpa using h)]
theorem zip_snd {α β : Type} : ∀ {xs : List α} {ys : List β}, ys.length = xs.length → (xs.zip ys).map (·.2) = ys
  | [], [], _ => rfl
  | x :: xs, y :: ys, h => by simp only [List.zip_cons_cons, List.map_cons, zip_snd (show ys.length = xs.length by simpa using h)]
theorem s_raise (S : XS P Γ errs X E) {c : Str} {fs : List Str} {e : Expr} {es : List Expr} {p p2 pos : Pos} {fa : FA} (cm : Γ.calm = true) (h0 : isStar e = false) (hs : es.all (fun e => !isStar e) = true) (hl : errs.lookup c = some fs) (ha : PA X (e :: es) (tEvA P (W0 E) fa)) :
    PS X (.Raise (some (.Call (.Name c p) (e :: es) [] p2)) none pos) (tS P E fun _ ρ => T.bind (fa ρ) fun ds => if ds.length = fs.length then .err ⟨c, fs.zip ds⟩ else .stuck) := by
  obtain ⟨C, hC, mk⟩ := S.rz c fs hl
  refine impS (ps_raise (S.x.calm cm) (S.tk cm) (mk e es p p2 _ h0 hs ha)) fun D σ H q => ?_
  obtain ⟨n, ρ, b, U, R, q⟩ := q
  refine stA (FrmW.refl H) U R q fun ds b1 vs H1 F1 U1 r1 R1 q1 => ?_
  obtain ⟨hz, q1⟩ := ite_wp q1
  have hv : vs.length = fs.length := by rw [r1.length, hz]
  refine ⟨hv, fun d hd => ?_⟩
  have q2 : KWW P H E ⟨c, fs.zip ds⟩ b1 := q1
  refine q2 C d (fs.zip vs) _ hC (F1.trans (Frm.new hd).w) (U1.new hd nd_xd) upd_same ⟨by rw [zip_fst hv, zip_fst hz], ?_⟩
  rw [zip_snd hv, zip_snd hz]
  exact r1.frm (Frm.new hd)
theorem s_seq {s : Stmt} {r : List Stmt} {fs fr : FS} (hs : PS X s (tS P E fs)) (hr : PSs X r (tS P E fr)) : PSs X (s :: r) (tS P E fun m ρ => T.bind (fs m ρ) fun o => seqT o (fr m)) := by
  refine impSs (pss_cons hs hr) fun D σ H q => ?_
  obtain ⟨n, ρ, b, U, R, q⟩ := q
  refine ⟨n, ρ, b, U, R, T.wp_mono (T.wp_bind.mp q) (fun o c _ qo => ?_) fun _ _ _ e => e⟩
  cases o with
  | nx ρ' => exact fun σ' H' F' U' R' => ⟨n, ρ', c, U', R', T.wp_mono qo (fun _ _ _ q => q.frm F') fun _ _ _ q => q.frm F'⟩
  | ct ρ' => exact qo
  | bk ρ' => exact qo
  | rt d => exact qo
/-! ### try -/
theorem tryR_wp {sub : Str → Option Bool} {hd : Er → T Out} {Q : Out → Nat → Prop} {EE : Er → Nat → Prop} : ∀ {t : T Out} {b : Nat}, T.wp (tryR sub hd t) b Q EE → T.wp t b Q (fun e c => (sub e.cls = some true ∧ T.wp (hd e) c Q EE) ∨ (sub e.cls = some false ∧ EE e c))
  | .ret _, _, h => h
  | .err e, b, h => by
    have h' : T.wp (match sub e.cls with
      | some true => hd e
      | some false => .err e
      | none => .stuck) b Q EE := h
    show (sub e.cls = some true ∧ _) ∨ (sub e.cls = some false ∧ _)
    cases hs : sub e.cls with
    | none =>
      rw [hs] at h'
      exact h'.elim
    | some k =>
      rw [hs] at h'
      cases k with
      | true => exact .inl ⟨rfl, h'⟩
      | false => exact .inr ⟨rfl, h'⟩
  | .pick _ _, 0, h => h
  | .pick _ _, _ + 1, h => fun i h0 h1 => tryR_wp (h i h0 h1)
  | .stuck, _, h => h.elim
/-- a statement's reading, with the slots seen by the errors -/
def tSW (P : Pa) (W : WX) (f : FS) : TS := fun D σ H => ∃ n ρ b, Bud P b H ∧ Ren P H σ ρ ∧ T.wp (f n ρ) b (outQ P H D) (KW P H (WE W σ))
theorem s_simp {W : WX} (fn : ∀ y, X.fn y = true) (st : ∀ y i, storeOf Γ y = some i → X.N[i]? = some y ∧ Loc X.env.scope y ∧ Fre P i) (x : XO P Γ X W) {n : Nat} {s0 : Stmt} {f : FS} (h : simpS Γ n s0 = some f) : PS X s0 (tSW P W f) := by
  have N := snd x n
  cases s0 with
  | Assign ts e pos =>
    match ts, h with
    | [], h => exact absurd h (by simp [simpS])
    | _ :: _ :: _, h => exact absurd h (by simp [simpS])
    | [tg], h =>
      cases tg with
      | Name y p =>
        obtain ⟨hc, h⟩ := itN (show (if isComp e = true then none else _) = some f from h)
        obtain ⟨i, hi, h⟩ := bnd h
        obtain ⟨fe, he, h⟩ := bnd h
        cases h
        obtain ⟨h1, h2, nf⟩ := st y i hi
        refine impS (ps_set (by rw [x.hN]; exact x.nd) h1 h2 (N.E _ _ he) (swaps_none (by simpa using hc)) (.inl (fn y))) fun D σ H q => ?_
        obtain ⟨m, ρ, b, U, R, q⟩ := q
        exact stepE U R q (fun _ _ e => e) fun d b1 v H1 F1 U1 r1 R1 q1 => q1 _ H1 F1.w U1 (R1.set nf r1)
      | _ => cases h
  | Expr e pos =>
    obtain ⟨hc, h⟩ := itN (show (if isComp e = true then none else _) = some f from h)
    obtain ⟨fe, he, h⟩ := bnd h
    cases h
    refine impS (ps_expr (N.E _ _ he) (swaps_none (by simpa using hc))) fun D σ H q => ?_
    obtain ⟨m, ρ, b, U, R, q⟩ := q
    exact stepE U R q (fun _ _ e => e) fun d b1 v H1 F1 U1 r1 R1 q1 => q1 _ H1 F1.w U1 R1
  | Return e pos =>
    cases e with
    | none => cases h
    | some e =>
      obtain ⟨fe, he, h⟩ := bnd (show (cE Γ n e).bind _ = _ from h)
      cases h
      refine impS (ps_ret (N.E _ _ he)) fun D σ H q => ?_
      obtain ⟨m, ρ, b, U, R, q⟩ := q
      exact stepE U R q (fun _ _ e => e) fun d b1 v H1 F1 U1 r1 R1 q1 => (show KQW P H D.rt d b1 from q1) v H1 F1.w U1 r1
  | _ => cases h
theorem bud_suP {dd a : Addr} {vs : List (Str × V)} {i b : Nat} {B : Hp} {H : Hp} (U : Bud P b H) (h : H dd = some (.xd vs)) (hB : Frm B H) : Bud (suP P dd vs i a B) b H := by
  refine ⟨U.1, U.2.1, fun q hq => ?_, fun C hC => ?_⟩
  · rcases List.mem_cons.mp hq with rfl | hq
    · exact ⟨h, nd_xd, fun ps z => nomatch z⟩
    · exact U.2.2.1 q hq
  · rcases List.mem_cons.mp hC with rfl | hC
    · exact hB
    · exact U.2.2.2 C hC
theorem bud_of_suP {dd a : Addr} {vs : List (Str × V)} {i b : Nat} {B : Hp} {H : Hp} (U : Bud (suP P dd vs i a B) b H) : Bud P b H :=
  ⟨U.1, U.2.1, fun q hq => U.2.2.1 q (List.mem_cons_of_mem _ hq), fun C hC => U.2.2.2 C (List.mem_cons_of_mem _ hC)⟩
theorem Pls.none_ {H : Hp} {σ : St} {ρ : En} (h : P.pl = []) : Pls P H σ ρ := ⟨fun j i d e => by rw [h] at e; simp at e, fun j j' i i' d d' a e => by rw [h] at e; simp at e, fun i e => by rw [h] at e; cases e⟩
theorem ren_suP {dd a : Addr} {vs : List (Str × V)} {i : Nat} {B : Hp} {H : Hp} {σ : St} {ρ : En} (np : P.pl = []) (nf : Fre P i) (R : Ren P H σ ρ) : Ren (suP P dd vs i a B) H (σ.set i (some (.ref a))) (ρ.set i none) := by
  have R1 := R.unset nf (some (V.ref a))
  refine ⟨R1.n, R1.len, R1.val, fun q hq => ?_, Pls.none_ np⟩
  rcases List.mem_cons.mp hq with rfl | hq
  · show (σ.set i (some (V.ref a)))[i]? = _
    rw [List.getElem?_set, if_pos rfl, if_pos (by rw [R.n]; exact nf.2.2)]
  · exact R1.fz q hq
theorem ren_of_suP {dd a : Addr} {vs : List (Str × V)} {i : Nat} {B : Hp} {H : Hp} {σ : St} {ρ : En} (np : P.pl = []) (nf : Fre P i) (R : Ren (suP P dd vs i a B) H σ ρ) : Ren P H (σ.set i none) (ρ.set i none) :=
  Ren.unset nf (⟨R.n, R.len, R.val, fun q hq => R.fz q (List.mem_cons_of_mem _ hq), Pls.none_ np⟩ : Ren P H σ ρ) none
theorem s_try (S : XS P Γ errs X E) (ht : Γ.tryOk = true) (cm : Γ.calm = true) {n : Nat} {s0 : Stmt} {c nm : Str} {b0 : Stmt} {su : List Stmt} {p1 p2 pos : Pos} {i : Nat} {f0 : FS} (hg : glob Γ c = true) (hc : c ∈ Γ.ecl) (hl : Γ.sc.names.lookup nm = some .local) (hi : storeOf Γ nm = some i) (hsl : slotOf Γ nm = some i) (h0 : simpS Γ n s0 = some f0)
    (IH : ∀ (P' : Pa) (Γ' : Ga) (errs' : List (Str × List Str)) (X' : Cx) (E' : XK), XS P' Γ' errs' X' E' → SndS P' Γ' errs' X' E' n) :
    PS X (.Try [s0] [.ExceptHandler (some (.Name c p1)) (some nm) (b0 :: su) p2] [] [] pos) (tS P E fun m ρ => tryR (fun cn => Γ.sub cn c) (fun er => runSu (cSs (suGa Γ nm er) [] n (b0 :: su)) i m ρ) (f0 m ρ)) := by
  have K := S.try_ ht
  obtain ⟨h1, h2, nf⟩ := store_of S hi
  obtain ⟨Cc, nms, hex⟩ := K.cat c hc hg
  have ni : Γ.N[i]? = some nm := by rw [← S.x.hN]; exact h1
  refine ⟨fun pins s σ H D I q => (ps_try_as (i := i) K.hs K.hf (by rw [S.x.hN]; exact S.x.nd) h1 (show X.env.scope.names.lookup nm = some .local by rw [S.x.hsc]; exact hl) nms (S.tk cm) (tb := fun W => tSW P W f0)
    (ts := fun a cls d D σ H => ∃ (er : Er) (C dd : Addr) (vs : List (Str × V)) (B : Hp) (fs : FS), cls = .ref C ∧ d = some dd ∧ P.kc.cl er.cls = some C ∧ RpF P.kc B vs er.fs ∧ cSs (suGa Γ nm er) [] n (b0 :: su) = some fs ∧ tS (suP P dd vs i a B) (fun _ _ _ => False) fs D σ H)
    (fun W pn xe tk own => pss_one (s_simp (X := X.tr pn xe) S.fn (fun y j hj => store_of S hj) (K.tr pn xe W tk own) h0)) (fun a oe cls d pn hz hf => ?_)).run pins s σ H D I ?_⟩
  · refine ⟨fun pins s σ H D I q => ?_⟩
    obtain ⟨er, C, dd, vs, B, fs, rfl, rfl, k1, k2, k3, q⟩ := q
    have xs : XS (suP P dd vs i a B) (suGa Γ nm er) [] (X.suite a ((a, oe) :: pn)) (fun _ _ _ => False) := {
      x := K.su a oe C dd pn nm i er vs B hz hf k1 k2 hsl
      fn := S.fn
      bk := S.bk
      tk := fun z => nomatch z
      own := fun z => nomatch z
      try_ := fun z => nomatch z
      rz := fun c fs h => nomatch h }
    exact ((IH _ _ _ _ _ xs).B _ _ k3).run pins s σ H D I q
  · obtain ⟨m, ρ, b, U, R, q⟩ := q
    refine ⟨m, ρ, b, U, R, T.wp_mono (tryR_wp q) (fun _ _ _ q => q) fun er c' _ qe => ?_⟩
    intro C dd vs H' hC F U' hd rpf
    show wAs X.K (.ref Cc) i _ _ D (.ref C) (some dd) σ H'
    rcases qe with ⟨hs, qe⟩ | ⟨hs, qe⟩
    · refine ⟨true, hex _ _ _ hs hC, fun _ a ha => ?_, fun z => nomatch z⟩
      cases hcs : cSs (suGa Γ nm er) [] n (b0 :: su) with
      | none =>
        rw [hcs] at qe
        exact qe.elim
      | some fs =>
        rw [hcs] at qe
        have qe' := T.wp_bind.mp (noRaise_wp (show T.wp (noRaise (T.bind (fs m (ρ.set i none)) fun o => .ret (unsetO i o))) c' _ _ from qe))
        refine ⟨er, C, dd, vs, H', fs, rfl, rfl, hC, rpf, hcs, m, ρ.set i none, c', bud_suP U' hd (Frm.refl _), ren_suP K.nopl nf (R.frm F), T.wp_mono qe' (fun o c2 _ qo => ?_) fun _ _ _ e => e.elim⟩
        cases o with
        | nx ρ2 => exact fun σ2 H2 F2 U2 R2 => qo _ H2 (F.w.trans F2) (bud_of_suP U2) (ren_of_suP K.nopl nf R2)
        | bk ρ2 => exact fun σ2 H2 F2 U2 R2 => qo _ H2 (F.w.trans F2) (bud_of_suP U2) (ren_of_suP K.nopl nf R2)
        | ct ρ2 => exact fun σ2 H2 F2 U2 R2 => qo _ H2 (F.w.trans F2) (bud_of_suP U2) (ren_of_suP K.nopl nf R2)
        | rt d => exact fun v H2 F2 U2 r2 => qo v H2 (F.w.trans F2) (bud_of_suP U2) r2
    · exact ⟨false, hex _ _ _ hs hC, fun z => absurd z (by decide), fun _ => qe C dd vs H' hC F.w U' hd rpf⟩
theorem s_tryK (S : XS P Γ errs X E) (ht : Γ.tryOk = true) (cm : Γ.calm = true) {n : Nat} {s0 : Stmt} {te : Expr} {tst : Value → Option Bool} {sub' : Str → Option Bool} {nm y : Str} {p2 pos q1 q2 q3 : Pos} {i j : Nat} {f0 : FS} (hct : ClsT X te tst) (hex : ∀ cn b C, sub' cn = some b → P.kc.cl cn = some C → tst (.ref C) = some b) (hl : Γ.sc.names.lookup nm = some .local) (hi : storeOf Γ nm = some i) (hsl : slotOf Γ nm = some i)
    (hly : Γ.sc.names.lookup y = some .local) (hj : storeOf Γ y = some j) (h0 : simpS Γ n s0 = some f0) :
    PS X (.Try [s0] [.ExceptHandler (some te) (some nm) [.Assign [.Name y q1] (.Name nm q2) q3] p2] [] [] pos) (tS P E fun m ρ => tryR sub' (fun er => .ret (.nx (((ρ.set i none).set j (some (excD er.cls er.fs))).set i none))) (f0 m ρ)) := by
  have K := S.try_ ht
  obtain ⟨h1, _, nf⟩ := store_of S hi
  obtain ⟨h2, _, nf2⟩ := store_of S hj
  obtain ⟨_, _, d1, d2⟩ := slot_of S.x hsl
  refine ⟨fun pins s σ H D I q => (ps_try_keep (i := i) (j := j) K.hs K.hf K.ex0 (by rw [S.x.hN]; exact S.x.nd) h1 (show X.env.scope.names.lookup nm = some .local by rw [S.x.hsc]; exact hl) h2 (show X.env.scope.names.lookup y = some .local by rw [S.x.hsc]; exact hly) d1 d2 hct (S.tk cm) (tb := fun W => tSW P W f0)
    (fun W pn xe tk own => pss_one (s_simp (X := X.tr pn xe) S.fn (fun y j hj => store_of S hj) (K.tr pn xe W tk own) h0))).run pins s σ H D I ?_⟩
  obtain ⟨m, ρ, b, U, R, q⟩ := q
  refine ⟨m, ρ, b, U, R, T.wp_mono (tryR_wp q) (fun _ _ _ q => q) fun er c' _ qe => ?_⟩
  intro C dd vs H' hC F U' hd rpf
  show wKeep tst i j _ D (.ref C) (some dd) σ H'
  rcases qe with ⟨hs, qe⟩ | ⟨hs, qe⟩
  · refine ⟨true, hex _ _ _ hs hC, fun _ a ob ha hz hf => ?_, fun z => nomatch z⟩
    have F1 : Frm H' (upd H' a (.frz ob (.own a))) := Frm.new ha
    have nd : ¬ IsDraw (.frz ob (.own a)) := fun ⟨_, _, _, z⟩ => nomatch z
    have U1 := U'.new ha nd
    have R1 := (((R.frm F).frm F1).unset nf (some (.ref a))).set nf2 (v := .ref a) (d := excD er.cls er.fs) (.exc upd_same hz hf hC (F1.xd hd) rpf.1 (rpf.2.frm F1))
    exact (show outQ P H D (.nx _) c' from qe) _ _ (F.w.trans F1.w) U1 (R1.unset nf none)
  · exact ⟨false, hex _ _ _ hs hC, fun z => absurd z (by decide), fun _ => qe C dd vs H' hC F.w U' hd rpf⟩
end
end Pv

-- Pv29
set_option Elab.async false
set_option linter.all false
set_option maxRecDepth 100000
set_option maxHeartbeats 8000000
namespace Pv
open PySem PySem.Spec PyProof.Rows L2
section
variable {X : Cx}
/-- x.append(y) for a pile -/
def tApp (to : TE) (t : TA) : TE := fun σ H Q => to σ H fun x H1 => ∃ (a : Addr) (its : List Value) (n : Nat), x = .ref a ∧ H1 a = some (hidO a (lob its n)) ∧ t σ H1 fun ys H2 =>
  ∃ (y : V) (vs : List V) (its2 : List Value) (n2 : Nat), ys = [y] ∧ H2 a = some (hidO a (lob its2 n2)) ∧ Vals vs its2 ∧ vs.length < sizeLine ∧ ∀ (its3 : List Value) (n3 : Nat), Vals (vs ++ [y]) its3 → (∀ q, hidO a (lob its3 n3) ≠ LamX.CodeO a q) → Q .non (upd H2 a (hidO a (lob its3 n3)))
theorem pe_append {o e : Expr} {to : TE} {t : TA} {apos cpos : Pos} (ho : PE X o to) (ha : PA X [e] t)
    (hbase : attributeBase o "append" X.env (eval o X.env) = eval o X.env)
    (hfew : ((backTo cpos (starEach [e] X.env)).all (fun x => !x.1) && (backToKw cpos (keywordEach [] X.env)).all (fun x => x.1.isSome)
      && decide (([e] : List Expr).length + ([] : List Keyword).length + (if ([] : List Keyword).isEmpty then 0 else 1) < 30)) = true)
    (hline : (apos.endLine == cpos.line) = true) (hs : starEach [e] X.env = (false, eval e X.env) :: starEach [] X.env) (hplain : (backTo cpos (starEach [] X.env)).any (·.1) = false) :
    PE X (.Call (.Attribute o "append" apos) [e] [] cpos) (tApp to t) := by
  refine ⟨fun pins s σ H Q I h => ?_⟩
  refine wpAny_Call_method_late hbase hfew hline rfl (thn (ho.run pins s σ H _ I h) fun v s1 ⟨x, H1, I1, r1, a, its, n, ex, hh, q1⟩ => ?_)
  subst ex
  have ev : v = Value.ref a := r1
  subst ev
  have e1 := (I1.hok a _ hh).1
  refine ⟨"list", "list.append", F.plainAttrs_list, F.slot_list_append, F.type_list_append, ⟨_, e1, rfl⟩, fun b eb => ?_, ?_⟩
  · cases eb
    exact ⟨_, e1, rfl⟩
  have hA := ha.run cpos pins s1 σ H1 _ I1 q1
  rw [hs] at hA ⊢
  refine Calls.callWith_builtin (by show (false || (backTo cpos (starEach [] X.env)).any (·.1)) = false; rw [hplain] <;> rfl) (Calls.evalArgs_plain ?_)
  refine thn hA fun us s2 ⟨ys, H2, I2, r2, q2⟩ => ?_
  obtain ⟨y, vs, its2, n2, rfl, hh2, rv, hz, q3⟩ := q2
  have I3 := inv_show I2 hh2 rv (Nat.le_of_lt hz)
  refine thn (mt_append pins s2 σ _ (.ref a) [y] (.ref a) us (fun u H' => u = .non ∧ H' = upd (upd H2 a (.lst vs)) a (.lst (vs ++ [y]))) I3 rfl r2 ⟨a, vs, y, rfl, rfl, upd_same, hz, rfl, rfl⟩) fun u s3 ⟨w, H', I4, r4, ew, eH⟩ => ?_
  subst ew eH
  rw [upd_upd] at I4
  obtain ⟨its3, n3, rv3, _, I5⟩ := inv_hide I4 upd_same
  rw [upd_upd] at I5
  exact ⟨.non, _, I5, r4, q3 its3 n3 rv3 (hid_nocode (I5.hok a _ upd_same).1)⟩
/-- x.extend(y) for a pile, y a list of its own -/
def tExt (to : TE) (t : TA) : TE := fun σ H Q => to σ H fun x H1 => ∃ (a : Addr) (its : List Value) (n : Nat), x = .ref a ∧ H1 a = some (hidO a (lob its n)) ∧ t σ H1 fun ys H2 =>
  ∃ (b : Addr) (zs vs : List V) (its2 : List Value) (n2 : Nat), ys = [.ref b] ∧ H2 b = some (.lst zs) ∧ H2 a = some (hidO a (lob its2 n2)) ∧ Vals vs its2 ∧ vs.length + zs.length ≤ sizeLine ∧ ∀ (its3 : List Value) (n3 : Nat), Vals (vs ++ zs) its3 → (∀ q, hidO a (lob its3 n3) ≠ LamX.CodeO a q) → Q .non (upd H2 a (hidO a (lob its3 n3)))
theorem pe_extend {o e : Expr} {to : TE} {t : TA} {apos cpos : Pos} (ho : PE X o to) (ha : PA X [e] t)
    (hbase : attributeBase o "extend" X.env (eval o X.env) = eval o X.env)
    (hfew : ((backTo cpos (starEach [e] X.env)).all (fun x => !x.1) && (backToKw cpos (keywordEach [] X.env)).all (fun x => x.1.isSome)
      && decide (([e] : List Expr).length + ([] : List Keyword).length + (if ([] : List Keyword).isEmpty then 0 else 1) < 30)) = true)
    (hline : (apos.endLine == cpos.line) = true) (hs : starEach [e] X.env = (false, eval e X.env) :: starEach [] X.env) (hplain : (backTo cpos (starEach [] X.env)).any (·.1) = false) :
    PE X (.Call (.Attribute o "extend" apos) [e] [] cpos) (tExt to t) := by
  refine ⟨fun pins s σ H Q I h => ?_⟩
  refine wpAny_Call_method_late hbase hfew hline rfl (thn (ho.run pins s σ H _ I h) fun v s1 ⟨x, H1, I1, r1, a, its, n, ex, hh, q1⟩ => ?_)
  subst ex
  have ev : v = Value.ref a := r1
  subst ev
  have e1 := (I1.hok a _ hh).1
  refine ⟨"list", "list.extend", F.plainAttrs_list, F.slot_list_extend, F.type_list_extend, ⟨_, e1, rfl⟩, fun b eb => ?_, ?_⟩
  · cases eb
    exact ⟨_, e1, rfl⟩
  have hA := ha.run cpos pins s1 σ H1 _ I1 q1
  rw [hs] at hA ⊢
  refine Calls.callWith_builtin (by show (false || (backTo cpos (starEach [] X.env)).any (·.1)) = false; rw [hplain] <;> rfl) (Calls.evalArgs_plain ?_)
  refine thn hA fun us s2 ⟨ys, H2, I2, r2, q2⟩ => ?_
  obtain ⟨b, zs, vs, its2, n2, rfl, hb, hh2, rv, hz, q3⟩ := q2
  have hba : b ≠ a := fun e => by
    subst e
    rw [hb] at hh2
    cases hh2
  have I3 := inv_show I2 hh2 rv (by omega)
  refine thn (mt_extend pins s2 σ _ (.ref a) [.ref b] (.ref a) us (fun u H' => u = .non ∧ H' = upd (upd H2 a (.lst vs)) a (.lst (vs ++ zs))) I3 rfl r2 ⟨a, b, vs, zs, rfl, rfl, upd_same, by rw [upd_ne hba]; exact hb, hz, rfl, rfl⟩) fun u s3 ⟨w, H', I4, r4, ew, eH⟩ => ?_
  subst ew eH
  rw [upd_upd] at I4
  obtain ⟨its3, n3, rv3, _, I5⟩ := inv_hide I4 upd_same
  rw [upd_upd] at I5
  exact ⟨.non, _, I5, r4, q3 its3 n3 rv3 (hid_nocode (I5.hok a _ upd_same).1)⟩
end
end Pv

-- Pq9
set_option Elab.async false
set_option linter.all false
set_option maxRecDepth 100000
set_option maxHeartbeats 4000000
namespace Pv
open PySem PySem.Spec PyProof.Rows L2
/-! ## xs[-1] = v -/
section
variable {prog : Program} {w : World} {A : Around} {E : Value → Shared → Prop} {s : Shared}
theorem last_ix {items : Array Value} (hne : 0 < items.size) : ((seqIndex? (-1) items.size).bind fun j => items[j]?.map (j, ·)) = some (items.size - 1, items[items.size - 1]'(by omega)) := by
  have e : seqIndex? (-1) items.size = some (items.size - 1) := by
    unfold seqIndex?
    have e1 : ((-1 : Int) < 0) := by decide
    rw [if_pos e1]
    have e2 : (0 : Int) ≤ -1 + (items.size : Nat) := by omega
    have e3 : (-1 : Int) + (items.size : Nat) < (items.size : Nat) := by omega
    show (if (decide ((0 : Int) ≤ -1 + (items.size : Nat)) && decide ((-1 : Int) + (items.size : Nat) < (items.size : Nat))) = true then some ((-1 : Int) + (items.size : Nat)).toNat else none) = _
    rw [decide_eq_true e2, decide_eq_true e3]
    have e4 : ((-1 : Int) + (items.size : Nat)).toNat = items.size - 1 := by omega
    rw [e4]
    rfl
  rw [e]
  show (items[items.size - 1]?).map _ = _
  rw [Array.getElem?_eq_getElem (by omega)]
  rfl
theorem setItem_last {l : Addr} {items : Array Value} {n : Nat} {t : Tok} {v : Value} {Q : Unit → Shared → Prop} (e : s.heap.get? l = some { cls := .type "list", data := .seq items n }) (hne : 0 < items.size)
    (h : Q () { s with heap := s.heap.update l (Obj.mapSeq (·.setIfInBounds (items.size - 1) v)) }) : wpAny (model prog w) A (setItem (.ref l) (.int (-1) t) v) Q E s := by
  have il : s.heap.IsList l items := PySem.IsL.isList e
  unfold setItem
  try with_reducible refine wpAny_holding ?_
  first | refine wpAny_bind (wpAny_pure ?_) | skip
  refine wpAny_bind (wpAny_sequenceKey il.typeIs (by decide) ?_)
  refine wpAny_bind (wpAny_callSpecial?_slot (name := Str.ofString "__setitem__") il.typeIs slot_list_setitem (wpAny_call_entry slot_list_setitem il.typeIs entry_list_setitem ?_ (args_list_setitem _ _ _)))
  show wpAny _ _ (Builtin.List.listSubscript? (.int (-1) t) >>= _) _ _ s
  refine wpAny_bind (wpAny_listSubscript_int (k := -1) (by decide) ?_)
  show wpAny _ _ ((Builtin.List.listItems (.ref l) >>= fun xs => pure ((seqIndex? (-1) xs.size).bind fun j => xs[j]?.map (j, ·))) >>= _) _ _ s
  unfold Builtin.List.listItems
  refine wpAny_bind (wpAny_bind (wpAny_bind (wpAny_seqItems e rfl (wpAny_pure ?_))))
  rw [last_ix hne]
  refine wpAny_pure ?_
  show wpAny _ _ (setSeqItemAt l (items.size - 1) v >>= _) _ _ s
  refine wpAny_bind (wpAny_setSeqItemAt e rfl ?_)
  first
    | exact wpAny_bind (wpAny_pure (wpAny_pure ⟨.none, rfl, wpAny_pure h⟩))
    | exact wpAny_pure ⟨.none, rfl, wpAny_pure h⟩
end
end Pv

-- Pq10
set_option Elab.async false
set_option linter.all false
set_option maxRecDepth 100000
set_option maxHeartbeats 8000000
namespace Pv
open PySem PySem.Spec PyProof.Rows L2
section
variable {X : Cx}
/-- x[-1] = v for a pile: v first, then x -/
def tLast (tv to : TE) : TS := fun D σ H => tv σ H fun v H1 => to σ H1 fun x H2 => ∃ (a : Addr) (its : List Value) (n : Nat) (vs : List V), x = .ref a ∧ H2 a = some (hidO a (lob its n)) ∧ Vals vs its ∧ vs ≠ [] ∧ vs.length ≤ sizeLine ∧
  ∀ (its3 : List Value) (n3 : Nat), Vals (vs.set (vs.length - 1) v) its3 → (∀ q, hidO a (lob its3 n3) ≠ LamX.CodeO a q) → D.nx σ (upd H2 a (hidO a (lob its3 n3)))
theorem vals_set : ∀ {vs : List V} {its : List Value} {v : V} {u : Value} (k : Nat), Vals vs its → RelV v u → Vals (vs.set k v) (its.set k u)
  | _, _, _, _, _, .nil, _ => .nil
  | _, _, _, _, 0, .cons _ r, q => .cons q r
  | _, _, _, _, k + 1, .cons h r, q => .cons h (vals_set k r q)
theorem pe_m1 {p1 p2 : Pos} {kk : Nat} : PE X (.UnaryOp .USub (.Constant (.int 1) kk p1) p2) (fun σ H Q => Q (.int (-1)) H) := by
  refine ⟨fun pins s σ H Q I h => (pe_un (X := X) un_neg (pe_int (i := 1))).run pins s σ H Q I ⟨1, rfl, h⟩⟩
theorem ps_last {o value i : Expr} {to tv : TE} {pos pos' : Pos} (hi : PE X i (fun σ H Q => Q (.int (-1)) H)) (ho : PE X o to) (hv : PE X value tv) (hs : swapsWith value (some (.Subscript o i pos')) pos.line X.env = pure false) :
    PS X (.Assign [.Subscript o i pos'] value pos) (tLast tv to) := by
  refine ⟨fun pins s σ H D I h => ?_⟩
  refine wpAny_Assign_Subscript (thn (hv.run pins s σ H _ I h) fun r s1 ⟨v, H1, I1, rv, q1⟩ => thn (ho.run pins s1 σ H1 _ I1 q1) fun u s2 ⟨x, H2, I2, rx, a, its, n, vs, ex, hh, rvs, hne, hz, q2⟩ =>
    thn (hi.run pins s2 σ H2 (fun y H3 => y = .int (-1) ∧ H3 = H2) I2 ⟨rfl, rfl⟩) fun iv s3 ⟨y, H3, I3, ry, e1, e2⟩ => ?_) hs
  subst ex e1 e2
  obtain rfl : u = Value.ref a := rx
  obtain ⟨t, rfl⟩ := ry
  have e := (I3.hok a _ hh).1
  have I4 := inv_show I3 hh rvs hz
  have hl : its.length = vs.length := rvs.length.symm
  have pos : 0 < its.toArray.size := by
    rw [List.size_toArray, hl]
    exact List.length_pos_iff.mpr hne
  refine setItem_last e pos ?_
  have I5 := I4.lset (its' := its.set (its.length - 1) r) (f := (·.setIfInBounds (its.toArray.size - 1) r)) (ys := vs.set (vs.length - 1) v) (t' := s3.toks) upd_same e (by simp) (by rw [hl]; exact vals_set _ rvs rv) (by rw [List.length_set]; exact hz)
  rw [upd_upd] at I5
  obtain ⟨its3, n3, rv3, _, I6⟩ := inv_hide I5 upd_same
  rw [upd_upd] at I6
  exact ⟨σ, _, I6, q2 its3 n3 rv3 (hid_nocode (I6.hok a _ upd_same).1)⟩
end
end Pv

-- Pv30
set_option Elab.async false
set_option linter.all false
set_option maxRecDepth 100000
set_option maxHeartbeats 8000000
namespace Pv
open PySem L2
/-! ## piles made, grown -/
section
variable {P : Pa} {H : Hp} {σ : St} {ρ : En} {a : Addr} {b : Nat}
theorem frw_upd {φ : Heap → Prop} {o : HO} (h : H a = some (.ext φ)) : FrmW H (upd H a o) := fun c u e n => by
  have nc : c ≠ a := fun z => by
    rw [z, h] at e
    cases e
    exact n φ rfl
  exact ⟨u, by rw [upd_ne nc]; exact e, .inl rfl⟩
/-- what stands at a is hidden and may be told anew -/
theorem bud_upd {vs : List V} {o : HO} (p : PileAt P H a vs) (U : Bud P b H) (hn : ¬ IsDraw o) (ht : ∀ ps, o ≠ .tbl ps) : Bud P b (upd H a o) := by
  obtain ⟨⟨its, n, _, _, h⟩, h0, hp, hc⟩ := p
  have fr : ∀ {B : Hp}, B a = none → Frm B H → Frm B (upd H a o) := fun {B} z F c u e => by
    obtain ⟨u', e', k⟩ := F c u e
    have nc : c ≠ a := fun w => by
      rw [w, z] at e
      cases e
    exact ⟨u', by rw [upd_ne nc]; exact e', k⟩
  refine ⟨⟨U.1.1, fun c l d t e => ?_⟩, fun q hq => ?_, fun q hq => ?_, fun B hB => fr (h0 B hB) (U.2.2.2 B hB)⟩
  · by_cases hx : c = a
    · subst hx
      rw [upd_same] at e
      exact absurd ⟨l, d, t, Option.some.inj e⟩ hn
    · rw [upd_ne hx] at e
      exact U.1.2 c l d t e
  · obtain ⟨ps, k1, k2, k3⟩ := U.2.1 q hq
    have n1 : q.1 ≠ a := fun z => by
      rw [z, h] at k1
      cases k1
    refine ⟨ps, by rw [upd_ne n1]; exact k1, k2, fun pos cv hcv => ?_⟩
    obtain ⟨c, e1, e2⟩ := k3 pos cv hcv
    refine ⟨c, e1, ?_⟩
    rw [upd_ne (fun z => by rw [z] at e2; exact hc _ e2)]
    exact e2
  · obtain ⟨k1, k2, k3⟩ := U.2.2.1 q hq
    exact ⟨by rw [upd_ne (hp q hq)]; exact k1, k2, k3⟩
theorem nd_hid {ob : Obj} : ¬ IsDraw (hidO a ob) := fun ⟨_, _, _, z⟩ => nomatch z
/-- the other piles stay -/
theorem pile_ne {a' : Addr} {vs : List V} {o : HO} (n : a' ≠ a) (p : PileAt P H a' vs) : PileAt P (upd H a o) a' vs := by
  obtain ⟨⟨its, m, h1, h2, h3⟩, h4, h5, h6⟩ := p
  exact ⟨⟨its, m, h1, h2, by rw [upd_ne n]; exact h3⟩, h4, h5, fun q => by rw [upd_ne n]; exact h6 q⟩
/-- the pile of slot i, the j-th one, has other contents -/
theorem ren_pile {i j : Nat} {vs ys : List V} {d : PyData} {es : List PyData} {its : List Value} {n : Nat} (R : Ren P H σ ρ) (hj : P.pl[j]? = some i) (hd : ρ[P.n + j]? = some (some d)) (hs : σ[i]? = some (some (.ref a))) (p : PileAt P H a vs) (rv : Vals ys its) (hz : ys.length ≤ sizeLine)
    (nc : ∀ q, hidO a (lob its n) ≠ LamX.CodeO a q) (re : RpA P.kc H ys es) : Ren P (upd H a (hidO a (lob its n))) σ (ρ.set (P.n + j) (some (.list es))) := by
  obtain ⟨⟨its0, n0, q1, q2, h⟩, h0, hp, hc⟩ := id p
  have W : FrmW H (upd H a (hidO a (lob its n))) := frw_upd h
  have far : ∀ i' : Nat, i' < P.n → (ρ.set (P.n + j) (some (.list es)))[i']? = ρ[i']? := fun i' hi => List.getElem?_set_ne (by omega)
  have lt : P.n + j < ρ.length := (List.getElem?_eq_some_iff.mp hd).1
  have at_ : ∀ (j' i' : Nat) (d' : PyData), P.pl[j']? = some i' → (ρ.set (P.n + j) (some (.list es)))[P.n + j']? = some (some d') → (j' = j ∧ d' = .list es) ∨ (j' ≠ j ∧ ρ[P.n + j']? = some (some d')) := fun j' i' d' _ e => by
    by_cases hjj : j' = j
    · subst hjj
      rw [List.getElem?_set, if_pos rfl, if_pos lt] at e
      cases e
      exact .inl ⟨rfl, rfl⟩
    · rw [List.getElem?_set_ne (by omega)] at e
      exact .inr ⟨hjj, e⟩
  refine ⟨R.n, by rw [List.length_set]; exact R.len, fun i' d' hi e => ?_, R.fz, ⟨fun j' i' d' h1 h2 => ?_, fun j1 j2 i1 i2 d1 d2 c h1 h2 h3 h4 h5 h6 => ?_, R.pls.lt⟩⟩
  · rw [far i' hi] at e
    obtain ⟨v, e1, r⟩ := R.val i' d' hi e
    exact ⟨v, e1, r.frw W⟩
  · rcases at_ j' i' d' h1 h2 with ⟨rfl, rfl⟩ | ⟨nj, e⟩
    · rw [hj] at h1
      cases h1
      exact ⟨es, ys, a, rfl, hs, ⟨⟨its, n, rv, hz, upd_same⟩, h0, hp, fun q z => nc q (Option.some.inj (upd_same.symm.trans z))⟩, re.frw W⟩
    · obtain ⟨xs, ws, c, e1, e2, e3, e4⟩ := R.pls.at_ j' i' d' h1 e
      have ne : c ≠ a := fun z => nj (R.pls.one j' j i' i d' d a h1 hj e hd (by rw [← z]; exact e2) hs)
      exact ⟨xs, ws, c, e1, e2, pile_ne ne e3, e4.frw W⟩
  · have g : ∀ (j' i' : Nat) (d' : PyData), P.pl[j']? = some i' → (ρ.set (P.n + j) (some (.list es)))[P.n + j']? = some (some d') → ∃ d'', ρ[P.n + j']? = some (some d'') := fun j' i' d' k1 k2 => by
      rcases at_ j' i' d' k1 k2 with ⟨rfl, _⟩ | ⟨_, e⟩
      · exact ⟨d, hd⟩
      · exact ⟨d', e⟩
    obtain ⟨d1', g1⟩ := g j1 i1 d1 h1 h3
    obtain ⟨d2', g2⟩ := g j2 i2 d2 h2 h4
    exact R.pls.one j1 j2 i1 i2 d1' d2' c h1 h2 g1 g2 h5 h6
end
end Pv

-- Pv31
set_option Elab.async false
set_option linter.all false
set_option maxRecDepth 100000
set_option maxHeartbeats 8000000
namespace Pv
open PySem PySem.Spec L2
/-! ## a pile begun -/
/-- the end behind a statement that leaves a list, which is hidden then -/
def hidD (D : Ends) : Ends := { D with nx := fun σ' H' => ∃ (a : Addr) (vs : List V), H' a = some (.lst vs) ∧ ∀ (its : List Value) (n : Nat), Vals vs its → vs.length ≤ sizeLine → (∀ q, hidO a (lob its n) ≠ LamX.CodeO a q) → D.nx σ' (upd H' a (hidO a (lob its n))) }
theorem ps_hidden {X : Cx} {st : Stmt} {t : TS} (h : PS X st t) : PS X st (fun D σ H => t (hidD D) σ H) := by
  refine ⟨fun pins s σ H D I q => thn (h.run pins s σ H (hidD D) I q) fun f s' hf => ?_⟩
  cases f with
  | next =>
    obtain ⟨σ', H', I', a, vs, e, k⟩ := hf
    obtain ⟨its, n, rv, hz, I2⟩ := inv_hide I' e
    exact ⟨σ', _, I2, k its n rv hz (hid_nocode (I2.hok a _ upd_same).1)⟩
  | brk => exact hf
  | cont => exact hf
  | ret u => exact hf
section
variable {P : Pa} {H : Hp} {σ : St} {ρ : En} {b : Nat}
theorem ren_begin {i j : Nat} {p : Addr} {vs : List V} {ds : List PyData} {its : List Value} {n : Nat} (U : Bud P b H) (R : Ren P H σ ρ) (nd : P.pl.Nodup) (nf : ∀ q ∈ P.fz, q.1 ≠ i) (hj : P.pl[j]? = some i) (hp : H p = none) (rv : Vals vs its) (hz : vs.length ≤ sizeLine)
    (nc : ∀ q, hidO p (lob its n) ≠ LamX.CodeO p q) (r : RpA P.kc H vs ds) : Ren P (upd H p (hidO p (lob its n))) (σ.set i (some (.ref p))) ((ρ.set i none).set (P.n + j) (some (.list ds))) := by
  have F : Frm H (upd H p (hidO p (lob its n))) := Frm.new hp
  have hi : i < P.n := R.pls.lt i (List.mem_of_getElem? hj)
  have jl : j < P.pl.length := (List.getElem?_eq_some_iff.mp hj).1
  have lt : P.n + j < (ρ.set i none).length := by
    rw [List.length_set, R.len]
    omega
  have ij : ∀ (j' i' : Nat), P.pl[j']? = some i' → j' ≠ j → i' ≠ i := fun j' i' h n z => by
    subst z
    obtain ⟨l1, e1⟩ := List.getElem?_eq_some_iff.mp h
    obtain ⟨l2, e2⟩ := List.getElem?_eq_some_iff.mp hj
    exact n ((List.getElem_inj nd).mp (e1.trans e2.symm))
  have at_ : ∀ (j' i' : Nat) (d' : PyData), P.pl[j']? = some i' → ((ρ.set i none).set (P.n + j) (some (.list ds)))[P.n + j']? = some (some d') → (j' = j ∧ d' = .list ds) ∨ (j' ≠ j ∧ ρ[P.n + j']? = some (some d')) := fun j' i' d' _ e => by
    by_cases hjj : j' = j
    · subst hjj
      rw [List.getElem?_set, if_pos rfl, if_pos lt] at e
      cases e
      exact .inl ⟨rfl, rfl⟩
    · rw [List.getElem?_set_ne (by omega), List.getElem?_set_ne (by omega)] at e
      exact .inr ⟨hjj, e⟩
  have oth : ∀ (j' i' : Nat) (d' : PyData), P.pl[j']? = some i' → j' ≠ j → ρ[P.n + j']? = some (some d') → ∃ (xs : List PyData) (ws : List V) (c : Addr), d' = .list xs ∧ σ[i']? = some (some (.ref c)) ∧ PileAt P H c ws ∧ RpA P.kc H ws xs ∧ c ≠ p := fun j' i' d' h1 _ h2 => by
    obtain ⟨xs, ws, c, e1, e2, e3, e4⟩ := R.pls.at_ j' i' d' h1 h2
    obtain ⟨⟨its', m, _, _, g⟩, _⟩ := id e3
    exact ⟨xs, ws, c, e1, e2, e3, e4, fun z => by rw [z, hp] at g; cases g⟩
  have pn : σ[i]? ≠ none := by
    rw [Ne, List.getElem?_eq_none_iff, R.n]
    omega
  have here : (σ.set i (some (V.ref p)))[i]? = some (some (.ref p)) := by
    rw [List.getElem?_set, if_pos rfl, if_pos (by rw [R.n]; exact hi)]
  refine ⟨by rw [List.length_set]; exact R.n, by rw [List.length_set, List.length_set]; exact R.len, fun i' d' hi' e => ?_, fun q hq => ?_, ⟨fun j' i' d' h1 h2 => ?_, fun j1 j2 i1 i2 d1 d2 c h1 h2 h3 h4 h5 h6 => ?_, R.pls.lt⟩⟩
  · rw [List.getElem?_set_ne (by omega)] at e
    by_cases hii : i = i'
    · subst hii
      rw [List.getElem?_set, if_pos rfl, if_pos (by rw [R.len]; omega)] at e
      cases e
    · rw [List.getElem?_set_ne hii] at e ⊢
      obtain ⟨v, e1, rr⟩ := R.val i' d' hi' e
      exact ⟨v, e1, rr.frm F⟩
  · rw [List.getElem?_set_ne (fun z => nf q hq z.symm)]
    exact R.fz q hq
  · rcases at_ j' i' d' h1 h2 with ⟨rfl, rfl⟩ | ⟨nj, e⟩
    · rw [hj] at h1
      cases h1
      refine ⟨ds, vs, p, rfl, here, ⟨⟨its, n, rv, hz, upd_same⟩, fun B hB => (U.2.2.2 B hB).back hp, fun q hq z => ?_, fun q z => nc q (Option.some.inj (upd_same.symm.trans z))⟩, r.frm F⟩
      have := (U.2.2.1 q hq).1
      rw [z, hp] at this
      cases this
    · obtain ⟨xs, ws, c, e1, e2, e3, e4, ne⟩ := oth j' i' d' h1 nj e
      exact ⟨xs, ws, c, e1, by rw [List.getElem?_set_ne (ij j' i' h1 nj).symm]; exact e2, pile_ne ne e3, e4.frm F⟩
  · have g : ∀ (j' i' : Nat) (d' : PyData), P.pl[j']? = some i' → ((ρ.set i none).set (P.n + j) (some (.list ds)))[P.n + j']? = some (some d') → (σ.set i (some (V.ref p)))[i']? = some (some (.ref c)) → (j' = j ∧ c = p) ∨ (j' ≠ j ∧ c ≠ p ∧ ρ[P.n + j']? = some (some d') ∧ σ[i']? = some (some (.ref c))) := fun j' i' d' k1 k2 k3 => by
      rcases at_ j' i' d' k1 k2 with ⟨rfl, _⟩ | ⟨nj, e⟩
      · rw [hj] at k1
        cases k1
        rw [here] at k3
        cases k3
        exact .inl ⟨rfl, rfl⟩
      · obtain ⟨xs, ws, c', e1, e2, e3, e4, ne⟩ := oth j' i' d' k1 nj e
        rw [List.getElem?_set_ne (ij j' i' k1 nj).symm] at k3
        have := k3
        rw [e2] at this
        cases this
        exact .inr ⟨nj, ne, e, k3⟩
    rcases g j1 i1 d1 h1 h3 h5 with ⟨rfl, z1⟩ | ⟨_, n1, a1, b1⟩
    · rcases g j2 i2 d2 h2 h4 h6 with ⟨rfl, _⟩ | ⟨_, n2, _, _⟩
      · rfl
      · exact absurd z1 n2
    · rcases g j2 i2 d2 h2 h4 h6 with ⟨rfl, z2⟩ | ⟨_, _, a2, b2⟩
      · exact absurd z2 n1
      · exact R.pls.one j1 j2 i1 i2 d1 d2 c h1 h2 a1 a2 b1 b2
end
section
variable {P : Pa} {Γ : Ga} {errs : List (Str × List Str)} {X : Cx} {E : XK}
theorem s_pile (S : XS P Γ errs X E) {x : Str} {es : List Expr} {i j : Nat} {p lp pos : Pos} {fs : FA} (hi : slotOf Γ x = some i) (hl : Γ.sc.names.lookup x = some .local ∨ Γ.sc.names.lookup x = some .cell) (hj : P.pl[j]? = some i) (nd : P.pl.Nodup) (ha : PA X es (tEvA P (W0 E) fs)) :
    PS X (.Assign [.Name x p] (.List es lp) pos) (tS P E (pileR i (P.n + j) fs)) := by
  obtain ⟨s1, s2, s3, s4⟩ := slot_of S.x hi
  refine impS (ps_hidden (ps_set (i := i) (by rw [S.x.hN]; exact S.x.nd) s1 (show Loc X.env.scope x by rw [S.x.hsc]; exact hl) (pe_lst ha) (by rfl) (.inl (S.fn x)))) fun D σ H q => ?_
  obtain ⟨n, ρ, b, U, R, q⟩ := q
  refine stA (FrmW.refl H) U R q fun ds b1 vs H1 F1 U1 r1 R1 w => ?_
  obtain ⟨hb, w⟩ := ite_wp w
  have hlen : vs.length ≤ sizeLine := by
    rw [r1.length]
    exact big_line hb
  refine ⟨hlen, fun p hp => ⟨p, vs, upd_same, fun its n rv _ nc => ?_⟩⟩
  rw [upd_upd]
  exact (show ∀ σ' H', FrmW H H' → Bud P b1 H' → Ren P H' σ' _ → D.nx σ' H' from w) _ _ (F1.trans (Frm.new hp).w) (U1.new hp nd_hid) (ren_begin U1 R1 nd (S.x.plfz i (List.mem_of_getElem? hj)) hj hp rv hlen nc r1)
end
end Pv

-- Pv32
set_option Elab.async false
set_option linter.all false
set_option maxRecDepth 100000
set_option maxHeartbeats 8000000
namespace Pv
open PySem PySem.Spec L2
/-! ## a pile looked at -/
def tEvW (P : Pa) (W : WX) (f : FE) : TE := fun σ H Q => ∃ ρ b, Bud P b H ∧ Ren P H σ ρ ∧ T.wp (f ρ) b (fun d b' => ∀ v H', FrmW H H' → Bud P b' H' → Rp P.kc H' v d → Ren P H' σ ρ → Q v H') (KWW P H (WE W σ))
def tEvR (P : Pa) (W : WX) (f : FE) : TE := fun σ H Q => ∃ ρ b, Bud P b H ∧ Ren P H σ ρ ∧ T.wp (f ρ) b (KQW P H Q) (KWW P H (WE W σ))
def tEvTW (P : Pa) (W : WX) (f : FT) : TT := fun σ H Q => ∃ ρ b, Bud P b H ∧ Ren P H σ ρ ∧ T.wp (f ρ) b (fun c b' => ∀ H', FrmW H H' → Bud P b' H' → Ren P H' σ ρ → Q c H') (KWW P H (WE W σ))
section
variable {P : Pa} {X : Cx} {W : WX} {H : Hp} {σ : St} {ρ : En} {b : Nat}
theorem te_w {e : Expr} {f : FE} (h : PE X e (tEv P W f)) : PE X e (tEvW P W f) := impE h fun σ H Q ⟨ρ, b, U, R, q⟩ => ⟨ρ, b, U, R, T.wp_mono q (fun d c _ k v H' F U' r => k v H' F.w U' r (R.frm F)) fun _ _ _ e => e.e⟩
theorem te_r {e : Expr} {f : FE} (h : PE X e (tEv P W f)) : PE X e (tEvR P W f) := impE h fun σ H Q ⟨ρ, b, U, R, q⟩ => ⟨ρ, b, U, R, T.wp_mono q (fun d c _ k => k.e) fun _ _ _ e => e.e⟩
theorem tt_w {e : Expr} {f : FT} (h : PT X e (tEvT P W f)) : PT X e (tEvTW P W f) := impT h fun σ H Q ⟨ρ, b, U, R, q⟩ => ⟨ρ, b, U, R, T.wp_mono q (fun d c _ k H' F U' => k H' F.w U' (R.frm F)) fun _ _ _ e => e.e⟩
/-- a list that stands nowhere else is hidden -/
theorem bud_lst {a : Addr} {vs : List V} {o : HO} (h : H a = some (.lst vs)) (h0 : ∀ B ∈ P.h0, B a = none) (hp : ∀ q ∈ P.pin, q.1 ≠ a) (U : Bud P b H) (hn : ¬ IsDraw o) (ht : ∀ ps, o ≠ .tbl ps) : Bud P b (upd H a o) := by
  have fr : ∀ {B : Hp}, B a = none → Frm B H → Frm B (upd H a o) := fun {B} z F c u e => by
    obtain ⟨u', e', k⟩ := F c u e
    have nc : c ≠ a := fun w => by
      rw [w, z] at e
      cases e
    exact ⟨u', by rw [upd_ne nc]; exact e', k⟩
  refine ⟨⟨U.1.1, fun c l d t e => ?_⟩, fun q hq => ?_, fun q hq => ?_, fun B hB => fr (h0 B hB) (U.2.2.2 B hB)⟩
  · by_cases hx : c = a
    · subst hx
      rw [upd_same] at e
      exact absurd ⟨l, d, t, Option.some.inj e⟩ hn
    · rw [upd_ne hx] at e
      exact U.1.2 c l d t e
  · obtain ⟨ps, k1, k2, k3⟩ := U.2.1 q hq
    have n1 : q.1 ≠ a := fun z => by
      rw [z, h] at k1
      cases k1
    refine ⟨ps, by rw [upd_ne n1]; exact k1, k2, fun pos cv hcv => ?_⟩
    obtain ⟨c, e1, e2⟩ := k3 pos cv hcv
    refine ⟨c, e1, ?_⟩
    rw [upd_ne (fun z => by rw [z, h] at e2; cases e2)]
    exact e2
  · obtain ⟨k1, k2, k3⟩ := U.2.2.1 q hq
    exact ⟨by rw [upd_ne (hp q hq)]; exact k1, k2, k3⟩
theorem ren_show {i j : Nat} {a : Addr} {vs : List V} {ds : List PyData} (R : Ren P H σ ρ) (hj : P.pl[j]? = some i) (hd : ρ[P.n + j]? = some (some (.list ds))) (hs : σ[i]? = some (some (.ref a))) (p : PileAt P H a vs) (r : RpA P.kc H vs ds) :
    Ren P (upd H a (.lst vs)) σ ((ρ.set i (some (.list ds))).set (P.n + j) none) := by
  obtain ⟨⟨its, n, rv, hz, hh⟩, _⟩ := id p
  have Wf : FrmW H (upd H a (.lst vs)) := frw_upd hh
  have hi : i < P.n := R.pls.lt i (List.mem_of_getElem? hj)
  have at_ : ∀ (j' i' : Nat) (d' : PyData), P.pl[j']? = some i' → ((ρ.set i (some (.list ds))).set (P.n + j) none)[P.n + j']? = some (some d') → j' ≠ j ∧ ρ[P.n + j']? = some (some d') := fun j' i' d' _ e => by
    by_cases hjj : j' = j
    · subst hjj
      rw [List.getElem?_set, if_pos rfl] at e
      split at e <;> cases e
    · rw [List.getElem?_set_ne (by omega), List.getElem?_set_ne (by omega)] at e
      exact ⟨hjj, e⟩
  refine ⟨R.n, by rw [List.length_set, List.length_set]; exact R.len, fun i' d' hi' e => ?_, R.fz, ⟨fun j' i' d' h1 h2 => ?_, fun j1 j2 i1 i2 d1 d2 c h1 h2 h3 h4 h5 h6 => ?_, R.pls.lt⟩⟩
  · rw [List.getElem?_set_ne (by omega)] at e
    by_cases hii : i = i'
    · subst hii
      rw [List.getElem?_set, if_pos rfl, if_pos (by rw [R.len]; omega)] at e
      cases e
      exact ⟨.ref a, hs, .lst (.inl (.inl upd_same)) (r.frw Wf)⟩
    · rw [List.getElem?_set_ne hii] at e
      obtain ⟨v, e1, rr⟩ := R.val i' d' hi' e
      exact ⟨v, e1, rr.frw Wf⟩
  · obtain ⟨nj, e⟩ := at_ j' i' d' h1 h2
    obtain ⟨xs, ws, c, e1, e2, e3, e4⟩ := R.pls.at_ j' i' d' h1 e
    have ne : c ≠ a := fun z => nj (R.pls.one j' j i' i d' _ a h1 hj e hd (by rw [← z]; exact e2) hs)
    exact ⟨xs, ws, c, e1, e2, pile_ne ne e3, e4.frw Wf⟩
  · exact R.pls.one j1 j2 i1 i2 d1 d2 c h1 h2 (at_ j1 i1 d1 h1 h3).2 (at_ j2 i2 d2 h2 h4).2 h5 h6
/-- what stands behind the look -/
theorem ren_close {i j : Nat} {a : Addr} {vs : List V} {ds : List PyData} {its : List Value} {n : Nat} {H2 : Hp} (R : Ren P H σ ρ) (hj : P.pl[j]? = some i) (hd : ρ[P.n + j]? = some (some (.list ds))) (hs : σ[i]? = some (some (.ref a))) (p : PileAt P H a vs) (r : RpA P.kc H vs ds)
    (F : Frm (upd H a (.lst vs)) H2) (rv : Vals vs its) (nc : ∀ q, hidO a (lob its n) ≠ LamX.CodeO a q) : FrmW H (upd H2 a (hidO a (lob its n))) ∧ Ren P (upd H2 a (hidO a (lob its n))) σ ρ := by
  obtain ⟨⟨its0, n0, rv0, hz, hh⟩, q1, q2, _⟩ := id p
  have Wf : FrmW H (upd H2 a (hidO a (lob its n))) := fun c u e k => by
    have ne : c ≠ a := fun z => by
      rw [z, hh] at e
      cases e
      exact k _ rfl
    obtain ⟨u', e', k'⟩ := F c u (by rw [upd_ne ne]; exact e)
    exact ⟨u', by rw [upd_ne ne]; exact e', k'⟩
  refine ⟨Wf, R.n, R.len, fun i' d' hi' e => ?_, R.fz, ⟨fun j' i' d' h1 h2 => ?_, R.pls.one, R.pls.lt⟩⟩
  · obtain ⟨v, e1, rr⟩ := R.val i' d' hi' e
    exact ⟨v, e1, rr.frw Wf⟩
  · by_cases hjj : j' = j
    · subst hjj
      rw [hj] at h1
      cases h1
      rw [hd] at h2
      cases h2
      exact ⟨ds, vs, a, rfl, hs, ⟨⟨its, n, rv, hz, upd_same⟩, q1, q2, fun q z => nc q (Option.some.inj (upd_same.symm.trans z))⟩, r.frw Wf⟩
    · obtain ⟨xs, ws, c, e1, e2, e3, e4⟩ := R.pls.at_ j' i' d' h1 h2
      have ne : c ≠ a := fun z => hjj (R.pls.one j' j i' i d' _ a h1 hj h2 hd (by rw [← z]; exact e2) hs)
      obtain ⟨⟨its1, n1, g1, g2, g3⟩, g4, g5, g6⟩ := e3
      have gc : (upd H2 a (hidO a (lob its n))) c = some (hidO c (lob its1 n1)) := by
        rw [upd_ne ne]
        exact F.ext (by rw [upd_ne ne]; exact g3)
      exact ⟨xs, ws, c, e1, e2, ⟨⟨its1, n1, g1, g2, gc⟩, g4, g5, fun q => by rw [gc, ← g3]; exact g6 q⟩, e4.frw Wf⟩
mutual
/-- what has no list within does not lean on a list -/
theorem Rp.less {Z : Kc} {H : Hp} {a : Addr} {vs : List V} {o : HO} (e : H a = some (.lst vs)) : ∀ {d : PyData} {v : V}, Rp Z H v d → lessD d = true → Rp Z (upd H a o) v d
  | .none, _, h, _ => by cases h; exact .non
  | .bool _, _, h, _ => by cases h; exact .bl _
  | .int _, _, h, _ => by cases h; exact .int _
  | .str _, _, h, _ => by cases h; exact .str _
  | .tuple ds, _, h, n => by
    cases h with
    | @tup b xs _ hs ha =>
      refine .tup ?_ (RpA.less e ha (by simpa [lessD] using n))
      rcases hs with (hs | ⟨ob, hs⟩) | hs
      · exact .inl (.inl (by rw [upd_ne (fun z => by rw [z, e] at hs; cases hs)]; exact hs))
      · exact .inl (.inr ⟨ob, by rw [upd_ne (fun z => by rw [z, e] at hs; cases hs)]; exact hs⟩)
      · exact .inr hs
  | .list _, _, _, n => by simp [lessD] at n
  | .dict _, _, _, n => by simp [lessD] at n
theorem RpA.less {Z : Kc} {H : Hp} {a : Addr} {vs : List V} {o : HO} (e : H a = some (.lst vs)) : ∀ {ds : List PyData} {ws : List V}, RpA Z H ws ds → lessDs ds = true → RpA Z (upd H a o) ws ds
  | [], _, h, _ => by cases h; exact .nil
  | d :: ds, _, h, n => by
    have n' := Bool.and_eq_true_iff.mp (by simpa [lessDs] using n)
    cases h with
    | cons h1 h2 => exact .cons (Rp.less e h1 n'.1) (RpA.less e h2 n'.2)
end
/-- a test that looks at a pile -/
theorem t_view {e : Expr} {i j : Nat} {ft : FT} (hj : P.pl[j]? = some i) (h : PT X e (tEvT P W ft)) : PT X e (tEvTW P W (viewF i (P.n + j) ft)) := by
  refine ⟨fun pins s σ H Q I q => ?_⟩
  obtain ⟨ρ, b, U, R, q⟩ := q
  unfold viewF at q
  split at q
  · rename_i d hk
    obtain ⟨ds, vs, a, rfl, hs, p, r⟩ := R.pls.at_ j i d hj hk
    obtain ⟨⟨its, n, rv, hz, hh⟩, q1, q2, _⟩ := id p
    refine thn (h.run pins s σ (upd H a (.lst vs)) (fun c H2 => ∃ b', Bud P b' H2 ∧ Frm (upd H a (.lst vs)) H2 ∧ ∀ H', FrmW H H' → Bud P b' H' → Ren P H' σ ρ → Q c H') (inv_show I hh rv hz)
      ⟨_, b, bud_upd p U (fun ⟨_, _, _, z⟩ => nomatch z) (fun ps z => nomatch z), ren_show R hj hk hs p r, T.wp_mono q (fun c b' _ k H2 F2 U2 => ⟨b', U2, F2, k⟩) fun _ _ _ e => (e.frm (frw_upd hh)).e⟩) fun c s2 ⟨H2, I2, b', U2, F2, k⟩ => ?_
    have e2 := F2.lst upd_same
    obtain ⟨its2, n2, rv2, hz2, I3⟩ := inv_hide I2 e2
    have nc := hid_nocode (I3.hok a _ upd_same).1
    obtain ⟨c1, c2⟩ := ren_close R hj hk hs p r F2 rv2 nc
    exact ⟨_, I3, k _ c1 (bud_lst e2 q1 q2 U2 nd_hid (fun ps z => nomatch z)) c2⟩
  · exact (tt_w h).run pins s σ H Q I ⟨ρ, b, U, R, q⟩
theorem e_view {e : Expr} {i j : Nat} {fe : FE} (hj : P.pl[j]? = some i) (h : PE X e (tEv P W fe)) : PE X e (tEvW P W fun ρ => atomT (viewF i (P.n + j) fe ρ)) := by
  refine ⟨fun pins s σ H Q I q => ?_⟩
  obtain ⟨ρ, b, U, R, q⟩ := q
  have q : T.wp ((viewF i (P.n + j) fe ρ).bind fun d => if lessD d = true then .ret d else .stuck) b _ _ := q
  unfold viewF at q
  split at q
  · rename_i d hk
    obtain ⟨ds, vs, a, rfl, hs, p, r⟩ := R.pls.at_ j i d hj hk
    obtain ⟨⟨its, n, rv, hz, hh⟩, q1, q2, _⟩ := id p
    refine thn (h.run pins s σ (upd H a (.lst vs)) (fun v H2 => ∃ d b', lessD d = true ∧ Rp P.kc H2 v d ∧ Bud P b' H2 ∧ Frm (upd H a (.lst vs)) H2 ∧ ∀ v H', FrmW H H' → Bud P b' H' → Rp P.kc H' v d → Ren P H' σ ρ → Q v H') (inv_show I hh rv hz)
      ⟨_, b, bud_upd p U (fun ⟨_, _, _, z⟩ => nomatch z) (fun ps z => nomatch z), ren_show R hj hk hs p r, T.wp_mono (T.wp_bind.mp q) (fun d b' _ k v H2 F2 U2 rd => ?_) fun _ _ _ e => (e.frm (frw_upd hh)).e⟩) fun v s2 ⟨x, H2, I2, rx, d, b', hat, rd, U2, F2, k⟩ => ?_
    · obtain ⟨hat, k⟩ := ite_wp k
      exact ⟨d, b', hat, rd, U2, F2, k⟩
    have e2 := F2.lst upd_same
    obtain ⟨its2, n2, rv2, hz2, I3⟩ := inv_hide I2 e2
    have nc := hid_nocode (I3.hok a _ upd_same).1
    obtain ⟨c1, c2⟩ := ren_close R hj hk hs p r F2 rv2 nc
    exact ⟨x, _, I3, rx, k _ _ c1 (bud_lst e2 q1 q2 U2 nd_hid (fun ps z => nomatch z)) (rd.less e2 hat) c2⟩
  · refine (te_w h).run pins s σ H Q I ⟨ρ, b, U, R, T.wp_mono (T.wp_bind.mp q) (fun d c _ k => ?_) fun _ _ _ e => e⟩
    obtain ⟨_, k⟩ := ite_wp k
    exact k
theorem r_view {e : Expr} {i j : Nat} {fe : FE} (hj : P.pl[j]? = some i) (h : PE X e (tEv P W fe)) : PE X e (tEvR P W (viewF i (P.n + j) fe)) := by
  refine ⟨fun pins s σ H Q I q => ?_⟩
  obtain ⟨ρ, b, U, R, q⟩ := q
  unfold viewF at q
  split at q
  · rename_i d hk
    obtain ⟨ds, vs, a, rfl, hs, p, r⟩ := R.pls.at_ j i d hj hk
    obtain ⟨⟨its, n, rv, hz, hh⟩, q1, q2, _⟩ := id p
    exact thn (h.run pins s σ (upd H a (.lst vs)) Q (inv_show I hh rv hz)
      ⟨_, b, bud_upd p U (fun ⟨_, _, _, z⟩ => nomatch z) (fun ps z => nomatch z), ren_show R hj hk hs p r, T.wp_mono q (fun c b' _ k => (k.frm (frw_upd hh)).e) fun _ _ _ e => (e.frm (frw_upd hh)).e⟩) fun v s2 ⟨x, H2, I2, rx, k⟩ => ⟨x, H2, I2, rx, k⟩
  · exact (te_r h).run pins s σ H Q I ⟨ρ, b, U, R, q⟩
end
/-! ## statements that look at piles -/
section
variable {P : Pa} {E : XK}
theorem stEW {α : Type} {σ : St} {H H0 : Hp} {ρ : En} {b : Nat} {f : FE} {g : PyData → T α} {QQ : α → Nat → Prop} {R : VK} (F : FrmW H0 H) (U : Bud P b H) (r : Ren P H σ ρ) (h : T.wp (T.bind (f ρ) g) b QQ (KWW P H0 E))
    (k : ∀ d b1 v H1, FrmW H0 H1 → Bud P b1 H1 → Rp P.kc H1 v d → Ren P H1 σ ρ → T.wp (g d) b1 QQ (KWW P H0 E) → R v H1) : tEvW P (W0 E) f σ H R :=
  ⟨ρ, b, U, r, T.wp_mono (T.wp_bind.mp h) (fun d c _ q v H1 F1 U1 r1 R1 => k d c v H1 (F.trans F1) U1 r1 R1 q) fun _ _ _ e => e.frm F⟩
theorem stER {α : Type} {σ : St} {H H0 : Hp} {ρ : En} {b : Nat} {f : FE} {g : PyData → T α} {QQ : α → Nat → Prop} {R : VK} (F : FrmW H0 H) (U : Bud P b H) (r : Ren P H σ ρ) (h : T.wp (T.bind (f ρ) g) b QQ (KWW P H0 E))
    (k : ∀ d b1 v H1, FrmW H0 H1 → Bud P b1 H1 → Rp P.kc H1 v d → T.wp (g d) b1 QQ (KWW P H0 E) → R v H1) : tEvR P (W0 E) f σ H R :=
  ⟨ρ, b, U, r, T.wp_mono (T.wp_bind.mp h) (fun d c _ q v H1 F1 U1 r1 => k d c v H1 (F.trans F1) U1 r1 q) fun _ _ _ e => e.frm F⟩
theorem stTW {α : Type} {σ : St} {H H0 : Hp} {ρ : En} {b : Nat} {f : FT} {g : Bool → T α} {QQ : α → Nat → Prop} {R : Bool → Hp → Prop} (F : FrmW H0 H) (U : Bud P b H) (r : Ren P H σ ρ) (h : T.wp (T.bind (f ρ) g) b QQ (KWW P H0 E))
    (k : ∀ d b1 H1, FrmW H0 H1 → Bud P b1 H1 → Ren P H1 σ ρ → T.wp (g d) b1 QQ (KWW P H0 E) → R d H1) : tEvTW P (W0 E) f σ H R :=
  ⟨ρ, b, U, r, T.wp_mono (T.wp_bind.mp h) (fun d c _ q H1 F1 U1 R1 => k d c H1 (F.trans F1) U1 R1 q) fun _ _ _ e => e.frm F⟩
end
section
variable {P : Pa} {Γ : Ga} {errs : List (Str × List Str)} {X : Cx} {E : XK}
theorem s_append (S : XS P Γ errs X E) {x : Str} {e : Expr} {i j : Nat} {p ap cp pos : Pos} {fe : FE} (hi : slotOf Γ x = some i) (hj : P.pl[j]? = some i) (h0 : isStar e = false) (hl : (ap.endLine == cp.line) = true) (he : PE X e (tEvW P (W0 E) fe)) :
    PS X (.Expr (.Call (.Attribute (.Name x p) "append" ap) [e] [] cp) pos) (tS P E (appR (P.n + j) fe)) := by
  obtain ⟨s1, s2, s3, s4⟩ := slot_of S.x hi
  refine impS (ps_expr (pe_append (pe_var (i := i) s1 s2 s3 s4) (pa_cons he pa_nil (star_cons h0)) (by rfl) ?_ hl (star_cons h0) (by rfl)) (by rfl)) fun D σ H q => ?_
  · rw [star_cons h0]
    rfl
  · obtain ⟨n, ρ, b, U, R, q⟩ := q
    unfold appR at q
    split at q
    · rename_i xs hk
      obtain ⟨xs', vs, a, e1, e2, ⟨⟨its, m, q1, q2, q3⟩, q4⟩, e4⟩ := R.pls.at_ j i _ hj hk
      refine ⟨.ref a, e2, a, its, m, rfl, q3, ?_⟩
      refine stEW (FrmW.refl H) U R q fun d b1 v H1 F1 U1 r1 R1 w => ?_
      obtain ⟨hb, w⟩ := ite_wp w
      obtain ⟨ys, ws, a', f1, f2, f3, f4⟩ := R1.pls.at_ j i _ hj hk
      cases f1
      rw [e2] at f2
      cases f2
      obtain ⟨⟨its1, m1, g1, g2, g3⟩, g4⟩ := id f3
      have hlen : ws.length < sizeLine := big_lt (by rw [f4.length]; exact hb)
      refine ⟨v, ws, its1, m1, rfl, g3, g1, hlen, fun its3 n3 rv3 nc => ?_⟩
      exact (show ∀ σ' H', FrmW H H' → Bud P b1 H' → Ren P H' σ' _ → D.nx σ' H' from w) σ _ (F1.trans (frw_upd g3)) (bud_upd f3 U1 nd_hid (fun ps z => nomatch z)) (ren_pile R1 hj hk e2 f3 rv3 (by rw [List.length_append]; exact hlen) nc (f4.append (.cons r1 .nil)))
    · exact q.elim
theorem s_extend (S : XS P Γ errs X E) {x : Str} {e : Expr} {i j : Nat} {p ap cp pos : Pos} {fe : FE} (hi : slotOf Γ x = some i) (hj : P.pl[j]? = some i) (h0 : isStar e = false) (hl : (ap.endLine == cp.line) = true) (he : PE X e (tEvL P (W0 E) fe)) :
    PS X (.Expr (.Call (.Attribute (.Name x p) "extend" ap) [e] [] cp) pos) (tS P E (extR (P.n + j) fe)) := by
  obtain ⟨s1, s2, s3, s4⟩ := slot_of S.x hi
  refine impS (ps_expr (pe_extend (pe_var (i := i) s1 s2 s3 s4) (pa_cons he pa_nil (star_cons h0)) (by rfl) ?_ hl (star_cons h0) (by rfl)) (by rfl)) fun D σ H q => ?_
  · rw [star_cons h0]
    rfl
  · obtain ⟨n, ρ, b, U, R, q⟩ := q
    unfold extR at q
    split at q
    · rename_i xs hk
      obtain ⟨xs', vs, a, e1, e2, ⟨⟨its, m, q1, q2, q3⟩, q4⟩, e4⟩ := R.pls.at_ j i _ hj hk
      refine ⟨.ref a, e2, a, its, m, rfl, q3, ?_⟩
      refine ⟨ρ, b, U, R, T.wp_mono (T.wp_bind.mp q) (fun d c _ w D' zs ds H1 ed F1 U1 hD ra => ?_) fun _ _ _ e => e.e⟩
      subst ed
      obtain ⟨hb, w⟩ := ite_wp (show T.wp (if xs.length + ds.length ≤ big then T.ret (Out.nx (ρ.set (P.n + j) (some (.list (xs ++ ds))))) else .stuck) c _ _ from w)
      have R1 := R.frm F1
      obtain ⟨ys, ws, a', f1, f2, f3, f4⟩ := R1.pls.at_ j i _ hj hk
      cases f1
      rw [e2] at f2
      cases f2
      obtain ⟨⟨its1, m1, g1, g2, g3⟩, g4⟩ := id f3
      have hlen : ws.length + zs.length ≤ sizeLine := by
        rw [f4.length, ra.length, sizeLine_eq]
        unfold big at hb
        omega
      refine ⟨D', zs, ws, its1, m1, rfl, hD, g3, g1, hlen, fun its3 n3 rv3 nc => ?_⟩
      exact (show ∀ σ' H', FrmW H H' → Bud P c H' → Ren P H' σ' _ → D.nx σ' H' from w) σ _ (F1.w.trans (frw_upd g3)) (bud_upd f3 U1 nd_hid (fun ps z => nomatch z)) (ren_pile R1 hj hk e2 f3 rv3 (by rw [List.length_append]; exact hlen) nc (f4.append ra))
    · exact q.elim
theorem ren_rep {P : Pa} {H : Hp} {σ : St} {ρ : En} {i j : Nat} {v : V} {d : PyData} (R : Ren P H σ ρ) (nd : P.pl.Nodup) (nf : ∀ q ∈ P.fz, q.1 ≠ i) (hj : P.pl[j]? = some i) (rv : Rp P.kc H v d) : Ren P H (σ.set i (some v)) ((ρ.set i (some d)).set (P.n + j) none) := by
  have hi : i < P.n := R.pls.lt i (List.mem_of_getElem? hj)
  have ij : ∀ (j' i' : Nat), P.pl[j']? = some i' → j' ≠ j → i' ≠ i := fun j' i' h n z => by
    subst z
    obtain ⟨l1, e1⟩ := List.getElem?_eq_some_iff.mp h
    obtain ⟨l2, e2⟩ := List.getElem?_eq_some_iff.mp hj
    exact n ((List.getElem_inj nd).mp (e1.trans e2.symm))
  have at_ : ∀ (j' i' : Nat) (d' : PyData), P.pl[j']? = some i' → ((ρ.set i (some d)).set (P.n + j) none)[P.n + j']? = some (some d') → j' ≠ j ∧ ρ[P.n + j']? = some (some d') := fun j' i' d' _ e => by
    by_cases hjj : j' = j
    · subst hjj
      rw [List.getElem?_set, if_pos rfl] at e
      split at e <;> cases e
    · rw [List.getElem?_set_ne (by omega), List.getElem?_set_ne (by omega)] at e
      exact ⟨hjj, e⟩
  refine ⟨by rw [List.length_set]; exact R.n, by rw [List.length_set, List.length_set]; exact R.len, fun i' d' hi' e => ?_, fun q hq => ?_, ⟨fun j' i' d' h1 h2 => ?_, fun j1 j2 i1 i2 d1 d2 c h1 h2 h3 h4 h5 h6 => ?_, R.pls.lt⟩⟩
  · rw [List.getElem?_set_ne (by omega)] at e
    by_cases hii : i = i'
    · subst hii
      rw [List.getElem?_set, if_pos rfl, if_pos (by rw [R.len]; omega)] at e
      cases e
      exact ⟨v, by rw [List.getElem?_set, if_pos rfl, if_pos (by rw [R.n]; exact hi)], rv⟩
    · rw [List.getElem?_set_ne hii] at e ⊢
      exact R.val i' d' hi' e
  · rw [List.getElem?_set_ne (fun z => nf q hq z.symm)]
    exact R.fz q hq
  · obtain ⟨nj, e⟩ := at_ j' i' d' h1 h2
    obtain ⟨xs, ws, c, e1, e2, e3, e4⟩ := R.pls.at_ j' i' d' h1 e
    exact ⟨xs, ws, c, e1, by rw [List.getElem?_set_ne (ij j' i' h1 nj).symm]; exact e2, e3, e4⟩
  · obtain ⟨n1, a1⟩ := at_ j1 i1 d1 h1 h3
    obtain ⟨n2, a2⟩ := at_ j2 i2 d2 h2 h4
    rw [List.getElem?_set_ne (ij j1 i1 h1 n1).symm] at h5
    rw [List.getElem?_set_ne (ij j2 i2 h2 n2).symm] at h6
    exact R.pls.one j1 j2 i1 i2 d1 d2 c h1 h2 a1 a2 h5 h6
theorem s_rep (S : XS P Γ errs X E) {x : Str} {e : Expr} {i j : Nat} {p pos : Pos} {fe : FE} (hc : isComp e = false) (hi : slotOf Γ x = some i) (hl : Γ.sc.names.lookup x = some .local ∨ Γ.sc.names.lookup x = some .cell) (hj : P.pl[j]? = some i) (nd : P.pl.Nodup) (he : PE X e (tEv P (W0 E) fe)) :
    PS X (.Assign [.Name x p] e pos) (tS P E (repR i (P.n + j) fe)) := by
  obtain ⟨s1, s2, s3, s4⟩ := slot_of S.x hi
  refine impS (ps_set (i := i) (by rw [S.x.hN]; exact S.x.nd) s1 (show Loc X.env.scope x by rw [S.x.hsc]; exact hl) he (swaps_none hc) (.inl (S.fn x))) fun D σ H q => ?_
  obtain ⟨n, ρ, b, U, R, q⟩ := q
  exact stE (FrmW.refl H) U R q fun d b1 v H1 F1 U1 r1 R1 q1 => q1 _ H1 F1 U1 (ren_rep R1 nd (S.x.plfz i (List.mem_of_getElem? hj)) hj r1)
theorem s_add (S : XS P Γ errs X E) {x : Str} {e1 : Expr} {es : List Expr} {i j : Nat} {p lp bp pos : Pos} {fe : FE} {fs : FA} (hi : slotOf Γ x = some i) (hl : Γ.sc.names.lookup x = some .local ∨ Γ.sc.names.lookup x = some .cell) (hj : P.pl[j]? = some i) (nd : P.pl.Nodup) (he : PE X e1 (tEv P (W0 E) fe)) (ha : PA X es (tEvA P (W0 E) fs)) :
    PS X (.Assign [.Name x p] (.BinOp e1 .Add (.List es lp) bp) pos) (tS P E (addR i (P.n + j) fe fs)) := by
  obtain ⟨s1, s2, s3, s4⟩ := slot_of S.x hi
  refine ⟨fun pins s σ H D I q => ?_⟩
  obtain ⟨n, ρ, b, U, R, q⟩ := q
  unfold addR at q
  split at q
  · rename_i xs hk
    obtain ⟨xs', vs, a, e1, e2, pl, r⟩ := R.pls.at_ j i _ hj hk
    cases e1
    obtain ⟨⟨its, m, rv, hz, hh⟩, q1, q2, q3⟩ := id pl
    have Wf : FrmW H (upd H a (.lst vs)) := frw_upd hh
    refine thn ((ps_hidden (ps_set (i := i) (by rw [S.x.hN]; exact S.x.nd) s1 (show Loc X.env.scope x by rw [S.x.hsc]; exact hl) (pe_op op_catL he (pe_lst ha)) (by rfl) (.inl (S.fn x)))).run pins s σ (upd H a (.lst vs)) D (inv_show I hh rv hz) ?_) fun f s' hf => hf
    have q' := T.wp_mono q (fun _ _ _ q => q.frm Wf) fun _ _ _ e => e.frm Wf
    refine stE (FrmW.refl _) (bud_upd pl U (fun ⟨_, _, _, z⟩ => nomatch z) (fun ps z => nomatch z)) (ren_show R hj hk e2 pl r) q' fun d b0 v0 H0 F0 U0 r0 R0 w0 => ?_
    cases d with
    | list es' =>
      cases r0 with | lst hs rx0 =>
      refine stepA U0 R0 w0 (fun _ _ e => (e.frm F0).e) fun ds b1 ys H1 F1 U1 r1 R1 w => ?_
      obtain ⟨hb, w⟩ := ite_wp w
      obtain ⟨hb2, w⟩ := ite_wp w
      have hlen : ys.length ≤ sizeLine := by
        rw [r1.length]
        exact big_line hb
      refine ⟨hlen, fun p1 hp1 => ?_⟩
      have hlen2 := big_line hb2
      rw [← r1.length, ← rx0.length] at hlen2
      have F2 := F1.w.trans (Frm.new (o := .lst ys) hp1).w
      refine ⟨_, p1, _, ys, rfl, rfl, by rw [← S.x.hK]; exact F2.l hs, .inl (.inl upd_same), hlen2, fun p3 hp3 => ⟨p3, _, upd_same, fun its3 n3 rv3 hz3 nc => ?_⟩⟩
      rw [upd_upd]
      have U3 := U1.new (o := .lst ys) hp1 nd_lst
      exact (show ∀ σ' H', FrmW (upd H a (.lst vs)) H' → Bud P b1 H' → Ren P H' σ' _ → D.nx σ' H' from w) _ _ (F0.trans (F2.trans (Frm.new hp3).w)) (U3.new hp3 nd_hid)
        (ren_begin U3 (R1.frm (Frm.new hp1)) nd (S.x.plfz i (List.mem_of_getElem? hj)) hj hp3 rv3 hz3 nc (((rx0.frm F1).append r1).frm (Frm.new hp1)))
    | _ => exact w0.elim
  · exact q.elim
theorem ne_of_len {xs : List PyData} {vs : List V} {Z : Kc} {H : Hp} (r : RpA Z H vs xs) (h : xs ≠ []) : vs ≠ [] := fun z => by
  have := r.length
  rw [z] at this
  exact h (List.length_eq_zero_iff.mp this.symm)
theorem rpA_set {Z : Kc} {H : Hp} {v : V} {d : PyData} : ∀ {vs : List V} {xs : List PyData} (k : Nat), RpA Z H vs xs → Rp Z H v d → RpA Z H (vs.set k v) (xs.set k d)
  | _, _, _, .nil, _ => .nil
  | _, _, 0, .cons _ r, q => .cons q r
  | _, _, k + 1, .cons h r, q => .cons h (rpA_set k r q)
theorem s_last (S : XS P Γ errs X E) {x : Str} {e : Expr} {i j : Nat} {p p1 p2 p3 pos : Pos} {kk : Nat} {fe : FE} (hc : isComp e = false) (hi : slotOf Γ x = some i) (hj : P.pl[j]? = some i) (he : PE X e (tEvW P (W0 E) fe)) :
    PS X (.Assign [.Subscript (.Name x p) (.UnaryOp .USub (.Constant (.int 1) kk p1) p2) p3] e pos) (tS P E (lastR (P.n + j) fe)) := by
  obtain ⟨s1, s2, s3, s4⟩ := slot_of S.x hi
  refine impS (ps_last pe_m1 (pe_var (i := i) s1 s2 s3 s4) he (swaps_none hc)) fun D σ H q => ?_
  obtain ⟨n, ρ, b, U, R, q⟩ := q
  refine stEW (FrmW.refl H) U R q fun d b1 v H1 F1 U1 r1 R1 w => ?_
  split at w
  · rename_i xs hk
    obtain ⟨hb, w⟩ := ite_wp w
    obtain ⟨xs', vs, a, e1, e2, pl, r⟩ := R1.pls.at_ j i _ hj hk
    cases e1
    obtain ⟨⟨its, m, rv, hz, hh⟩, q1, q2, q3⟩ := id pl
    refine ⟨.ref a, e2, a, its, m, vs, rfl, hh, rv, ne_of_len r hb.2, hz, fun its3 n3 rv3 nc => ?_⟩
    rw [← r.length] at w
    exact (show ∀ σ' H', FrmW H H' → Bud P b1 H' → Ren P H' σ' _ → D.nx σ' H' from w) σ _ (F1.trans (frw_upd hh)) (bud_upd pl U1 nd_hid (fun ps z => nomatch z)) (ren_pile R1 hj hk e2 pl rv3 (by rw [List.length_set]; exact hz) nc (rpA_set _ r r1))
  · exact w.elim
theorem s_setW (S : XS P Γ errs X E) {y : Str} {p pos : Pos} {e : Expr} {i : Nat} {fe : FE} (hc : isComp e = false) (hi : storeOf Γ y = some i) (he : PE X e (tEvW P (W0 E) fe)) :
    PS X (.Assign [.Name y p] e pos) (tS P E fun _ ρ => T.bind (fe ρ) fun d => .ret (.nx (ρ.set i (some d)))) := by
  obtain ⟨h1, h2, nf⟩ := store_of S hi
  refine impS (ps_set (by rw [S.x.hN]; exact S.x.nd) h1 h2 he (swaps_none hc) (.inl (S.fn y))) fun D σ H q => ?_
  obtain ⟨n, ρ, b, U, R, q⟩ := q
  exact stEW (FrmW.refl H) U R q fun d b1 v H1 F1 U1 r1 R1 q1 => q1 _ H1 F1 U1 (R1.set nf r1)
theorem s_retW {e : Expr} {pos : Pos} {fe : FE} (he : PE X e (tEvR P (W0 E) fe)) : PS X (.Return (some e) pos) (tS P E fun _ ρ => T.bind (fe ρ) fun d => .ret (.rt d)) := by
  refine impS (ps_ret he) fun D σ H q => ?_
  obtain ⟨m, ρ, b, U, R, q⟩ := q
  exact stER (FrmW.refl H) U R q fun d b1 v H1 F1 U1 r1 q1 => (show KQW P H D.rt d b1 from q1) v H1 F1 U1 r1
theorem s_ifW {c : Expr} {a d : List Stmt} {p : Pos} {fc : FT} {fa fb : FS} (hc : PT X c (tEvTW P (W0 E) fc)) (ha : PSs X a (tS P E fa)) (hb : PSs X d (tS P E fb)) :
    PS X (.If c a d p) (tS P E fun m ρ => T.bind (fc ρ) fun k => if k = true then fa m ρ else fb m ρ) := by
  refine impS (ps_if hc ha hb) fun D σ H q => ?_
  obtain ⟨n, ρ, b, U, R, q⟩ := q
  refine stTW (FrmW.refl H) U R q fun k b1 H1 F1 U1 R1 q1 => ?_
  have go : ∀ t : T Out, T.wp t b1 (outQ P H D) (KWW P H E) → T.wp t b1 (outQ P H1 D) (KWW P H1 E) := fun t h => T.wp_mono h (fun _ _ _ q => q.frm F1) fun _ _ _ q => q.frm F1
  cases k with
  | true =>
    rw [if_pos rfl] at q1 ⊢
    exact ⟨n, ρ, b1, U1, R1, go _ q1⟩
  | false =>
    rw [if_neg Bool.false_ne_true] at q1 ⊢
    exact ⟨n, ρ, b1, U1, R1, go _ q1⟩
theorem s_whileW (S : XS P Γ errs X E) (cm : Γ.calm = true) {c : Expr} {body : List Stmt} {p : Pos} {fc : FT} {fb : FS} (hc : PT X c (tEvTW P (W0 E) fc)) (hb : PSs X body (tS P E fb)) :
    PS X (.While c body [] p) (tS P E fun m ρ => runW fc (fb m) m ρ) := by
  refine impS (ps_while (S.own cm) hc hb) fun D σ H q => ?_
  obtain ⟨n, ρ, b, U, R, q⟩ := q
  refine ⟨fun m σ1 H1 => ∃ ρ1 b1, FrmW H H1 ∧ Bud P b1 H1 ∧ Ren P H1 σ1 ρ1 ∧ T.wp (runW fc (fb n) m ρ1) b1 (outQ P H D) (KWW P H E), ⟨n, ρ, b, FrmW.refl H, U, R, q⟩, ?_⟩
  rintro m σ1 H1 ⟨ρ1, b1, F1, U1, R1, q1⟩
  cases m with
  | zero => exact q1.elim
  | succ m =>
    refine stTW F1 U1 R1 q1 fun k b2 H2 F2 U2 R2 q2 => ?_
    cases k with
    | false =>
      rw [if_neg Bool.false_ne_true] at q2 ⊢
      exact q2 σ1 H2 F2 U2 R2
    | true =>
      rw [if_pos rfl] at q2 ⊢
      refine ⟨fun σ' H' => ∃ ρ3 b3, FrmW H H' ∧ Bud P b3 H' ∧ Ren P H' σ' ρ3 ∧ T.wp (runW fc (fb n) m ρ3) b3 (outQ P H D) (KWW P H E), fun σ' H' h => ⟨m, Nat.lt_succ_self m, h⟩, ?_⟩
      refine ⟨n, ρ1, b2, U2, R2, T.wp_mono (T.wp_bind.mp q2) (fun o c _ qo => ?_) fun _ _ _ e => e.frm F2⟩
      cases o with
      | nx ρ' => exact fun σ' H' F' U' R' => ⟨ρ', c, F2.trans F', U', R', qo⟩
      | ct ρ' => exact fun σ' H' F' U' R' => ⟨ρ', c, F2.trans F', U', R', qo⟩
      | bk ρ' => exact fun σ' H' F' U' R' => qo σ' H' (F2.trans F') U' R'
      | rt d => exact KQW.frm F2 qo
/-! ## the compiled forms -/
theorem vis_at {e : Expr} {q : Nat × Nat} (h : vis Γ e = [q]) : (plOf Γ.N Γ.pls)[q.2]? = some q.1 := by
  have m : q ∈ vis Γ e := by rw [h]; exact List.mem_singleton.mpr rfl
  exact List.mem_zipIdx_iff_getElem?.mp (List.mem_filter.mp m).1
theorem eW_of (S : XS P Γ errs X E) {n : Nat} {e : Expr} {f : FE} (h : cEW Γ n e = some f) : PE X e (tEvW P (W0 E) f) := by
  unfold cEW at h
  split at h
  · exact te_w ((snd S.x n).E _ _ h)
  · rename_i q hq
    obtain ⟨fe, he, h⟩ := bnd h
    cases h
    have k := e_view (i := q.1) (j := q.2) (by rw [S.x.hpl]; exact vis_at hq) ((snd S.x n).E _ _ he)
    rw [S.x.pn] at k
    exact k
  · cases h
theorem eR_of (S : XS P Γ errs X E) {n : Nat} {e : Expr} {f : FE} (h : cER Γ n e = some f) : PE X e (tEvR P (W0 E) f) := by
  unfold cER at h
  split at h
  · exact te_r ((snd S.x n).E _ _ h)
  · rename_i q hq
    obtain ⟨fe, he, h⟩ := bnd h
    cases h
    have k := r_view (i := q.1) (j := q.2) (by rw [S.x.hpl]; exact vis_at hq) ((snd S.x n).E _ _ he)
    rw [S.x.pn] at k
    exact k
  · cases h
theorem tW_of (S : XS P Γ errs X E) {n : Nat} {e : Expr} {f : FT} (h : cTW Γ n e = some f) : PT X e (tEvTW P (W0 E) f) := by
  unfold cTW at h
  split at h
  · exact tt_w ((snd S.x n).T _ _ h)
  · rename_i q hq
    obtain ⟨fe, he, h⟩ := bnd h
    cases h
    have k := t_view (i := q.1) (j := q.2) (by rw [S.x.hpl]; exact vis_at hq) ((snd S.x n).T _ _ he)
    rw [S.x.pn] at k
    exact k
  · cases h
theorem pileIx_at {x : Str} {q : Nat × Nat} (h : pileIx Γ x = some q) : slotOf Γ x = some q.1 ∧ (plOf Γ.N Γ.pls)[q.2]? = some q.1 ∧ (Γ.sc.names.lookup x = some .local ∨ Γ.sc.names.lookup x = some .cell) ∧ (plOf Γ.N Γ.pls).Nodup := by
  obtain ⟨i, hi, h⟩ := bnd h
  obtain ⟨j, hj, h⟩ := bnd h
  obtain ⟨hl, h⟩ := itS h
  cases h
  obtain ⟨l, e, _⟩ := List.idxOf?_eq_some_iff.mp hj
  exact ⟨hi, by rw [List.getElem?_eq_getElem l]; exact congrArg some (by simpa using e), hl.1, hl.2⟩
theorem lstArg_inv {e : Expr} {es : List Expr} (h : lstArg e = some es) : ∃ lp, e = .List es lp := by
  unfold lstArg at h
  split at h
  · cases h
    exact ⟨_, rfl⟩
  · cases h
theorem addArg_inv {e : Expr} {r : Expr × List Expr} (h : addArg e = some r) : ∃ lp bp, e = .BinOp r.1 .Add (.List r.2 lp) bp := by
  unfold addArg at h
  split at h
  · cases h
    exact ⟨_, _, rfl⟩
  · cases h
theorem lastArg_inv {tg : Expr} {x : Str} (h : lastArg tg = some x) : ∃ p kk p1 p2 p3, tg = .Subscript (.Name x p) (.UnaryOp .USub (.Constant (.int 1) kk p1) p2) p3 := by
  unfold lastArg at h
  split at h
  · obtain ⟨hm, h⟩ := itS h
    cases h
    unfold isM1 at hm
    split at hm
    · exact ⟨_, _, _, _, _, rfl⟩
    · cases hm
  · cases h
theorem pileA_ok (S : XS P Γ errs X E) {n : Nat} {tg e : Expr} {pos : Pos} {f : FS} (h : pileA Γ n tg e = some f) : PS X (.Assign [tg] e pos) (tS P E f) := by
  unfold pileA at h
  split at h
  · split at h
    · rename_i q hq
      obtain ⟨k1, k2, k3, k4⟩ := pileIx_at hq
      split at h
      · rename_i es hes
        obtain ⟨lp, rfl⟩ := lstArg_inv hes
        obtain ⟨fs, ha, h⟩ := bnd h
        cases h
        refine cast (congrArg (fun m => PS X _ (tS P E (pileR q.1 (m + q.2) fs))) S.x.pn) (s_pile S k1 k3 (j := q.2) (by rw [S.x.hpl]; exact k2) (by rw [S.x.hpl]; exact k4) ((snd S.x n).A _ _ ha))
      · split at h
        · rename_i e1 es hes
          obtain ⟨lp, bp, rfl⟩ := addArg_inv hes
          obtain ⟨fe, he, h⟩ := bnd h
          obtain ⟨fs, ha, h⟩ := bnd h
          cases h
          refine cast (congrArg (fun m => PS X _ (tS P E (addR q.1 (m + q.2) fe fs))) S.x.pn) (s_add S k1 k3 (j := q.2) (by rw [S.x.hpl]; exact k2) (by rw [S.x.hpl]; exact k4) ((snd S.x n).E _ _ he) ((snd S.x n).A _ _ ha))
        · obtain ⟨hc, h⟩ := itN h
          obtain ⟨fe, he, h⟩ := bnd h
          cases h
          refine cast (congrArg (fun m => PS X _ (tS P E (repR q.1 (m + q.2) fe))) S.x.pn) (s_rep S (by
            cases hx : isComp e with
            | true => exact absurd (.inl hx) hc
            | false => rfl) k1 k3 (j := q.2) (by rw [S.x.hpl]; exact k2) (by rw [S.x.hpl]; exact k4) ((snd S.x n).E _ _ he))
    · obtain ⟨hc, h⟩ := itN h
      obtain ⟨i, hi, h⟩ := bnd h
      obtain ⟨fe, he, h⟩ := bnd h
      cases h
      exact s_setW S (by
        cases hx : isComp e with
        | true => exact absurd (.inl hx) hc
        | false => rfl) hi (eW_of S he)
  · split at h
    · rename_i x hx
      obtain ⟨p, kk, p1, p2, p3, rfl⟩ := lastArg_inv hx
      obtain ⟨hc, h⟩ := itN h
      obtain ⟨q, hq, h⟩ := bnd h
      obtain ⟨fe, he, h⟩ := bnd h
      cases h
      obtain ⟨k1, k2, k3, k4⟩ := pileIx_at hq
      exact cast (congrArg (fun m => PS X _ (tS P E (lastR (m + q.2) fe))) S.x.pn) (s_last S (by simpa using hc) k1 (j := q.2) (by rw [S.x.hpl]; exact k2) (eW_of S he))
    · cases h
theorem pileB_ok (S : XS P Γ errs X E) {n : Nat} {e : Expr} {pos : Pos} {f : FS} (h : pileB Γ n e = some f) : PS X (.Expr e pos) (tS P E f) := by
  unfold pileB at h
  split at h
  · rename_i x p m ap e0 cp
    by_cases hc : m = "append" ∧ (ap.endLine == cp.line) = true ∧ isStar e0 = false
    · rw [if_pos hc] at h
      obtain ⟨q, hq, h⟩ := bnd h
      obtain ⟨fe, he, h⟩ := bnd h
      cases h
      obtain ⟨rfl, h2, h3⟩ := hc
      obtain ⟨k1, k2, k3, k4⟩ := pileIx_at hq
      exact cast (congrArg (fun m => PS X _ (tS P E (appR (m + q.2) fe))) S.x.pn) (s_append S (j := q.2) k1 (by rw [S.x.hpl]; exact k2) h3 h2 (eW_of S he))
    · rw [if_neg hc] at h
      obtain ⟨hc, h⟩ := itS h
      obtain ⟨q, hq, h⟩ := bnd h
      obtain ⟨fe, he, h⟩ := bnd h
      cases h
      obtain ⟨rfl, h2, h3⟩ := hc
      obtain ⟨k1, k2, k3, k4⟩ := pileIx_at hq
      have hst : isStar e0 = false := by
        unfold lcOne at h3
        split at h3
        · rfl
        · cases h3
      exact cast (congrArg (fun m => PS X _ (tS P E (extR (m + q.2) fe))) S.x.pn) (s_extend S (j := q.2) k1 (by rw [S.x.hpl]; exact k2) hst h2 (lc_own S.x h3 he))
  · cases h
theorem aug_ok {X : Cx} {op : Operator} {g : Int → Int → Int} (h : augI op = some g) : PIp X op (ipI g) := by
  cases op <;> cases h
  · exact ip_add
  · exact ip_sub
theorem s_aug (S : XS P Γ errs X E) {y : Str} {p pos : Pos} {op : Operator} {g : Int → Int → Int} {e : Expr} {i : Nat} {fe : FE} (hg : augI op = some g) (hi : storeOf Γ y = some i) (he : PE X e (tEvW P (W0 E) fe)) :
    PS X (.AugAssign (.Name y p) op e pos) (tS P E fun _ ρ => T.bind (getV ρ i) fun x => T.bind (asI x) fun a => T.bind (fe ρ) fun y => T.bind (asI y) fun b => .ret (.nx (ρ.set i (some (.int (g a b)))))) := by
  obtain ⟨h1, h2, nf⟩ := store_of S hi
  refine impS (ps_aug (i := i) (by rw [S.x.hN]; exact S.x.nd) h1 h2 he (aug_ok hg) (.inl (S.fn y))) fun D σ H q => ?_
  obtain ⟨n, ρ, b, U, R, q⟩ := q
  obtain ⟨d, hd, q⟩ := ofO_wp (T.wp_bind.mp q)
  obtain ⟨a, ea, q⟩ := asI_wp (show T.wp (T.bind (asI d) _) b _ _ from q)
  subst ea
  obtain ⟨v, e1, rv⟩ := R.val i _ nf.2.2 (by
    cases hx : ρ[i]? with
    | none => rw [hx] at hd; cases hd
    | some o => rw [hx] at hd; exact congrArg some hd)
  cases rv
  refine ⟨.int a, e1, stEW (FrmW.refl H) U R q fun d b1 w H1 F1 U1 r1 R1 q1 => ?_⟩
  obtain ⟨c, ec, q1⟩ := asI_wp q1
  subst ec
  cases r1
  exact ⟨a, c, rfl, rfl, q1 _ H1 F1 U1 (R1.set nf (.int _))⟩
end
end Pv

-- Pq14
set_option Elab.async false
set_option linter.all false
set_option maxRecDepth 100000
set_option maxHeartbeats 8000000
namespace Pv
open PySem PySem.Spec L2
/-! ## several names at once -/
theorem swap3 {env : Env} {x y z : Str} {px py pz pt p2 : Pos} {kt k2 : Nat} {a b c : Expr} (hb : env.blockKind = .function) (hx : env.kindOf x = some .local) (hy : env.kindOf y = some .local) (hz : env.kindOf z = some .local) (hl : (py.line == px.line) = true) (hl2 : (pz.line == px.line) = true) (hne : (x == y) = false) (hne2 : (x == z) = false) (hne3 : (y == z) = false)
    (h0 : isStar a = false) (h1 : isStar b = false) (h4 : isStar c = false) (h2 : [a, b, c].all (foldedForSure 8) = false) (h3 : [a, b, c].all (constantsAlone 8) = false) : swappedStores [.Tuple [.Name x px, .Name y py, .Name z pz] kt pt] (.Tuple [a, b, c] k2 p2) env = pure (some [x, y, z]) := by
  have n1 : ¬ y = x := fun e => by rw [e] at hne; simp at hne
  have n2 : ¬ z = x := fun e => by rw [e] at hne2; simp at hne2
  have n3 : ¬ z = y := fun e => by rw [e] at hne3; simp at hne3
  have hl' : py.line = px.line := by simpa using hl
  have hl2' : pz.line = px.line := by simpa using hl2
  unfold swappedStores
  simp only [List.any_cons, List.any_nil, star_m, h0, h1, h4, hb, List.length_cons, List.length_nil, List.head?_cons, Option.map_some, Option.getD_some, List.filterMap_cons, List.filterMap_nil, hx, hy, hz, h2, h3, hl', hl2', Expr.pos, beq_self_eq_true, Bool.and_self, if_true]
  have e1 : ([x, y, z] : List Str).eraseDups = [x, y, z] := by
    simp [List.eraseDups_cons, n1, n2, n3]
  simp [e1]
  intro h
  exfalso
  rcases h with h | h | h
  · cases a <;> first | (simp [isStar] at h0; done) | (simp at h; done)
  · cases b <;> first | (simp [isStar] at h1; done) | (simp at h; done)
  · cases c <;> first | (simp [isStar] at h4; done) | (simp at h; done)
/-- a written list, hidden as soon as it stands -/
def hidQ (Q : VK) : VK := fun v H2 => ∃ p vs H1, v = .ref p ∧ H1 p = none ∧ H2 = upd H1 p (.lst vs) ∧ ∀ (its : List Value) (n : Nat), Vals vs its → (∀ q, hidO p (lob its n) ≠ LamX.CodeO p q) → Q (.ref p) (upd H1 p (hidO p (lob its n)))
theorem pe_lstH {X : Cx} {es : List Expr} {ta : TA} {pos : Pos} (h : PA X es ta) : PE X (.List es pos) (fun σ H Q => tLst ta σ H (hidQ Q)) := by
  refine ⟨fun pins s σ H Q I q => thn ((pe_lst (pos := pos) h).run pins s σ H (hidQ Q) I q) fun v s2 ⟨w, H2, I2, rw', p, vs, H1, ew, hp, eH, k⟩ => ?_⟩
  subst ew eH
  obtain ⟨its, n, rv, hz, I3⟩ := inv_hide I2 upd_same
  rw [upd_upd] at I3
  exact ⟨.ref p, _, I3, rw', k its n rv (hid_nocode (I3.hok p _ upd_same).1)⟩
section
variable {P : Pa} {Γ : Ga} {errs : List (Str × List Str)} {X : Cx} {E : XK}
theorem three_inv {tg e : Expr} {x y z : Str} {px py pz : Pos} {es : List Expr} (h : threeNames tg e = some ((x, px), (y, py), (z, pz), es)) : ∃ kt pt k2 p2, tg = .Tuple [.Name x px, .Name y py, .Name z pz] kt pt ∧ e = .Tuple es k2 p2 := by
  unfold threeNames at h
  split at h
  · cases h
    exact ⟨_, _, _, _, rfl, rfl⟩
  · cases h
theorem two_inv' {tg e : Expr} {x y : Str} {px py : Pos} {es : List Expr} (h : twoNames tg e = some (x, px, y, py, es)) : ∃ kt pt k2 p2, tg = .Tuple [.Name x px, .Name y py] kt pt ∧ e = .Tuple es k2 p2 := by
  unfold twoNames at h
  split at h
  · cases h
    exact ⟨_, _, _, _, rfl, rfl⟩
  · cases h
theorem lst3_inv {es : List Expr} {r : List Expr × Expr × Expr} (h : lst3 es = some r) : ∃ lp, es = [.List r.1 lp, r.2.1, r.2.2] := by
  unfold lst3 at h
  split at h
  · cases h
    exact ⟨_, rfl⟩
  · cases h
theorem lst2_inv {es : List Expr} {r : List Expr × Expr} (h : lst2 es = some r) : ∃ lp, es = [.List r.1 lp, r.2] := by
  unfold lst2 at h
  split at h
  · cases h
    exact ⟨_, rfl⟩
  · cases h
theorem pile_first {σ : St} {H1 : Hp} {ρ : En} {b1 : Nat} {i j : Nat} {p : Addr} {vs : List V} {ds : List PyData} {its : List Value} {n : Nat} (S : XS P Γ errs X E) (nd : P.pl.Nodup) (hj : P.pl[j]? = some i) (U1 : Bud P b1 H1) (R1 : Ren P H1 σ ρ) (hp : H1 p = none) (rv : Vals vs its) (hz : vs.length ≤ sizeLine) (nc : ∀ q, hidO p (lob its n) ≠ LamX.CodeO p q) (r1 : RpA P.kc H1 vs ds) :
    Frm H1 (upd H1 p (hidO p (lob its n))) ∧ Bud P b1 (upd H1 p (hidO p (lob its n))) ∧ Ren P (upd H1 p (hidO p (lob its n))) σ ρ ∧ Ren P (upd H1 p (hidO p (lob its n))) (σ.set i (some (.ref p))) ((ρ.set i none).set (P.n + j) (some (.list ds))) :=
  ⟨Frm.new hp, U1.new hp nd_hid, R1.frm (Frm.new hp), ren_begin U1 R1 nd (S.x.plfz i (List.mem_of_getElem? hj)) hj hp rv hz nc r1⟩
theorem s_par3P (S : XS P Γ errs X E) {x y z : Str} {px py pz pt lp p2 pos : Pos} {kt k2 : Nat} {es1 : List Expr} {e2 e3 : Expr} {i j jj l : Nat} {fs : FA} {f2 f3 : FE} (hp : par3 Γ x y z px py pz [.List es1 lp, e2, e3] = true) (hi : slotOf Γ x = some i) (hj : P.pl[j]? = some i) (nd : P.pl.Nodup)
    (hy : storeOf Γ y = some jj) (hz : storeOf Γ z = some l) (hjl : ¬ jj = l) (ha : PA X es1 (tEvA P (W0 E) fs)) (h2 : PE X e2 (tEv P (W0 E) f2)) (h3 : PE X e3 (tEv P (W0 E) f3)) :
    PS X (.Assign [.Tuple [.Name x px, .Name y py, .Name z pz] kt pt] (.Tuple [.List es1 lp, e2, e3] k2 p2) pos) (tS P E (par3P i (P.n + j) jj l fs f2 f3)) := by
  unfold par3 at hp
  simp only [Bool.and_eq_true, decide_eq_true_eq, Bool.not_eq_true', beq_iff_eq, List.all_eq_true] at hp
  obtain ⟨k1, k2', k3, k4, k5, k6, k7, k8, k9, k10, k11, _, kcm⟩ := hp
  obtain ⟨s1, s2, s3, s4⟩ := slot_of S.x hi
  obtain ⟨y1, y2, nfj⟩ := store_of S hy
  obtain ⟨z1, z2, nfl⟩ := store_of S hz
  have hij : i ≠ jj := fun e => nfj.2.1 i (List.mem_of_getElem? hj) e
  have hil : i ≠ l := fun e => nfl.2.1 i (List.mem_of_getElem? hj) e
  have l1 : X.env.scope.names.lookup x = some .local := by rw [S.x.hsc]; exact k1
  have l2 : X.env.scope.names.lookup y = some .local := by rw [S.x.hsc]; exact k2'
  have l3 : X.env.scope.names.lookup z = some .local := by rw [S.x.hsc]; exact k3
  have n2 : isStar e2 = false := by simpa using k9 e2 (by simp)
  have n3 : isStar e3 = false := by simpa using k9 e3 (by simp)
  refine impS (ps_par3 (S.x.calm kcm) (by rw [S.x.hN]; exact S.x.nd) s1 y1 z1 hij hil hjl l1 l2 l3 (pa_cons (pe_lstH ha) (pa_cons h2 (pa_cons h3 pa_nil (star_cons n3)) (star_cons n2)) (star_cons rfl)) (swap3 S.bk l1 l2 l3 (by simpa using k4) (by simpa using k5) k6 k7 k8 rfl n2 n3 k10 k11)) fun D σ H q => ?_
  obtain ⟨n, ρ, b, U, R, q⟩ := q
  refine stA (FrmW.refl H) U R q fun ds b1 vs H1 F1 U1 r1 R1 w => ?_
  obtain ⟨hb, w⟩ := ite_wp w
  have hlen : vs.length ≤ sizeLine := by
    rw [r1.length]
    exact big_line hb
  refine ⟨hlen, fun p hp => ⟨p, vs, H1, rfl, hp, rfl, fun its m rv nc => ?_⟩⟩
  obtain ⟨F2, U2, R2, RB⟩ := pile_first S nd hj U1 R1 hp rv hlen nc r1
  refine stepE U2 R2 w (fun _ _ e => (e.frm (F1.trans F2.w)).e) fun d b2 v H2 F3 U3 r3 R3 w => ?_
  refine stepE U3 R3 w (fun _ _ e => (e.frm ((F1.trans F2.w).trans F3.w)).e) fun d3 b3 v3 H3 F4 U4 r4 R4 w => ?_
  have RC := ((RB.frm (F3.trans F4)).set nfj (r3.frm F4)).set nfl r4
  exact ⟨.ref p, v, v3, rfl, (show ∀ σ' H', FrmW H H' → Bud P b3 H' → Ren P H' σ' _ → D.nx σ' H' from w) _ _ (((F1.trans F2.w).trans F3.w).trans F4.w) U4 RC⟩
theorem s_par2P (S : XS P Γ errs X E) {x y : Str} {px py pt lp p2 pos : Pos} {kt k2 : Nat} {es1 : List Expr} {e2 : Expr} {i j jj : Nat} {fs : FA} {f2 : FE} (hp : par2 Γ x y px py [.List es1 lp, e2] = true) (hi : slotOf Γ x = some i) (hj : P.pl[j]? = some i) (nd : P.pl.Nodup)
    (hy : storeOf Γ y = some jj) (ha : PA X es1 (tEvA P (W0 E) fs)) (h2 : PE X e2 (tEv P (W0 E) f2)) :
    PS X (.Assign [.Tuple [.Name x px, .Name y py] kt pt] (.Tuple [.List es1 lp, e2] k2 p2) pos) (tS P E (par2P i (P.n + j) jj fs f2)) := by
  unfold par2 at hp
  simp only [Bool.and_eq_true, decide_eq_true_eq, Bool.not_eq_true', beq_iff_eq, List.all_eq_true] at hp
  obtain ⟨⟨⟨⟨⟨⟨⟨⟨k1, k2'⟩, k3⟩, k4⟩, k5⟩, k6⟩, k7⟩, k8⟩, kcm⟩ := hp
  obtain ⟨s1, s2, s3, s4⟩ := slot_of S.x hi
  obtain ⟨y1, y2, nfj⟩ := store_of S hy
  have hij : i ≠ jj := fun e => nfj.2.1 i (List.mem_of_getElem? hj) e
  have l1 : X.env.scope.names.lookup x = some .local := by rw [S.x.hsc]; exact k1
  have l2 : X.env.scope.names.lookup y = some .local := by rw [S.x.hsc]; exact k2'
  have n2 : isStar e2 = false := by simpa using k5 e2 (by simp)
  refine impS (ps_par (S.x.calm kcm) (by rw [S.x.hN]; exact S.x.nd) s1 y1 hij l1 l2 (pa_cons (pe_lstH ha) (pa_cons h2 pa_nil (star_cons n2)) (star_cons rfl)) (swap2 S.bk l1 l2 (by simpa using k3) k4 rfl n2 k6 k7)) fun D σ H q => ?_
  obtain ⟨n, ρ, b, U, R, q⟩ := q
  refine stA (FrmW.refl H) U R q fun ds b1 vs H1 F1 U1 r1 R1 w => ?_
  obtain ⟨hb, w⟩ := ite_wp w
  have hlen : vs.length ≤ sizeLine := by
    rw [r1.length]
    exact big_line hb
  refine ⟨hlen, fun p hp => ⟨p, vs, H1, rfl, hp, rfl, fun its m rv nc => ?_⟩⟩
  obtain ⟨F2, U2, R2, RB⟩ := pile_first S nd hj U1 R1 hp rv hlen nc r1
  refine stepE U2 R2 w (fun _ _ e => (e.frm (F1.trans F2.w)).e) fun d b2 v H2 F3 U3 r3 R3 w => ?_
  have RC := (RB.frm F3).set nfj r3
  exact ⟨.ref p, v, rfl, (show ∀ σ' H', FrmW H H' → Bud P b2 H' → Ren P H' σ' _ → D.nx σ' H' from w) _ _ ((F1.trans F2.w).trans F3.w) U3 RC⟩
theorem len3 {Z : Kc} {H : Hp} {vs : List V} {a b c : PyData} (r : RpA Z H vs [a, b, c]) : ∃ u v w, vs = [u, v, w] ∧ Rp Z H u a ∧ Rp Z H v b ∧ Rp Z H w c := by
  cases r with
  | cons r1 r =>
    cases r with
    | cons r2 r =>
      cases r with
      | cons r3 r =>
        cases r
        exact ⟨_, _, _, rfl, r1, r2, r3⟩
theorem s_par3 (S : XS P Γ errs X E) {x y z : Str} {px py pz pt p2 pos : Pos} {kt k2 : Nat} {es : List Expr} {i j l : Nat} {fs : FA} (hp : par3 Γ x y z px py pz es = true) (hx : storeOf Γ x = some i) (hy : storeOf Γ y = some j) (hz : storeOf Γ z = some l) (hne : ¬ (i = j ∨ i = l ∨ j = l)) (ha : PA X es (tEvA P (W0 E) fs)) :
    PS X (.Assign [.Tuple [.Name x px, .Name y py, .Name z pz] kt pt] (.Tuple es k2 p2) pos) (tS P E (par3F i j l fs)) := by
  unfold par3 at hp
  simp only [Bool.and_eq_true, decide_eq_true_eq, Bool.not_eq_true', beq_iff_eq, List.all_eq_true] at hp
  obtain ⟨k1, k2', k3, k4, k5, k6, k7, k8, k9, k10, k11, k12, kcm⟩ := hp
  match es, k12 with
  | [a, c, d], _ =>
    obtain ⟨x1, x2, nfi⟩ := store_of S hx
    obtain ⟨y1, y2, nfj⟩ := store_of S hy
    obtain ⟨z1, z2, nfl⟩ := store_of S hz
    have l1 : X.env.scope.names.lookup x = some .local := by rw [S.x.hsc]; exact k1
    have l2 : X.env.scope.names.lookup y = some .local := by rw [S.x.hsc]; exact k2'
    have l3 : X.env.scope.names.lookup z = some .local := by rw [S.x.hsc]; exact k3
    refine impS (ps_par3 (S.x.calm kcm) (by rw [S.x.hN]; exact S.x.nd) x1 y1 z1 (fun e => hne (.inl e)) (fun e => hne (.inr (.inl e))) (fun e => hne (.inr (.inr e))) l1 l2 l3 ha (swap3 S.bk l1 l2 l3 (by simpa using k4) (by simpa using k5) k6 k7 k8 (by simpa using k9 a (by simp)) (by simpa using k9 c (by simp)) (by simpa using k9 d (by simp)) k10 k11)) fun D σ H q => ?_
    obtain ⟨n, ρ, b, U, R, q⟩ := q
    refine stA (FrmW.refl H) U R q fun ds b1 vs H1 F1 U1 r1 R1 q1 => ?_
    match ds, r1, q1 with
    | [e1, e2, e3], r1, q1 =>
      obtain ⟨u, v, w, rfl, ru, rv, rw'⟩ := len3 r1
      exact ⟨u, v, w, rfl, q1 _ H1 F1 U1 (((R1.set nfi ru).set nfj rv).set nfl rw')⟩
    | [], _, q1 => exact q1.elim
    | [_], _, q1 => exact q1.elim
    | [_, _], _, q1 => exact q1.elim
    | _ :: _ :: _ :: _ :: _, _, q1 => exact q1.elim
theorem parC_ok (S : XS P Γ errs X E) {n : Nat} {tg e : Expr} {pos : Pos} {f : FS} (h : parC Γ n tg e = some f) : PS X (.Assign [tg] e pos) (tS P E f) := by
  unfold parC at h
  split at h
  · rename_i x px y py z pz es ht
    obtain ⟨kt, pt, k2, p2, rfl, rfl⟩ := three_inv ht
    obtain ⟨hp, h⟩ := itS h
    split at h
    · rename_i q hq
      obtain ⟨k1, k2', k3, k4⟩ := pileIx_at hq
      obtain ⟨r, hr, h'⟩ := bnd h
      clear h
      obtain ⟨lp, rfl⟩ := lst3_inv hr
      obtain ⟨j, hj, h⟩ := bnd h'
      clear h'
      obtain ⟨l, hl, h⟩ := bnd h
      obtain ⟨hjl, h⟩ := itN h
      obtain ⟨fs, ha, h⟩ := bnd h
      obtain ⟨f2, h2, h⟩ := bnd h
      obtain ⟨f3, h3, h⟩ := bnd h
      cases h
      exact cast (congrArg (fun m => PS X _ (tS P E (par3P q.1 (m + q.2) j l fs f2 f3))) S.x.pn) (s_par3P S hp k1 (j := q.2) (by rw [S.x.hpl]; exact k2') (by rw [S.x.hpl]; exact k4) hj hl hjl ((snd S.x n).A _ _ ha) ((snd S.x n).E _ _ h2) ((snd S.x n).E _ _ h3))
    · obtain ⟨i, hi, h⟩ := bnd h
      obtain ⟨j, hj, h⟩ := bnd h
      obtain ⟨l, hl, h⟩ := bnd h
      obtain ⟨hne, h⟩ := itN h
      obtain ⟨fs, ha, h⟩ := bnd h
      cases h
      exact s_par3 S hp hi hj hl hne ((snd S.x n).A _ _ ha)
  · split at h
    · rename_i x px y py es ht
      obtain ⟨kt, pt, k2, p2, rfl, rfl⟩ := two_inv' ht
      obtain ⟨hp, h⟩ := itS h
      obtain ⟨q, hq, h⟩ := bnd h
      obtain ⟨k1, k2', k3, k4⟩ := pileIx_at hq
      obtain ⟨r, hr, h'⟩ := bnd h
      clear h
      obtain ⟨lp, rfl⟩ := lst2_inv hr
      obtain ⟨j, hj, h⟩ := bnd h'
      clear h'
      obtain ⟨fs, ha, h⟩ := bnd h
      obtain ⟨f2, h2, h⟩ := bnd h
      cases h
      exact cast (congrArg (fun m => PS X _ (tS P E (par2P q.1 (m + q.2) j fs f2))) S.x.pn) (s_par2P S hp k1 (j := q.2) (by rw [S.x.hpl]; exact k2') (by rw [S.x.hpl]; exact k4) hj ((snd S.x n).A _ _ ha) ((snd S.x n).E _ _ h2))
    · cases h
/-! ## a try whose suite hands a written value back -/
theorem pe_const {X : Cx} {k : Const} {j : Nat} {p : Pos} {d : PyData} (h : constD k = some d) : ∃ v : V, PE X (.Constant k j p) (tC v) ∧ ∀ (Z : Kc) (H : Hp), Rp Z H v d := by
  cases k <;> cases h
  · exact ⟨.non, pe_non, fun _ _ => .non⟩
  · exact ⟨.bl _, pe_bl, fun _ _ => .bl _⟩
  · exact ⟨.int _, pe_int, fun _ _ => .int _⟩
  · exact ⟨.str _, pe_str, fun _ _ => .str _⟩
theorem s_tryC (S : XS P Γ errs X E) (ht : Γ.tryOk = true) (cm : Γ.calm = true) {n : Nat} {s0 : Stmt} {c : Str} {k : Const} {j : Nat} {p1 p2 p3 p4 pos : Pos} {f0 : FS} {d : PyData} (hg : glob Γ c = true) (hc : c ∈ Γ.ecl) (h0 : simpS Γ n s0 = some f0) (hk : constD k = some d) :
    PS X (.Try [s0] [.ExceptHandler (some (.Name c p1)) none [.Return (some (.Constant k j p2)) p3] p4] [] [] pos) (tS P E fun m ρ => tryR (fun cn => Γ.sub cn c) (fun _ => .ret (.rt d)) (f0 m ρ)) := by
  have K := S.try_ ht
  obtain ⟨Cc, nms, hex⟩ := K.cat c hc hg
  refine ⟨fun pins s σ H D I q => ?_⟩
  have key : ∀ X' : Cx, ∃ v : V, PE X' (.Constant k j p2) (tC v) ∧ (∀ (Z : Kc) (H : Hp), Rp Z H v d) := fun X' => pe_const hk
  obtain ⟨v, rv⟩ : ∃ v : V, (∀ X' : Cx, PE X' (.Constant k j p2) (tC v)) ∧ ∀ (Z : Kc) (H : Hp), Rp Z H v d := by
    cases k <;> cases hk
    · exact ⟨.non, fun _ => pe_non, fun _ _ => .non⟩
    · exact ⟨.bl _, fun _ => pe_bl, fun _ _ => .bl _⟩
    · exact ⟨.int _, fun _ => pe_int, fun _ _ => .int _⟩
    · exact ⟨.str _, fun _ => pe_str, fun _ _ => .str _⟩
  refine (ps_try_only K.hs K.hf nms (S.tk cm) (tb := fun W => tSW P W f0) (ts := fun _ _ _ D σ H => D.rt v H)
    (fun W pn xe tk own => pss_one (s_simp (X := X.tr pn xe) S.fn (fun y j hj => store_of S hj) (K.tr pn xe W tk own) h0)) (fun a oe cls d pn hz hf => ?_)).run pins s σ H D I ?_
  · exact pss_one (ps_ret (rv.1 _))
  · obtain ⟨m, ρ, b, U, R, q⟩ := q
    refine ⟨m, ρ, b, U, R, T.wp_mono (tryR_wp q) (fun _ _ _ q => q) fun er c' _ qe => ?_⟩
    intro C dd vs H' hC F U' hd rpf
    rcases qe with ⟨hs, qe⟩ | ⟨hs, qe⟩
    · exact ⟨true, hex _ _ _ hs hC, fun _ a ha => (show KQW P H D.rt d c' from qe) v H' F.w U' (rv.2 _ _), fun z => nomatch z⟩
    · exact ⟨false, hex _ _ _ hs hC, fun z => absurd z (by decide), fun _ => qe C dd vs H' hC F.w U' hd rpf⟩
end
end Pv

-- Pv11
set_option Elab.async false
set_option linter.all false
set_option maxRecDepth 100000
set_option maxHeartbeats 8000000
namespace Pv
open PySem L2
section
variable {P : Pa} {Γ : Ga} {errs : List (Str × List Str)} {X : Cx} {E : XK}
theorem snd_a1 (S : XS P Γ errs X E) {n : Nat} {y : Str} {p pos : Pos} {e : Expr} {f : FS} (h : (if isComp e && (!decide (Γ.sc.names.lookup y = some .cell) && !lcPlain Γ y p e) then none else (storeOf Γ y).bind fun i => (cE Γ n e).bind fun fe => some fun (_ : Nat) ρ => T.bind (fe ρ) fun d => .ret (.nx (ρ.set i (some d)))) = some f) : PS X (.Assign [.Name y p] e pos) (tS P E f) := by
  obtain ⟨hc, h⟩ := itN h
  obtain ⟨i, hi, h⟩ := bnd h
  obtain ⟨fe, he, h⟩ := bnd h
  cases h
  by_cases hp : lcPlain Γ y p e = true
  · exact s_setLc S hp hi he
  · refine s_set S (swaps_at (by rw [S.x.hsc]) fun hx => ?_) hi ((snd S.x n).E _ _ he)
    rw [hx, Bool.eq_false_iff.mpr hp] at hc
    simpa using hc
theorem snd_a2 (S : XS P Γ errs X E) {n : Nat} {ts : List Expr} {k : Nat} {tp pos : Pos} {e : Expr} {f : FS} (h : (if isComp e || isDisp e then none else (cG Γ (.Tuple ts k tp)).bind fun g => (cE Γ n e).bind fun fe => some fun (_ : Nat) ρ => T.bind (fe ρ) fun d => T.bind (g d ρ) fun ρ' => .ret (.nx ρ')) = some f) :
    PS X (.Assign [.Tuple ts k tp] e pos) (tS P E f) := by
  obtain ⟨hc, h⟩ := itN h
  have hc' : isComp e = false ∧ isDisp e = false := by simpa using hc
  obtain ⟨g, hg, h⟩ := bnd h
  obtain ⟨fe, he, h⟩ := bnd h
  cases h
  exact s_asg S hc'.1 hg ((snd S.x n).E _ _ he) (swapN hc'.2)
theorem snd_a3 (S : XS P Γ errs X E) {n : Nat} {x y : Str} {px py pt p2 pos : Pos} {kt k2 : Nat} {es : List Expr} {f : FS} (h : (if par2 Γ x y px py es then (storeOf Γ x).bind fun i => (storeOf Γ y).bind fun j => if i = j then none else (cA Γ n es).bind fun fs => some fun (_ : Nat) ρ => T.bind (fs ρ) fun ds => match ds with
        | [d, e] => .ret (.nx ((ρ.set i (some d)).set j (some e)))
        | _ => .stuck
      else if hasCell Γ [.Name x px, .Name y py] && (es.length == 2) then (cG Γ (.Tuple [.Name x px, .Name y py] kt pt)).bind fun g => (cE Γ n (.Tuple es k2 p2)).bind fun fe => some fun (_ : Nat) ρ => T.bind (fe ρ) fun d => T.bind (g d ρ) fun ρ' => .ret (.nx ρ')
      else if es.all (foldedForSure 8) then (cG Γ (.Tuple [.Name x px, .Name y py] kt pt)).bind fun g => (cE Γ n (.Tuple es k2 p2)).bind fun fe => some fun (_ : Nat) ρ => T.bind (fe ρ) fun d => T.bind (g d ρ) fun ρ' => .ret (.nx ρ')
      else none) = some f) : PS X (.Assign [.Tuple [.Name x px, .Name y py] kt pt] (.Tuple es k2 p2) pos) (tS P E f) := by
  split at h
  · rename_i hp
    obtain ⟨i, hi, h⟩ := bnd h
    obtain ⟨j, hj, h⟩ := bnd h
    obtain ⟨hij, h⟩ := itN h
    obtain ⟨fs, ha, h⟩ := bnd h
    cases h
    exact s_par S hp hi hj hij ((snd S.x n).A _ _ ha)
  split at h
  rotate_left
  · obtain ⟨hc, h⟩ := itS h
    obtain ⟨g, hg, h⟩ := bnd h
    obtain ⟨fe, he, h⟩ := bnd h
    cases h
    exact s_asg S rfl hg ((snd S.x n).E _ _ he) (swapF hc)
  · rename_i hc
    obtain ⟨g, hg, h⟩ := bnd h
    obtain ⟨fe, he, h⟩ := bnd h
    cases h
    obtain ⟨h1, h2⟩ := ok_bool hc
    have h1' : ¬ (Γ.sc.names.lookup x = some .local ∧ Γ.sc.names.lookup y = some .local) := by
      intro z
      simp [hasCell, z.1, z.2] at h1
    cases n with
    | zero => cases he
    | succ n =>
      obtain ⟨fs, ha, hf⟩ := bnd (show (cA Γ n es).bind _ = _ from he)
      match es, h2 with
      | [a, c], _ =>
        have key : isStar a = false ∧ isStar c = false ∨ isStar a = true ∨ isStar c = true := by
          cases isStar a <;> cases isStar c <;> simp
        refine s_asg S rfl hg ((snd S.x (n + 1)).E _ _ he) ?_
        rcases key with ⟨ka, kc⟩ | k
        · exact swapC S.bk (fun z => h1' (by rw [← S.x.hsc]; exact z)) ka kc
        · unfold swappedStores
          simp only [List.length_cons, List.length_nil, S.bk]
          rcases k with k | k
          · cases a <;> first | (simp [isStar] at k; done) | rfl
          · cases c <;> first | (simp [isStar] at k; done) | (cases a <;> rfl)
theorem two_inv {tg e : Expr} {x y : Str} {px py : Pos} {es : List Expr} (h : twoNames tg e = some (x, px, y, py, es)) : ∃ kt pt k2 p2, tg = .Tuple [.Name x px, .Name y py] kt pt ∧ e = .Tuple es k2 p2 := by
  unfold twoNames at h
  split at h
  · cases h
    exact ⟨_, _, _, _, rfl, rfl⟩
  · cases h
theorem snd_as (S : XS P Γ errs X E) {n : Nat} {tg e : Expr} {pos : Pos} {f : FS} (h : (match pileA Γ n tg e with
      | some f => some f
      | none => match parC Γ n tg e with
      | some f => some f
      | none => match twoNames tg e with
      | some (x, px, y, py, es) =>
        if par2 Γ x y px py es then (storeOf Γ x).bind fun i => (storeOf Γ y).bind fun j => if i = j then none else (cA Γ n es).bind fun fs => some fun (_ : Nat) ρ => T.bind (fs ρ) fun ds => match ds with
          | [d, e] => .ret (.nx ((ρ.set i (some d)).set j (some e)))
          | _ => .stuck
        else if hasCell Γ [.Name x px, .Name y py] && (es.length == 2) then (cG Γ tg).bind fun g => (cE Γ n e).bind fun fe => some fun (_ : Nat) ρ => T.bind (fe ρ) fun d => T.bind (g d ρ) fun ρ' => .ret (.nx ρ')
        else if es.all (foldedForSure 8) then (cG Γ tg).bind fun g => (cE Γ n e).bind fun fe => some fun (_ : Nat) ρ => T.bind (fe ρ) fun d => T.bind (g d ρ) fun ρ' => .ret (.nx ρ')
        else none
      | none => match tg with
        | .Name x px => if isComp e && (!decide (Γ.sc.names.lookup x = some .cell) && !lcPlain Γ x px e) then none else (storeOf Γ x).bind fun i => (cE Γ n e).bind fun fe => some fun (_ : Nat) ρ => T.bind (fe ρ) fun d => .ret (.nx (ρ.set i (some d)))
        | .Tuple ts k p => if isComp e || isDisp e then none else (cG Γ (.Tuple ts k p)).bind fun g => (cE Γ n e).bind fun fe => some fun (_ : Nat) ρ => T.bind (fe ρ) fun d => T.bind (g d ρ) fun ρ' => .ret (.nx ρ')
        | _ => none) = some f) : PS X (.Assign [tg] e pos) (tS P E f) := by
  split at h
  · rename_i g hg
    cases h
    exact pileA_ok S hg
  split at h
  · rename_i g hg
    cases h
    exact parC_ok S hg
  split at h
  · rename_i x px y py es ht
    obtain ⟨kt, pt, k2, p2, rfl, rfl⟩ := two_inv ht
    exact snd_a3 S h
  · split at h
    · exact snd_a1 S h
    · exact snd_a2 S h
    · cases h
theorem clsOk_at (S : XS P Γ errs X E) (ht : Γ.tryOk = true) {c : Str} (h : clsOk Γ c = true) : ∃ Cc, Names X c (.ref Cc) ∧ ∀ cn b C, Γ.sub cn c = some b → P.kc.cl cn = some C → PySem.W.exmOne X.K (.ref C) (.ref Cc) = some b := by
  obtain ⟨hg, hc⟩ := ok_bool h
  obtain ⟨Cc, nms, hex⟩ := (S.try_ ht).cat c (by simpa using hc) hg
  exact ⟨Cc, nms, hex⟩
theorem tupC_ok (S : XS P Γ errs X E) (ht : Γ.tryOk = true) {es : List Expr} {cs : List Str} {k : Nat} {p1 : Pos} (h : tupC Γ es = some cs) : ∃ tst, ClsT X (.Tuple es k p1) tst ∧ ∀ cn b C, anyS Γ.sub cn cs = some b → P.kc.cl cn = some C → tst (.ref C) = some b := by
  unfold tupC at h
  split at h
  · obtain ⟨hx, h⟩ := itS h
    cases h
    obtain ⟨o1, o2⟩ := ok_bool hx
    obtain ⟨C1, n1, e1⟩ := clsOk_at S ht o1
    obtain ⟨C2, n2, e2⟩ := clsOk_at S ht o2
    refine ⟨_, clsT_two n1 n2, fun cn b C hb hC => ?_⟩
    obtain ⟨b1, h1, hb⟩ := bnd hb
    obtain ⟨d1, h2, rfl⟩ := Option.map_eq_some_iff.mp hb
    obtain ⟨b2, h3, h2⟩ := bnd h2
    obtain ⟨d2, h4, rfl⟩ := Option.map_eq_some_iff.mp h2
    cases h4
    simp [PySem.W.exmAny, e1 _ _ _ h1 hC, e2 _ _ _ h3 hC]
  · obtain ⟨hx, h⟩ := itS h
    cases h
    obtain ⟨o1, hx⟩ := ok_bool hx
    obtain ⟨o2, o3⟩ := ok_bool hx
    obtain ⟨C1, n1, e1⟩ := clsOk_at S ht o1
    obtain ⟨C2, n2, e2⟩ := clsOk_at S ht o2
    obtain ⟨C3, n3, e3⟩ := clsOk_at S ht o3
    refine ⟨_, clsT_three n1 n2 n3, fun cn b C hb hC => ?_⟩
    obtain ⟨b1, h1, hb⟩ := bnd hb
    obtain ⟨d1, h2, rfl⟩ := Option.map_eq_some_iff.mp hb
    obtain ⟨b2, h3, h2⟩ := bnd h2
    obtain ⟨d2, h4, rfl⟩ := Option.map_eq_some_iff.mp h2
    obtain ⟨b3, h5, h4⟩ := bnd h4
    obtain ⟨d3, h6, rfl⟩ := Option.map_eq_some_iff.mp h4
    cases h6
    simp [PySem.W.exmAny, e1 _ _ _ h1 hC, e2 _ _ _ h3 hC, e3 _ _ _ h5 hC]
  · cases h
theorem snd_S (S : XS P Γ errs X E) {n : Nat} (I : SndS P Γ errs X E n) (IH : ∀ (P' : Pa) (Γ' : Ga) (errs' : List (Str × List Str)) (X' : Cx) (E' : XK), XS P' Γ' errs' X' E' → SndS P' Γ' errs' X' E' n) : ∀ s f, cS Γ errs (n + 1) s = some f → PS X s (tS P E f) := by
  intro s f h
  have N := snd S.x n
  cases s with
  | Assign ts e pos =>
    match ts, h with
    | [], h => cases h
    | _ :: _ :: _, h => cases h
    | [tg], h => exact snd_as S h
  | Expr e pos =>
    have other : (match pileB Γ n e with
      | some f => some f
      | none => if isComp e then none else (cE Γ n e).bind fun fe => some fun (_ : Nat) ρ => T.bind (fe ρ) fun _ => .ret (.nx ρ)) = some f → PS X (.Expr e pos) (tS P E f) := fun h => by
      split at h
      · rename_i g hg
        cases h
        exact pileB_ok S hg
      obtain ⟨hc, h⟩ := itN h
      obtain ⟨fe, he, h⟩ := bnd h
      cases h
      refine impS (ps_expr (N.E _ _ he) (swaps_none (by simpa using hc))) fun D σ H q => ?_
      obtain ⟨m, ρ, b, U, R, q⟩ := q
      exact stE (FrmW.refl H) U R q fun d b1 v H1 F1 U1 r1 R1 q1 => q1 _ H1 F1 U1 R1
    cases e with
    | Constant c k p =>
      cases c with
      | str z =>
        cases h
        refine impS ps_doc fun D σ H q => ?_
        obtain ⟨m, ρ, b, U, R, q⟩ := q
        exact q _ H (FrmW.refl H) U R
      | _ => exact other h
    | _ => exact other h
  | Return e pos =>
    cases e with
    | none =>
      cases h
      refine impS ps_retN fun D σ H q => ?_
      obtain ⟨m, ρ, b, U, R, q⟩ := q
      exact (show KQW P H D.rt .none b from q) .non H (FrmW.refl H) U .non
    | some e =>
      obtain ⟨fe, he, h⟩ := bnd (show (cER Γ n e).bind _ = _ from h)
      cases h
      exact s_retW (eR_of S he)
  | If c a d p =>
    obtain ⟨fc, hc, h⟩ := bnd (show (cTW Γ n c).bind _ = _ from h)
    obtain ⟨fa, ha, h⟩ := bnd h
    obtain ⟨fb, hb, h⟩ := bnd h
    cases h
    exact s_ifW (tW_of S hc) (I.B _ _ ha) (I.B _ _ hb)
  | While c b o p =>
    cases o with
    | cons _ _ => cases h
    | nil =>
      obtain ⟨fc, hc, h⟩ := bnd (show (cTW Γ n c).bind _ = _ from h)
      obtain ⟨fb, hb, h⟩ := bnd h
      obtain ⟨cm, h⟩ := itS h
      cases h
      exact s_whileW S cm (tW_of S hc) (I.B _ _ hb)
  | For tg it b o p =>
    cases o with
    | cons _ _ => cases h
    | nil =>
      obtain ⟨fi, hi, h⟩ := bnd (show (cI Γ n tg it).bind _ = _ from h)
      obtain ⟨g, hg, h⟩ := bnd h
      obtain ⟨fb, hb, h⟩ := bnd h
      obtain ⟨hf, h⟩ := itS h
      obtain ⟨hf, cm⟩ := ok_bool hf
      cases h
      exact s_for S cm hf ((snd S.x n).I _ _ _ hi) hg (I.B _ _ hb)
  | Raise e c pos =>
    match e, c, h with
    | some (.Call (.Name c p) (e :: es) [] p2), none, h =>
      obtain ⟨hx, h⟩ := itS h
      obtain ⟨hx, cm⟩ := ok_bool hx
      obtain ⟨h0, hs⟩ := ok_bool hx
      obtain ⟨fs, hl, h⟩ := bnd h
      obtain ⟨fa, ha, h⟩ := bnd h
      cases h
      exact s_raise S cm (nstar h0) hs hl (N.A _ _ ha)
  | Try body hs orelse fin pos =>
    match body, hs, orelse, fin, h with
    | [s0], [.ExceptHandler (some (.Name c p1)) (some nm) (b0 :: su) p2], [], [], h =>
      obtain ⟨hx, h⟩ := itS h
      obtain ⟨hx, hsl⟩ := ok_bool hx
      obtain ⟨hx, hl⟩ := ok_bool hx
      obtain ⟨hx, hc⟩ := ok_bool hx
      obtain ⟨hx, hg⟩ := ok_bool hx
      obtain ⟨ht, cm⟩ := ok_bool hx
      obtain ⟨i, hi, h⟩ := bnd h
      obtain ⟨f0, h0, h⟩ := bnd h
      have hsl' := (of_decide_eq_true hsl).trans hi
      cases hk : keepOf nm b0 su with
      | none =>
        rw [hk] at h
        cases h
        exact s_try S ht cm hg (by simpa using hc) (of_decide_eq_true hl) hi hsl' h0 IH
      | some y =>
        rw [hk] at h
        obtain ⟨hly, h⟩ := itS h
        obtain ⟨j, hj, h⟩ := bnd h
        obtain ⟨_, h⟩ := itN h
        cases h
        obtain ⟨r1, r2, r3, e1, e2⟩ := keepOf_inv hk
        subst e1 e2
        obtain ⟨Cc, nms, hex⟩ := (S.try_ ht).cat c (by simpa using hc) hg
        exact s_tryK S ht cm (clsT_one nms) hex (of_decide_eq_true hl) hi hsl' (of_decide_eq_true hly) hj h0
    | [s0], [.ExceptHandler (some (.Name c p1)) none su p4], [], [], h =>
      obtain ⟨hx, h⟩ := itS h
      obtain ⟨hx, hc⟩ := ok_bool hx
      obtain ⟨hx, hg⟩ := ok_bool hx
      obtain ⟨ht, cm⟩ := ok_bool hx
      obtain ⟨f0, h0, h⟩ := bnd h
      obtain ⟨d, hd, h⟩ := bnd h
      cases h
      obtain ⟨k, j, p2, p3, e, hd⟩ := suD_inv hd
      subst e
      exact s_tryC S ht cm hg (by simpa using hc) h0 hd
    | [s0], [.ExceptHandler (some (.Tuple es k p1)) (some nm) (b0 :: su) p2], [], [], h =>
      obtain ⟨hx, h⟩ := itS h
      obtain ⟨hx, hsl⟩ := ok_bool hx
      obtain ⟨hx, hl⟩ := ok_bool hx
      obtain ⟨ht, cm⟩ := ok_bool hx
      obtain ⟨cs, hcs, h⟩ := bnd h
      obtain ⟨i, hi, h⟩ := bnd h
      obtain ⟨f0, h0, h⟩ := bnd h
      obtain ⟨y, hk, h⟩ := bnd h
      have hsl' := (of_decide_eq_true hsl).trans hi
      obtain ⟨hly, h⟩ := itS h
      obtain ⟨j, hj, h⟩ := bnd h
      obtain ⟨_, h⟩ := itN h
      cases h
      obtain ⟨r1, r2, r3, e1, e2⟩ := keepOf_inv hk
      subst e1 e2
      obtain ⟨tst, hct, hex⟩ := tupC_ok S ht hcs
      exact s_tryK S ht cm hct hex (of_decide_eq_true hl) hi hsl' (of_decide_eq_true hly) hj h0
  | AugAssign tg op e pos =>
    cases tg with
    | Name y p =>
      obtain ⟨g, hg, h⟩ := bnd (show (augI op).bind _ = _ from h)
      obtain ⟨i, hi, h⟩ := bnd h
      obtain ⟨fe, he, h⟩ := bnd h
      cases h
      exact s_aug S hg hi (eW_of S he)
    | _ => cases h
  | Pass pos =>
    cases h
    refine impS ps_pass fun D σ H q => ?_
    obtain ⟨m, ρ, b, U, R, q⟩ := q
    exact q _ H (FrmW.refl H) U R
  | Break pos =>
    cases h
    refine impS ps_break fun D σ H q => ?_
    obtain ⟨m, ρ, b, U, R, q⟩ := q
    exact q _ H (FrmW.refl H) U R
  | Continue pos =>
    cases h
    refine impS ps_continue fun D σ H q => ?_
    obtain ⟨m, ρ, b, U, R, q⟩ := q
    exact q _ H (FrmW.refl H) U R
  | _ => cases h
theorem snd_B' (S : XS P Γ errs X E) {n : Nat} (I : SndS P Γ errs X E n) : ∀ ss f, cSs Γ errs (n + 1) ss = some f → PSs X ss (tS P E f) := by
  intro ss f h
  cases ss with
  | nil =>
    cases h
    refine impSs pss_nil fun D σ H q => ?_
    obtain ⟨m, ρ, b, U, R, q⟩ := q
    exact q _ H (FrmW.refl H) U R
  | cons s r =>
    obtain ⟨fs, hs, h⟩ := bnd (show (cS Γ errs n s).bind _ = _ from h)
    obtain ⟨fr, hr, h⟩ := bnd h
    cases h
    exact s_seq (I.S _ _ hs) (I.B _ _ hr)
theorem sndS_all : ∀ (n : Nat) (P : Pa) (Γ : Ga) (errs : List (Str × List Str)) (X : Cx) (E : XK), XS P Γ errs X E → SndS P Γ errs X E n
  | 0, _, _, _, _, _, _ => SndS.mk (fun _ _ h => nomatch h) (fun _ _ h => nomatch h)
  | n + 1, P, Γ, errs, X, E, S => ⟨snd_S S (sndS_all n P Γ errs X E S) (sndS_all n), snd_B' S (sndS_all n P Γ errs X E S)⟩
theorem sndS (S : XS P Γ errs X E) (n : Nat) : SndS P Γ errs X E n := sndS_all n P Γ errs X E S
/-- a def's reading over data -/
def outD : Out → T PyData
  | .nx _ => .ret .none
  | .rt d => .ret d
  | _ => .stuck
def runDef (N : Nat) (f : FS) (ds : List PyData) : T PyData := T.bind (f 100000 (ds.map some ++ List.replicate (N - ds.length) none)) outD
/-- what stands in a def's body: B is the heap at its call -/
abbrev inP (P : Pa) (B : Hp) (n : Nat) (pl : List Nat) : Pa := ⟨P.kc, P.Tb, P.pin, P.fz, B :: P.h0, pl, n⟩
theorem bud_inP {B H : Hp} {n b : Nat} {pl : List Nat} (U : Bud P b H) (F : Frm B H) : Bud (inP P B n pl) b H := ⟨U.1, U.2.1, U.2.2.1, fun C hC => by
  rcases List.mem_cons.mp hC with rfl | hC
  · exact F
  · exact U.2.2.2 C hC⟩
theorem bud_of_inP {B H : Hp} {n b : Nat} {pl : List Nat} (U : Bud (inP P B n pl) b H) : Bud P b H ∧ Frm B H := ⟨⟨U.1, U.2.1, U.2.2.1, fun C hC => U.2.2.2 C (List.mem_cons_of_mem _ hC)⟩, U.2.2.2 B List.mem_cons_self⟩
theorem kq_of_inP {B H : Hp} {n b : Nat} {pl : List Nat} {Q : VK} {d : PyData} (F : Frm B H) (q : KQ (inP P B n pl) H Q d b) : KQ P H Q d b := fun v H' F' U' r => q v H' F' (bud_inP U' (F.trans F')) r
theorem kw_of_inP {B H : Hp} {n b : Nat} {pl : List Nat} {W : XK} {x : Er} (F : Frm B H) (q : KW (inP P B n pl) H W x b) : KW P H W x b := fun C d vs H' hc F' U' hd r => q C d vs H' hc F' (bud_inP U' (F.trans F')) hd r
/-- a callee's promise, from within a body -/
theorem spT_in {B H : Hp} {n : Nat} {pl : List Nat} {i : FnI} {vs : List V} {Q : VK} {E : XK} (h : spT (inP P B n pl) i vs H Q E) : spT P i vs H Q E := by
  obtain ⟨hl, ds, b, U, r, q⟩ := h
  obtain ⟨U', F⟩ := bud_of_inP U
  exact ⟨hl, ds, b, U', r, T.wp_mono q (fun d c _ k => kq_of_inP F k) fun x c _ k => kw_of_inP F k⟩
theorem pls_start {H : Hp} {N : List Str} {vs : List V} {ds : List PyData} {pl : List Nat} (hl : ds.length ≤ N.length) (hp : ∀ i ∈ pl, i < N.length) (B : Hp) : Pls (inP P B N.length pl) H (L2.start N vs) (ds.map some ++ List.replicate (N.length + pl.length - ds.length) none) := by
  have no : ∀ j : Nat, ∀ d : PyData, (ds.map some ++ List.replicate (N.length + pl.length - ds.length) none)[N.length + j]? = some (some d) → False := fun j d e => by
    rw [List.getElem?_append_right (by simp; omega), List.getElem?_replicate] at e
    split at e <;> cases e
  exact ⟨fun j i d _ h2 => (no j d h2).elim, fun j j' i i' d d' a _ _ h3 => (no j d h3).elim, hp⟩
theorem ren_start {H B : Hp} {N : List Str} {vs : List V} {ds : List PyData} {pl : List Nat} (nf : P.fz = []) (hl' : ds.length ≤ N.length) (hp : ∀ i ∈ pl, i < N.length) (r : RpA P.kc H vs ds) : Ren (inP P B N.length pl) H (L2.start N vs) (ds.map some ++ List.replicate (N.length + pl.length - ds.length) none) := by
  have hl := r.length
  refine ⟨?_, ?_, fun i d hi e => ?_, (fun q hq => by rw [nf] at hq; cases hq), pls_start hl' hp B⟩
  · unfold L2.start
    simp
    omega
  · show _ = N.length + pl.length
    simp
    omega
  · unfold L2.start
    by_cases hi : i < ds.length
    · rw [List.getElem?_append_left (by simpa using hi), List.getElem?_map] at e
      obtain ⟨d', hd, e'⟩ := Option.map_eq_some_iff.mp e
      cases e'
      obtain ⟨v, hv, rv⟩ := r.get hd
      refine ⟨v, ?_, rv⟩
      rw [List.getElem?_append_left (by simpa [hl] using hi), List.getElem?_map, hv]
      rfl
    · rw [List.getElem?_append_right (by simpa using hi), List.getElem?_replicate] at e
      split at e <;> cases e
theorem body_run (nf : P.fz = []) {f : FS} {vs : List V} {H : Hp} {Q : VK} {N : List Str} {pl : List Nat} (hv : vs.length ≤ N.length) (hp : ∀ i ∈ pl, i < N.length) (hsp : spT P ⟨vs.length, runDef (N.length + pl.length) f⟩ vs H Q E) : tS (inP P H N.length pl) E f { nx := fun _ H' => Q .non H', rt := Q } (L2.start N vs) H := by
  obtain ⟨_, ds, b, U, r, q⟩ := hsp
  refine ⟨100000, _, b, bud_inP U (Frm.refl H), ren_start nf (by rw [← r.length]; exact hv) hp r, T.wp_mono (T.wp_bind.mp q) (fun o c _ qo => ?_) fun x c _ e => ?_⟩
  · cases o with
    | nx ρ => exact fun σ' H' F U' R => (show KQ P H Q .none c from qo) _ H' (bud_of_inP U').2 (bud_of_inP U').1 .non
    | rt d => exact fun v H' F U' rv => (show KQ P H Q d c from qo) v H' (bud_of_inP U').2 (bud_of_inP U').1 rv
    | bk ρ => exact qo.elim
    | ct ρ => exact qo.elim
  · exact fun C d vs' H' hc F U' hd rv => e C d vs' H' hc (bud_of_inP U').2 (bud_of_inP U').1 hd rv
end
end Pv

-- Pv12
set_option Elab.async false
set_option linter.all false
set_option maxRecDepth 100000
set_option maxHeartbeats 8000000
namespace Pv
open PySem PySem.Spec L2
open PyProof.Rows (envOfC)
/-! ## errors of one field, made -/
def spInit (C : Addr) (f : Str) : Sp := fun vs H Q _ => ∃ (a : Addr) (v : V), vs = [.ref a, v] ∧ H a = some (exo a C none) ∧ ∀ dx, H dx = none → dx ≠ a → Q .non (upd (upd H dx (exd dx [(f, v)])) a (exo a C (some dx)))
section
variable {prog : Program} {w : World} {K : PySem.W.Frag} {mg : Str → Option Value} {base : Heap}
theorem init_ok {f qual : Str} {st : Stmt} {fI C : Addr} {fd : FuncData} {p1 p2 p3 p4 : Pos} (F : Fun K "__init__" qual st fI fd) (hb : defBody st = [.Assign [.Attribute (.Name "self" p1) f p2] (.Name f p3) p4]) (S : FnScope ["self", f] ["self", f] (defScope st))
    (v0 : Vis (defScope st) "self") (v1 : Vis (defScope st) f) (h1 : (f == ("__debug__" : Str)) = false) (h2 : (f == ("__classdict__" : Str)) = false) (no : PySem.W.findIn K (.ref C) f = some none) (T : OexC K C) : FnOk prog w K mg base CX0 1 fI fd ["self", f] (spInit C f) := by
  refine F.ok S (fun vs H Q E h => ?_) fun cdv A outer s H vs Q E hr h => ?_
  · obtain ⟨a, v, rfl, _⟩ := h
    rfl
  · obtain ⟨a, v, rfl, ha, q⟩ := h
    rw [hb]
    refine ⟨_, pss_one (ps_ost (pe_var (i := 0) rfl v0) (pe_var (i := 1) rfl v1 h1 h2)), ?_⟩
    exact ⟨v, rfl, .ref a, rfl, a, C, rfl, T, no, .inl ⟨ha, fun dx hd ne => q dx hd ne⟩⟩
/-- what is known of an error's class: its name, its field, where it stands, its __init__ -/
structure ErC (prog : Program) (w : World) (K : PySem.W.Frag) (mg : Str → Option Value) (base : Heap) (c f : Str) (C : Addr) : Prop where
  g : mg c = some (.ref C)
  o : OexC K C
  ini : ∃ fI fd, PySem.W.findIn K (.ref C) "__init__" = some (some (.ref fI)) ∧ PySem.W.typeIn K (.ref fI) = some (.type "function") ∧ Binds K fd ["self", f] [] ∧ FnOk prog w K mg base CX0 1 fI fd ["self", f] (spInit C f)
  db : (c == ("__debug__" : Str)) = false
end
theorem evA_mono {P : Pa} {W : WX} {fa : FA} {σ : St} {H : Hp} {Q Q' : List V → Hp → Prop} (h : tEvA P W fa σ H Q) (k : ∀ vs H', Frm H H' → Q vs H' → Q' vs H') : tEvA P W fa σ H Q' := by
  obtain ⟨ρ, b, U, R, q⟩ := h
  exact ⟨ρ, b, U, R, T.wp_mono q (fun ds c _ q vs H' F U' r => k vs H' F (q vs H' F U' r)) fun _ _ _ e => e⟩
theorem mk_err {X : Cx} {c f : Str} {C : Addr} {P : Pa} {W : WX} (hg : Gl X c) (hr : Room 2 X.A) (h : ErC X.prog X.w X.K X.mg X.base c f C) {e : Expr} {es : List Expr} {p pos : Pos} {fa : FA} (h0 : isStar e = false) (hs : es.all (fun e => !isStar e) = true) (ha : PA X (e :: es) (tEvA P W fa)) :
    PMk X (.Call (.Name c p) (e :: es) [] pos) (fun σ H Q => tEvA P W fa σ H fun vs H1 => vs.length = ([f] : List Str).length ∧ ∀ d, H1 d = none → Q (.ref C) (some d) (upd H1 d (.xd (([f] : List Str).zip vs)))) := by
  obtain ⟨fI, fd, k1, k2, k3, k4⟩ := h.ini
  have base := pmk_oex (X := X) (x := c) (p := p) (pos := pos) h.o k1 k2 k4 hr k3 .nil pass0 hg h.g ha h.db (star_cons h0) (star_any hs)
  intro pins s σ H Q I q
  refine base pins s σ H Q I ?_
  refine evA_mono q fun vs H1 _ hq => ?_
  obtain ⟨hl, hq⟩ := hq
  match vs, hl with
  | [v], _ =>
    refine ⟨by show 1 ≤ 1000; decide, fun a ha => ⟨a, v, by simp, upd_same, fun dx hd ne => ⟨rfl, ?_⟩⟩⟩
    have hdx : H1 dx = none := by rw [← hd, upd_ne ne]
    refine ⟨dx, [(f, v)], upd_same, by rw [upd_ne ne, upd_same], hdx, ?_⟩
    have e : upd (del (upd (upd (upd H1 a (exo a C none)) dx (exd dx [(f, v)])) a (exo a C (some dx))) a) dx (.xd [(f, v)]) = upd H1 dx (.xd [(f, v)]) := by
      funext b
      by_cases hb : b = dx
      · rw [hb, upd_same, upd_same]
      · rw [upd_ne hb, upd_ne hb]
        by_cases hb2 : b = a
        · rw [hb2, del_same, ha]
        · rw [del_ne hb2, upd_ne hb2, upd_ne hb, upd_ne hb2]
    rw [e]
    exact hq dx hdx
/-! ## the program's facts, and a def's promise -/
structure Pg (P : Pa) (prog : Program) (w : World) (mg : Str → Option Value) (base : Heap) (k : Nat) (fns : List (Str × FnI)) (con : List (Str × PyData)) (errs : List (Str × List Str)) : Prop where
  nf : P.fz = []
  con : ∀ x d, con.lookup x = some d → ConR P.kc w mg x d
  fns : ∀ x i, fns.lookup x = some i → ∃ f fd ps, mg x = some (.ref f) ∧ PySem.W.keepIn P.kc.K (.ref f) = true ∧ Binds P.kc.K fd ps [] ∧ FnOk prog w P.kc.K mg base (L2.CX prog w) k f fd ps (spT P i)
  blt : ∀ x, x ∈ bltNames → mg x = none
  errs : ∀ c fs, errs.lookup c = some fs → ∃ f C, fs = [f] ∧ P.kc.cl c = some C ∧ ErC prog w P.kc.K mg base c f C
section
variable {P : Pa} {prog : Program} {w : World} {mg : Str → Option Value} {base : Heap} {k : Nat} {fns : List (Str × FnI)} {con : List (Str × PyData)} {errs : List (Str × List Str)}
/-- the names of errors are global in the def -/
def errsGlob (sc : Scope) (errs : List (Str × List Str)) : Bool := errs.all fun c => decide (sc.names.lookup c.1 = some .globalImplicit) || (sc.names.lookup c.1).isNone
theorem lookup_mem {α : Type} {c : Str} {a : α} : ∀ {l : List (Str × α)}, l.lookup c = some a → (c, a) ∈ l
  | [], h => by cases h
  | (d, b) :: l, h => by
    rw [List.lookup_cons] at h
    split at h
    · rename_i e
      cases h
      have e' : c = d := by simpa using e
      subst e'
      exact List.mem_cons_self
    · exact List.mem_cons_of_mem _ (lookup_mem h)
/-- only the errors that the def itself names -/
def errsOf (sc : Scope) (errs : List (Str × List Str)) : List (Str × List Str) := errs.filter fun c => decide (sc.names.lookup c.1 = some .globalImplicit)
theorem errsOf_ok {sc : Scope} {errs : List (Str × List Str)} {c : Str} {fs : List Str} (nd : (errs.map (·.1)).Nodup) (h : (errsOf sc errs).lookup c = some fs) : errs.lookup c = some fs ∧ sc.names.lookup c = some .globalImplicit := by
  have m := lookup_mem h
  unfold errsOf at m
  obtain ⟨m1, m2⟩ := List.mem_filter.mp m
  refine ⟨?_, of_decide_eq_true m2⟩
  clear h m m2
  induction errs with
  | nil => cases m1
  | cons p l ih =>
    obtain ⟨d, gs⟩ := p
    rw [List.lookup_cons]
    rcases List.mem_cons.mp m1 with e | m2
    · cases e
      simp
    · have nd' : d ∉ l.map (·.1) ∧ (l.map (·.1)).Nodup := by simpa using nd
      have ne : (c == d) = false := by
        by_cases e : c = d
        · subst e
          exact absurd (List.mem_map.mpr ⟨(c, fs), m2, rfl⟩ : c ∈ l.map (·.1)) nd'.1
        · simpa using e
      rw [ne]
      exact ih nd'.2 m2
theorem plOf_lt {N pls : List Str} : ∀ i ∈ plOf N pls, ∃ y, N[i]? = some y ∧ y ∈ pls := fun i hi => by
  unfold plOf at hi
  obtain ⟨x, hx, e⟩ := List.mem_filterMap.mp hi
  obtain ⟨hl, e2, _⟩ := List.idxOf?_eq_some_iff.mp e
  refine ⟨x, ?_, hx⟩
  rw [List.getElem?_eq_getElem hl]
  exact congrArg some (by simpa using e2)
theorem plOf_lt' {N pls : List Str} : ∀ i ∈ plOf N pls, i < N.length := fun i hi => by
  obtain ⟨y, e, _⟩ := plOf_lt i hi
  exact (List.getElem?_eq_some_iff.mp e).1
theorem scope_len {N ps : List Str} {sc : Scope} (S : FnScope N ps sc) : ps.length ≤ N.length := by
  have := congrArg List.length S.pre
  rw [List.length_take] at this
  omega
/-- a def's body in its surroundings -/
theorem xs_of {rep : Bool} {pls : List Str} (pg : Pg P prog w mg base k fns con errs) (nd : (errs.map (·.1)).Nodup) {N ps : List Str} {qual : Str} {scope : Scope} {f : Addr} {cdv : Value} {A : Around} {outer : List Env} {s : Shared} {H : Hp} {E : XK} (S : FnScope N ps scope) (h2 : 2 ≤ k) (hr : Room k (A.deeper (envOfC qual scope s.heap.objs.size f cdv)))
    (hg : rep = true → (A.deeper (envOfC qual scope s.heap.objs.size f cdv)).guards = some []) :
    XS (inP P H N.length (plOf N pls)) (Ga.mkP N scope fns con rep pls) (errsOf scope errs) (cxOf (L2.CX prog w) prog w P.kc.K mg base N qual scope f cdv A outer s H E) E where
  x := {
    hK := rfl
    hN := rfl
    hsc := rfl
    nd := S.nd
    calm := fun _ => rfl
    fz := fun q hq => by rw [show (inP P H N.length (plOf N pls)).fz = P.fz from rfl, pg.nf] at hq; cases hq
    pl := plOf_lt
    pn := rfl
    hpl := rfl
    plfz := fun i _ q hq => by rw [show (inP P H N.length (plOf N pls)).fz = P.fz from rfl, pg.nf] at hq; cases hq
    ek := .inl rfl
    kw := fun _ _ _ _ h => nomatch h
    exA := fun y er h => nomatch h
    exI := fun y er h => nomatch h
    thk := fun a th h => nomatch h
    gx := fun z => nomatch z
    lam := fun x tf h => nomatch h
    tak := fun x tf h => nomatch h
    u := by
      have := hr.un
      show (A.deeper (envOfC qual scope s.heap.objs.size f cdv)).units + 70 < cLine
      omega
    con := pg.con
    fns := fun x i hi => by
      obtain ⟨g, fd, qs, k1, k2, k3, k4⟩ := pg.fns x i hi
      exact ⟨g, k1, k2, fun pins σ H s Q us vs I r h => run_fnS k4 hr k3 (passAt (takes_of rfl rfl rfl rfl) σ) I r (spT_in h)⟩
    fnB := fun _ x i hi => by
      obtain ⟨g, fd, qs, k1, k2, k3, k4⟩ := pg.fns x i hi
      exact ⟨g, k1, k2, fun sc s0 H0 ce fp pins σ H1 s1 Q us vs I r h => run_fnS (X := (cxOf (L2.CX prog w) prog w P.kc.K mg base N qual scope f cdv A outer s H E).blk s0 H0 sc ce fp) (E := fun _ _ _ _ => False) k4 hr k3 (passAt L2.takes0 σ) I r (spT_in h)⟩
    blt := pg.blt
    grd := hg }
  fn := fun _ => rfl
  bk := by
    show (if scope.kind.isAnnotationScope then ScopeKind.function else scope.kind) = .function
    rw [S.kind]
    rfl
  tk := fun _ => takes_of rfl rfl rfl rfl
  own := fun _ => passes_of rfl
  try_ := fun z => nomatch z
  rz := fun c fs h => by
    obtain ⟨h1, h3⟩ := errsOf_ok nd h
    obtain ⟨g, C, rfl, k1, k2⟩ := pg.errs c fs h1
    exact ⟨C, k1, fun e es p pos fa h0 hs ha => mk_err (show Gl (cxOf (L2.CX prog w) prog w P.kc.K mg base N qual scope f cdv A outer s H E) c from h3) (hr.mono h2) k2 h0 hs ha⟩
/-- THE RULE for a def of the program: its body, read over data -/
theorem def_ok {pls : List Str} (pg : Pg P prog w mg base k fns con errs) (nd : (errs.map (·.1)).Nodup) (h2 : 2 ≤ k) {x qual : Str} {st : Stmt} {f : Addr} {fd : FuncData} {N ps : List Str} {n : Nat} {fs : FS} (F : Fun P.kc.K x qual st f fd) (S : FnScope N ps (defScope st))
    (hc : cSs (Ga.mkP N (defScope st) fns con false pls) (errsOf (defScope st) errs) n (defBody st) = some fs) : FnOk prog w P.kc.K mg base (L2.CX prog w) (k + 1) f fd ps (spT P ⟨ps.length, runDef (N.length + (plOf N pls).length) fs⟩) :=
  F.okX S (fun vs H Q E h => h.1) fun cdv A outer s H vs Q E hr h =>
    ⟨tS (inP P H N.length (plOf N pls)) E fs, (sndS (xs_of pg nd S h2 hr (fun z => Bool.noConfusion z)) n).B _ _ hc, body_run pg.nf (by rw [h.1]; exact scope_len S) plOf_lt' (by rw [h.1]; exact h)⟩
end
end Pv

-- Pv13
set_option Elab.async false
set_option linter.all false
set_option maxRecDepth 100000
set_option maxHeartbeats 8000000
namespace Pv
open PySem PySem.Spec L2
open PyProof.Rows (envOfC)
/-! ## the drawing of numbers: the same three defs in every law -/
section
variable {prog : Program} {w : World} {K : PySem.W.Frag} {mg : Str → Option Value} {base : Heap}
def mixSc : Scope := { kind := .function, names := [("cell", .local), ("k", .local), ("one", .local)], isGenerator := false, isCoroutine := false, more := [] }
def spMix : Sp := fun vs H Q _ => ∃ c t : Int, vs = [.int c, .int t] ∧ 0 ≤ t ∧ t ≤ 2 ^ 41 ∧ ∀ (z : Int) (p : Addr) (xs : List V), H p = none → Q (.int z) (upd H p (.lst xs))
theorem mix_ok {qual : Str} {st : Stmt} {f : Addr} {fd : FuncData} {k : Nat} (F : Fun K "_law_mixed" qual st f fd) (hsc : defScope st = mixSc)
    {q1 q2 q3 q4 q5 q6 q7 q8 q9 q10 q11 q12 q13 q14 q15 q16 q17 q18 q19 q20 q21 q22 q23 q24 q25 q26 q27 q28 q29 : Pos} (hb : defBody st = [ (Stmt.Assign (targets := [(Expr.Name "one" q1)]) (value := (Expr.BinOp (left := (Expr.BinOp (left := (Expr.BinOp (left := (Expr.Name "cell" q2)) (op := Operator.Mod) (right := (Expr.Subscript (value := (Expr.List (elts := [ (Expr.Constant (Const.int 1000000007) 0 q3), (Expr.Constant (Const.int 998244353) 0 q4), (Expr.Constant (Const.int 2147483629) 0 q5), (Expr.Constant (Const.int 1000000009) 0 q6)]) (pos := q7))) (slice := (Expr.BinOp (left := (Expr.Name "k" q8)) (op := Operator.Mod) (right := (Expr.Constant (Const.int 4) 0 q9)) (pos := q10))) (pos := q11))) (pos := q12))) (op := Operator.Add) (right := (Expr.BinOp (left := (Expr.Constant (Const.int 7919) 0 q13)) (op := Operator.Mult) (right := (Expr.Name "k" q14)) (pos := q15))) (pos := q16))) (op := Operator.Add) (right := (Expr.Constant (Const.int 13) 0 q17)) (pos := q18))) (pos := q19)), (Stmt.Return (value := (some (Expr.BinOp (left := (Expr.BinOp (left := (Expr.BinOp (left := (Expr.BinOp (left := (Expr.Name "one" q20)) (op := Operator.Mult) (right := (Expr.Name "one" q21)) (pos := q22))) (op := Operator.Mod) (right := (Expr.Constant (Const.int 2147483647) 0 q23)) (pos := q24))) (op := Operator.Mult) (right := (Expr.Constant (Const.int 48271) 0 q25)) (pos := q26))) (op := Operator.Mod) (right := (Expr.Constant (Const.int 2147483647) 0 q27)) (pos := q28)))) (pos := q29))]) : FnOk prog w K mg base (L2.CX prog w) (k + 1) f fd ["cell", "k"] spMix := by
  have S : FnScope ["cell", "k", "one"] ["cell", "k"] (defScope st) := by
    rw [hsc]
    exact ⟨rfl, rfl, rfl, by decide +kernel, rfl, by decide +kernel, by decide +kernel⟩
  have v0 : Vis (defScope st) "cell" := by rw [hsc]; exact .inl rfl
  have v1 : Vis (defScope st) "k" := by rw [hsc]; exact .inl rfl
  have v2 : Vis (defScope st) "one" := by rw [hsc]; exact .inl rfl
  have l2 : (defScope st).names.lookup ("one" : Str) = some NameKind.local := by rw [hsc]; rfl
  refine F.okX S (fun vs H Q E h => ?_) fun cdv A outer s H vs Q E hr h => ?_
  · obtain ⟨c, t, rfl, _⟩ := h
    rfl
  · obtain ⟨c, t, rfl, h0, h1, q⟩ := h
    rw [hb]
    refine ⟨_, pss_cons (ps_set S.nd (i := 2) rfl (.inl l2) (pe_op op_add (pe_op op_add (pe_op op_mod (pe_var (i := 0) rfl v0) (pe_ix ix_list (pe_lst (pa_cons pe_int (pa_cons pe_int (pa_cons pe_int (pa_cons pe_int pa_nil))))) (pe_op op_mod (pe_var (i := 1) rfl v1) pe_int) (plain_ix rfl))) (pe_op op_mul pe_int (pe_var (i := 1) rfl v1))) pe_int) rfl (.inr l2))
      (pss_one (ps_ret (pe_op op_mod (pe_op op_mul (pe_op op_mod (pe_op op_mul (pe_var (i := 2) rfl v2) (pe_var (i := 2) rfl v2)) pe_int) pe_int) pe_int))), ?_⟩
    refine ⟨_, rfl, ?_⟩
    refine ⟨by show 4 ≤ _; rw [sizeLine_eq]; decide, fun p hp => ?_⟩
    refine ⟨_, rfl, t, 4, rfl, rfl, (by show (0 : Int) < 4; decide), ?_⟩
    have m0 : 0 ≤ t % 4 := Int.emod_nonneg _ (by decide)
    have m1 : t % 4 < 4 := Int.emod_lt_of_pos _ (by decide)
    have at4 : ∃ m : Int, 0 < m ∧ m < 2147483648 ∧ atI [V.int 1000000007, V.int 998244353, V.int 2147483629, V.int 1000000009] (t % 4) = some (.int m) := by
      have : t % 4 = 0 ∨ t % 4 = 1 ∨ t % 4 = 2 ∨ t % 4 = 3 := by omega
      rcases this with e | e | e | e <;> rw [e]
      · exact ⟨1000000007, by decide, by decide, rfl⟩
      · exact ⟨998244353, by decide, by decide, rfl⟩
      · exact ⟨2147483629, by decide, by decide, rfl⟩
      · exact ⟨1000000009, by decide, by decide, rfl⟩
    obtain ⟨m, hm0, hm1, hm⟩ := at4
    refine ⟨p, _, t % 4, .int m, rfl, rfl, .inl (.inl upd_same), hm, ?_⟩
    refine ⟨c, m, rfl, rfl, hm0, ?_⟩
    have r0 : 0 ≤ c % m := Int.emod_nonneg _ (by omega)
    have r1 : c % m < m := Int.emod_lt_of_pos _ hm0
    refine ⟨_, rfl, 7919, t, rfl, rfl, .inl (by decide), ?_⟩
    refine ⟨c % m, 7919 * t, rfl, rfl, ?_⟩
    refine ⟨c % m + 7919 * t, 13, rfl, rfl, ?_⟩
    obtain ⟨o, ho⟩ : ∃ o : Int, o = c % m + 7919 * t + 13 := ⟨_, rfl⟩
    have o0 : 0 ≤ o := by omega
    have o1 : o < 2 ^ 64 := by omega
    refine ⟨_, rfl, _, rfl, o, o, congrArg V.int ho.symm, congrArg V.int ho.symm, .inl ⟨by omega, o1⟩, ?_⟩
    refine ⟨o * o, 2147483647, rfl, rfl, (by show (0 : Int) < 2147483647; decide), ?_⟩
    refine ⟨_, 48271, rfl, rfl, .inr (by decide), ?_⟩
    refine ⟨_, 2147483647, rfl, rfl, (by show (0 : Int) < 2147483647; decide), ?_⟩
    exact q _ p _ hp

/-! ### the draw -/
def drawSc : Scope := { kind := .function, names := [("cell", .local), ("k", .local)], isGenerator := false, isCoroutine := false, more := [] }
def drawM : FnD
  | [.int _, .int k] => if 0 ≤ k ∧ k ≤ 1000000 then .ret drawD else .stuck
  | _ => .stuck
theorem drawM_wp {ds : List PyData} {b : Nat} {Q : PyData → Nat → Prop} {E : Er → Nat → Prop} (q : T.wp (drawM ds) b Q E) : ∃ c i : Int, ds = [.int c, .int i] ∧ 0 ≤ i ∧ i ≤ 1000000 ∧ Q drawD b := by
  unfold drawM at q
  split at q
  · rename_i c i
    refine ⟨c, i, rfl, ?_⟩
    split at q
    · rename_i hi
      exact ⟨hi.1, hi.2, q⟩
    · exact q.elim
  · exact q.elim
theorem nd_of {o : HO} {l c t : Int} (h : ¬ IsDraw o) : o ≠ drawO l c t := fun e => h ⟨l, c, t, e⟩
/-- all but the draw at a stays, and no other draw is new -/
structure DS (a : Addr) (H H' : Hp) : Prop where
  old : ∀ b o, b ≠ a → H b = some o → H' b = some o
  new : ∀ b o, b ≠ a → H' b = some o → IsDraw o → H b = some o
theorem DS.refl {a : Addr} {H : Hp} : DS a H H := ⟨fun _ _ _ h => h, fun _ _ _ h _ => h⟩
theorem DS.put {a : Addr} {H H' : Hp} {o : HO} (d : DS a H H') : DS a H (upd H' a o) := ⟨fun b u n h => by rw [upd_ne n]; exact d.old b u n h, fun b u n h k => by rw [upd_ne n] at h; exact d.new b u n h k⟩
theorem DS.lay {a p : Addr} {H H' : Hp} {o : HO} (d : DS a H H') (hp : H' p = none) (hn : ¬ IsDraw o) : DS a H (upd H' p o) := ⟨fun b u n h => by
  have e := d.old b u n h
  rw [upd_ne (ne_of_none e hp)]
  exact e, fun b u n h k => by
  by_cases hb : b = p
  · subst hb
    rw [upd_same] at h
    cases h
    exact absurd k hn
  · rw [upd_ne hb] at h
    exact d.new b u n h k⟩
theorem DS.frm {a : Addr} {H H' : Hp} {l c t l' c' t' : Int} (d : DS a H H') (h : H a = some (drawO l c t)) (h' : H' a = some (drawO l' c' t')) : Frm H H' := fun b o e => by
  by_cases hb : b = a
  · subst hb
    rw [h] at e
    cases e
    exact ⟨_, h', .inr (.inl ⟨⟨l, c, t, rfl⟩, ⟨l', c', t', rfl⟩⟩)⟩
  · exact ⟨o, d.old b o hb e, .inl rfl⟩
theorem tabs_of {T : List (Addr × Str)} {H H' : Hp} (t : LamX.Tabs T H) (h : ∀ b o, H b = some o → ¬ IsDraw o → H' b = some o) : LamX.Tabs T H' := fun p hp => by
  obtain ⟨ps, h1, h2, h3⟩ := t p hp
  refine ⟨ps, h _ _ h1 (fun ⟨_, _, _, z⟩ => nomatch z), h2, fun pos cv hc => ?_⟩
  obtain ⟨c, e1, e2⟩ := h3 pos cv hc
  exact ⟨c, e1, h _ _ e2 (fun ⟨_, _, _, z⟩ => nomatch z)⟩
theorem DS.bud {P : Pa} {a : Addr} {H H' : Hp} {l c t l' c' t' : Int} {b : Nat} (d : DS a H H') (U : Bud P b H) (h : H a = some (drawO l c t)) (h' : H' a = some (drawO l' c' t')) (h0 : 0 ≤ t') (h1 : t' + 4 * (b : Int) ≤ 2 ^ 40) : Bud P b H' := by
  refine ⟨⟨U.1.1, fun x m e u hx => ?_⟩, tabs_of U.2.1 (fun x o hx hn => ?_), fun q hq => ?_, fun B hB => (U.2.2.2 B hB).trans (d.frm h h')⟩
  · by_cases hb : x = a
    · subst hb
      rw [h'] at hx
      cases hx
      exact ⟨h0, h1⟩
    · exact U.1.2 x m e u (d.new x _ hb hx ⟨m, e, u, rfl⟩)
  · by_cases hb : x = a
    · subst hb
      rw [h] at hx
      cases hx
      exact absurd ⟨l, c, t, rfl⟩ hn
    · exact d.old x o hb hx
  · obtain ⟨k1, k2, k3⟩ := U.2.2.1 q hq
    refine ⟨d.old _ _ (fun z => ?_) k1, k2, k3⟩
    rw [z, h] at k1
    exact k2 ⟨l, c, t, (Option.some.inj k1).symm⟩
theorem draw_ok {P : Pa} {qual : Str} {st : Stmt} {f : Addr} {fd : FuncData} {k : Nat} (hK : P.kc.K = K) (F : Fun K "_law_draw" qual st f fd) (hsc : defScope st = drawSc)
    {q1 q2 q3 q4 q5 q6 q7 q8 q9 q10 q11 q12 q13 q14 q15 q16 q17 : Pos} (hb : defBody st = [ (Stmt.Return (value := (some (Expr.Dict (keys := [ (some (Expr.Constant (Const.str "left") 0 q1)), (some (Expr.Constant (Const.str "cell") 0 q2)), (some (Expr.Constant (Const.str "turns") 0 q3))]) (values := [ (Expr.IfExp (test := (Expr.Compare (left := (Expr.Name "cell" q4)) (ops := [CmpOp.GtE]) (comparators := [ (Expr.BinOp (left := (Expr.Constant (Const.int 10) 0 q5)) (op := Operator.Pow) (right := (Expr.Constant (Const.int 18) 0 q6)) (pos := q7))]) (pos := q8))) (body := (Expr.Name "cell" q9)) (orelse := (Expr.Constant (Const.int 0) 0 q10)) (pos := q11)), (Expr.Name "cell" q12), (Expr.BinOp (left := (Expr.Constant (Const.int 1000) 0 q13)) (op := Operator.Mult) (right := (Expr.Name "k" q14)) (pos := q15))]) (pos := q16)))) (pos := q17))]) : FnOk prog w K mg base (L2.CX prog w) (k + 1) f fd ["cell", "k"] (spT P ⟨2, drawM⟩) := by
  subst hK
  have S : FnScope ["cell", "k"] ["cell", "k"] (defScope st) := by
    rw [hsc]
    exact ⟨rfl, rfl, rfl, by decide +kernel, rfl, by decide +kernel, by decide +kernel⟩
  have v0 : Vis (defScope st) "cell" := by rw [hsc]; exact .inl rfl
  have v1 : Vis (defScope st) "k" := by rw [hsc]; exact .inl rfl
  refine F.okX S (fun vs H Q E h => h.1) fun cdv A outer s H vs Q E hr h => ?_
  obtain ⟨hl, ds, b, U, r, q⟩ := h
  obtain ⟨c, i, rfl, h0, h1, q⟩ := drawM_wp q
  cases r with
  | cons r1 r =>
    cases r with
    | cons r2 r =>
      cases r
      cases r1
      cases r2
      rw [hb]
      refine ⟨_, pss_one (ps_ret (pe_disp (pps_cons pe_str (pe_ifExp (pt_cmp (pc_ge (pe_var (i := 0) rfl v0) (pe_op op_pow pe_int pe_int))) (pe_var (i := 0) rfl v0) pe_int) (pps_cons pe_str (pe_var (i := 0) rfl v0) (pps_cons pe_str (pe_op op_mul pe_int (pe_var (i := 1) rfl v1)) pps_nil))) rfl rfl (by simp) (by show 3 ≤ 15; decide))), ?_⟩
      intro p hp
      refine ⟨_, rfl, 10, 18, rfl, rfl, ⟨by decide, by decide, by decide⟩, c, _, rfl, rfl, _, rfl, ?_⟩
      have fin : ∀ l : Int, Q (.ref p) (upd (upd H p (.dK [])) p (drawO l c (1000 * i))) := fun l => by
        rw [upd_upd]
        have hd : ∀ (x : Addr) (o : HO), H x = some o → upd H p (drawO l c (1000 * i)) x = some o := fun x o e => by
          rw [upd_ne (ne_of_none e hp)]
          exact e
        refine q _ _ (Frm.new hp) ⟨⟨U.1.1, fun x m e u hx => ?_⟩, U.2.1.ext hd, fun q hq => ⟨hd _ _ (U.2.2.1 q hq).1, (U.2.2.1 q hq).2⟩, fun B hB => (U.2.2.2 B hB).trans (Frm.new hp)⟩ (.drw upd_same ⟨l, c, _, rfl⟩)
        by_cases hb : x = p
        · subst hb
          rw [upd_same] at hx
          cases hx
          have := U.1.1
          refine ⟨by omega, ?_⟩
          have : (b : Int) ≤ 2 ^ 30 := by exact_mod_cast U.1.1
          omega
        · rw [upd_ne hb] at hx
          exact U.1.2 x m e u hx
      show ite _ _ _
      split
      · refine ⟨_, rfl, _, rfl, _, rfl, 1000, i, rfl, rfl, .inl (by decide), upd_same, [(.inr "left", .int c), (.inr "cell", .int c), (.inr "turns", .int (1000 * i))], rfl, (by show 3 ≤ 15; decide), fin c⟩
      · refine ⟨_, rfl, _, rfl, 1000, i, rfl, rfl, .inl (by decide), upd_same, [(.inr "left", .int 0), (.inr "cell", .int c), (.inr "turns", .int (1000 * i))], rfl, (by show 3 ≤ 15; decide), fin 0⟩
end
end Pv

-- Pv14
set_option Elab.async false
set_option linter.all false
set_option maxRecDepth 100000
set_option maxHeartbeats 8000000
namespace Pv
open PySem PySem.Spec L2
open PyProof.Rows (envOfC)
section
variable {prog : Program} {w : World} {K : PySem.W.Frag} {mg : Str → Option Value} {base : Heap}
def digSc : Scope := { kind := .function, names := [("draw", .local), ("span", .local), ("j", .local), ("found", .local), ("range", .globalImplicit), ("_law_mixed", .globalImplicit)], isGenerator := false, isCoroutine := false, more := [] }
def isDr : PyData → Bool
  | .dict [(.none, .none)] => true
  | _ => false
theorem isDr_of {d : PyData} (h : isDr d = true) : d = drawD := by
  unfold isDr at h
  split at h
  · rfl
  · cases h
def digM : FnD
  | [d, .int n] => if isDr d = true ∧ 0 < n ∧ n < 1073741824 then .pick n fun i => .ret (.int i) else .stuck
  | _ => .stuck
theorem digM_wp {ds : List PyData} {b : Nat} {Q : PyData → Nat → Prop} {E : Er → Nat → Prop} (q : T.wp (digM ds) b Q E) : ∃ (n : Int) (c : Nat), ds = [drawD, .int n] ∧ 0 < n ∧ n < 1073741824 ∧ b = c + 1 ∧ ∀ i, 0 ≤ i → i < n → Q (.int i) c := by
  unfold digM at q
  split at q
  · rename_i d n
    split at q
    · rename_i hi
      obtain ⟨h1, h2, h3⟩ := hi
      cases isDr_of h1
      cases b with
      | zero => exact q.elim
      | succ c => exact ⟨n, c, rfl, h2, h3, rfl, fun i h0 h1 => q i h0 h1⟩
    · exact q.elim
  · exact q.elim
abbrev kL : Key := Sum.inr "left"
abbrev kC : Key := Sum.inr "cell"
abbrev kT : Key := Sum.inr "turns"
theorem get_l {l c t : Int} : valV (κ := Key) [(kL, V.int l), (kC, .int c), (kT, .int t)] kL = some (.int l) := by rfl
theorem get_c {l c t : Int} : valV (κ := Key) [(kL, V.int l), (kC, .int c), (kT, .int t)] kC = some (.int c) := by rfl
theorem get_t {l c t : Int} : valV (κ := Key) [(kL, V.int l), (kC, .int c), (kT, .int t)] kT = some (.int t) := by rfl
theorem put_l {l c t x : Int} : putK (κ := Key) [(kL, V.int l), (kC, .int c), (kT, .int t)] kL (.int x) = [(kL, V.int x), (kC, .int c), (kT, .int t)] := by rfl
theorem put_t {l c t x : Int} : putK (κ := Key) [(kL, V.int l), (kC, .int c), (kT, .int t)] kT (.int x) = [(kL, V.int l), (kC, .int c), (kT, .int x)] := by rfl
theorem dg {H : Hp} {a : Addr} {l c t : Int} {k : Key} {v : V} (h : H a = some (drawO l c t)) (e : valV (κ := Key) [(kL, V.int l), (kC, .int c), (kT, .int t)] k = some v) : DGet H a (kV k) (some v) := by
  rw [← e]
  exact DGet.k h
theorem dp {H : Hp} {a : Addr} {l c t l' c' t' : Int} {k : Key} {v : V} (h : H a = some (drawO l c t)) (e : putK (κ := Key) [(kL, V.int l), (kC, .int c), (kT, .int t)] k v = [(kL, V.int l'), (kC, .int c'), (kT, .int t')]) : DPut H a (kV k) v (upd H a (drawO l' c' t')) := by
  unfold drawO
  rw [← e]
  exact DPut.k h (by rw [sizeLine_eq]; show 3 < 16777216; decide)
theorem digit_ok {P : Pa} {qual : Str} {st : Stmt} {f g : Addr} {fd gd : FuncData} {k : Nat} (hK : P.kc.K = K) (F : Fun K "_law_digit" qual st f fd) (hsc : defScope st = digSc)
    (hr0 : mg "range" = none) (hm0 : mg "_law_mixed" = some (.ref g)) (hm1 : PySem.W.keepIn K (.ref g) = true) (hm2 : Binds K gd ["cell", "k"] []) (hm3 : FnOk prog w K mg base (L2.CX prog w) k g gd ["cell", "k"] spMix)
    {q1 q2 q3 q4 q5 q6 q7 q8 q9 q10 q11 q12 q13 q14 q15 q16 q17 q18 q19 q20 q21 q22 q23 q24 q25 q26 q27 q28 q29 q30 q31 q32 q33 q34 q35 q36 q37 q38 q39 q40 q41 q42 q43 q44 q45 q46 q47 q48 q49 q50 q51 q52 q53 q54 q55 q56 : Pos} (hb : defBody st = [ (Stmt.If (test := (Expr.Compare (left := (Expr.Subscript (value := (Expr.Name "draw" q1)) (slice := (Expr.Constant (Const.str "left") 0 q2)) (pos := q3))) (ops := [CmpOp.Eq]) (comparators := [(Expr.Constant (Const.int 0) 0 q4)]) (pos := q5))) (body := [ (Stmt.For (target := (Expr.Name "j" q6)) (iter := (Expr.Call (func := (Expr.Name "range" q7)) (args := [(Expr.Constant (Const.int 4) 0 q8)]) (keywords := []) (pos := q9))) (body := [ (Stmt.Assign (targets := [ (Expr.Subscript (value := (Expr.Name "draw" q10)) (slice := (Expr.Constant (Const.str "turns") 0 q11)) (pos := q12))]) (value := (Expr.BinOp (left := (Expr.Subscript (value := (Expr.Name "draw" q13)) (slice := (Expr.Constant (Const.str "turns") 0 q14)) (pos := q15))) (op := Operator.Add) (right := (Expr.Constant (Const.int 1) 0 q16)) (pos := q17))) (pos := q18)), (Stmt.Assign (targets := [ (Expr.Subscript (value := (Expr.Name "draw" q19)) (slice := (Expr.Constant (Const.str "left") 0 q20)) (pos := q21))]) (value := (Expr.BinOp (left := (Expr.BinOp (left := (Expr.Subscript (value := (Expr.Name "draw" q22)) (slice := (Expr.Constant (Const.str "left") 0 q23)) (pos := q24))) (op := Operator.Mult) (right := (Expr.Constant (Const.int 2147483647) 0 q25)) (pos := q26))) (op := Operator.Add) (right := (Expr.Call (func := (Expr.Name "_law_mixed" q27)) (args := [ (Expr.Subscript (value := (Expr.Name "draw" q28)) (slice := (Expr.Constant (Const.str "cell") 0 q29)) (pos := q30)), (Expr.Subscript (value := (Expr.Name "draw" q31)) (slice := (Expr.Constant (Const.str "turns") 0 q32)) (pos := q33))]) (keywords := []) (pos := q34))) (pos := q35))) (pos := q36))]) (orelse := []) (pos := q37))]) (orelse := []) (pos := q38)), (Stmt.Assign (targets := [(Expr.Name "found" q39)]) (value := (Expr.BinOp (left := (Expr.Subscript (value := (Expr.Name "draw" q40)) (slice := (Expr.Constant (Const.str "left") 0 q41)) (pos := q42))) (op := Operator.Mod) (right := (Expr.Name "span" q43)) (pos := q44))) (pos := q45)), (Stmt.Assign (targets := [ (Expr.Subscript (value := (Expr.Name "draw" q46)) (slice := (Expr.Constant (Const.str "left") 0 q47)) (pos := q48))]) (value := (Expr.BinOp (left := (Expr.Subscript (value := (Expr.Name "draw" q49)) (slice := (Expr.Constant (Const.str "left") 0 q50)) (pos := q51))) (op := Operator.FloorDiv) (right := (Expr.Name "span" q52)) (pos := q53))) (pos := q54)), (Stmt.Return (some (Expr.Name "found" q55)) q56)]) : FnOk prog w K mg base (L2.CX prog w) (k + 1) f fd ["draw", "span"] (spT P ⟨2, digM⟩) := by
  subst hK
  have S : FnScope ["draw", "span", "j", "found"] ["draw", "span"] (defScope st) := by
    rw [hsc]
    exact ⟨rfl, rfl, rfl, by decide +kernel, rfl, by decide +kernel, by decide +kernel⟩
  have v0 : Vis (defScope st) "draw" := by rw [hsc]; exact .inl rfl
  have v1 : Vis (defScope st) "span" := by rw [hsc]; exact .inl rfl
  have v3 : Vis (defScope st) "found" := by rw [hsc]; exact .inl rfl
  have l2 : (defScope st).names.lookup ("j" : Str) = some NameKind.local := by rw [hsc]; rfl
  have l3 : (defScope st).names.lookup ("found" : Str) = some NameKind.local := by rw [hsc]; rfl
  have g4 : (defScope st).names.lookup ("range" : Str) = some NameKind.globalImplicit := by rw [hsc]; rfl
  have g5 : (defScope st).names.lookup ("_law_mixed" : Str) = some NameKind.globalImplicit := by rw [hsc]; rfl
  refine F.okX S (fun vs H Q E h => h.1) fun cdv A outer s H vs Q E hr h => ?_
  obtain ⟨hl, ds, b, U, r, q⟩ := h
  obtain ⟨n, b, rfl, n0, n1, rfl, qq⟩ := digM_wp q
  cases r with
  | cons r1 r =>
    cases r with
    | cons r2 r =>
      cases r
      cases r2
      cases r1 with
      | @drw a o ho hd =>
        obtain ⟨l, c, t, rfl⟩ := hd
        have ht := U.1.2 a l c t ho
        have hu : (A.deeper (envOfC qual (defScope st) s.heap.objs.size f cdv)).units + 1 < cLine := by
          have := hr.un
          omega
        rw [hb]
        refine ⟨_, pss_cons (ps_if (pt_cmp (pc_eqI (pe_dget hu (pe_var (i := 0) rfl v0) pe_str (plain_ix rfl)) pe_int))
            (pss_one (ps_for (passes_of rfl) rfl (pi_range1 g4 hr0 (pa_cons pe_int pa_nil)) (pg_name S.nd (i := 2) rfl (.inl l2) (.inr l2))
              (pss_cons (ps_dput hu (pe_var (i := 0) rfl v0) pe_str (pe_op op_add (pe_dget hu (pe_var (i := 0) rfl v0) pe_str (plain_ix rfl)) pe_int) rfl)
              (pss_one (ps_dput hu (pe_var (i := 0) rfl v0) pe_str (pe_op op_add (pe_op op_mul (pe_dget hu (pe_var (i := 0) rfl v0) pe_str (plain_ix rfl)) pe_int)
                (pe_callS (E := fun _ => E) hm3 hr g5 hm0 hm1 hm2 (fun σ => passAt (takes_of rfl rfl rfl rfl) σ) (pa_cons (pe_dget hu (pe_var (i := 0) rfl v0) pe_str (plain_ix rfl)) (pa_cons (pe_dget hu (pe_var (i := 0) rfl v0) pe_str (plain_ix rfl)) pa_nil)))) rfl))))) pss_nil)
          (pss_cons (ps_set S.nd (i := 3) rfl (.inl l3) (pe_op op_mod (pe_dget hu (pe_var (i := 0) rfl v0) pe_str (plain_ix rfl)) (pe_var (i := 1) rfl v1)) rfl (.inr l3))
          (pss_cons (ps_dput hu (pe_var (i := 0) rfl v0) pe_str (pe_op op_fdiv (pe_dget hu (pe_var (i := 0) rfl v0) pe_str (plain_ix rfl)) (pe_var (i := 1) rfl v1)) rfl)
          (pss_one (ps_ret (pe_var (i := 3) rfl v3))))), ?_⟩
        refine ⟨_, rfl, a, _, rfl, dg ho get_l, l, 0, rfl, rfl, _, rfl, ?_⟩
        show ite _ _ _
        split
        · refine ⟨4, rfl, by decide, by decide, ?_⟩
          refine for_range (fun i σ H' => i ≤ 4 ∧ ∃ (x : Option V) (l' : Int), σ = [some (.ref a), some (.int n), x, none] ∧ H' a = some (drawO l' c (t + i)) ∧ DS a H H') ⟨by decide, none, l, rfl, by simpa using ho, DS.refl⟩ ?_ ?_
          · rintro i σ H' hi ⟨hi4, x, l', rfl, e1, d⟩
            refine ⟨_, rfl, a, _, rfl, dg e1 get_t, _, 1, rfl, rfl, _, rfl, a, _, rfl, dp e1 put_t, ?_⟩
            refine ⟨_, rfl, a, _, rfl, dg upd_same get_l, l', 2147483647, rfl, rfl, .inr (by decide), ?_⟩
            refine ⟨_, rfl, a, _, rfl, dg upd_same get_c, _, rfl, a, _, rfl, dg upd_same get_t, c, _, rfl, ?_, ?_, fun z p xs hp => ?_⟩
            · have := ht.1
              omega
            · have h1 := ht.2
              have hc : ((b + 1 : Nat) : Int) = (b : Int) + 1 := by omega
              rw [hc] at h1
              have h2 : i < 4 := hi
              omega
            have pa : a ≠ p := by
              intro z
              subst z
              rw [upd_same] at hp
              cases hp
            have e2 : upd (upd H' a (drawO l' c (t + i + 1))) p (.lst xs) a = some (drawO l' c (t + i + 1)) := by rw [upd_ne pa, upd_same]
            refine ⟨_, z, rfl, rfl, _, rfl, a, _, rfl, dp e2 put_l, ?_⟩
            refine ⟨hi, some (.int (0 + i)), l' * 2147483647 + z, rfl, ?_, (d.put.lay hp nd_lst).put⟩
            rw [upd_same]
            have : t + (i : Int) + 1 = t + ((i + 1 : Nat) : Int) := by omega
            rw [this]
          · rintro σ H' ⟨_, x, l', rfl, e1, d⟩
            have t0 : 0 ≤ t + ((4 : Int).toNat : Int) := by
              have := ht.1
              omega
            obtain ⟨t', et, le4⟩ : ∃ t', t' = t + ((4 : Int).toNat : Int) ∧ t' ≤ t + 4 := ⟨_, rfl, by omega⟩
            rw [← et] at e1 t0
            refine ⟨_, rfl, a, _, rfl, dg e1 get_l, _, rfl, l', n, rfl, rfl, n0, ?_⟩
            refine ⟨_, rfl, a, _, rfl, dg e1 get_l, _, rfl, l', n, rfl, rfl, ⟨n0, n1⟩, _, rfl, a, _, rfl, dp e1 put_l, ?_⟩
            refine ⟨_, rfl, ?_⟩
            have t4 : t' + 4 * (b : Int) ≤ 2 ^ 40 := by
              have := ht.2
              have hc : ((b + 1 : Nat) : Int) = (b : Int) + 1 := by omega
              rw [hc] at this
              omega
            exact qq (l' % n) (Int.emod_nonneg _ (by omega)) (Int.emod_lt_of_pos _ n0) _ _ (d.put.frm ho upd_same) (d.put.bud (U.le (Nat.le_succ b)) ho upd_same t0 t4) (.int _)
        · obtain ⟨l', el⟩ : ∃ l', l' = l := ⟨_, rfl⟩
          obtain ⟨t', et, le4⟩ : ∃ t', t' = t ∧ t' ≤ t + 4 := ⟨_, rfl, by omega⟩
          have e1 : H a = some (drawO l' c t') := by rw [el, et]; exact ho
          have d : DS a H H := DS.refl
          have t0 : 0 ≤ t' := by rw [et]; exact ht.1
          refine ⟨_, rfl, a, _, rfl, dg e1 get_l, _, rfl, l', n, rfl, rfl, n0, ?_⟩
          refine ⟨_, rfl, a, _, rfl, dg e1 get_l, _, rfl, l', n, rfl, rfl, ⟨n0, n1⟩, _, rfl, a, _, rfl, dp e1 put_l, ?_⟩
          refine ⟨_, rfl, ?_⟩
          have t4 : t' + 4 * (b : Int) ≤ 2 ^ 40 := by
            have := ht.2
            have hc : ((b + 1 : Nat) : Int) = (b : Int) + 1 := by omega
            rw [hc] at this
            omega
          exact qq (l' % n) (Int.emod_nonneg _ (by omega)) (Int.emod_lt_of_pos _ n0) _ _ (d.put.frm ho upd_same) (d.put.bud (U.le (Nat.le_succ b)) ho upd_same t0 t4) (.int _)
end
end Pv

-- Pv15
set_option Elab.async false
set_option linter.all false
set_option maxRecDepth 100000
set_option maxHeartbeats 8000000
namespace Pv
open PySem PySem.Spec L2 PyProof.Rows PySem.Calls PySem.W
/-- isinstance(e, c), e the caught error, c one class -/
theorem isi_exc {X : Cx} {a D dd : Addr} {oe : Obj} {pn : List (Addr × Obj)} {fs : List (Str × V)} (C : ExcC X.K D) (hz : Zc (.ref D) (some dd) oe) (hf : ∃ vs, oe.data = .fields vs) :
    CallR (X.suite a ((a, oe) :: pn)) (.builtin "isinstance") (fun xs H Q => ∃ (c : V) (cv : Value) (b : Bool), xs = [.ref a, c] ∧ (∀ u, RelV c u → u = cv) ∧ PySem.W.kitOne X.K (.ref D) cv = some b ∧ H dd = some (.xd fs) ∧ Q (.bl b) H) := by
  intro pins s σ H xs us Q I r h
  obtain ⟨c, cv, b, rfl, hcv, e, hx, q⟩ := h
  match us, r with
  | [_, t], .cons rx (.cons rt .nil) =>
    cases rx
    obtain rfl := hcv _ rt
    have hp := (I.pin (a, oe) (List.mem_append_left _ List.mem_cons_self)).1
    obtain ⟨vs, hv⟩ := hf
    have ox : ObjOk X.prog X.w H s.heap dd (.xd fs) := I.hok dd _ hx
    obtain ⟨mA, hns, _⟩ := ox
    obtain ⟨od, ho, _⟩ := lookIn_ns hns
    have J : PySem.W.InstAt s.heap a oe D (some od) := ⟨hp, hz.1, by unfold PySem.W.notCls; rw [hv] <;> rfl, by rw [hz.2]; exact ho⟩
    exact PySem.W.kia_one (kit_exc C) I.kIn J e (fun z => nomatch z) fun tk => ⟨.bl b, H, I.kept (t' := tk) fun _ _ z => z, rfl, q⟩
end Pv

-- Pv16
set_option Elab.async false
set_option linter.all false
set_option maxRecDepth 100000
set_option maxHeartbeats 8000000
namespace Pv
open PySem PySem.Spec L2
open PyProof.Rows (envOfC)
/-! ## a def's promise, where no value is being printed -/
structure FnG (prog : Program) (w : World) (K : PySem.W.Frag) (mg : Str → Option Value) (base : Heap) (k : Nat) (f : Addr) (fd : FuncData) (ps : List Str) (sp : Sp) : Prop where
  len : ∀ vs H Q E, sp vs H Q E → vs.length = ps.length
  run : ∀ (A : Around) (outer : List Env) (s : Shared) (H : Hp) (args : Args) (us : List Value) (vs : List V) (Q : VK) (E : XK), Room k A → A.guards = some [] → Env0 prog w K mg base A outer s H → BindsTo s fd args (ps.zip us) → Vals vs us → sp vs H Q E →
    codeAny (model prog w) A (.call (.ref f) args) (CR (L2.CX prog w) outer prog w H s Q E) s
theorem grd_deeper {A : Around} {e : Env} (h : A.guards = some []) : (A.deeper e).guards = some [] := h
theorem FnOk.g {prog : Program} {w : World} {K : PySem.W.Frag} {mg : Str → Option Value} {base : Heap} {k : Nat} {f : Addr} {fd : FuncData} {ps : List Str} {sp : Sp} (h : FnOk prog w K mg base (L2.CX prog w) k f fd ps sp) : FnG prog w K mg base k f fd ps sp :=
  ⟨h.len, fun A outer s H args us vs Q E hr _ => h.run A outer s H args us vs Q E hr⟩
section
variable {X : Cx} {k : Nat} {f : Addr} {fd : FuncData} {ps : List Str} {sp : Sp}
theorem run_fnG {pins : List (Addr × Obj)} {σ : St} {H : Hp} {s : Shared} {Q : VK} {E : XK} {us : List Value} {vs : List V} (F : FnG X.prog X.w X.K X.mg X.base k f fd ps sp) (hr : Room k X.A) (hg : X.A.guards = some []) (hb : Binds X.K fd ps [])
    (hx : PassesAt (L2.CX X.prog X.w) X σ E) (I : Inv X pins σ H s) (r : Vals vs us) (h : sp vs H Q E) : wpAny (model X.prog X.w) X.A (call (.ref f) us) (EP X pins σ Q) X.xe s := by
  have hl : us.length = ps.length := by
    rw [← r.length]
    exact F.len vs H Q E h
  have b := hb s us I.kIn (by simpa using hl)
  rw [List.append_nil] at b
  refine wpAny_call (codeAny_mono (F.run X.A X.stack s H ⟨us, []⟩ us vs Q E hr hg I.env0 b r h) fun out s2 ho => ?_)
  match out, ho with
  | .error e, ho => exact hx pins H s e s2 I ho
  | .ok (.ret u), ho => exact I.after ho
  | .ok .next, ho => exact ho.elim
  | .ok .brk, ho => exact ho.elim
  | .ok .cont, ho => exact ho.elim
theorem pick_vals {zs : List V} {ws : List Value} (r : Vals zs ws) : ∀ {is : List Nat} {vs : List V} {us : List Value}, pickN zs is = some vs → pickN ws is = some us → Vals vs us
  | [], vs, us, h1, h2 => by
    cases h1
    cases h2
    exact .nil
  | i :: is, vs, us, h1, h2 => by
    obtain ⟨v, hv, h1⟩ := Option.bind_eq_some_iff.mp h1
    obtain ⟨vr, hvr, h1⟩ := Option.bind_eq_some_iff.mp h1
    obtain ⟨u, hu, h2⟩ := Option.bind_eq_some_iff.mp h2
    obtain ⟨ur, hur, h2⟩ := Option.bind_eq_some_iff.mp h2
    cases h1
    cases h2
    obtain ⟨u', hu', ru⟩ := r.get hv
    rw [hu] at hu'
    cases hu'
    exact .cons ru (pick_vals r hvr hur)
theorem run_fnGk {pins : List (Addr × Obj)} {σ : St} {H : Hp} {s : Shared} {Q : VK} {E : XK} {us : List Value} {vs : List V} {nms : List Str} {ws : List Value} (F : FnG X.prog X.w X.K X.mg X.base k f fd ps sp) (hr : Room k X.A) (hg : X.A.guards = some []) (b : BindsTo s fd ⟨[], nms.zip ws⟩ (ps.zip us))
    (hx : PassesAt (L2.CX X.prog X.w) X σ E) (I : Inv X pins σ H s) (r : Vals vs us) (h : sp vs H Q E) : wpAny (model X.prog X.w) X.A (call (.ref f) [] (nms.zip ws)) (EP X pins σ Q) X.xe s := by
  refine wpAny_call (codeAny_mono (F.run X.A X.stack s H ⟨[], nms.zip ws⟩ us vs Q E hr hg I.env0 b r h) fun out s2 ho => ?_)
  match out, ho with
  | .error e, ho => exact hx pins H s e s2 I ho
  | .ok (.ret u), ho => exact I.after ho
  | .ok .next, ho => exact ho.elim
  | .ok .brk, ho => exact ho.elim
  | .ok .cont, ho => exact ho.elim
/-- what is known of calls by keywords -/
structure KwL (P : Pa) (prog : Program) (w : World) (mg : Str → Option Value) (base : Heap) (k : Nat) (fns : List (Str × FnI)) (kwo : Str → List Str → Option (List Nat)) : Prop where
  kw : ∀ x nms is i, kwo x nms = some is → fns.lookup x = some i → ∃ f fd ps, mg x = some (.ref f) ∧ PySem.W.keepIn P.kc.K (.ref f) = true ∧ FnG prog w P.kc.K mg base k f fd ps (spT P i) ∧
    ∀ (s : Shared) (ws : List Value), P.kc.K.In s.heap → ws.length = nms.length → ∃ us, pickN ws is = some us ∧ BindsTo s fd ⟨[], nms.zip ws⟩ (ps.zip us)
theorem KwL.none {P : Pa} {prog : Program} {w : World} {mg : Str → Option Value} {base : Heap} {k : Nat} {fns : List (Str × FnI)} : KwL P prog w mg base k fns (fun _ _ => .none) := ⟨fun _ _ _ _ h => nomatch h⟩
end
end Pv

-- Pv17
set_option Elab.async false
set_option linter.all false
set_option maxRecDepth 100000
set_option maxHeartbeats 8000000
namespace Pv
open PySem PySem.Spec L2
open PyProof.Rows (envOfC)
section
variable {X : Cx} {pins : List (Addr × Obj)} {σ : L2.St} {H : Hp} {s : Shared}
open LamX in
theorem lam_mk1 {tbs : List (Addr × Str)} {co tb : Addr} {pr : Arguments} {bd : Expr} {sc : Scope} {lp : Pos} {dV : Value} {Ex Qx : Value → Shared → Prop} (I : Inv X pins σ H s) (B : TabB X.base X.mg co tb) (hco : X.env.code = .ref co)
    (hin : (tb, X.env.qual ++ "<lambda>") ∈ tbs) (one : ∀ q ∈ tbs, q.1 = tb → q.2 = X.env.qual ++ "<lambda>") (hTb : Tabs tbs H) (cells : ∀ y ∈ sc.names, y.2 = .free → ∃ c, X.env.cells.lookup y.1 = some c) (dk : DefOk pr (frs X.stack) dV s.heap H)
    (fin : ∀ (fn cn : Addr) (pm ct : Value) (H1 : Hp) (s1 : Shared), Inv X pins σ H1 s1 → OneMore tb (X.env.qual ++ "<lambda>") H cn H1 → Tabs tbs H1 →
      s1.heap.get? fn = some (lamOb "<lambda>" (X.env.qual ++ "<lambda>") pr bd sc (cloFrom X.env.cells sc.names []) dV pm cn ct) → H1 fn = none → fn ∉ frs X.stack → H1 cn = some (CodeO cn (X.env.qual ++ "<lambda>")) → DefOk pr (frs X.stack) dV s1.heap H1 → Qx (.ref fn) s1) :
    wpAny (model X.prog X.w) X.A (makeTail "<lambda>" (X.env.qual ++ "<lambda>") pr (.expr bd) sc X.env dV .none none lp lp.line) Qx Ex s := by
  obtain ⟨row, e1, e2, e3⟩ := hTb _ hin
  have onH : s.heap.get? tb = some { cls := .none, data := .fields row } := I.hok tb _ e1
  have hbm : s.heap.BuiltinsAt X.mg tb := B.bm.keeps I.bk
  have new_fr : ∀ q, s.heap.objs.size ≤ q → q ∉ frs X.stack := fun q hq hm => by
    cases List.mem_cons.mp (I.stkSub _ hm) with
    | inl e => exact Nat.lt_irrefl _ (Nat.lt_of_lt_of_le (e ▸ I.lt) hq)
    | inr e => exact I.nofs hq e
  cases known : codeAmong lp row.toList with
  | some v =>
    obtain ⟨cn, rfl, k⟩ := e3 lp v known
    refine lm_tailHit (mg := X.mg) (c := co) (P := tb) (ps := row) (closure_ok cells) I.ok.glob (I.mod.glob.keeps I.bk) hco (B.code.keeps I.bk) onH e2 known hbm fun ct hp tk kp hs => ?_
    refine fin hp.objs.size cn _ ct H _ (I.kept (t' := tk) fun q o e => Heap.get?_push_of_some _ (kp q o e)) (.inl rfl) hTb (Heap.get?_push_size _ rfl) (I.hok.fresh hs) (new_fr _ hs) k ?_
    rcases dk with d | ⟨T, i, t, d0, d1, d2, d3, d4⟩
    · exact .inl d
    · exact .inr ⟨T, i, t, d0, d1, Heap.get?_push_of_some _ (kp _ _ d2), d3, d4⟩
  | none =>
    refine lm_tail (mg := X.mg) (c := co) (P := tb) (ps := row) (closure_ok cells) I.ok.glob (I.mod.glob.keeps I.bk) hco (B.code.keeps I.bk) onH e2 known B.gP hbm fun cn ct hp tk kp ge lt rec_ grown => ?_
    obtain ⟨cn2, ob, fs, tn, ecn, r1, r2, r3⟩ := rec_
    cases ecn
    have big : s.heap.objs.size ≤ hp.objs.size := Nat.le_trans ge (Nat.le_of_lt lt)
    have free : H cn = none := I.hok.fresh ge
    have tbn : tb ≠ cn := ne_of_none e1 free
    have J := inv_table (t' := tk) (more := #[rawInt lp.line, rawInt lp.col, .ref cn]) (h' := hp.push (lamOb "<lambda>" (X.env.qual ++ "<lambda>") pr bd sc (cloFrom X.env.cells sc.names []) dV ((X.mg "__name__").getD .none) cn ct)) I e1
      (fun q o n e => Heap.get?_push_of_some _ (kp q o n e)) (Heap.get?_push_of_some _ grown) ge ⟨ob, fs, tn, Heap.get?_push_of_some _ r1, r2, r3⟩
    have stay : ∀ q o, H q = some o → (∀ u, o ≠ .tbl u) → upd (upd H tb (.tbl (row ++ #[rawInt lp.line, rawInt lp.col, .ref cn]))) cn (CodeO cn (X.env.qual ++ "<lambda>")) q = some o := fun q o e n => by
      have n1 : q ≠ tb := fun z => by
        rw [z, e1] at e
        exact n row (Option.some.inj e).symm
      rw [upd_ne (ne_of_none e free), upd_ne n1, e]
    refine fin hp.objs.size cn _ ct _ _ J (.inr ⟨row, _, e1, free, rfl⟩) (fun q hq => ?_) (Heap.get?_push_size _ rfl) ?_ (new_fr _ big) upd_same ?_
    · by_cases hb : q.1 = tb
      · rw [one q hq hb, hb]
        have eL : (row ++ #[rawInt lp.line, rawInt lp.col, .ref cn]).toList = row.toList ++ [rawInt lp.line, rawInt lp.col, .ref cn] := by simp
        refine ⟨_, by rw [upd_ne tbn, upd_same], by rw [eL]; exact PySem.TriplesOk_snoc _ _ _ _ e2, fun p' v hv => ?_⟩
        rw [eL] at hv
        cases among_app _ e2 hv with
        | inl z =>
          obtain ⟨c0, y1, y2⟩ := e3 p' v z
          exact ⟨c0, y1, stay _ _ y2 codeO_ne⟩
        | inr z => exact ⟨cn, z, upd_same⟩
      · obtain ⟨row2, y1, y2, y3⟩ := hTb q hq
        refine ⟨row2, by rw [upd_ne (ne_of_none y1 free), upd_ne hb]; exact y1, y2, fun p' v hv => ?_⟩
        obtain ⟨c0, z1, z2⟩ := y3 p' v hv
        exact ⟨c0, z1, stay _ _ z2 codeO_ne⟩
    · rw [upd_ne (Nat.ne_of_gt lt), upd_ne (Nat.ne_of_gt (Nat.lt_of_lt_of_le (Heap.lt_size onH) big))]
      exact I.hok.fresh big
    · rcases dk with d | ⟨T, i, t, d0, d1, d2, d3, d4⟩
      · exact .inl d
      · have nt : T ≠ tb := fun z => by
          rw [z, e1] at d3
          cases d3
        have nc : T ≠ cn := fun z => by
          rw [z] at d2
          exact Nat.lt_irrefl _ (Nat.lt_of_lt_of_le (Heap.lt_size d2) ge)
        exact .inr ⟨T, i, t, d0, d1, Heap.get?_push_of_some _ (kp _ _ nt d2), by rw [upd_ne nc, upd_ne nt]; exact d3, d4⟩
open LamX PySem.W PySem.Calls PyProof.Rows in
theorem lam_mk {tbs : List (Addr × Str)} {co tb : Addr} {pr : Arguments} {ps : List Str} {bd : Expr} {sc : Scope} {lp : Pos} {Ex Qx : Value → Shared → Prop} (I : Inv X pins σ H s) (B : TabB X.base X.mg co tb) (hco : X.env.code = .ref co)
    (hin : (tb, X.env.qual ++ "<lambda>") ∈ tbs) (one : ∀ q ∈ tbs, q.1 = tb → q.2 = X.env.qual ++ "<lambda>") (hTb : Tabs tbs H) (par : lamPar pr = some ps) (cells : ∀ y ∈ sc.names, y.2 = .free → ∃ c, X.env.cells.lookup y.1 = some c)
    (fin : ∀ (fn cn : Addr) (pm ct dV : Value) (H1 : Hp) (s1 : Shared), Inv X pins σ H1 s1 → OneMore tb (X.env.qual ++ "<lambda>") H cn H1 → Tabs tbs H1 →
      s1.heap.get? fn = some (lamOb "<lambda>" (X.env.qual ++ "<lambda>") pr bd sc (cloFrom X.env.cells sc.names []) dV pm cn ct) → H1 fn = none → fn ∉ frs X.stack → H1 cn = some (CodeO cn (X.env.qual ++ "<lambda>")) → DefOk pr (frs X.stack) dV s1.heap H1 → Qx (.ref fn) s1) :
    wpAny (model X.prog X.w) X.A (eval (.Lambda pr bd sc lp) X.env) Qx Ex s := by
  have tail : ∀ (dV : Value) (s0 : Shared), Inv X pins σ H s0 → DefOk pr (frs X.stack) dV s0.heap H → wpAny (model X.prog X.w) X.A (makeTail "<lambda>" (X.env.qual ++ "<lambda>") pr (.expr bd) sc X.env dV .none none lp lp.line) Qx Ex s0 := fun dV s0 I0 d =>
    lam_mk1 I0 B hco hin one hTb cells d fun fn cn pm ct H1 s1 => fin fn cn pm ct dV H1 s1
  unfold lamPar at par
  split at par
  · cases par
    refine kla_eval rfl ?_
    rw [makeFunction_eq]
    simp only [List.zip_nil_right, List.filterMap_nil, List.isEmpty_nil, if_true, pure_bind]
    exact tail .none s I (.inl ⟨rfl, rfl⟩)
  · rename_i a i j p
    cases par
    rw [arm_eval_Lambda]
    show wpAny _ _ (do let dv ← evalAll [eval (.Constant (.int i) j p) X.env]; let kdv ← holding dv (evalAllOpt []); makeFunction "<lambda>" (X.env.qual ++ "<lambda>") ⟨[], [a], none, [], [], none, [.Constant (.int i) j p]⟩ (.expr bd) sc X.env dv kdv [] lp lp.line) Qx Ex s
    refine wpAny_bind (wpAny_bind (wpAny_Constant_int ?_))
    refine wpAny_bind (wpAny_holding (wpAny_pure (wpAny_pure ?_)))
    refine wpAny_bind (wpAny_holding (wpAny_pure ?_))
    rw [makeFunction_eq]
    simp only [List.zip_nil_right, List.filterMap_nil, List.isEmpty_nil, List.isEmpty_cons, Bool.false_eq_true, if_true, if_false, pure_bind]
    refine wpAny_bind (wpAny_newTextTuple ?_)
    have I1 : Inv X pins σ H { s with heap := s.heap.push { cls := .type "tuple", data := .seq [Value.int i s.toks].toArray }, toks := s.toks + 1 } := I.kept (t' := s.toks + 1) fun q o e => Heap.get?_push_of_some _ e
    have new_fr : ∀ q, s.heap.objs.size ≤ q → q ∉ frs X.stack := fun q hq hm => by
      cases List.mem_cons.mp (I.stkSub _ hm) with
      | inl e => exact Nat.lt_irrefl _ (Nat.lt_of_lt_of_le (e ▸ I.lt) hq)
      | inr e => exact I.nofs hq e
    exact tail _ _ I1 (.inr ⟨s.heap.objs.size, i, s.toks, (fun z => nomatch z), rfl, Heap.get?_push_size _ rfl, I.hok.fresh (Nat.le_refl _), new_fr _ (Nat.le_refl _)⟩)
  · cases par
end
end Pv

-- Pv18
set_option Elab.async false
set_option linter.all false
set_option maxRecDepth 100000
set_option maxHeartbeats 8000000
namespace Pv
open PySem PySem.Spec L2
open PyProof.Rows (envOfC)
/-! ## the names of an except suite -/
theorem rpf_lookup {Z : Kc} {H : Hp} {f : Str} {d : PyData} : ∀ {vs : List (Str × V)} {ds : List (Str × PyData)}, RpF Z H vs ds → ds.lookup f = some d → ∃ v, vs.lookup f = some v ∧ Rp Z H v d
  | [], [], _, h => by cases h
  | [], _ :: _, h, _ => by
    have := h.1
    simp at this
  | _ :: _, [], h, _ => by
    have := h.1
    simp at this
  | (x, v) :: vs, (y, e) :: ds, h, hl => by
    obtain ⟨h1, h2⟩ := h
    simp only [List.map_cons, List.cons.injEq] at h1
    obtain ⟨rfl, h1⟩ := h1
    simp only [List.map_cons] at h2
    cases h2 with
    | cons r rr =>
      rw [List.lookup_cons] at hl ⊢
      cases hx : f == x with
      | true =>
        rw [hx] at hl
        cases hl
        exact ⟨v, rfl, r⟩
      | false =>
        rw [hx] at hl
        exact rpf_lookup ⟨h1, rr⟩ hl
section
variable {P : Pa} {Γ : Ga} {X : Cx} {W : WX}
theorem su_of (np : P.pl = []) (x : XO P Γ X W) (c : Ecl P.kc Γ.sub Γ.ecl X.mg) {a : Addr} {oe : Obj} {C dd : Addr} {pn : List (Addr × Obj)} {nm : Str} {i : Nat} {er : Er} {vs : List (Str × V)} {B : Hp} (hz : Zc (.ref C) (some dd) oe) (hf : ∃ vs, oe.data = .fields vs) (hC : P.kc.cl er.cls = some C) (rpf : RpF P.kc B vs er.fs) (hsl : slotOf Γ nm = some i) :
    XO (suP P dd vs i a B) (suGa Γ nm er) (X.suite a ((a, oe) :: pn)) (fun _ _ _ _ => False) := by
  obtain ⟨s1, s2, s3, s4⟩ := slot_of x hsl
  have hK := x.hK
  obtain ⟨xf, xc, xn⟩ : XfC X.K C ∧ ExcC X.K C ∧ ∀ f ∈ fldNames, PySem.W.findIn X.K (.ref C) f = some none := hK ▸ c.xf _ _ hC
  have vr : ∀ p : Pos, PE (X.suite a ((a, oe) :: pn)) (.Name nm p) (tVar i) := fun p => pe_var s1 s2 s3 s4
  refine XB.up { hK := x.hK, hN := x.hN, hsc := x.hsc, nd := x.nd, calm := (fun z => nomatch z), fz := fun q hq => ?_, pl := (fun i hi => by
    obtain ⟨y, k1, k2⟩ := x.pl i hi
    exact ⟨y, k1, List.mem_cons_of_mem _ k2⟩), pn := x.pn, hpl := x.hpl, plfz := (fun i hi => by rw [show (suP P dd vs _ a B).pl = P.pl from rfl, np] at hi; cases hi), u := x.u, con := x.con, fns := (fun _ _ h => nomatch h), blt := x.blt, grd := x.grd, ek := .inr c, kw := (fun _ _ _ _ h => nomatch h), fnB := (fun z => nomatch z), gx := (fun z => nomatch z), exA := fun y e he f d p pos hfl hl => ?_, exI := fun y e he cl b p p1 p2 pos hce hsub g1 g2 => ?_, thk := (fun _ _ h => nomatch h) } rfl
  · rcases List.mem_cons.mp hq with rfl | hq
    · exact ⟨nm, by rw [← x.hN]; exact s1, List.mem_cons_self⟩
    · obtain ⟨y, k1, k2⟩ := x.fz q hq
      exact ⟨y, k1, List.mem_cons_of_mem _ k2⟩
  · cases he
    refine impE (pe_xf xf (xn f hfl) hz hf (vr p)) fun σ H Q q => ?_
    obtain ⟨ρ, b, U, R, q⟩ := q
    obtain ⟨v, hv, rv⟩ := rpf_lookup rpf hl
    refine ⟨.ref a, R.fz (i, .ref a) List.mem_cons_self, rfl, rfl, dd, vs, v, rfl, (U.2.2.1 (dd, .xd vs) List.mem_cons_self).1, hv, ?_⟩
    exact KQ.now (show KQ _ H Q d b from q) U (rv.frm (U.2.2.2 B List.mem_cons_self))
  · cases he
    obtain ⟨Cc, m1, m2, _, m3⟩ := c.cat cl hce
    have ig : X.env.scope.names.lookup ("isinstance" : Str) = some NameKind.globalImplicit := by
      unfold glob at g1
      rw [Bool.and_eq_true] at g1
      rw [x.hsc]
      exact of_decide_eq_true g1.1
    have cg : X.env.scope.names.lookup cl = some .globalImplicit := by
      unfold glob at g2
      rw [Bool.and_eq_true] at g2
      rw [x.hsc]
      exact of_decide_eq_true g2.1
    refine impE (pe_callB (id := "isinstance") (isi_exc (fs := vs) xc hz hf) ig (x.blt "isinstance" (by decide)) (by decide +kernel) (pa_cons (vr p1) (pa_cons (pe_glob (v := .ref Cc) cg m1 rfl m2) pa_nil))) fun σ H Q q => ?_
    obtain ⟨ρ, b', U, R, q⟩ := q
    refine ⟨.ref a, R.fz (i, .ref a) List.mem_cons_self, .ref Cc, .ref Cc, b, rfl, fun u r => ?_, (hK ▸ (m3 _ _ _ hsub hC).1), (U.2.2.1 (dd, .xd vs) List.mem_cons_self).1, ?_⟩
    · cases r
      rfl
    · exact KQ.now (show KQ _ H Q (.bool b) b' from q) U (.bl b)
end
end Pv

-- Pv19
set_option Elab.async false
set_option linter.all false
set_option maxRecDepth 100000
set_option maxHeartbeats 8000000
namespace Pv
open PySem PySem.Spec L2
open PyProof.Rows (envOfC)
/-! ## the call of a lambda within the def that got it -/
section
variable {X : Cx} {pins : List (Addr × Obj)} {σ : L2.St} {H : Hp} {s : Shared}
/-- the context of the def that got the lambda -/
abbrev toldCx (X : Cx) (Ng : List Str) (qg : Str) (sg : Scope) (g : Addr) (cdg : Value) (s : Shared) (H : Hp) : Cx := cxOf C8.CX0 X.prog X.w X.K X.mg X.base Ng qg sg g cdg X.A X.stack s H C8.E0
open LamX PySem.W PySem.Calls PyProof.Rows in
theorem lam_act {Ng : List Str} {qg : Str} {sg : Scope} {g fn cn : Addr} {cdg pm ct : Value} {pr : Arguments} {bd : Expr} {sc : Scope} {k : Nat} {a : Str} {pn : List (Addr × Obj)} {xe : Value → Shared → Prop} {W : WX} {tb : XK → TE} {p1 p2 : Pos}
    (I : Inv X pins σ H s) {ps : List Str} {dV : Value} (L : LamN X.N ps X.env.scope sc) (isF : s.heap.get? fn = some (lamOb "<lambda>" (X.env.qual ++ "<lambda>") pr bd sc (cloFrom X.env.cells sc.names []) dV pm cn ct)) (un0 : H fn = none) (nofr : fn ∉ frs X.stack)
    (par : lamPar pr = some ps) (dk : DefOk pr (frs X.stack) dV s.heap H)
    (tk : Takes ((toldCx X Ng qg sg g cdg s H).tr pn xe) W) (room : Room (k + 1) (X.A.deeper (envOfC qg sg s.heap.objs.size g cdg)))
    (rd : ∀ (A : Around) (outer : List Env) (s : Shared) (H : Hp) (E : XK), Room k (A.deeper (lamEnv X sc s.heap.objs.size fn cn)) → PE (lamCx X A outer s H E sc fn cn) bd (tb E))
    (hN : Ng[0]? = some a) (hv : Vis sg a) (d1 : (a == ("__debug__" : Str)) = false) (d2 : (a == ("__classdict__" : Str)) = false) :
    PE ((toldCx X Ng qg sg g cdg s H).tr pn xe) (.Call (.Name a p1) [] [] p2) (fun σZ HZ Q => σZ[0]? = some (some (.ref fn)) ∧ HZ cn = some (CodeO cn (X.env.qual ++ "<lambda>")) ∧ tb (WE W σZ) σ HZ Q) := by
  refine ⟨fun pz sz σZ HZ Q J w => ?_⟩
  obtain ⟨w1, w2, w3⟩ := w
  have nm := (pe_var (X := (toldCx X Ng qg sg g cdg s H).tr pn xe) (pos := p1) (i := 0) hN hv d1 d2).run pz sz σZ HZ (fun v H1 => v = .ref fn ∧ H1 = HZ) J ⟨.ref fn, w1, rfl, rfl⟩
  refine wpAny_Call_Name_kw (thn nm fun u s1 ⟨v, H1, J1, rv, ev, eh⟩ => ?_)
  subst ev
  subst eh
  obtain rfl : u = Value.ref fn := rv
  have isF1 : s1.heap.get? fn = some (lamOb "<lambda>" (X.env.qual ++ "<lambda>") pr bd sc (cloFrom X.env.cells sc.names []) dV pm cn ct) := J1.base.keep fn _ isF un0 nofr (fun z => nomatch (show fn ∈ ([] : List Addr) from z))
  have kept : Un (frs X.stack) [] H H1 s.heap s1.heap := J1.base
  obtain ⟨⟨oc, cv, tkn, o1, o2, o3⟩, _, _⟩ := J1.hok cn _ w2
  refine callWith_F0 ⟨_, _, _, _, isF1⟩ (wpAny_call (codeAny_mono (?_ : codeAny (model X.prog X.w) (X.A.deeper (envOfC qg sg s.heap.objs.size g cdg)) (.call (.ref fn) ⟨[], []⟩)
    (CR (L2.CX X.prog X.w) (envOfC qg sg s.heap.objs.size g cdg :: X.stack) X.prog X.w H1 s1 Q (WE W σZ)) s1) fun r s2 out => ?_))
  · refine kla_callFunE room.depth isF1 rfl L.co L.gen rfl ⟨cn, oc, cv, tkn, rfl, o1, o2, o3⟩ ?_
    obtain ⟨bs, eb, hbs⟩ := bind_lam (s' := s1) (name := "<lambda>") (qual := X.env.qual ++ "<lambda>") (body := bd) (scope := sc) (cl := cloFrom X.env.cells sc.names []) (pm := pm) (cdv := .ref cn) (ct := ct) par dk fun b o e1 e2 e3 => J1.base.keep b o e1 e2 e3 (fun z => nomatch (show b ∈ ([] : List Addr) from z))
    refine hbs _ _ _ _ ?_
    refine wpAny_newFunctionEnv (fun y hy => (L.own y hy).2) (fun y hy => L.par y.1 (by rw [← eb]; exact List.mem_map_of_mem hy)) (fun h1 hns hsb => ⟨J1.nolimit.fresh _ hsb, ?_⟩) L.kind
    have grow : ∀ b o, s1.heap.get? b = some o → h1.get? b = some o := fun b o e =>
      hsb.extBut b o (Nat.ne_of_lt (Heap.lt_size e)) (Heap.get?_push_of_some _ e)
    have J2 := lam_start3 (tk := s1.toks + bs.length) (E := WE W σZ) (c' := cn) (f := fn) I L J1.env0 room.hd kept hns grow
    refine kla_codeExpr (wpAny_mono ((rd _ _ s1 H1 (WE W σZ) (room.deeper _)).run [] _ _ H1 Q J2 w3) (fun v s' ⟨x, H', J3, rx, q⟩ => ?_) fun _ _ q => q)
    exact ⟨x, H', J3.os, J3.bare, J3.base, J3.hok, rx, q⟩
  · match r, out with
    | .error e, out => exact passAt tk σZ pz H1 s1 e s2 J1 out
    | .ok (.ret u), out => exact J1.after out
    | .ok .next, out => exact out.elim
    | .ok .brk, out => exact out.elim
    | .ok .cont, out => exact out.elim
end
end Pv

-- Pv20
set_option Elab.async false
set_option linter.all false
set_option maxRecDepth 100000
set_option maxHeartbeats 8000000
namespace Pv
open PySem PySem.Spec L2
open PyProof.Rows (envOfC)
/-! ## a def that takes a lambda -/
/-- the names of its body; th: what the lambda does -/
abbrev toldGa (Ng : List Str) (sg : Scope) (a : Str) (con : List (Str × PyData)) (sub : Str → Str → Option Bool) (ecl : List Str) (rep : Bool) (th : T PyData) (tfs : List (Str × FnI) := []) : Ga := ⟨Ng, sg, tfs, con, rep, true, [a], none, some (a, ⟨0, fun _ => th⟩), sub, [], [], ecl, true, false, [], fun _ _ => none, false, []⟩
/-- what it makes of the lambda -/
def toldF (n : Nat) (Ng : List Str) (sg : Scope) (a : Str) (con : List (Str × PyData)) (sub : Str → Str → Option Bool) (ecl : List Str) (rep : Bool) (tfs : List (Str × FnI)) (bg : List Stmt) (th : T PyData) : T PyData :=
  match cSs (toldGa Ng sg a con sub ecl rep th tfs) [] n bg with
  | some fs => noRaise (T.bind (fs 100000 (List.replicate Ng.length none)) outD)
  | none => .stuck
abbrev toP (P : Pa) (f cn : Addr) (q : Str) (B : Hp) (n : Nat) : Pa := ⟨P.kc, P.Tb, (cn, LamX.CodeO cn q) :: P.pin, [(0, .ref f)], B :: P.h0, [], n⟩
theorem Frm.stay {H H' : Hp} {a : Addr} {o : HO} (F : Frm H H') (h : H a = some o) (n1 : ¬ IsDraw o) (n2 : ∀ ps, o ≠ .tbl ps) : H' a = some o := by
  obtain ⟨o', e, rfl | ⟨z, _⟩ | ⟨ps, _, z, _⟩⟩ := F a o h
  · exact e
  · exact absurd z n1
  · exact absurd z (n2 ps)
theorem code_tbl {c : Addr} {q : Str} (ps : Array Value) : LamX.CodeO c q ≠ .tbl ps := LamX.codeO_ne ps
section
variable {P : Pa} {f cn : Addr} {q : Str} {B H H' : Hp} {b c nt : Nat}
theorem bud_toP (U : Bud P b H) (h : H cn = some (LamX.CodeO cn q)) (F : Frm B H) : Bud (toP P f cn q B nt) b H := by
  refine ⟨U.1, U.2.1, fun r hr => ?_, fun C hC => ?_⟩
  · rcases List.mem_cons.mp hr with rfl | hr
    · exact ⟨h, nd_code, code_tbl⟩
    · exact U.2.2.1 r hr
  · rcases List.mem_cons.mp hC with rfl | hC
    · exact F
    · exact U.2.2.2 C hC
theorem bud_of_toP (U : Bud (toP P f cn q B nt) b H) : Bud P b H := ⟨U.1, U.2.1, fun r hr => U.2.2.1 r (List.mem_cons_of_mem _ hr), fun C hC => U.2.2.2 C (List.mem_cons_of_mem _ hC)⟩
theorem bud_on (U : Bud (toP P f cn q B nt) b H) (F : Frm H H') (U' : Bud P c H') : Bud (toP P f cn q B nt) c H' :=
  bud_toP U' (F.stay (U.2.2.1 (cn, LamX.CodeO cn q) List.mem_cons_self).1 nd_code code_tbl) ((U.2.2.2 B List.mem_cons_self).trans F)
theorem spT_toP {i : FnI} {vs : List V} {Q : VK} {E : XK} (h : spT (toP P f cn q B nt) i vs H Q E) : spT P i vs H Q E := by
  obtain ⟨hl, ds, b, U, r, w⟩ := h
  exact ⟨hl, ds, b, bud_of_toP U, r, T.wp_mono w (fun d c _ k v H' F U' r' => k v H' F (bud_on U F U') r') fun x c _ k C d vs H' hC F U' hd rr => k C d vs H' hC F (bud_on U F U') hd rr⟩
end
/-- the call of the lambda, over data: σ ρ are the maker's names -/
theorem thk_conv {P : Pa} {f cn : Addr} {q : Str} {nt : Nat} {B HZ : Hp} {σ σZ : St} {ρ ρZ : En} {b : Nat} {fe : FE} {W : WX} {Q : VK} (R : Ren P B σ ρ) (U : Bud (toP P f cn q B nt) b HZ) (RZ : Ren (toP P f cn q B nt) HZ σZ ρZ) (w : T.wp (fe ρ) b (KQ (toP P f cn q B nt) HZ Q) (KW (toP P f cn q B nt) HZ (WE W σZ))) :
    σZ[0]? = some (some (.ref f)) ∧ HZ cn = some (LamX.CodeO cn q) ∧ tEv P (W0 (WE W σZ)) fe σ HZ Q := by
  refine ⟨RZ.fz (0, .ref f) List.mem_cons_self, (U.2.2.1 (cn, LamX.CodeO cn q) List.mem_cons_self).1, ρ, b, bud_of_toP U, R.frm (U.2.2.2 B List.mem_cons_self), T.wp_mono w (fun d c _ k => ?_) fun x c _ k => ?_⟩
  · exact fun v H' F U' r => k v H' F (bud_on U F U') r
  · exact fun C d vs H' hC F U' hd rr => k C d vs H' hC F (bud_on U F U') hd rr
section
variable {X : Cx} {P : Pa} {Γ : Ga} {W : WX} {pins : List (Addr × Obj)} {σ : L2.St} {ρ : En} {H : Hp} {s : Shared}
open LamX in
/-- the surroundings of the def's body -/
theorem told_xo {Ng : List Str} {qg : Str} {sg : Scope} {g fn cn : Addr} {cdg pm ct : Value} {pr : Arguments} {bd : Expr} {sc : Scope} {k : Nat} {a : Str} {fe : FE} {sub : Str → Str → Option Bool} {ecl : List Str} {rep : Bool}
    (x : XB P Γ X W) (ec : Ecl P.kc sub ecl X.mg) (I : Inv X pins σ H s) (R : Ren P H σ ρ) {ps : List Str} {dV : Value} (L : LamN X.N ps X.env.scope sc) (isF : s.heap.get? fn = some (lamOb "<lambda>" (X.env.qual ++ "<lambda>") pr bd sc (cloFrom X.env.cells sc.names []) dV pm cn ct)) (un0 : H fn = none) (nofr : fn ∉ frs X.stack)
    (par : lamPar pr = some ps) (dk : DefOk pr (frs X.stack) dV s.heap H)
    (room : Room (k + 1) (X.A.deeper (envOfC qg sg s.heap.objs.size g cdg))) (gr : rep = true → (X.A.deeper (envOfC qg sg s.heap.objs.size g cdg)).guards = some [])
    (rd : ∀ (A : Around) (outer : List Env) (s : Shared) (H : Hp) (E : XK), Room k (A.deeper (lamEnv X sc s.heap.objs.size fn cn)) → PE (lamCx X A outer s H E sc fn cn) bd (tEv P (W0 E) fe))
    (nd : Ng.Nodup) (hN : Ng[0]? = some a) (hv : Vis sg a) (d1 : (a == ("__debug__" : Str)) = false) (d2 : (a == ("__classdict__" : Str)) = false)
    {tfs : List (Str × FnI)} (tfn : ∀ y i, tfs.lookup y = some i → ∃ f fd ps, X.mg y = some (.ref f) ∧ PySem.W.keepIn X.K (.ref f) = true ∧ Binds X.K fd ps [] ∧ FnG X.prog X.w X.K X.mg X.base k f fd ps (spT P i)) (tg : tfs = [] ∨ (X.A.deeper (envOfC qg sg s.heap.objs.size g cdg)).guards = some [])
    (pn : List (Addr × Obj)) (xe : Value → Shared → Prop) (W' : WX) (tk : Takes ((toldCx X Ng qg sg g cdg s H).tr pn xe) W') :
    XO (toP P fn cn (X.env.qual ++ "<lambda>") H Ng.length) (toldGa Ng sg a Γ.con sub ecl rep (fe ρ) tfs) ((toldCx X Ng qg sg g cdg s H).tr pn xe) W' := by
  refine XB.up { hK := x.hK, hN := rfl, hsc := rfl, nd := nd, calm := (fun _ => rfl), fz := fun q hq => ?_, pl := (fun i hi => nomatch hi), pn := rfl, hpl := rfl, plfz := (fun i hi => nomatch hi), u := ?_, con := x.con, fns := fun y i hi => ?_, blt := x.blt, grd := gr, ek := .inr ec, kw := (fun _ _ _ _ h => nomatch h), fnB := (fun z => nomatch z), gx := (fun z => nomatch z), exA := (fun _ _ h => nomatch h), exI := (fun _ _ h => nomatch h), thk := fun a' i h => ⟨fun _ p p2 => ?_, fun z => ?_⟩ } rfl
  · obtain rfl : q = (0, .ref fn) := by simpa using hq
    exact ⟨a, hN, List.mem_cons_self⟩
  · have := room.un
    show (X.A.deeper (envOfC qg sg s.heap.objs.size g cdg)).units + 70 < cLine
    omega
  · obtain ⟨f', fd, ps, m1, m2, m3, m4⟩ := tfn y i hi
    have hg := tg.resolve_left (by
      rintro rfl
      cases hi)
    exact ⟨f', m1, m2, fun pins σ H s Q us vs I r h => run_fnG (X := (toldCx X Ng qg sg g cdg _ _).tr pn xe) m4 (room.mono (Nat.le_succ k)) hg m3 (passAt tk σ) I r (spT_toP h)⟩
  · cases h
    exact impE (lam_act I L isF un0 nofr par dk tk room rd hN hv d1 d2) fun σZ HZ Q ⟨ρZ, b, U, RZ, w⟩ => thk_conv R U RZ w
  · cases h
    cases z
end
end Pv

-- Pv21
set_option Elab.async false
set_option linter.all false
set_option maxRecDepth 100000
set_option maxHeartbeats 8000000
namespace Pv
open PySem PySem.Spec L2
open PyProof.Rows (envOfC)
theorem lamOk_inv {N : List Str} {sc scope : Scope} {params : Arguments} (h : lamOk N sc params scope = true) : ∃ ps, lamPar params = some ps ∧ LamN N ps sc scope := by
  unfold lamOk at h
  split at h
  · rename_i ps hp
    exact ⟨ps, hp, lamN_by h⟩
  · cases h
section
variable {X : Cx} {P : Pa} {Γ : Ga} {W : WX}
open LamX in
/-- THE RULE: a lambda handed to a def, both read over data -/
theorem lam_rule (xb : XB P Γ X W) {x a : Str} {g co tb : Addr} {k n : Nat} {pg : Arguments} {bg : List Stmt} {sg : Scope} {dV kV doc pm cdv ct oc : Value} {an od : Option Addr} {osl : Array (Option Value)} {Ng : List Str} {sub : Str → Str → Option Bool} {ecl : List Str} {rep : Bool}
    (ec : Ecl P.kc sub ecl X.mg) (hm : X.mg x = some (.ref g)) (hk : PySem.W.keepIn X.K (.ref g) = true)
    (lk : X.K.lookup g = some ⟨oc, od, .func (PySem.W.fnOf x x pg bg sg dV kV doc pm an cdv ct), osl⟩) (hcg : PySem.W.codeIn X.K cdv x = true) (hb : L2.Binds X.K (PySem.W.fnOf x x pg bg sg dV kV doc pm an cdv ct) [a] []) (Sg : FnScope Ng [a] sg)
    (hN : Ng[0]? = some a) (hv : Vis sg a) (d1 : (a == ("__debug__" : Str)) = false) (d2 : (a == ("__classdict__" : Str)) = false) (B : TabB X.base X.mg co tb) (hcode : X.env.code = .ref co) (hin : (tb, X.env.qual ++ "<lambda>") ∈ P.Tb) (one : ∀ q ∈ P.Tb, q.1 = tb → q.2 = X.env.qual ++ "<lambda>")
    (room : Room (k + 2) X.A) (gr : rep = true → X.A.guards = some [])
    (lx : ∀ (scope : Scope) (ps : List Str), LamN X.N ps X.env.scope scope → ∀ (A : Around) (outer : List Env) (s : Shared) (H : Hp) (E : XK) (f c' : Addr), Room k (A.deeper (lamEnv X scope s.heap.objs.size f c')) → XB P (lamGa Γ scope) (lamCx X A outer s H E scope f c') (W0 E))
    {tfs : List (Str × FnI)} (tfn : ∀ y i, tfs.lookup y = some i → ∃ f fd ps, X.mg y = some (.ref f) ∧ PySem.W.keepIn X.K (.ref f) = true ∧ Binds X.K fd ps [] ∧ FnG X.prog X.w X.K X.mg X.base k f fd ps (spT P i)) (tg : tfs = [] ∨ X.A.guards = some [])
    {params : Arguments} {body : Expr} {scope : Scope} {fe : FE} {p lpos pos : Pos} (hl : lamOk Γ.N Γ.sc params scope = true) (hbd : ∀ (X' : Cx) (W' : WX), XB P (lamGa Γ scope) X' W' → PE X' body (tEv P W' fe)) (hg : glob Γ x = true) :
    PE X (.Call (.Name x p) [.Lambda params body scope lpos] [] pos) (tEv P W fun ρ => toldF n Ng sg a Γ.con sub ecl rep tfs bg (fe ρ)) := by
  obtain ⟨lps, hp, hls⟩ := lamOk_inv hl
  have L : LamN X.N lps X.env.scope scope := by
    rw [xb.hsc, xb.hN]
    exact hls
  have gx : X.env.scope.names.lookup x = some .globalImplicit ∧ (x == ("__debug__" : Str)) = false := by
    unfold glob at hg
    rw [Bool.and_eq_true] at hg
    rw [xb.hsc]
    exact ⟨of_decide_eq_true hg.1, by simpa using hg.2⟩
  refine ⟨fun pins s σ H Q I q => ?_⟩
  obtain ⟨ρ, b, U, R, q⟩ := q
  refine wpAny_Call_Name_kw (ld_glob I gx.1 hm ?_ gx.2)
  refine PySem.W.callWith_K (h₀ := X.base) I.ok.mod.kin hk ?_ (by rfl) (by rfl)
  show wpAny _ _ (spliced ((false, eval (.Lambda params body scope lpos) X.env) :: backTo pos (starEach [] X.env))) _ _ s
  refine Calls.spliced_cons (lam_mk I B hcode hin one U.2.1 hp (L.has I.ok) fun f cn pm' ct' dV' H1 s1 I1 om T1 isF un0 nofr code dk => ?_)
  refine Calls.spliced_nil ⟨I1.kIn, ?_⟩
  have F1 := om.frm
  have U1 := om.bud U T1
  have R1 := R.frm F1
  have rc : codeAny (model X.prog X.w) X.A (.call (.ref g) ⟨[.ref f], []⟩) (CR C8.CX0 X.stack X.prog X.w H1 s1 Q C8.E0) s1 := by
    refine run_ofS (N := Ng) (ps := [a]) (us := [.ref f]) (vs := [.ref f]) lk hcg Sg room I1.env0 (hb s1 [.ref f] I1.kIn rfl) (.cons rfl .nil) rfl fun room1 => ?_
    have rd : ∀ (A : Around) (outer : List Env) (s : Shared) (H : Hp) (E : XK), Room k (A.deeper (lamEnv X scope s.heap.objs.size f cn)) → PE (lamCx X A outer s H E scope f cn) body (tEv P (W0 E) fe) :=
      fun A outer s H E r => hbd _ _ (lx scope lps L A outer s H E f cn r)
    have xo := fun (pn : List (Addr × Obj)) (xe : Value → Shared → Prop) (W' : WX) (tk : Takes ((toldCx X Ng x sg g cdv s1 H1).tr pn xe) W') =>
      told_xo (sub := sub) (ecl := ecl) (rep := rep) xb ec I1 R1 L isF un0 nofr hp dk room1 gr rd Sg.nd hN hv d1 d2 tfn tg pn xe W' tk
    have q1 : T.wp (match cSs (toldGa Ng sg a Γ.con sub ecl rep (fe ρ) tfs) [] n bg with
      | some fs => noRaise (T.bind (fs 100000 (List.replicate Ng.length none)) outD)
      | none => .stuck) b (KQ P H Q) (KW P H (WE W σ)) := q
    cases hcs : cSs (toldGa Ng sg a Γ.con sub ecl rep (fe ρ) tfs) [] n bg with
    | none =>
      rw [hcs] at q1
      exact q1.elim
    | some fs =>
      rw [hcs] at q1
      have q2 := T.wp_bind.mp (noRaise_wp q1)
      have xs : XS (toP P f cn (X.env.qual ++ "<lambda>") H1 Ng.length) (toldGa Ng sg a Γ.con sub ecl rep (fe ρ) tfs) [] (toldCx X Ng x sg g cdv s1 H1).nox (fun _ _ _ => False) := {
        x := xo [] (fun _ _ => False) _ L2.takes0
        fn := fun _ => rfl
        bk := by
          show (if sg.kind.isAnnotationScope then ScopeKind.function else sg.kind) = .function
          rw [Sg.kind]
          rfl
        tk := fun _ => L2.takes0
        own := fun _ => PassesOwn.never
        try_ := fun _ => {
          nopl := rfl
          ex0 := rfl
          hs := rfl
          hf := rfl
          tr := fun pn xe W' tk _ => xo pn xe W' tk
          cat := fun c hc gc => by
            obtain ⟨Cc, m1, m2, _, m3⟩ := ec.cat c hc
            refine ⟨Cc, ⟨?_, m2, .inl m1⟩, fun cn b C h1 h2 => xb.hK ▸ (m3 cn b C h1 h2).2⟩
            unfold glob at gc
            rw [Bool.and_eq_true] at gc
            have gc1 : sg.names.lookup c = some NameKind.globalImplicit := of_decide_eq_true gc.1
            exact gc1
          su := fun a' oe C dd pn nm i er vs B' hz hf hC rpf hsl => su_of rfl (xo [] (fun _ _ => False) (fun _ _ _ _ => False) L2.takes0) ec hz hf hC rpf hsl }
        rz := fun c fs h => nomatch h }
      refine ⟨_, ((sndS xs n).B bg fs hcs).nox, 100000, List.replicate Ng.length none, b, bud_toP U1 code (Frm.refl _), ⟨?_, by simp, fun i d _ e => ?_, fun r hr => ?_, Pls.none_ rfl⟩, T.wp_mono q2 (fun o c _ qo => ?_) fun _ _ _ e => e.elim⟩
      · have hp : 0 < Ng.length := (List.getElem?_eq_some_iff.mp hN).1
        unfold L2.start
        simp
        omega
      · rw [List.getElem?_replicate] at e
        split at e <;> cases e
      · obtain rfl : r = (0, .ref f) := by simpa using hr
        unfold L2.start
        rfl
      · cases o with
        | nx ρ2 => exact fun σ' H' F' U' R' => qo .non H' (F1.trans (U'.2.2.2 H1 List.mem_cons_self)) (bud_of_toP U') .non
        | rt d => exact fun v H' F' U' r' => qo v H' (F1.trans (U'.2.2.2 H1 List.mem_cons_self)) (bud_of_toP U') r'
        | bk ρ2 => exact qo.elim
        | ct ρ2 => exact qo.elim
  refine wpAny_call (codeAny_mono rc fun r s2 hq => ?_)
  match r, hq with
  | .error e, hq => exact (show False from hq).elim
  | .ok (.ret u), hq => exact I1.after hq
  | .ok .next, hq => exact hq.elim
  | .ok .brk, hq => exact hq.elim
  | .ok .cont, hq => exact hq.elim
end
end Pv

-- Pv22
set_option Elab.async false
set_option linter.all false
set_option maxRecDepth 100000
set_option maxHeartbeats 8000000
namespace Pv
open PySem PySem.Spec L2
open PyProof.Rows (envOfC)
/-! ## a law's own def: it may print values and hand lambdas on -/
/-- what is known of a def that takes a lambda -/
structure LamI (P : Pa) (prog : Program) (w : World) (mg : Str → Option Value) (base : Heap) (k : Nat) (con : List (Str × PyData)) (x : Str) (tf : T PyData → T PyData) : Prop where
  ex : ∃ (a : Str) (g : Addr) (n : Nat) (pg : Arguments) (bg : List Stmt) (sg : Scope) (dV kV doc pm cdv ct oc : Value) (an od : Option Addr) (osl : Array (Option Value)) (Ng : List Str) (sub : Str → Str → Option Bool) (ecl : List Str) (tfs : List (Str × FnI)),
    tf = toldF n Ng sg a con sub ecl true tfs bg ∧ Ecl P.kc sub ecl mg ∧ mg x = some (.ref g) ∧ PySem.W.keepIn P.kc.K (.ref g) = true ∧
    P.kc.K.lookup g = some ⟨oc, od, .func (PySem.W.fnOf x x pg bg sg dV kV doc pm an cdv ct), osl⟩ ∧ PySem.W.codeIn P.kc.K cdv x = true ∧ L2.Binds P.kc.K (PySem.W.fnOf x x pg bg sg dV kV doc pm an cdv ct) [a] [] ∧ FnScope Ng [a] sg ∧ Ng[0]? = some a ∧ Vis sg a ∧ (a == ("__debug__" : Str)) = false ∧ (a == ("__classdict__" : Str)) = false ∧
    ∀ y i, tfs.lookup y = some i → ∃ f fd ps, mg y = some (.ref f) ∧ PySem.W.keepIn P.kc.K (.ref f) = true ∧ L2.Binds P.kc.K fd ps [] ∧ FnG prog w P.kc.K mg base k f fd ps (spT P i)
structure PgL (P : Pa) (prog : Program) (w : World) (mg : Str → Option Value) (base : Heap) (k : Nat) (fns lfns : List (Str × FnI)) (con : List (Str × PyData)) (lams : List (Str × (T PyData → T PyData))) : Prop where
  nf : P.fz = []
  hcon : ∀ x d, con.lookup x = some d → ConR P.kc w mg x d
  fns : ∀ x i, fns.lookup x = some i → ∃ f fd ps, mg x = some (.ref f) ∧ PySem.W.keepIn P.kc.K (.ref f) = true ∧ Binds P.kc.K fd ps [] ∧ FnG prog w P.kc.K mg base k f fd ps (spT P i)
  lfns : ∀ x i, lfns.lookup x = some i → ∃ f fd ps, mg x = some (.ref f) ∧ PySem.W.keepIn P.kc.K (.ref f) = true ∧ Binds P.kc.K fd ps [] ∧ FnOk prog w P.kc.K mg base (L2.CX prog w) k f fd ps (spT P i)
  blt : ∀ x, x ∈ bltNames → mg x = none
  lams : ∀ x tf, lams.lookup x = some tf → LamI P prog w mg base k con x tf
/-- where the lambdas of a def are written down -/
def LamAt (P : Pa) (mg : Str → Option Value) (base : Heap) (qual : Str) (cdv : Value) : Prop :=
  ∃ co tb, cdv = .ref co ∧ LamX.TabB base mg co tb ∧ (tb, qual ++ ".<locals>." ++ "<lambda>") ∈ P.Tb ∧ ∀ q ∈ P.Tb, q.1 = tb → q.2 = qual ++ ".<locals>." ++ "<lambda>"
abbrev lawGa (N : List Str) (sc : Scope) (fns lfns : List (Str × FnI)) (con : List (Str × PyData)) (lams : List (Str × (T PyData → T PyData))) (pls : List Str := []) (kwo : Str → List Str → Option (List Nat) := fun _ _ => none) : Ga := ⟨N, sc, fns, con, true, true, pls, none, none, fun _ _ => none, lams, lfns, [], false, true, pls, kwo, false, []⟩
section
variable {P : Pa} {prog : Program} {w : World} {mg : Str → Option Value} {base : Heap} {k : Nat} {fns lfns : List (Str × FnI)} {con : List (Str × PyData)} {lams : List (Str × (T PyData → T PyData))}
open LamX in
theorem lx_of {pls : List Str} {kwo : Str → List Str → Option (List Nat)} {B0 : Hp} (pg : PgL P prog w mg base k fns lfns con lams) {N ps : List Str} {qual : Str} {scope : Scope} {f : Addr} {cdv : Value} {A : Around} {outer : List Env} {s : Shared} {H : Hp} {E : XK} (S : FnScope N ps scope)
    (sc : Scope) (lps : List Str) (L : LamN N lps scope sc) (A' : Around) (outer' : List Env) (s' : Shared) (H' : Hp) (E' : XK) (f' c' : Addr) (hr : Room k (A'.deeper (lamEnv (cxOf (L2.CX prog w) prog w P.kc.K mg base N qual scope f cdv A outer s H E) sc s'.heap.objs.size f' c'))) :
    XB (inP P B0 N.length (plOf N pls)) (lamGa (lawGa N scope fns lfns con lams pls kwo) sc) (lamCx (cxOf (L2.CX prog w) prog w P.kc.K mg base N qual scope f cdv A outer s H E) A' outer' s' H' E' sc f' c') (W0 E') where
  hK := rfl
  hN := rfl
  hsc := rfl
  nd := S.nd
  calm := fun _ => rfl
  fz := fun q hq => by rw [show (inP P B0 N.length (plOf N pls)).fz = P.fz from rfl, pg.nf] at hq; cases hq
  pl := plOf_lt
  pn := rfl
  hpl := rfl
  plfz := fun i _ q hq => by rw [show (inP P B0 N.length (plOf N pls)).fz = P.fz from rfl, pg.nf] at hq; cases hq
  u := by
    have := hr.un
    show (A'.deeper (lamEnv (cxOf (L2.CX prog w) prog w P.kc.K mg base N qual scope f cdv A outer s H E) sc s'.heap.objs.size f' c')).units + 70 < cLine
    omega
  con := pg.hcon
  fns := fun x i hi => by
    obtain ⟨g, fd, qs, k1, k2, k3, k4⟩ := pg.lfns x i hi
    exact ⟨g, k1, k2, fun pins σ H s Q us vs I r h => run_fnS k4 hr k3 (passAt (takes_of rfl rfl rfl rfl) σ) I r (spT_in h)⟩
  fnB := fun z => nomatch z
  blt := pg.blt
  grd := fun z => nomatch z
  ek := .inl rfl
  kw := fun _ _ _ _ h => nomatch h
  exA := fun _ _ h => nomatch h
  exI := fun _ _ h => nomatch h
  thk := fun _ _ h => nomatch h
  gx := fun z => nomatch z
theorem xs_ofG {pls : List Str} {kwo : Str → List Str → Option (List Nat)} (pg : PgL P prog w mg base (k + 1) fns lfns con lams) (kwl : KwL P prog w mg base (k + 1) fns kwo) {N ps : List Str} {qual : Str} {scope : Scope} {f : Addr} {cdv : Value} {A : Around} {outer : List Env} {s : Shared} {H : Hp} {E : XK} (S : FnScope N ps scope) (la : lams = [] ∨ LamAt P mg base qual cdv)
    (hr : Room (k + 3) (A.deeper (envOfC qual scope s.heap.objs.size f cdv))) (hg : A.guards = some []) :
    XS (inP P H N.length (plOf N pls)) (lawGa N scope fns lfns con lams pls kwo) [] (cxOf (L2.CX prog w) prog w P.kc.K mg base N qual scope f cdv A outer s H E) E := by
  have xb : XB (inP P H N.length (plOf N pls)) (lawGa N scope fns lfns con lams pls kwo) (cxOf (L2.CX prog w) prog w P.kc.K mg base N qual scope f cdv A outer s H E) (fun c d _ H => E c d H) := {
    hK := rfl
    hN := rfl
    hsc := rfl
    nd := S.nd
    calm := fun _ => rfl
    fz := fun q hq => by rw [show (inP P H N.length (plOf N pls)).fz = P.fz from rfl, pg.nf] at hq; cases hq
    pl := plOf_lt
    pn := rfl
    hpl := rfl
    plfz := fun i _ q hq => by rw [show (inP P H N.length (plOf N pls)).fz = P.fz from rfl, pg.nf] at hq; cases hq
    u := by
      have := hr.un
      show (A.deeper (envOfC qual scope s.heap.objs.size f cdv)).units + 70 < cLine
      omega
    con := pg.hcon
    fns := fun x i hi => by
      obtain ⟨g, fd, qs, k1, k2, k3, k4⟩ := pg.fns x i hi
      exact ⟨g, k1, k2, fun pins σ H s Q us vs I r h => run_fnG k4 (hr.mono (by omega)) hg k3 (passAt (takes_of rfl rfl rfl rfl) σ) I r (spT_in h)⟩
    fnB := fun _ x i hi => by
      obtain ⟨g, fd, qs, k1, k2, k3, k4⟩ := pg.fns x i hi
      exact ⟨g, k1, k2, fun sc s0 H0 ce fp pins σ H1 s1 Q us vs I r h => run_fnG (X := (cxOf (L2.CX prog w) prog w P.kc.K mg base N qual scope f cdv A outer s H E).blk s0 H0 sc ce fp) (E := fun _ _ _ => False) k4 (hr.mono (by omega)) hg k3 (passAt L2.takes0 σ) I r (spT_in h)⟩
    blt := pg.blt
    grd := fun _ => hg
    ek := .inl rfl
    kw := fun x nms is i hk hi => by
      obtain ⟨g, fd, qs, k1, k2, k3, k4⟩ := kwl.kw x nms is i hk hi
      refine ⟨g, k1, k2, fun pins σ H s Q ws zs vs I r hl hp h => ?_⟩
      obtain ⟨us, hu, b⟩ := k4 s ws I.kIn (r.length.symm.trans hl)
      exact run_fnGk k3 (hr.mono (by omega)) hg b (passAt (takes_of rfl rfl rfl rfl) σ) I (pick_vals r hp hu) (spT_in h)
    exA := fun _ _ h => nomatch h
    exI := fun _ _ h => nomatch h
    thk := fun _ _ h => nomatch h
    gx := fun z => nomatch z }
  have lam : ∀ x tf, lams.lookup x = some tf → ∀ (params : Arguments) (body : Expr) (sc : Scope) (fe : FE) (p lpos pos : Pos), lamOk N scope params sc = true → (∀ (X' : Cx) (W' : WX), XB (inP P H N.length (plOf N pls)) (lamGa (lawGa N scope fns lfns con lams pls kwo) sc) X' W' → PE X' body (tEv (inP P H N.length (plOf N pls)) W' fe)) →
      glob (lawGa N scope fns lfns con lams pls kwo) x = true → PE (cxOf (L2.CX prog w) prog w P.kc.K mg base N qual scope f cdv A outer s H E) (.Call (.Name x p) [.Lambda params body sc lpos] [] pos) (tEv (inP P H N.length (plOf N pls)) (fun c d _ H => E c d H) fun ρ => tf (fe ρ)) := by
    intro x tf hl params body sc fe p lpos pos hok hbd hgx
    rcases la with la | ⟨co, tb, ecd, B, hin, one⟩
    · rw [la] at hl
      cases hl
    · obtain ⟨a, g, n, pgs, bg, sg, dV, kV, doc, pm, cdg, ct, oc, an, od, osl, Ng, sub, ecl, tfs, etf, ec, hm, hk, lk, hcg, hb, Sg, hN, hv, d1, d2, tfn⟩ := (pg.lams x tf hl).ex
      have hco : (cxOf (L2.CX prog w) prog w P.kc.K mg base N qual scope f cdv A outer s H E).env.code = .ref co := ecd
      obtain ⟨qx, eq⟩ : ∃ qx : Str, qx = (cxOf (L2.CX prog w) prog w P.kc.K mg base N qual scope f cdv A outer s H E).env.qual := ⟨_, rfl⟩
      have eq' : qx = qual ++ ".<locals>." := eq
      have hin' : (tb, (cxOf (L2.CX prog w) prog w P.kc.K mg base N qual scope f cdv A outer s H E).env.qual ++ "<lambda>") ∈ P.Tb := by
        rw [← eq, eq']
        exact hin
      have one' : ∀ q ∈ P.Tb, q.1 = tb → q.2 = (cxOf (L2.CX prog w) prog w P.kc.K mg base N qual scope f cdv A outer s H E).env.qual ++ "<lambda>" := by
        rw [← eq, eq']
        exact one
      have key := lam_rule (X := cxOf (L2.CX prog w) prog w P.kc.K mg base N qual scope f cdv A outer s H E) (P := inP P H N.length (plOf N pls)) (Γ := lawGa N scope fns lfns con lams pls kwo) (W := fun c d _ H => E c d H) xb (x := x) (a := a) (g := g) (co := co) (tb := tb) (k := k + 1) (n := n) (pg := pgs) (bg := bg) (sg := sg)
        (Ng := Ng) (sub := sub) (ecl := ecl) (rep := true) ec hm hk lk hcg hb Sg hN hv d1 d2 B hco hin' one' hr (fun _ => hg) (fun sc' lps L A' outer' s' H' E' f' c' r => lx_of pg S sc' lps L A' outer' s' H' E' f' c' r)
        (tfs := tfs) (fun y i hy => by
          obtain ⟨f1, fd1, ps1, m1, m2, m3, m4⟩ := tfn y i hy
          exact ⟨f1, fd1, ps1, m1, m2, m3, ⟨fun vs H Q E h => m4.len _ _ _ _ (spT_in h), fun A o s H args us vs Q E hr hg e0 hb r h => m4.run A o s H args us vs Q E hr hg e0 hb r (spT_in h)⟩⟩) (.inr hg) (params := params) (body := body) (scope := sc) (fe := fe) (p := p) (lpos := lpos) (pos := pos) hok hbd hgx
      rw [etf]
      exact key
  exact {
    x := ⟨xb, lam, fun _ _ h => nomatch h⟩
    fn := fun _ => rfl
    bk := by
      show (if scope.kind.isAnnotationScope then ScopeKind.function else scope.kind) = .function
      rw [S.kind]
      rfl
    tk := fun _ => takes_of rfl rfl rfl rfl
    own := fun _ => passes_of rfl
    try_ := fun z => nomatch z
    rz := fun c fs h => nomatch h }
/-- THE RULE for a law's own def -/
theorem defG_ok {pls : List Str} {kwo : Str → List Str → Option (List Nat)} (pg : PgL P prog w mg base (k + 1) fns lfns con lams) (kwl : KwL P prog w mg base (k + 1) fns kwo) {f : Addr} {name qual : Str} {params : Arguments} {body : List Stmt} {scope : Scope} {dV kV doc pm cdv ct oc : Value} {an od : Option Addr} {osl : Array (Option Value)} {N ps : List Str} {n : Nat} {fs : FS}
    (lk : P.kc.K.lookup f = some ⟨oc, od, .func (PySem.W.fnOf name qual params body scope dV kV doc pm an cdv ct), osl⟩) (hcd : PySem.W.codeIn P.kc.K cdv qual = true) (S : FnScope N ps scope) (la : lams = [] ∨ LamAt P mg base qual cdv)
    (hc : cSs (lawGa N scope fns lfns con lams pls kwo) [] n body = some fs) : FnG prog w P.kc.K mg base (k + 4) f (PySem.W.fnOf name qual params body scope dV kV doc pm an cdv ct) ps (spT P ⟨ps.length, runDef (N.length + (plOf N pls).length) fs⟩) :=
  ⟨fun vs H Q E h => h.1, fun A outer s H args us vs Q E hr hg e0 hb r h =>
    LamX.run_ofS lk hcd S hr e0 hb r h.1 fun hr' => ⟨tS (inP P H N.length (plOf N pls)) E fs, (sndS (xs_ofG pg kwl S la hr' hg) n).B _ _ hc, body_run pg.nf (by rw [h.1]; exact scope_len S) plOf_lt' (by rw [h.1]; exact h)⟩⟩
end
end Pv

-- Pv23
set_option Elab.async false
set_option linter.all false
set_option maxRecDepth 100000
set_option maxHeartbeats 8000000
namespace Pv
open PySem PySem.Spec L2 LamX PyProof.Rows
/-! ## the end of a law: its def called with the script, nothing being printed -/
/-- the script's list and the tables of the code objects, the rest untold -/
def startH (a : Addr) (xs : Option HO) (tbs : List Addr) : Hp := fun b => if b ∈ tbs then some (.tbl #[]) else if b = a then xs else none
section
variable {pr : Program} {w : World} {Kf : PySem.W.Frag} {mg mb : Str → Option Value} {k : Nat} {fa a : Addr} {cs : List (Addr × Addr)} {fd : FuncData} {x : Str} {sp : Sp} {st : Shared} {vs : List Value} {ns : List Int}
theorem lawG_call (inK : Kf.In st.heap) (gl : st.heap.Ns mainGlobals mg) (bl : st.heap.Ns builtinsNs mb) (bb : ∀ x : Str, x ≠ "__name__" → mb x = bootBuiltins x) (nolim : st.heap.NoLimit) (nog : st.gens = #[])
    (tE : ∀ p ∈ cs, st.heap.get? p.2 = some { cls := .none, data := .fields #[] }) (tN : ∀ p ∈ cs, Kf.lookup p.2 = none) (cH : ∀ p ∈ cs, PySem.W.CodeHd st.heap p.1 p.2)
    (bm : ∃ (m : Addr) (ob : Obj), mg "__builtins__" = some (.ref m) ∧ m ≠ builtinsNs ∧ st.heap.get? m = some ob ∧ ob.cls = .type "module" ∧ ob.dict = some builtinsNs ∧ ob.data = .plain)
    (sc : st.heap.get? a = some { cls := .type "list", data := .seq vs.toArray }) (whole : IntsAre vs ns) (short : ns.length ≤ sizeLine) (room : Room k callerA)
    (F : ∀ base : Heap, Kf.In base → base.Ns mainGlobals mg → (∀ p ∈ cs, TabB base mg p.1 p.2) → FnG pr w Kf mg base k fa fd [x] sp) (bind1 : ∀ (s : Shared) (u : Value), BindsTo s fd ⟨[u], []⟩ [(x, u)])
    (wish : ∀ H : Hp, (∀ p ∈ cs, H p.2 = some (.tbl #[])) → (∀ b o, H b = some o → ¬ IsDraw o) → SqL Kf H a (ns.map V.int) → sp [.ref a] H (fun v _ => v = .bl true) fun _ _ _ => False) :
    codeAny (model pr w) callerA (.call (.ref fa) ⟨[.ref a], []⟩) (fun r s' => r = .ok (.ret (.bool true)) ∧ OldK st.heap s'.heap ∧ s'.os = st.os ∧ AllBare s'.gens) st := by
  have same := whole.length
  have tabAt : ∀ b ∈ cs.map (·.2), st.heap.get? b = some { cls := .none, data := .fields #[] } := fun b hb => by
    obtain ⟨p, hp, rfl⟩ := List.mem_map.mp hb
    exact tE p hp
  have aNot : a ∉ cs.map (·.2) := fun hm => by
    have := tabAt a hm
    rw [sc] at this
    exact nomatch (congrArg Obj.data (Option.some.inj this) : Data.seq vs.toArray _ = Data.fields #[])
  have mem : ∀ p ∈ cs, p.2 ∈ cs.map (·.2) := fun p hp => List.mem_map.mpr ⟨p, hp, rfl⟩
  obtain ⟨H, hT, hS, hok, hon⟩ : ∃ H : Hp, (∀ p ∈ cs, H p.2 = some (.tbl #[])) ∧ SqL Kf H a (ns.map V.int) ∧ HOk pr w H st.heap ∧
      ∀ b u, H b = some u → (b ∈ cs.map (·.2) ∧ u = .tbl #[]) ∨ (b = a ∧ Kf.lookup a = none ∧ u = .frz { cls := .type "list", data := .seq vs.toArray } (.lst (ns.map V.int))) := by
    cases hk : Kf.lookup a with
    | some o =>
      have eo := inK a o hk
      rw [sc] at eo
      cases eo
      refine ⟨fun b => if b ∈ cs.map (·.2) then some (.tbl #[]) else none, fun p hp => if_pos (mem p hp), .inr ⟨_, vs.toArray, _, hk, rfl, rfl, rfl, by rw [List.size_toArray, same]; exact short, by simpa using vals_ints whole⟩, fun b u e => ?_, fun b u e => ?_⟩
      · by_cases hb : b ∈ cs.map (·.2)
        · cases (if_pos hb).symm.trans e
          exact tabAt b hb
        · cases (if_neg hb).symm.trans e
      · by_cases hb : b ∈ cs.map (·.2)
        · cases (if_pos hb).symm.trans e
          exact .inl ⟨hb, rfl⟩
        · cases (if_neg hb).symm.trans e
    | none =>
      refine ⟨fun b => if b ∈ cs.map (·.2) then some (.tbl #[]) else if b = a then some (.frz { cls := .type "list", data := .seq vs.toArray } (.lst (ns.map V.int))) else none, fun p hp => if_pos (mem p hp), .inl (.inr ⟨{ cls := .type "list", data := .seq vs.toArray }, (if_neg aNot).trans (if_pos rfl)⟩), fun b u e => ?_, fun b u e => ?_⟩
      · by_cases hb : b ∈ cs.map (·.2)
        · cases (if_pos hb).symm.trans e
          exact tabAt b hb
        · have e2 := (if_neg hb).symm.trans e
          by_cases ha : b = a
          · subst ha
            cases (if_pos rfl).symm.trans e2
            exact ⟨sc, by rw [List.length_map]; exact short, vs, _, vals_ints whole, sc⟩
          · cases (if_neg ha).symm.trans e2
      · by_cases hb : b ∈ cs.map (·.2)
        · cases (if_pos hb).symm.trans e
          exact .inl ⟨hb, rfl⟩
        · have e2 := (if_neg hb).symm.trans e
          by_cases ha : b = a
          · subst ha
            cases (if_pos rfl).symm.trans e2
            exact .inr ⟨rfl, rfl, rfl⟩
          · cases (if_neg ha).symm.trans e2
  -- what is neither a table nor the script is not told of
  have away : ∀ {b : Addr} {o : Obj}, st.heap.get? b = some o → (∀ it n, o.data ≠ .seq it n) → o.data ≠ .fields #[] → H b = none := fun {b o} e n1 n2 => by
    cases hb : H b with
    | none => rfl
    | some u =>
      rcases hon b u hb with ⟨hm, _⟩ | ⟨rfl, _, _⟩
      · have e2 := tabAt b hm
        rw [e] at e2
        cases e2
        exact absurd rfl n2
      · rw [sc] at e
        cases e
        exact absurd rfl (n1 _ _)
  have low : ∀ {b : Addr} {o : Obj}, st.heap.get? b = some o → (∀ it n, o.data ≠ .seq it n) → o.data ≠ .fields #[] → (hidT st.heap H).get? b = some o := fun e n1 n2 => hidT_get e (away e n1 n2)
  have lowNs : ∀ {b : Addr} {m : Str → Option Value}, st.heap.Ns b m → (hidT st.heap H).Ns b m := fun {b m} h => by
    obtain ⟨o, es, ep, e, hd, r⟩ := h
    exact ⟨o, es, ep, low e (fun it n z => by rw [hd] at z; cases z) (fun z => by rw [hd] at z; cases z), hd, r⟩
  have lowK : Kf.In (hidT st.heap H) := fun b o e => hidT_get (inK b o e) (by
    cases hb : H b with
    | none => rfl
    | some u =>
      rcases hon b u hb with ⟨hm, _⟩ | ⟨rfl, hn, _⟩
      · obtain ⟨p, hp, rfl⟩ := List.mem_map.mp hm
        rw [tN p hp] at e
        cases e
      · rw [hn] at e
        cases e)
  have md : L2.Mod Kf mg (hidT st.heap H) := ⟨lowK, lowNs gl, ⟨mb, lowNs bl, bb⟩, by
    obtain ⟨mc, h1, h2⟩ := nolim
    exact ⟨mc, lowNs h1, h2⟩⟩
  have tb : ∀ p ∈ cs, TabB (hidT st.heap H) mg p.1 p.2 := fun p hp => by
    refine ⟨?_, ?_, fun z => ?_⟩
    · obtain ⟨o, us, file, tf, flags, tg, inF, text, tt, e1, r1, r2, r3, rest⟩ := cH p hp
      refine ⟨o, us, file, tf, flags, tg, inF, text, tt, low e1 (fun it n z => by rw [r2] at z; cases z) (fun z => ?_), r1, r2, r3, rest⟩
      rw [r2] at z
      cases z
      simp at r3
    · obtain ⟨m, ob, b1, b2, b3, b4, b5, b6⟩ := bm
      refine ⟨m, ob, b1, b2, fun q => ?_, fun q => ?_, low b3 (fun it n z => by rw [b6] at z; cases z) (fun z => by rw [b6] at z; cases z), b4, b5, b6⟩
      · obtain ⟨o, es, ep, e, hd, _⟩ := gl
        rw [← q, b3] at e
        cases e
        rw [b6] at hd
        cases hd
      · rw [q, tE p hp] at b3
        cases b3
        cases b6
    · obtain ⟨o, es, ep, e, hd, _⟩ := gl
      rw [z, tE p hp] at e
      cases e
      cases hd
  have e0 : Env0 pr w Kf mg (hidT st.heap H) callerA [] st H := ⟨rfl, md, fun b o e => of_hidT e, Nat.le_of_eq (hidT_size _ _), trivial, (fun b hb => nomatch (show b ∈ ([] : List Addr) from hb)), hok, .of_eq nog⟩
  refine codeAny_mono ((F _ lowK (lowNs gl) tb).run callerA [] st H ⟨[.ref a], []⟩ [.ref a] [.ref a] _ _ room rfl e0 (bind1 st (.ref a)) (.cons rfl .nil) (wish H hT (fun b o e => ?_) hS)) fun r s' out => ?_
  · rcases hon b o e with ⟨_, rfl⟩ | ⟨_, _, rfl⟩
    · exact fun ⟨_, _, _, z⟩ => nomatch z
    · exact fun ⟨_, _, _, z⟩ => nomatch z
  match r, out with
  | .ok .next, out => exact out.elim
  | .ok .brk, out => exact out.elim
  | .ok .cont, out => exact out.elim
  | .error e, out =>
    obtain ⟨_, _, _, _, _, _, _, _, _, _, _, _, z⟩ := (show L2.CX pr w [] H st (fun _ _ _ => False) e s' from out)
    exact z.elim
  | .ok (.ret u), out =>
    obtain ⟨v, H', os, bare, un, hok', rv, rfl⟩ := out
    obtain rfl : u = Value.bool true := rv
    have keep : ∀ b o, b ∉ cs.map (·.2) → st.heap.get? b = some o → s'.heap.get? b = some o := fun b o nb e => by
      cases hb : H b with
      | none => exact un.keep b o e hb (fun z => nomatch (show b ∈ ([] : List Addr) from z)) (by simp)
      | some u =>
        rcases hon b u hb with ⟨hm, _⟩ | ⟨rfl, _, rfl⟩
        · exact absurd hm nb
        · obtain ⟨e1, _⟩ := hok b _ hb
          obtain ⟨e2, _⟩ := hok' b _ (un.frzs b _ _ hb)
          rw [e] at e1
          cases e1
          exact e2
    have more : ∀ p ∈ cs, ∃ add : Array Value, s'.heap.get? p.2 = some { cls := .none, data := .fields add } := fun p hp => by
      obtain ⟨add, z⟩ := un.tbls p.2 #[] (hT p hp)
      exact ⟨_, hok' p.2 _ z⟩
    refine ⟨rfl, ⟨fun b o e => ?_, fun b o e => ?_⟩, os, bare⟩
    · by_cases hb : b ∈ cs.map (·.2)
      · obtain ⟨p, hp, rfl⟩ := List.mem_map.mp hb
        obtain ⟨add, hm⟩ := more p hp
        rw [tE p hp] at e
        cases e
        exact .inr (.inl ⟨((cH p hp).tab (tE p hp)).isCodeTable, rfl, #[], add, rfl, by rw [Array.empty_append]; exact hm⟩)
      · exact .inl (keep b o hb e)
    · by_cases hb : b ∈ cs.map (·.2)
      · obtain ⟨p, hp, rfl⟩ := List.mem_map.mp hb
        obtain ⟨add, hm⟩ := more p hp
        exact ⟨_, hm⟩
      · exact ⟨o, keep b o hb e⟩
end
/-- what must be known of the law's def at the head's heap -/
def LawG (l : PySem.W.OpenLaw) (w : World) (Kf : PySem.W.Frag) (k n : Nat) (x : Str) (mg : Str → Option Value) (fa : Addr) (h : Heap) : Prop :=
  ∃ (fd : FuncData) (cs : List (Addr × Addr)) (sp : Sp),
    (∀ p ∈ cs, h.get? p.2 = some { cls := .none, data := .fields #[] } ∧ Kf.lookup p.2 = none ∧ PySem.W.CodeHd h p.1 p.2) ∧
    (∀ (s : Shared) (u : Value), BindsTo s fd ⟨[u], []⟩ [(x, u)]) ∧
    (∀ (H : Hp) (a : Addr) (ns : List Int), ns.length ≤ n → (∀ z ∈ ns, Builtin.Int.intBits z ≤ 1048576) → (∀ p ∈ cs, H p.2 = some (.tbl #[])) → (∀ b o, H b = some o → ¬ IsDraw o) → SqL Kf H a (ns.map V.int) → sp [.ref a] H (fun v _ => v = .bl true) fun _ _ _ => False) ∧
    ∀ base : Heap, Kf.In base → base.Ns mainGlobals mg → (∀ p ∈ cs, TabB base mg p.1 p.2) → FnG l.prog w Kf mg base k fa fd [x] sp
theorem walk_G {l : PySem.W.OpenLaw} {n k : Nat} {q : Program} {loose : List Str} {XP : (Str → Option Value) → Heap → Prop} {YP : World → Heap → Prop} {d : DefRec} {Kp : Params → PySem.W.Frag} {x : Str} (most : l.most = some n) (small : n ≤ sizeLine) (nodef : d.params.defaults = []) (room : Room k callerA)
    (inK : ∀ (w : World) (h : Heap), YP w h → (Kp w.params).In h)
    (F : ∀ (w : World) (mg : Str → Option Value) (fa : Addr) (h : Heap), YP w h → (Kp w.params).In h → h.Ns mainGlobals mg → mg d.name = some (.ref fa) → LawG l w (Kp w.params) k n x mg fa h) :
    PySem.W.WalkO q loose XP YP l.row.toRowW d [] (fun f vs => PySem.call f vs) :=
  Att.attach_callB most nodef fun w s0 s1 mg mb fa o pm cd doc a vs ns G Y ho hd hcd hmg hobj whole len bits nog => by
    have h1 := inK w _ Y
    obtain ⟨fd, cs, sp, k1, k2, k3, k4⟩ := F w mg fa _ Y h1 G.T.g hmg
    exact lawG_call h1 G.T.g G.T.b G.T.builtins G.T.nolimit nog (fun p hp => (k1 p hp).1) (fun p hp => (k1 p hp).2.1) (fun p hp => (k1 p hp).2.2) G.T.bmain hobj whole (Nat.le_trans len small) room k4 k2 fun H e1 e2 e3 => k3 H a ns len bits e1 e2 e3
end Pv

-- Pv24
set_option Elab.async false
set_option linter.all false
set_option maxRecDepth 100000
set_option maxHeartbeats 8000000
namespace Pv
open PySem PySem.Spec L2
open PyProof.Rows (envOfC)
/-! ## a def's reading, straight from its text -/
def runC (Γ : Ga) (errs : List (Str × List Str)) (n : Nat) (body : List Stmt) (ds : List PyData) : T PyData := match cSs Γ errs n body with
  | some fs => runDef Γ.N.length fs ds
  | none => .stuck
section
variable {P : Pa} {prog : Program} {w : World} {mg : Str → Option Value} {base : Heap} {k : Nat} {fns lfns : List (Str × FnI)} {con : List (Str × PyData)} {errs : List (Str × List Str)} {lams : List (Str × (T PyData → T PyData))}
theorem spT_stuck {m : FnD} {n : Nat} {vs : List V} {H : Hp} {Q : VK} {E : XK} (hm : ∀ ds, m ds = .stuck) (h : spT P ⟨n, m⟩ vs H Q E) : False := by
  obtain ⟨_, ds, b, _, _, q⟩ := h
  have q' : T.wp (m ds) b (KQ P H Q) (KW P H E) := q
  rw [hm ds] at q'
  exact q'
theorem def_run (pg : Pg P prog w mg base k fns con errs) (nd : (errs.map (·.1)).Nodup) (h2 : 2 ≤ k) {x qual : Str} {st : Stmt} {f : Addr} {fd : FuncData} {N ps : List Str} {n : Nat} (F : Fun P.kc.K x qual st f fd) (S : FnScope N ps (defScope st)) :
    FnOk prog w P.kc.K mg base (L2.CX prog w) (k + 1) f fd ps (spT P ⟨ps.length, runC (Ga.mk0 N (defScope st) fns con false) (errsOf (defScope st) errs) n (defBody st)⟩) := by
  cases hc : cSs (Ga.mk0 N (defScope st) fns con false) (errsOf (defScope st) errs) n (defBody st) with
  | none =>
    have hm : ∀ ds, runC (Ga.mk0 N (defScope st) fns con false) (errsOf (defScope st) errs) n (defBody st) ds = .stuck := fun ds => by
      unfold runC
      rw [hc]
    exact F.okX S (fun vs H Q E h => h.1) fun cdv A outer s H vs Q E hr h => (spT_stuck hm h).elim
  | some fs =>
    have hm : runC (Ga.mk0 N (defScope st) fns con false) (errsOf (defScope st) errs) n (defBody st) = runDef N.length fs := by
      funext ds
      unfold runC
      rw [hc]
    rw [hm]
    exact def_ok pg nd h2 F S hc
theorem defG_run (pg : PgL P prog w mg base (k + 1) fns lfns con lams) {f : Addr} {name qual : Str} {params : Arguments} {body : List Stmt} {scope : Scope} {dV kV doc pm cdv ct oc : Value} {an od : Option Addr} {osl : Array (Option Value)} {N ps : List Str} {n : Nat}
    (lk : P.kc.K.lookup f = some ⟨oc, od, .func (PySem.W.fnOf name qual params body scope dV kV doc pm an cdv ct), osl⟩) (hcd : PySem.W.codeIn P.kc.K cdv qual = true) (S : FnScope N ps scope) (la : lams = [] ∨ LamAt P mg base qual cdv) :
    FnG prog w P.kc.K mg base (k + 4) f (PySem.W.fnOf name qual params body scope dV kV doc pm an cdv ct) ps (spT P ⟨ps.length, runC (lawGa N scope fns lfns con lams) [] n body⟩) := by
  cases hc : cSs (lawGa N scope fns lfns con lams) [] n body with
  | none =>
    have hm : ∀ ds, runC (lawGa N scope fns lfns con lams) [] n body ds = .stuck := fun ds => by
      unfold runC
      rw [hc]
    exact ⟨fun vs H Q E h => h.1, fun A outer s H args us vs Q E hr hg e0 hb r h => (spT_stuck hm h).elim⟩
  | some fs =>
    have hm : runC (lawGa N scope fns lfns con lams) [] n body = runDef N.length fs := by
      funext ds
      unfold runC
      rw [hc]
    rw [hm]
    exact defG_ok pg KwL.none lk hcd S la hc
/-- the names of a def that have slots: its parameters come first in its scope -/
def locN (sc : Scope) : List Str := (sc.names.filter fun p => decide (p.2 = .local) || decide (p.2 = .cell)).map (·.1)
end
end Pv

-- Pv25
set_option Elab.async false
set_option linter.all false
set_option maxRecDepth 100000
set_option maxHeartbeats 8000000
namespace Pv
open PySem L2
/-! ## running a reading -/
theorem isi_int_none  : isiD (tyName "int") .none = .ret (.bool false) := by rfl
theorem isi_int_bool (x : Bool) : isiD (tyName "int") (.bool x) = .ret (.bool true) := by rfl
theorem isi_int_int (x : Int) : isiD (tyName "int") (.int x) = .ret (.bool true) := by rfl
theorem isi_int_str (x : Str) : isiD (tyName "int") (.str x) = .ret (.bool false) := by rfl
theorem isi_int_list (x : List PyData) : isiD (tyName "int") (.list x) = .ret (.bool false) := by rfl
theorem isi_int_tuple (x : List PyData) : isiD (tyName "int") (.tuple x) = .ret (.bool false) := by rfl
theorem isi_int_dict : isiD (tyName "int") (.dict []) = .ret (.bool false) := by rfl
theorem isi_str_none  : isiD (tyName "str") .none = .ret (.bool false) := by rfl
theorem isi_str_bool (x : Bool) : isiD (tyName "str") (.bool x) = .ret (.bool false) := by rfl
theorem isi_str_int (x : Int) : isiD (tyName "str") (.int x) = .ret (.bool false) := by rfl
theorem isi_str_str (x : Str) : isiD (tyName "str") (.str x) = .ret (.bool true) := by rfl
theorem isi_str_list (x : List PyData) : isiD (tyName "str") (.list x) = .ret (.bool false) := by rfl
theorem isi_str_tuple (x : List PyData) : isiD (tyName "str") (.tuple x) = .ret (.bool false) := by rfl
theorem isi_str_dict : isiD (tyName "str") (.dict []) = .ret (.bool false) := by rfl
theorem isi_bool_none  : isiD (tyName "bool") .none = .ret (.bool false) := by rfl
theorem isi_bool_bool (x : Bool) : isiD (tyName "bool") (.bool x) = .ret (.bool true) := by rfl
theorem isi_bool_int (x : Int) : isiD (tyName "bool") (.int x) = .ret (.bool false) := by rfl
theorem isi_bool_str (x : Str) : isiD (tyName "bool") (.str x) = .ret (.bool false) := by rfl
theorem isi_bool_list (x : List PyData) : isiD (tyName "bool") (.list x) = .ret (.bool false) := by rfl
theorem isi_bool_tuple (x : List PyData) : isiD (tyName "bool") (.tuple x) = .ret (.bool false) := by rfl
theorem isi_bool_dict : isiD (tyName "bool") (.dict []) = .ret (.bool false) := by rfl
theorem isi_tuple_none  : isiD (tyName "tuple") .none = .ret (.bool false) := by rfl
theorem isi_tuple_bool (x : Bool) : isiD (tyName "tuple") (.bool x) = .ret (.bool false) := by rfl
theorem isi_tuple_int (x : Int) : isiD (tyName "tuple") (.int x) = .ret (.bool false) := by rfl
theorem isi_tuple_str (x : Str) : isiD (tyName "tuple") (.str x) = .ret (.bool false) := by rfl
theorem isi_tuple_list (x : List PyData) : isiD (tyName "tuple") (.list x) = .ret (.bool false) := by rfl
theorem isi_tuple_tuple (x : List PyData) : isiD (tyName "tuple") (.tuple x) = .ret (.bool true) := by rfl
theorem isi_tuple_dict : isiD (tyName "tuple") (.dict []) = .ret (.bool false) := by rfl
theorem isi_list_none  : isiD (tyName "list") .none = .ret (.bool false) := by rfl
theorem isi_list_bool (x : Bool) : isiD (tyName "list") (.bool x) = .ret (.bool false) := by rfl
theorem isi_list_int (x : Int) : isiD (tyName "list") (.int x) = .ret (.bool false) := by rfl
theorem isi_list_str (x : Str) : isiD (tyName "list") (.str x) = .ret (.bool false) := by rfl
theorem isi_list_list (x : List PyData) : isiD (tyName "list") (.list x) = .ret (.bool true) := by rfl
theorem isi_list_tuple (x : List PyData) : isiD (tyName "list") (.tuple x) = .ret (.bool false) := by rfl
theorem isi_list_dict : isiD (tyName "list") (.dict []) = .ret (.bool false) := by rfl
theorem isi_dict_none  : isiD (tyName "dict") .none = .ret (.bool false) := by rfl
theorem isi_dict_bool (x : Bool) : isiD (tyName "dict") (.bool x) = .ret (.bool false) := by rfl
theorem isi_dict_int (x : Int) : isiD (tyName "dict") (.int x) = .ret (.bool false) := by rfl
theorem isi_dict_str (x : Str) : isiD (tyName "dict") (.str x) = .ret (.bool false) := by rfl
theorem isi_dict_list (x : List PyData) : isiD (tyName "dict") (.list x) = .ret (.bool false) := by rfl
theorem isi_dict_tuple (x : List PyData) : isiD (tyName "dict") (.tuple x) = .ret (.bool false) := by rfl
theorem isi_dict_dict : isiD (tyName "dict") (.dict []) = .ret (.bool true) := by rfl
theorem bind_ite {α β : Type} {c : Prop} [Decidable c] {a b : T α} {f : α → T β} : T.bind (if c then a else b) f = if c then T.bind a f else T.bind b f := by split <;> rfl
theorem noRaise_ite {α : Type} {c : Prop} [Decidable c] {a b : T α} : noRaise (if c then a else b) = if c then noRaise a else noRaise b := by split <;> rfl
theorem getV_at {ρ : En} {i : Nat} {d : PyData} (h : ρ[i]? = some (some d)) : getV ρ i = .ret d := by
  unfold getV
  rw [h]
  rfl
theorem seqT_nx {ρ : En} {g : En → T Out} : seqT (.nx ρ) g = g ρ := rfl
theorem seqT_rt {d : PyData} {g : En → T Out} : seqT (.rt d) g = .ret (.rt d) := rfl
theorem asB_bool {b : Bool} : asB (.bool b) = .ret b := rfl
theorem asI_int {i : Int} : asI (.int i) = .ret i := rfl
theorem asS_str {s : Str} : asS (.str s) = .ret s := rfl
theorem outD_rt {d : PyData} : outD (.rt d) = .ret d := rfl
theorem outD_nx {ρ : En} : outD (.nx ρ) = .ret .none := rfl
theorem opC_lt {i j : Int} : opC .Lt (.int i) (.int j) = .ret (.bool (decide (i < j))) := rfl
theorem opC_le {i j : Int} : opC .LtE (.int i) (.int j) = .ret (.bool (decide (i ≤ j))) := rfl
theorem opC_gt {i j : Int} : opC .Gt (.int i) (.int j) = .ret (.bool (decide (j < i))) := rfl
theorem opC_ge {i j : Int} : opC .GtE (.int i) (.int j) = .ret (.bool (decide (j ≤ i))) := rfl
theorem opC_isNo {d : PyData} : opC .Is d .none = .ret (.bool (isNo d)) := by cases d <;> rfl
theorem opC_isntNo {d : PyData} : opC .IsNot d .none = .ret (.bool (!isNo d)) := by cases d <;> rfl
theorem opC_eqI {i j : Int} : opC .Eq (.int i) (.int j) = .ret (.bool (PyData.eqv (.int i) (.int j))) := rfl
end Pv

-- Pv26
set_option Elab.async false
set_option linter.all false
set_option linter.unusedSimpArgs false
set_option maxRecDepth 100000
set_option maxHeartbeats 8000000
namespace Pv
open PySem
/-! ## values that laws often ask for -/
theorem eqvI (i j : Int) : PyData.eqv (.int i) (.int j) = decide (i = j) := by
  show (i == j) = _
  by_cases h : i = j <;> simp [h]
abbrev caps : Str := "ABCDEFGHIJKLMNOPQRSTUVWXYZ"
theorem caps_len : caps.length = 26 := by decide +kernel
theorem caps_get : ∀ n, n < 26 → caps.cps.toList[n]? = some (65 + n) := by decide +kernel
theorem caps_size : caps.cps.toList.length = 26 := by decide +kernel
theorem caps_at {i : Int} (h0 : 0 ≤ i) (h1 : i < 26) : Pv.opI (.str caps) (.int i) = .ret (.str ⟨#[65 + i.toNat]⟩) := by
  have hl : caps.length ≤ big := by rw [caps_len]; decide
  have e : Pv.opI.atI' caps.cps.toList i = some (65 + i.toNat) := by
    unfold Pv.opI.atI' L2.ixN
    rw [caps_size, if_pos h0, if_pos (by omega)]
    exact caps_get _ (by omega)
  show (if caps.length ≤ big then T.ofO ((Pv.opI.atI' caps.cps.toList i).map fun c => PyData.str ⟨#[c]⟩) else .stuck) = _
  rw [if_pos hl, e]
  rfl
theorem len_caps : f_len [.str caps] = .ret (.int 26) := by
  show (if caps.length ≤ big then T.ret (PyData.int caps.length) else .stuck) = _
  rw [if_pos (by rw [caps_len]; decide), caps_len]
  rfl
theorem opB_sub {i j : Int} : opB .Sub (.int i) (.int j) = .ret (.int (i - j)) := by rfl
theorem opB_add {i j : Int} : opB .Add (.int i) (.int j) = .ret (.int (i + j)) := by rfl
theorem divmod_26 {i : Int} : f_divmod [.int i, .int 26] = .ret (.tuple [.int (i / 26), .int (i % 26)]) := by
  show (if (0 : Int) < 26 ∧ (26 : Int) < 1073741824 then T.ret (PyData.tuple [.int (i / 26), .int (i % 26)]) else .stuck) = _
  rw [if_pos (by decide)]
/-- a text of these code points -/
theorem cat_one {a b : Nat} : opB .Add (.str ⟨#[a]⟩) (.str ⟨#[b]⟩) = .ret (.str ⟨#[a, b]⟩) := by rfl
theorem opI_0 {d : PyData} {ds : List PyData} : Pv.opI (.tuple (d :: ds)) (.int 0) = .ret d := by
  show T.ofO (Pv.opI.atI' (d :: ds) 0) = _
  simp [Pv.opI.atI', L2.ixN, T.ofO]
end Pv

-- Pq8
set_option Elab.async false
set_option linter.all false
set_option maxRecDepth 100000
set_option maxHeartbeats 8000000
namespace Pv
open PySem PySem.Spec L2
open PyProof.Rows (envOfC)
/-! ## a def of the program with generator expressions -/
/-- where the generator expressions of a def are written down -/
def GxAt (P : Pa) (mg : Str → Option Value) (base : Heap) (qual : Str) (cdv : Value) : Prop :=
  ∃ co tb, cdv = .ref co ∧ LamX.TabB base mg co tb ∧ (tb, qual ++ ".<locals>." ++ "<genexpr>") ∈ P.Tb ∧ ∀ q ∈ P.Tb, q.1 = tb → q.2 = qual ++ ".<locals>." ++ "<genexpr>"
section
variable {P : Pa} {prog : Program} {w : World} {mg : Str → Option Value} {base : Heap} {k : Nat} {fns : List (Str × FnI)} {con : List (Str × PyData)} {errs : List (Str × List Str)}
theorem xs_ofX {pls : List Str} (pg : Pg P prog w mg base k fns con errs) (nd : (errs.map (·.1)).Nodup) {N ps : List Str} {qual : Str} {scope : Scope} {f : Addr} {cdv : Value} {A : Around} {outer : List Env} {s : Shared} {H : Hp} {E : XK} (S : FnScope N ps scope) (h2 : 2 ≤ k) (hr : Room (k + 3) (A.deeper (envOfC qual scope s.heap.objs.size f cdv)))
    (gx : GxAt P mg base qual cdv) :
    XS (inP P H N.length (plOf N pls)) (Ga.mkP N scope fns con false pls true) (errsOf scope errs) (cxOf (L2.CX prog w) prog w P.kc.K mg base N qual scope f cdv A outer s H E) E := by
  obtain ⟨co, tb, ecd, B, hin, one⟩ := gx
  have hco : (cxOf (L2.CX prog w) prog w P.kc.K mg base N qual scope f cdv A outer s H E).env.code = .ref co := ecd
  obtain ⟨qx, eq⟩ : ∃ qx : Str, qx = (cxOf (L2.CX prog w) prog w P.kc.K mg base N qual scope f cdv A outer s H E).env.qual := ⟨_, rfl⟩
  have eq' : qx = qual ++ ".<locals>." := eq
  have hin' : (tb, (cxOf (L2.CX prog w) prog w P.kc.K mg base N qual scope f cdv A outer s H E).env.qual ++ "<genexpr>") ∈ P.Tb := by
    rw [← eq, eq']
    exact hin
  have one' : ∀ q ∈ P.Tb, q.1 = tb → q.2 = (cxOf (L2.CX prog w) prog w P.kc.K mg base N qual scope f cdv A outer s H E).env.qual ++ "<genexpr>" := by
    rw [← eq, eq']
    exact one
  have hr0 : Room k (A.deeper (envOfC qual scope s.heap.objs.size f cdv)) := hr.mono (by omega)
  exact {
  x := {
    hK := rfl
    hN := rfl
    hsc := rfl
    nd := S.nd
    calm := fun _ => rfl
    fz := fun q hq => by rw [show (inP P H N.length (plOf N pls)).fz = P.fz from rfl, pg.nf] at hq; cases hq
    pl := plOf_lt
    pn := rfl
    hpl := rfl
    plfz := fun i _ q hq => by rw [show (inP P H N.length (plOf N pls)).fz = P.fz from rfl, pg.nf] at hq; cases hq
    ek := .inl rfl
    kw := fun _ _ _ _ h => nomatch h
    exA := fun y er h => nomatch h
    exI := fun y er h => nomatch h
    thk := fun a th h => nomatch h
    lam := fun x tf h => nomatch h
    tak := fun x tf h => nomatch h
    gx := fun _ => ⟨co, tb, B, hco, hin', one', hr.hd, hr.depth, by
      have := hr.un
      show (A.deeper (envOfC qual scope s.heap.objs.size f cdv)).units + 80 < cLine
      omega, fun x i hi => by
      obtain ⟨g, fd, qs, k1, k2, k3, k4⟩ := pg.fns x i hi
      exact ⟨g, k1, k2, fun sc code s0 H0 ex pins σ H1 s1 Q us vs I r h => run_fnS (X := gnCx (cxOf (L2.CX prog w) prog w P.kc.K mg base N qual scope f cdv A outer s H E) sc code s0 H0 ex) (E := fun _ _ _ _ => False) k4 ((hr.in1.in1).deeper _) k3 (passAt L2.takes0 σ) I r (spT_in h)⟩⟩
    u := by
      have := hr.un
      show (A.deeper (envOfC qual scope s.heap.objs.size f cdv)).units + 70 < cLine
      omega
    con := pg.con
    fns := fun x i hi => by
      obtain ⟨g, fd, qs, k1, k2, k3, k4⟩ := pg.fns x i hi
      exact ⟨g, k1, k2, fun pins σ H s Q us vs I r h => run_fnS k4 hr0 k3 (passAt (takes_of rfl rfl rfl rfl) σ) I r (spT_in h)⟩
    fnB := fun _ x i hi => by
      obtain ⟨g, fd, qs, k1, k2, k3, k4⟩ := pg.fns x i hi
      exact ⟨g, k1, k2, fun sc s0 H0 ce fp pins σ H1 s1 Q us vs I r h => run_fnS (X := (cxOf (L2.CX prog w) prog w P.kc.K mg base N qual scope f cdv A outer s H E).blk s0 H0 sc ce fp) (E := fun _ _ _ _ => False) k4 hr0 k3 (passAt L2.takes0 σ) I r (spT_in h)⟩
    blt := pg.blt
    grd := fun z => Bool.noConfusion z }
  fn := fun _ => rfl
  bk := by
    show (if scope.kind.isAnnotationScope then ScopeKind.function else scope.kind) = .function
    rw [S.kind]
    rfl
  tk := fun _ => takes_of rfl rfl rfl rfl
  own := fun _ => passes_of rfl
  try_ := fun z => nomatch z
  rz := fun c fs h => by
    obtain ⟨h1, h3⟩ := errsOf_ok nd h
    obtain ⟨g, C, rfl, k1, k2⟩ := pg.errs c fs h1
    exact ⟨C, k1, fun e es p pos fa h0 hs ha => mk_err (show Gl (cxOf (L2.CX prog w) prog w P.kc.K mg base N qual scope f cdv A outer s H E) c from h3) (hr0.mono h2) k2 h0 hs ha⟩ }
/-- THE RULE for such a def -/
theorem def_okX {pls : List Str} (pg : Pg P prog w mg base k fns con errs) (nd : (errs.map (·.1)).Nodup) (h2 : 2 ≤ k) {name qual : Str} {params : Arguments} {body : List Stmt} {scope : Scope} {f : Addr} {dV kV doc pm cdv ct oc : Value} {an od : Option Addr} {osl : Array (Option Value)} {N ps : List Str} {n : Nat} {fs : FS}
    (lk : P.kc.K.lookup f = some ⟨oc, od, .func (PySem.W.fnOf name qual params body scope dV kV doc pm an cdv ct), osl⟩) (hcd : PySem.W.codeIn P.kc.K cdv qual = true) (S : FnScope N ps scope) (gx : GxAt P mg base qual cdv)
    (hc : cSs (Ga.mkP N scope fns con false pls true) (errsOf scope errs) n body = some fs) : FnOk prog w P.kc.K mg base (L2.CX prog w) (k + 4) f (PySem.W.fnOf name qual params body scope dV kV doc pm an cdv ct) ps (spT P ⟨ps.length, runDef (N.length + (plOf N pls).length) fs⟩) :=
  fn_of (k := k + 3) lk hcd S (fun vs H Q E h => h.1) fun A outer s H vs Q E hr h =>
    ⟨tS (inP P H N.length (plOf N pls)) E fs, (sndS (xs_ofX pg nd S h2 hr gx) n).B _ _ hc, body_run pg.nf (by rw [h.1]; exact scope_len S) plOf_lt' (by rw [h.1]; exact h)⟩
end
end Pv

-- Pv27
set_option Elab.async false
set_option linter.all false
set_option maxRecDepth 100000
set_option maxHeartbeats 8000000
namespace Pv
open PySem PySem.Spec L2
open PyProof.Rows (envOfC)
/-! ## the facts that a program's top leaves, put together -/
/-- a def of the top: where it stands, its code object -/
structure DefA (K : PySem.W.Frag) (x : Str) (st : Stmt) (f : Addr) (cdv : Value) : Prop where
  a : PySem.W.nsIn K mainGlobals x = some (some (.ref f))
  l : ∃ (oc : Value) (od an : Option Addr) (kV doc pm ct : Value) (osl : Array (Option Value)), K.lookup f = some ⟨oc, od, .func (PySem.W.fnOf x x (defArgs st) (defBody st) (defScope st) .none kV doc pm an cdv ct), osl⟩
  c : PySem.W.codeIn K cdv x = true
  k : PySem.W.keepIn K (.ref f) = true
/-- the def's parameters are bound by their places -/
def Plain (x : Str) (st : Stmt) (ps : List Str) : Prop := ∀ (kV doc pm : Value) (an : Option Addr) (cdv ct : Value) (us : List Value), us.length = ps.length → bindArgs (PySem.W.fnOf x x (defArgs st) (defBody st) (defScope st) .none kV doc pm an cdv ct) ⟨us, []⟩ = pure (ps.zip us)
section
variable {P : Pa} {K : PySem.W.Frag} {prog : Program} {w : World} {mg : Str → Option Value} {base h : Heap} {k : Nat} {fns lfns : List (Str × FnI)} {con : List (Str × PyData)} {errs : List (Str × List Str)} {lams : List (Str × (T PyData → T PyData))}
theorem DefA.fn {x : Str} {st : Stmt} {f : Addr} {cdv : Value} (d : DefA K x st f cdv) : ∃ fd, Fun K x x st f fd := by
  obtain ⟨oc, od, an, kV, doc, pm, ct, osl, l⟩ := d.l
  exact ⟨_, fun_mk l d.c d.k⟩
theorem FnG.mono {f : Addr} {fd : FuncData} {ps : List Str} {sp : Sp} {j k : Nat} (F : FnG prog w K mg base j f fd ps sp) (h : j ≤ k) : FnG prog w K mg base k f fd ps sp := ⟨F.len, fun A outer s H args us vs Q E hr => F.run A outer s H args us vs Q E (hr.mono h)⟩
theorem Pg.mono (pg : Pg P prog w mg base k fns con errs) {j : Nat} (h : k ≤ j) : Pg P prog w mg base j fns con errs := ⟨pg.nf, pg.con, fun x i hi => by
  obtain ⟨f, fd, ps, h1, h2, h3, h4⟩ := pg.fns x i hi
  exact ⟨f, fd, ps, h1, h2, h3, h4.mono h⟩, pg.blt, pg.errs⟩
theorem Pg.add (pg : Pg P prog w mg base k fns con errs) {x : Str} {i : FnI} {f : Addr} {fd : FuncData} {ps : List Str} (hm : mg x = some (.ref f)) (hk : PySem.W.keepIn P.K (.ref f) = true) (hb : Binds P.K fd ps []) (F : FnOk prog w P.K mg base (L2.CX prog w) k f fd ps (spT P i)) :
    Pg P prog w mg base k ((x, i) :: fns) con errs := ⟨pg.nf, pg.con, fun y j hj => by
  rw [List.lookup_cons] at hj
  split at hj
  · rename_i e
    cases hj
    have : y = x := by simpa using e
    subst this
    exact ⟨f, fd, ps, hm, hk, hb, F⟩
  · exact pg.fns y j hj, pg.blt, pg.errs⟩
/-- one more def of the program -/
theorem Pg.cons {pls : List Str} (pg : Pg P prog w mg base k fns con errs) (nd : (errs.map (·.1)).Nodup) (h2 : 2 ≤ k) (X : P.kc.K.In h) (G : h.Ns mainGlobals mg) {x : Str} {st : Stmt} {f : Addr} {cdv : Value} {N ps : List Str} {n nN np : Nat} {fs : FS} (d : DefA P.kc.K x st f cdv) (S : FnScope N ps (defScope st)) (pl : Plain x st ps)
    (hc : cSs (Ga.mkP N (defScope st) fns con false pls) (errsOf (defScope st) errs) n (defBody st) = some fs) (hN : N.length + (plOf N pls).length = nN) (hp : ps.length = np) : Pg P prog w mg base (k + 1) ((x, ⟨np, runDef nN fs⟩) :: fns) con errs := by
  subst hN hp
  obtain ⟨fd, F⟩ := d.fn
  exact (pg.mono (Nat.le_succ k)).add (PySem.W.mg_of X G d.a) d.k (F.binds pl) (def_ok pg nd h2 F S hc)
/-- .. and it has generator expressions -/
theorem Pg.consX {pls : List Str} (pg : Pg P prog w mg base k fns con errs) (nd : (errs.map (·.1)).Nodup) (h2 : 2 ≤ k) (X : P.kc.K.In h) (G : h.Ns mainGlobals mg) {x : Str} {st : Stmt} {f : Addr} {cdv : Value} {N ps : List Str} {n nN np : Nat} {fs : FS} (d : DefA P.kc.K x st f cdv) (S : FnScope N ps (defScope st)) (pl : Plain x st ps) (gx : GxAt P mg base x cdv)
    (hc : cSs (Ga.mkP N (defScope st) fns con false pls true) (errsOf (defScope st) errs) n (defBody st) = some fs) (hN : N.length + (plOf N pls).length = nN) (hp : ps.length = np) : Pg P prog w mg base (k + 4) ((x, ⟨np, runDef nN fs⟩) :: fns) con errs := by
  subst hN hp
  obtain ⟨oc, od, an, kV, doc, pm, ct, osl, l⟩ := d.l
  exact (pg.mono (by omega)).add (PySem.W.mg_of X G d.a) d.k ((fun_mk l d.c d.k).binds pl) (def_okX pg nd h2 l d.c S gx hc)
theorem LamI.mono {x : Str} {tf : T PyData → T PyData} {j : Nat} (l : LamI P prog w mg base k con x tf) (h : k ≤ j) : LamI P prog w mg base j con x tf := by
  obtain ⟨a, g, n, pg, bg, sg, dV, kV, doc, pm, cdv, ct, oc, an, od, osl, Ng, sub, ecl, tfs, e1, e2, e3, e4, e5, e6, e7, e8, e9, e10, e11, e12, e13⟩ := l.ex
  exact ⟨a, g, n, pg, bg, sg, dV, kV, doc, pm, cdv, ct, oc, an, od, osl, Ng, sub, ecl, tfs, e1, e2, e3, e4, e5, e6, e7, e8, e9, e10, e11, e12, fun y i hy => by
    obtain ⟨f, fd, ps, m1, m2, m3, m4⟩ := e13 y i hy
    exact ⟨f, fd, ps, m1, m2, m3, m4.mono h⟩⟩
theorem PgL.mono (pg : PgL P prog w mg base k fns lfns con lams) {j : Nat} (h : k ≤ j) : PgL P prog w mg base j fns lfns con lams := ⟨pg.nf, pg.hcon, fun x i hi => by
  obtain ⟨f, fd, ps, h1, h2, h3, h4⟩ := pg.fns x i hi
  exact ⟨f, fd, ps, h1, h2, h3, h4.mono h⟩, fun x i hi => by
  obtain ⟨f, fd, ps, h1, h2, h3, h4⟩ := pg.lfns x i hi
  exact ⟨f, fd, ps, h1, h2, h3, h4.mono h⟩, pg.blt, fun x tf hx => (pg.lams x tf hx).mono h⟩
theorem PgL.add (pg : PgL P prog w mg base k fns lfns con lams) {x : Str} {i : FnI} {f : Addr} {fd : FuncData} {ps : List Str} (hm : mg x = some (.ref f)) (hk : PySem.W.keepIn P.K (.ref f) = true) (hb : Binds P.K fd ps []) (F : FnG prog w P.K mg base k f fd ps (spT P i)) :
    PgL P prog w mg base k ((x, i) :: fns) lfns con lams := ⟨pg.nf, pg.hcon, fun y j hj => by
  rw [List.lookup_cons] at hj
  split at hj
  · rename_i e
    cases hj
    have : y = x := by simpa using e
    subst this
    exact ⟨f, fd, ps, hm, hk, hb, F⟩
  · exact pg.fns y j hj, pg.lfns, pg.blt, pg.lams⟩
/-- the program's defs, for a law -/
theorem Pg.toL (pg : Pg P prog w mg base k fns con errs) (lm : ∀ x tf, lams.lookup x = some tf → LamI P prog w mg base k con x tf) : PgL P prog w mg base k fns fns con lams := ⟨pg.nf, pg.con, fun x i hi => by
  obtain ⟨f, fd, ps, h1, h2, h3, h4⟩ := pg.fns x i hi
  exact ⟨f, fd, ps, h1, h2, h3, FnOk.g h4⟩, pg.fns, pg.blt, lm⟩
theorem PgL.noLam (pg : PgL P prog w mg base k fns lfns con lams) : PgL P prog w mg base k fns lfns con [] := ⟨pg.nf, pg.hcon, pg.fns, pg.lfns, pg.blt, fun x tf h => nomatch h⟩
theorem defG_of {pls : List Str} {kwo : Str → List Str → Option (List Nat)} (pg : PgL P prog w mg base (k + 1) fns lfns con lams) (kwl : KwL P prog w mg base (k + 1) fns kwo) {x : Str} {st : Stmt} {f : Addr} {cdv : Value} {N ps : List Str} {n nN np : Nat} {fs : FS} (d : DefA P.kc.K x st f cdv) (S : FnScope N ps (defScope st)) (la : lams = [] ∨ LamAt P mg base x cdv) (pl : Plain x st ps)
    (hc : cSs (lawGa N (defScope st) fns lfns con lams pls kwo) [] n (defBody st) = some fs) (hN : N.length + (plOf N pls).length = nN) (hp : ps.length = np) : ∃ fd, Binds P.kc.K fd ps [] ∧ FnG prog w P.kc.K mg base (k + 4) f fd ps (spT P ⟨np, runDef nN fs⟩) ∧ (∀ (s : Shared) (us : List Value), us.length = ps.length → BindsTo s fd ⟨us, []⟩ (ps.zip us)) := by
  subst hN hp
  obtain ⟨fd, F⟩ := d.fn
  obtain ⟨oc, od, an, kV, doc, pm, ct, osl, l⟩ := d.l
  exact ⟨_, (fun_mk l d.c d.k).binds pl, defG_ok pg kwl l d.c S la hc, fun s us hl => .of_eq (pl kV doc pm an cdv ct us hl)⟩
/-- one more def of the law -/
theorem PgL.cons {pls : List Str} {kwo : Str → List Str → Option (List Nat)} (pg : PgL P prog w mg base (k + 1) fns lfns con lams) (kwl : KwL P prog w mg base (k + 1) fns kwo) (X : P.kc.K.In h) (G : h.Ns mainGlobals mg) {ls : List (Str × (T PyData → T PyData))} {x : Str} {st : Stmt} {f : Addr} {cdv : Value} {N ps : List Str} {n nN np : Nat} {fs : FS} (d : DefA P.kc.K x st f cdv) (S : FnScope N ps (defScope st)) (hl : ls = [] ∨ ls = lams) (la : ls = [] ∨ LamAt P mg base x cdv) (pl : Plain x st ps)
    (hc : cSs (lawGa N (defScope st) fns lfns con ls pls kwo) [] n (defBody st) = some fs) (hN : N.length + (plOf N pls).length = nN) (hp : ps.length = np) : PgL P prog w mg base (k + 4) ((x, ⟨np, runDef nN fs⟩) :: fns) lfns con lams := by
  have key : ∃ fd, Binds P.kc.K fd ps [] ∧ FnG prog w P.kc.K mg base (k + 4) f fd ps (spT P ⟨np, runDef nN fs⟩) ∧ (∀ (s : Shared) (us : List Value), us.length = ps.length → BindsTo s fd ⟨us, []⟩ (ps.zip us)) := by
    rcases hl with rfl | rfl
    · exact defG_of pg.noLam kwl d S la pl hc hN hp
    · exact defG_of pg kwl d S la pl hc hN hp
  obtain ⟨fd, hb, F, _⟩ := key
  exact (pg.mono (by omega)).add (PySem.W.mg_of X G d.a) d.k hb F
/-! ## classes of errors -/
structure ClsF (K : PySem.W.Frag) (C : Addr) : Prop where
  exC : PySem.W.subIn K (.ref C) (.type "BaseException") = some true
  isC : PySem.W.isClsIn K C = true
  ty : PySem.W.typeIn K (.ref C) = some (.type "type")
theorem cls_of {D : Addr} (T : ClsF K D) : ((PySem.W.clsIn K D).isSome && PySem.W.typeIn K (.ref D) == some (.type "type")) = true := by
  have h2' : (PySem.W.clsIn K D).isSome = true := T.isC
  rw [h2', T.ty] <;> rfl
theorem kitCls_of {C D : Addr} {b : Bool} (T : ClsF K D) (e : PySem.W.subIn K (.ref C) (.ref D) = some b) : PySem.W.kitCls K (.ref C) (.ref D) = some b := by
  have e2 : ((PySem.W.clsIn K D).isSome && PySem.W.typeIn K (.ref D) == some (.type "type")) = true := by
    have h2' : (PySem.W.clsIn K D).isSome = true := T.isC
    rw [h2', T.ty] <;> rfl
  show (if ((PySem.W.clsIn K D).isSome && PySem.W.typeIn K (.ref D) == some (.type "type")) = true then PySem.W.subIn K (.ref C) (.ref D) else none) = some b
  rw [if_pos e2]
  exact e
theorem exm_of {C D : Addr} {b : Bool} (T : ClsF K D) (e : PySem.W.subIn K (.ref C) (.ref D) = some b) : PySem.W.exmOne K (.ref C) (.ref D) = some b := by
  have e1 : (PySem.W.subIn K (.ref D) (.type "BaseException") == some true) = true := by rw [T.exC] <;> rfl
  show (if (PySem.W.subIn K (.ref D) (.type "BaseException") == some true) = true then PySem.W.kitCls K (.ref C) (.ref D) else none) = some b
  rw [if_pos e1]
  exact kitCls_of T e
theorem kit_of {C D : Addr} {b : Bool} (T : ClsF K D) (e : PySem.W.subIn K (.ref C) (.ref D) = some b) (h : C = D → b = true) : PySem.W.kitOne K (.ref C) (.ref D) = some b := by
  unfold PySem.W.kitOne
  by_cases hc : C = D
  · subst hc
    rw [if_pos (by simp), h rfl]
  · rw [if_neg (by simpa using hc)]
    exact kitCls_of T e
/-- an error's class with one field -/
structure ErF (K : PySem.W.Frag) (c f qi : Str) (st : Stmt) (C fI : Addr) : Prop where
  a : PySem.W.nsIn K mainGlobals c = some (some (.ref C))
  l : ∃ nm q N bs bm sn sub ab col dd k0 k1 k2 k3 k5, K.lookup C = some (excClassObj nm q C N bs bm true sn sub ab col dd k0 k1 k2 k3 k5 "ValueError.__new__") ∧ PySem.HandSPX.refsVE bm = true
  sa : PySem.W.findIn K (.ref C) "__setattr__" = some (some (.builtin "object.__setattr__"))
  ga : PySem.W.findIn K (.ref C) "__getattribute__" = some (some (.builtin "BaseException.__getattribute__"))
  gg : PySem.W.findIn K (.ref C) "__getattr__" = some none
  ac : PySem.W.findIn K (.ref C) "__class__" = some (some (.builtin "object.__class__"))
  hn : PySem.W.specialIn K (.builtin "object.__class__") "__get__" = some (some (.builtin "getset_descriptor.__get__"))
  ht : PySem.W.takesIn K (.builtin "object.__class__") = some true
  hm : PySem.W.mroIn K C (.type "object") = some true
  hd : PySem.W.hasDictIn K C = true
  kC : PySem.W.keepIn K (.ref C) = true
  cl : ClsF K C
  i1 : PySem.W.findIn K (.ref C) "__init__" = some (some (.ref fI))
  t1 : PySem.W.typeIn K (.ref fI) = some (.type "function")
  lI : ∃ (oc : Value) (od an : Option Addr) (kV doc pm cdv ct : Value) (osl : Array (Option Value)), K.lookup fI = some ⟨oc, od, .func (PySem.W.fnOf "__init__" qi (defArgs st) (defBody st) (defScope st) .none kV doc pm an cdv ct), osl⟩ ∧ PySem.W.codeIn K cdv qi = true
  kI : PySem.W.keepIn K (.ref fI) = true
  fl : ∀ g ∈ fldNames, PySem.W.findIn K (.ref C) g = some none
theorem ErF.oex {c f qi : Str} {st : Stmt} {C fI : Addr} (e : ErF K c f qi st C fI) : OexC K C := ⟨e.l, e.sa, e.cl.exC, e.cl.ty, e.kC⟩
theorem ErF.xf {c f qi : Str} {st : Stmt} {C fI : Addr} (e : ErF K c f qi st C fI) : XfC K C ∧ ExcC K C ∧ ∀ g ∈ fldNames, PySem.W.findIn K (.ref C) g = some none :=
  ⟨⟨e.ga, e.gg, e.cl.exC, e.hd⟩, ⟨e.ga, e.gg, e.cl.exC, e.hd, e.ac, e.hn, e.ht, e.hm⟩, e.fl⟩
theorem ErF.er (X : K.In h) (G : h.Ns mainGlobals mg) {c f qi : Str} {st : Stmt} {C fI : Addr} (e : ErF K c f qi st C fI) (hf : f ∈ fldNames) {p1 p2 p3 p4 : Pos} (hb : defBody st = [.Assign [.Attribute (.Name "self" p1) f p2] (.Name f p3) p4]) (S : FnScope ["self", f] ["self", f] (defScope st))
    (v0 : Vis (defScope st) "self") (v1 : Vis (defScope st) f) (h1 : (f == ("__debug__" : Str)) = false) (h2 : (f == ("__classdict__" : Str)) = false) (pl : ∀ (kV doc pm : Value) (an : Option Addr) (cdv ct : Value) (us : List Value), us.length = 2 → bindArgs (PySem.W.fnOf "__init__" qi (defArgs st) (defBody st) (defScope st) .none kV doc pm an cdv ct) ⟨us, []⟩ = pure ((["self", f] : List Str).zip us)) (db : (c == ("__debug__" : Str)) = false) : ErC prog w K mg base c f C := by
  obtain ⟨oc, od, an, kV, doc, pm, cdv, ct, osl, l, cd⟩ := e.lI
  have F := fun_mk (st := st) (x := "__init__") (qual := qi) l cd e.kI
  exact { g := PySem.W.mg_of X G e.a, o := e.oex, ini := ⟨fI, _, e.i1, e.t1, F.binds pl, init_ok F hb S v0 v1 h1 h2 (e.fl f hf) e.oex⟩, db := db }
/-! ## the tables of code objects -/
structure TabF (K : PySem.W.Frag) (c t : Addr) : Prop where
  ex : ∃ (od : Option Addr) (vs : Array Value) (sl : Array (Option Value)) (file : Str) (tf : Tok) (fl : Int) (tg : Tok) (b : Bool) (n : Int) (tt : Tok), K.lookup c = some ⟨.type "code", od, .fields vs, sl⟩ ∧ vs[11]? = some (.ref t) ∧ vs.getD 18 .none = .str file tf ∧ vs.getD 7 .none = .int fl tg ∧ vs.getD 9 .none = .bool b ∧ vs.getD 10 .none = .int n tt
  ne : c ≠ t
  no : K.lookup t = none
theorem TabF.hd {c t : Addr} (X : K.In h) (T : TabF K c t) : PySem.W.CodeHd h c t := by
  obtain ⟨od, vs, sl, file, tf, fl, tg, b, n, tt, l, h11, h18, h7, h9, h10⟩ := T.ex
  exact ⟨_, vs, file, tf, fl, tg, b, n, tt, X _ _ l, rfl, rfl, h11, by rw [Array.getD_eq_getD_getElem?, h11]; rfl, h18, h7, h9, h10, T.ne⟩
end
/-! ## a tuple of texts that stands at the top -/
structure TupF (K : PySem.W.Frag) (x : Str) (xs : List Str) (a : Addr) : Prop where
  g : PySem.W.nsIn K mainGlobals x = some (some (.ref a))
  l : ∃ (od : Option Addr) (its : Array Value) (n : Nat) (sl : Array (Option Value)), K.lookup a = some ⟨.type "tuple", od, .seq its n, sl⟩ ∧ its.size ≤ sizeLine ∧ Vals (xs.map V.str) its.toList
theorem rpA_strs {Z : Kc} {H : Hp} : ∀ ys : List Str, RpA Z H (ys.map V.str) (ys.map .str)
  | [] => .nil
  | y :: ys => .cons (.str y) (rpA_strs ys)
theorem TupF.con {K : PySem.W.Frag} {Z : Kc} {mg : Str → Option Value} {h : Heap} {x : Str} {xs : List Str} {a : Addr} (hz : Z.K = K) (X : K.In h) (G : h.Ns mainGlobals mg) (t : TupF K x xs a) : ∃ v u, mg x = some u ∧ RelV v u ∧ ∀ H, Rp Z H v (.tuple (xs.map .str)) := by
  obtain ⟨od, its, n, sl, l, sz, r⟩ := t.l
  refine ⟨.ref a, .ref a, PySem.W.mg_of X G t.g, rfl, fun H => .tup (xs := xs.map V.str) (.inr ⟨_, its, n, by rw [hz]; exact l, rfl, rfl, sz, r⟩) (rpA_strs xs)⟩
/-! ## the same, by implicit values (for k_is) -/
section
variable {K : PySem.W.Frag}
theorem defA_mk {x : Str} {st : Stmt} {f : Addr} {cdv oc kV doc pm ct : Value} {od an : Option Addr} {osl : Array (Option Value)} (a : PySem.W.nsIn K mainGlobals x = some (some (.ref f)))
    (l : K.lookup f = some ⟨oc, od, .func (PySem.W.fnOf x x (defArgs st) (defBody st) (defScope st) .none kV doc pm an cdv ct), osl⟩) (c : PySem.W.codeIn K cdv x = true) (k : PySem.W.keepIn K (.ref f) = true) : DefA K x st f cdv := ⟨a, ⟨_, _, _, _, _, _, _, _, l⟩, c, k⟩
theorem tupF_mk {x : Str} {xs : List Str} {a : Addr} {od : Option Addr} {its : Array Value} {n : Nat} {sl : Array (Option Value)} (h : PySem.W.nsIn K mainGlobals x = some (some (.ref a))) (l : K.lookup a = some ⟨.type "tuple", od, .seq its n, sl⟩) (sz : its.size ≤ sizeLine) (r : Vals (xs.map V.str) its.toList) : TupF K x xs a := ⟨h, ⟨od, its, n, sl, l, sz, r⟩⟩
theorem clsF_mk {C : Addr} (x1 : PySem.W.subIn K (.ref C) (.type "BaseException") = some true) (x2 : PySem.W.isClsIn K C = true) (x3 : PySem.W.typeIn K (.ref C) = some (.type "type")) : ClsF K C := ⟨x1, x2, x3⟩
theorem tabF_mk {c t : Addr} {od : Option Addr} {vs : Array Value} {sl : Array (Option Value)} {file : Str} {tf : Tok} {fl : Int} {tg : Tok} {b : Bool} {n : Int} {tt : Tok} (l : K.lookup c = some ⟨.type "code", od, .fields vs, sl⟩) (h11 : vs[11]? = some (.ref t)) (h18 : vs.getD 18 .none = .str file tf) (h7 : vs.getD 7 .none = .int fl tg)
    (h9 : vs.getD 9 .none = .bool b) (h10 : vs.getD 10 .none = .int n tt) (ne : c ≠ t) (no : K.lookup t = none) : TabF K c t := ⟨⟨od, vs, sl, file, tf, fl, tg, b, n, tt, l, h11, h18, h7, h9, h10⟩, ne, no⟩
theorem erF_mk {c f qi : Str} {st : Stmt} {C fI N : Addr} {nm q : Str} {bs bm : List Value} {sn : List Str} {sub : List Value} {ab : Bool} {col : Option Bool} {dd od an : Option Addr} {k0 k1 k2 k3 k5 : Option Value} {oc kV doc pm cdv ct : Value} {osl : Array (Option Value)}
    (a : PySem.W.nsIn K mainGlobals c = some (some (.ref C))) (l : K.lookup C = some (excClassObj nm q C N bs bm true sn sub ab col dd k0 k1 k2 k3 k5 "ValueError.__new__")) (r : PySem.HandSPX.refsVE bm = true)
    (sa : PySem.W.findIn K (.ref C) "__setattr__" = some (some (.builtin "object.__setattr__"))) (ga : PySem.W.findIn K (.ref C) "__getattribute__" = some (some (.builtin "BaseException.__getattribute__"))) (gg : PySem.W.findIn K (.ref C) "__getattr__" = some none)
    (ac : PySem.W.findIn K (.ref C) "__class__" = some (some (.builtin "object.__class__"))) (hn : PySem.W.specialIn K (.builtin "object.__class__") "__get__" = some (some (.builtin "getset_descriptor.__get__"))) (ht : PySem.W.takesIn K (.builtin "object.__class__") = some true)
    (hm : PySem.W.mroIn K C (.type "object") = some true) (hd : PySem.W.hasDictIn K C = true) (kC : PySem.W.keepIn K (.ref C) = true) (cl : ClsF K C) (i1 : PySem.W.findIn K (.ref C) "__init__" = some (some (.ref fI))) (t1 : PySem.W.typeIn K (.ref fI) = some (.type "function"))
    (lI : K.lookup fI = some ⟨oc, od, .func (PySem.W.fnOf "__init__" qi (defArgs st) (defBody st) (defScope st) .none kV doc pm an cdv ct), osl⟩) (cI : PySem.W.codeIn K cdv qi = true) (kI : PySem.W.keepIn K (.ref fI) = true) (fl : ∀ g ∈ fldNames, PySem.W.findIn K (.ref C) g = some none) : ErF K c f qi st C fI :=
  { a := a, l := ⟨_, _, _, _, _, _, _, _, _, _, _, _, _, _, _, l, r⟩, sa := sa, ga := ga, gg := gg, ac := ac, hn := hn, ht := ht, hm := hm, hd := hd, kC := kC, cl := cl, i1 := i1, t1 := t1, lI := ⟨_, _, _, _, _, _, _, _, _, lI, cI⟩, kI := kI, fl := fl }
end
end Pv

-- Pq15
set_option Elab.async false
set_option linter.all false
set_option maxRecDepth 100000
set_option maxHeartbeats 8000000
namespace Pv
open PySem PySem.Spec L2
open PyProof.Rows (envOfC)
/-! ## a def of the program with a try in it -/
abbrev Ga.mkT (N : List Str) (sc : Scope) (fns : List (Str × FnI)) (con : List (Str × PyData)) (sub : Str → Str → Option Bool) (ecl : List Str) : Ga := ⟨N, sc, fns, con, false, true, [], none, none, sub, [], [], ecl, true, true, [], fun _ _ => none, false, []⟩
section
variable {P : Pa} {prog : Program} {w : World} {mg : Str → Option Value} {base h : Heap} {k : Nat} {fns : List (Str × FnI)} {con : List (Str × PyData)} {errs : List (Str × List Str)} {sub : Str → Str → Option Bool} {ecl : List Str}
theorem xo_T (pg : Pg P prog w mg base k fns con errs) (ec : Ecl P.kc sub ecl mg) {N ps : List Str} {qual : Str} {scope : Scope} {f : Addr} {cdv : Value} {A : Around} {outer : List Env} {s : Shared} {H : Hp} {E : XK} (S : FnScope N ps scope) (hr : Room k (A.deeper (envOfC qual scope s.heap.objs.size f cdv)))
    (pn : List (Addr × Obj)) (xe : Value → Shared → Prop) (W : WX) (tk : Takes ((cxOf (L2.CX prog w) prog w P.kc.K mg base N qual scope f cdv A outer s H E).tr pn xe) W) :
    XO (inP P H N.length (plOf N [])) (Ga.mkT N scope fns con sub ecl) ((cxOf (L2.CX prog w) prog w P.kc.K mg base N qual scope f cdv A outer s H E).tr pn xe) W where
  hK := rfl
  hN := rfl
  hsc := rfl
  nd := S.nd
  calm := fun _ => rfl
  fz := fun q hq => by rw [show (inP P H N.length (plOf N [])).fz = P.fz from rfl, pg.nf] at hq; cases hq
  pl := fun i hi => nomatch hi
  pn := rfl
  hpl := rfl
  plfz := fun i hi => nomatch hi
  ek := .inr ec
  kw := fun _ _ _ _ h => nomatch h
  exA := fun y er h => nomatch h
  exI := fun y er h => nomatch h
  thk := fun a th h => nomatch h
  gx := fun z => nomatch z
  lam := fun x tf h => nomatch h
  tak := fun x tf h => nomatch h
  u := by
    have := hr.un
    show (A.deeper (envOfC qual scope s.heap.objs.size f cdv)).units + 70 < cLine
    omega
  con := pg.con
  fns := fun x i hi => by
    obtain ⟨g, fd, qs, k1, k2, k3, k4⟩ := pg.fns x i hi
    exact ⟨g, k1, k2, fun pins σ H s Q us vs I r h => run_fnS k4 hr k3 (passAt tk σ) I r (spT_in h)⟩
  fnB := fun _ x i hi => by
    obtain ⟨g, fd, qs, k1, k2, k3, k4⟩ := pg.fns x i hi
    exact ⟨g, k1, k2, fun sc s0 H0 ce fp pins σ H1 s1 Q us vs I r h => run_fnS (X := ((cxOf (L2.CX prog w) prog w P.kc.K mg base N qual scope f cdv A outer s H E).tr pn xe).blk s0 H0 sc ce fp) (E := fun _ _ _ _ => False) k4 hr k3 (passAt L2.takes0 σ) I r (spT_in h)⟩
  blt := pg.blt
  grd := fun z => nomatch z
theorem xs_ofT (pg : Pg P prog w mg base k fns con errs) (nd : (errs.map (·.1)).Nodup) (ec : Ecl P.kc sub ecl mg) {N ps : List Str} {qual : Str} {scope : Scope} {f : Addr} {cdv : Value} {A : Around} {outer : List Env} {s : Shared} {H : Hp} {E : XK} (S : FnScope N ps scope) (h2 : 2 ≤ k) (hr : Room k (A.deeper (envOfC qual scope s.heap.objs.size f cdv))) :
    XS (inP P H N.length (plOf N [])) (Ga.mkT N scope fns con sub ecl) (errsOf scope errs) (cxOf (L2.CX prog w) prog w P.kc.K mg base N qual scope f cdv A outer s H E) E where
  x := xo_T (E := E) pg ec S hr (cxOf (L2.CX prog w) prog w P.kc.K mg base N qual scope f cdv A outer s H E).pn (cxOf (L2.CX prog w) prog w P.kc.K mg base N qual scope f cdv A outer s H E).xe (fun c d _ H => E c d H) (takes_of rfl rfl rfl rfl)
  fn := fun _ => rfl
  bk := by
    show (if scope.kind.isAnnotationScope then ScopeKind.function else scope.kind) = .function
    rw [S.kind]
    rfl
  tk := fun _ => takes_of rfl rfl rfl rfl
  own := fun _ => passes_of rfl
  try_ := fun _ => {
    nopl := rfl
    ex0 := rfl
    hs := rfl
    hf := rfl
    tr := fun pn xe W tk _ => xo_T pg ec S hr pn xe W tk
    cat := fun c hc gc => by
      obtain ⟨Cc, m1, m2, _, m3⟩ := ec.cat c hc
      refine ⟨Cc, ⟨?_, m2, .inl m1⟩, fun cn b C h1 h2 => (m3 cn b C h1 h2).2⟩
      unfold glob at gc
      rw [Bool.and_eq_true] at gc
      have gc1 : scope.names.lookup c = some NameKind.globalImplicit := of_decide_eq_true gc.1
      exact gc1
    su := fun a' oe C dd pn nm i er vs B' hz hf hC rpf hsl => su_of rfl (xo_T (E := E) pg ec S hr (cxOf (L2.CX prog w) prog w P.kc.K mg base N qual scope f cdv A outer s H E).pn (cxOf (L2.CX prog w) prog w P.kc.K mg base N qual scope f cdv A outer s H E).xe (fun c d _ H => E c d H) (takes_of rfl rfl rfl rfl)) ec hz hf hC rpf hsl }
  rz := fun c fs h => by
    obtain ⟨h1, h3⟩ := errsOf_ok nd h
    obtain ⟨g, C, rfl, k1, k2⟩ := pg.errs c fs h1
    exact ⟨C, k1, fun e es p pos fa h0 hs ha => mk_err (show Gl (cxOf (L2.CX prog w) prog w P.kc.K mg base N qual scope f cdv A outer s H E) c from h3) (hr.mono h2) k2 h0 hs ha⟩
theorem def_okT (pg : Pg P prog w mg base k fns con errs) (nd : (errs.map (·.1)).Nodup) (h2 : 2 ≤ k) (ec : Ecl P.kc sub ecl mg) {x qual : Str} {st : Stmt} {f : Addr} {fd : FuncData} {N ps : List Str} {n : Nat} {fs : FS} (F : Fun P.kc.K x qual st f fd) (S : FnScope N ps (defScope st))
    (hc : cSs (Ga.mkT N (defScope st) fns con sub ecl) (errsOf (defScope st) errs) n (defBody st) = some fs) : FnOk prog w P.kc.K mg base (L2.CX prog w) (k + 1) f fd ps (spT P ⟨ps.length, runDef N.length fs⟩) :=
  F.okX S (fun vs H Q E h => h.1) fun cdv A outer s H vs Q E hr h =>
    ⟨tS (inP P H N.length (plOf N [])) E fs, (sndS (xs_ofT pg nd ec S h2 hr) n).B _ _ hc, body_run pg.nf (by rw [h.1]; exact scope_len S) (fun i hi => nomatch hi) (by rw [h.1]; exact h)⟩
/-- one more def of the program, with a try -/
theorem Pg.consT (pg : Pg P prog w mg base k fns con errs) (nd : (errs.map (·.1)).Nodup) (h2 : 2 ≤ k) (ec : Ecl P.kc sub ecl mg) (X : P.kc.K.In h) (G : h.Ns mainGlobals mg) {x : Str} {st : Stmt} {f : Addr} {cdv : Value} {N ps : List Str} {n nN np : Nat} {fs : FS} (d : DefA P.kc.K x st f cdv) (S : FnScope N ps (defScope st)) (pl : Plain x st ps)
    (hc : cSs (Ga.mkT N (defScope st) fns con sub ecl) (errsOf (defScope st) errs) n (defBody st) = some fs) (hN : N.length = nN) (hp : ps.length = np) : Pg P prog w mg base (k + 1) ((x, ⟨np, runDef nN fs⟩) :: fns) con errs := by
  subst hN hp
  obtain ⟨fd, F⟩ := d.fn
  exact (pg.mono (Nat.le_succ k)).add (PySem.W.mg_of X G d.a) d.k (F.binds pl) (def_okT pg nd h2 ec F S hc)
end
end Pv

-- Pq16
set_option Elab.async false
set_option linter.all false
set_option maxRecDepth 100000
set_option maxHeartbeats 4000000
namespace Pv
open PySem PySem.Spec PyProof.Rows L2
/-! ## a dict of texts that stands at the top -/
inductive EntsD : List (Str × Str) → List DictEntry → Prop
  | nil : EntsD [] []
  | cons {x y : Str} {ps : List (Str × Str)} {e : DictEntry} {es : List DictEntry} (hk : ∃ t, e.key = .str x t) (hv : ∃ u, e.val = .str y u) (r : EntsD ps es) : EntsD ((x, y) :: ps) (e :: es)
structure DctF (K : PySem.W.Frag) (w : World) (x : Str) (ps : List (Str × Str)) (a : Addr) : Prop where
  g : PySem.W.nsIn K mainGlobals x = some (some (.ref a))
  l : ∃ es n, K.lookup a = some ⟨.type "dict", none, .dict es n, #[]⟩ ∧ PySem.W.KeysLit w.params es.toList ∧ (a == sysModules) = false ∧ EntsD ps es.toList
theorem dctF_mk {K : PySem.W.Frag} {w : World} {x : Str} {ps : List (Str × Str)} {a : Addr} {es : Array DictEntry} {n : Nat} (h : PySem.W.nsIn K mainGlobals x = some (some (.ref a))) (l : K.lookup a = some ⟨.type "dict", none, .dict es n, #[]⟩) (k : PySem.W.KeysLit w.params es.toList) (lo : (a == sysModules) = false) (r : EntsD ps es.toList) : DctF K w x ps a := ⟨h, es, n, l, k, lo, r⟩
theorem ents_find : ∀ {ps : List (Str × Str)} {es : List DictEntry}, EntsD ps es → ∀ z, (∃ u y e, ps.lookup z = some y ∧ es.find? (·.key.isStr z) = some e ∧ e.val = .str y u) ∨ (ps.lookup z = none ∧ es.find? (·.key.isStr z) = none ∧ es.any (·.refKey) = false)
  | _, _, .nil, z => .inr ⟨rfl, rfl, rfl⟩
  | _, _, .cons (x := x) (y := y) (ps := ps) (e := e) (es := es) ⟨t, hk⟩ ⟨u, hv⟩ r, z => by
    have hs : e.key.isStr z = (x == z) := by rw [hk]; rfl
    by_cases h : x = z
    · subst h
      refine .inl ⟨u, y, e, ?_, ?_, hv⟩
      · rw [List.lookup_cons]
        simp
      · rw [List.find?_cons_of_pos]
        rw [hs]
        simp
    · have hb : (x == z) = false := by simpa using h
      have hb2 : (z == x) = false := by simpa using fun k : z = x => h k.symm
      have e1 : ((x, y) :: ps).lookup z = ps.lookup z := by
        rw [List.lookup_cons]
        simp only [hb2]
      have e2 : (e :: es).find? (·.key.isStr z) = es.find? (·.key.isStr z) := by
        rw [List.find?_cons_of_neg]
        rw [hs, hb]
        simp
      rcases ents_find r z with ⟨u2, y2, e', k1, k2, k3⟩ | ⟨k1, k2, k3⟩
      · exact .inl ⟨u2, y2, e', by rw [e1]; exact k1, by rw [e2]; exact k2, k3⟩
      · refine .inr ⟨by rw [e1]; exact k1, by rw [e2]; exact k2, ?_⟩
        rw [List.any_cons, k3]
        unfold DictEntry.refKey
        rw [hk]
        rfl
theorem DctF.con {K : PySem.W.Frag} {Z : Kc} {w : World} {mg : Str → Option Value} {h : Heap} {x : Str} {ps : List (Str × Str)} {a : Addr} (hz : Z.K = K) (X : K.In h) (G : h.Ns mainGlobals mg) (d : DctF K w x ps a) : ConR Z w mg x (dctD ps) := by
  obtain ⟨es, n, l, k, lo, r⟩ := d.l
  refine .inr ⟨ps, a, rfl, PySem.W.mg_of X G d.g, es, n, by rw [hz]; exact l, k, lo, fun z => ?_⟩
  rcases ents_find r z with ⟨u, y, e, k1, k2, k3⟩ | ⟨k1, k2, k3⟩
  · refine .inl ⟨.str y u, y, k1, ?_, ⟨u, rfl⟩⟩
    unfold PySem.W.nsIn
    rw [hz, l]
    dsimp only
    rw [k2]
    dsimp only
    rw [k3]
  · refine .inr ⟨k1, ?_⟩
    unfold PySem.W.nsIn
    rw [hz, l]
    dsimp only
    rw [k2, k3]
    rfl
end Pv

-- Pq17
set_option Elab.async false
set_option linter.all false
set_option maxRecDepth 100000
set_option maxHeartbeats 8000000
namespace Pv
open PySem PySem.Spec PySem.W PySem.Calls PyProof.Rows L2 LamX
/-! ## lambdas with one parameter that is read -/
theorem bind_lam1 {params : Arguments} {p : Str} {s' : Shared} {name qual : Str} {body : Expr} {scope : Scope} {cl : List (Str × Addr)} {pm cdv ct u : Value} (hp : lamPar1 params = some p) : BindsTo s' (lamFd name qual params body scope cl .none pm cdv ct) ⟨[u], []⟩ [(p, u)] := by
  unfold lamPar1 at hp
  split at hp
  · rename_i a
    cases hp
    have key : ∀ dV, ∃ k, bindArgs (lamFd name qual ⟨[], [a], none, [], [], none, []⟩ body scope cl dV pm cdv ct) ⟨[u], []⟩ = seqItems? dV >>= k ∧ k none = pure [(a.arg, u)] := fun dV => ⟨_, rfl, by simp⟩
    obtain ⟨k, e1, e2⟩ := key .none
    refine .of_eq ?_
    rw [e1]
    exact e2
  · cases hp
/-- the context of the body: the maker's names, and the parameter behind them -/
def lamCx1 (X : Cx) (A : Around) (outer : List Env) (s : Shared) (H : Hp) (E : XK) (scope : Scope) (p : Str) (f c' : Addr) : Cx := { lamCx X A outer s H E scope f c' with N := X.N ++ [p] }
section
variable {X : Cx} {pins : List (Addr × Obj)} {σ : L2.St} {H HZ : Hp} {s s1 : Shared}
theorem lam_start4 {A : Around} {outer : List Env} {E : XK} {scope : Scope} {p : Str} {f c' : Addr} {h₁ : Heap} {tk : Nat} {u : Value} {v : V} (I : Inv X pins σ H s) (L : LamN X.N [p] X.env.scope scope) (e0 : Env0 X.prog X.w X.K X.mg X.base A outer s1 HZ) (hd : A.handled = none)
    (un : Un (frs X.stack) [] H HZ s.heap s1.heap) (rv : RelV v u) (hns : h₁.Ns s1.heap.objs.size fun y => [(p, u)].reverse.lookup y) (kp : ∀ b o, s1.heap.get? b = some o → h₁.get? b = some o) :
    Inv (lamCx1 X A outer s1 HZ E scope p f c') [] (σ ++ [some v]) HZ { s1 with heap := h₁, toks := tk } := by
  have hfree := L.has I.ok
  have hpl : scope.names.lookup p = some .local := L.par p List.mem_cons_self
  have cm : ∀ {y c}, (cloFrom X.env.cells scope.names []).lookup y = some c → X.env.cells.lookup y = some c := fun {y c} e => by
    rcases cloFrom_mem (PySem.mem_of_lookup e) with hm | ⟨h1, h2⟩
    · cases hm
    · obtain ⟨c1, hc⟩ := hfree _ h1 rfl
      have hc : X.env.cells.lookup y = some c1 := hc
      have e2 : c = c1 := by
        rw [h2, hc] <;> rfl
      rw [e2]
      exact hc
  have look : ∀ {y}, scope.names.lookup y = some .free → ∃ c, (cloFrom X.env.cells scope.names []).lookup y = some c := fun {y} hl => by
    have hy : (y, NameKind.free) ∈ scope.names := PySem.mem_of_lookup hl
    exact mem_lookup (cloFrom_has (cells := X.env.cells) (acc := []) hy)
  have cellK : ∀ {c : Addr} {v : Option Value}, H c = none → s.heap.IsCell c v → h₁.IsCell c v := fun {c v} n ⟨o, ho, hd⟩ => by
    obtain ⟨sl, q⟩ := un.any ho n (by simp)
    exact ⟨_, kp _ _ q, hd⟩
  have noA : ∀ b : Addr, b ∉ (lamCx1 X A outer s1 HZ E scope p f c').ex := fun b z => absurd (show b ∈ ([] : List Addr) from z) (by simp)
  refine ⟨⟨e0.mod, L.kind, rfl, rfl, Nat.le_refl _, fun y z c e1 e2 => I.ok.inj y z c (cm e1) (cm e2), fun y hy => ?_, fun y c z _ => ?_, fun _ => hd, Around.frames_deeper e0.frames, .inr ⟨rfl, rfl⟩, fun b z => absurd z (noA b), e0.bs, e0.bsz, fun b _ _ => noA b,
      fun b z => absurd z (noA b), e0.funs, e0.frf⟩,
    rfl, e0.bare, Un.kept kp, ⟨_, hns, fun i y v' e1 e2 e3 => ?_⟩, fun y c e => ?_, e0.hok.fresh (Nat.le_refl _), fun y c e => ?_, fun q hq => absurd (show q ∈ ([] : List (Addr × Obj)) ++ [] from hq) (by simp), e0.hok.kept kp, ?_⟩
  · have hy : scope.names.lookup y = some .cell ∨ scope.names.lookup y = some .free := hy
    rcases hy with hy | hy
    · exact absurd rfl (L.own _ (PySem.mem_of_lookup hy)).2
    · exact look hy
  · have z : false = true := z
    cases z
  · have e3 : Vis scope y := e3
    have e1 : (X.N ++ [p])[i]? = some y := e1
    have hlen : σ.length = X.N.length := I.len
    by_cases hi : i < X.N.length
    · rw [List.getElem?_append_left hi] at e1
      rw [List.getElem?_append_left (by omega)] at e2
      rcases e3 with k | k | k
      · exact absurd (List.mem_of_getElem? e1) ((L.own _ (PySem.mem_of_lookup k)).1 rfl)
      · exact absurd rfl (L.own _ (PySem.mem_of_lookup k)).2
      · obtain ⟨m, hn, hl⟩ := I.loc
        have hvis : Vis X.env.scope y := (L.free _ (PySem.mem_of_lookup k) rfl).elim (fun k => .inr (.inl k)) (fun k => .inr (.inr k))
        obtain ⟨w', r, q⟩ := hl i y v' e1 e2 hvis
        obtain ⟨c2, h2⟩ := look k
        refine ⟨w', r, .inr ⟨.inr k, c2, h2, ?_⟩⟩
        have c1 := cm h2
        rcases q with ⟨k', _⟩ | ⟨_, c3, e', z⟩
        · have k' : X.env.scope.names.lookup y = some .local := k'
          rcases L.free _ (PySem.mem_of_lookup k) rfl with k2 | k2 <;> rw [show X.env.scope.names.lookup y = _ from k2] at k' <;> cases k'
        · rw [c1] at e'
          cases e'
          exact cellK (I.freeC y _ c1) z
    · rw [List.getElem?_append_right (by omega)] at e1 e2
      rw [hlen] at e2
      cases hj : i - X.N.length with
      | zero =>
        rw [hj] at e1 e2
        cases e1
        cases e2
        exact ⟨u, rv, .inl ⟨hpl, by simp⟩⟩
      | succ j =>
        rw [hj] at e1
        cases e1
  · obtain ⟨w', z⟩ := I.cell y c (cm e)
    exact ⟨w', cellK (I.freeC y c (cm e)) z⟩
  · obtain ⟨v, o, ho, hd⟩ := I.cell y c (cm e)
    exact un.free c o ho (I.freeC y c (cm e)) (by simp)
  · show (σ ++ [some v]).length = (X.N ++ [p]).length
    rw [List.length_append, List.length_append, I.len]
    rfl
/-- the call of such a lambda within the def that got it -/
theorem lam_act1 {Ng : List Str} {qg : Str} {sg : Scope} {g fn cn : Addr} {cdg pm ct : Value} {pr : Arguments} {bd : Expr} {sc : Scope} {k j : Nat} {a p : Str} {pn : List (Addr × Obj)} {xe : Value → Shared → Prop} {W : WX} {tb : XK → TE} {p1 p2 : Pos} {e : Expr} {ta : TA}
    (I : Inv X pins σ H s) (L : LamN X.N [p] X.env.scope sc) (isF : s.heap.get? fn = some (lamOb "<lambda>" (X.env.qual ++ "<lambda>") pr bd sc (cloFrom X.env.cells sc.names []) .none pm cn ct)) (un0 : H fn = none) (nofr : fn ∉ frs X.stack)
    (par : lamPar1 pr = some p)
    (tk : Takes ((toldCx X Ng qg sg g cdg s H).tr pn xe) W) (room : Room (k + 1) (X.A.deeper (envOfC qg sg s.heap.objs.size g cdg)))
    (rd : ∀ (A : Around) (outer : List Env) (s : Shared) (H : Hp) (E : XK), Room k (A.deeper (lamEnv X sc s.heap.objs.size fn cn)) → PE (lamCx1 X A outer s H E sc p fn cn) bd (tb E))
    (hN : Ng[j]? = some a) (hv : Vis sg a) (d1 : (a == ("__debug__" : Str)) = false) (d2 : (a == ("__classdict__" : Str)) = false)
    (h0 : isStar e = false) (ha : PA ((toldCx X Ng qg sg g cdg s H).tr pn xe) [e] ta) :
    PE ((toldCx X Ng qg sg g cdg s H).tr pn xe) (.Call (.Name a p1) [e] [] p2) (fun σZ HZ Q => σZ[j]? = some (some (.ref fn)) ∧ ta σZ HZ fun vs H1 => ∃ v, vs = [v] ∧ H1 cn = some (CodeO cn (X.env.qual ++ "<lambda>")) ∧ tb (WE W σZ) (σ ++ [some v]) H1 Q) := by
  refine ⟨fun pz sz σZ HZ Q J w => ?_⟩
  obtain ⟨w1, w2⟩ := w
  have nm := (pe_var (X := (toldCx X Ng qg sg g cdg s H).tr pn xe) (pos := p1) (i := j) hN hv d1 d2).run pz sz σZ HZ (fun v H1 => v = .ref fn ∧ H1 = HZ) J ⟨.ref fn, w1, rfl, rfl⟩
  refine wpAny_Call_Name_kw (thn nm fun u s1 ⟨v, H1, J1, rv, ev, eh⟩ => ?_)
  subst ev
  subst eh
  obtain rfl : u = Value.ref fn := rv
  have isF1 : s1.heap.get? fn = some (lamOb "<lambda>" (X.env.qual ++ "<lambda>") pr bd sc (cloFrom X.env.cells sc.names []) .none pm cn ct) := J1.base.keep fn _ isF un0 nofr (fun z => nomatch (show fn ∈ ([] : List Addr) from z))
  refine callWith_F ⟨_, _, _, _, isF1⟩ ?_ (star_cons h0) (by rfl)
  have hA := ha.run p2 pz s1 σZ H1 _ J1 w2
  refine thn hA fun us s2 ⟨vs, H2, J2, rvs, q2⟩ => ?_
  obtain ⟨v, rfl, w3, w4⟩ := q2
  obtain ⟨u, rfl, ru⟩ := rvs.one
  have isF2 : s2.heap.get? fn = some (lamOb "<lambda>" (X.env.qual ++ "<lambda>") pr bd sc (cloFrom X.env.cells sc.names []) .none pm cn ct) := J2.base.keep fn _ isF un0 nofr (fun z => nomatch (show fn ∈ ([] : List Addr) from z))
  have kept : Un (frs X.stack) [] H H2 s.heap s2.heap := J2.base
  obtain ⟨⟨oc, cv, tkn, o1, o2, o3⟩, _, _⟩ := J2.hok cn _ w3
  refine ⟨⟨_, _, _, _, isF2⟩, wpAny_call (codeAny_mono (?_ : codeAny (model X.prog X.w) (X.A.deeper (envOfC qg sg s.heap.objs.size g cdg)) (.call (.ref fn) ⟨[u], []⟩)
    (CR (L2.CX X.prog X.w) (envOfC qg sg s.heap.objs.size g cdg :: X.stack) X.prog X.w H2 s2 Q (WE W σZ)) s2) fun r s3 out => ?_)⟩
  · refine kla_callFunE room.depth isF2 rfl L.co L.gen rfl ⟨cn, oc, cv, tkn, rfl, o1, o2, o3⟩ ?_
    have hbs := bind_lam1 (p := p) (s' := s2) (name := "<lambda>") (qual := X.env.qual ++ "<lambda>") (body := bd) (scope := sc) (cl := cloFrom X.env.cells sc.names []) (pm := pm) (cdv := .ref cn) (ct := ct) (u := u) par
    refine hbs _ _ _ _ ?_
    refine wpAny_newFunctionEnv (fun y hy => (L.own y hy).2) (fun y hy => by
      rw [List.mem_singleton.mp hy]
      exact L.par p List.mem_cons_self) (fun h1 hns hsb => ⟨J2.nolimit.fresh _ hsb, ?_⟩) L.kind
    have grow : ∀ b o, s2.heap.get? b = some o → h1.get? b = some o := fun b o e =>
      hsb.extBut b o (Nat.ne_of_lt (Heap.lt_size e)) (Heap.get?_push_of_some _ e)
    have J3 := lam_start4 (tk := s2.toks + [(p, u)].length) (E := WE W σZ) (c' := cn) (f := fn) I L J2.env0 room.hd kept ru hns grow
    refine kla_codeExpr (wpAny_mono ((rd _ _ s2 H2 (WE W σZ) (room.deeper _)).run [] _ _ H2 Q J3 w4) (fun v s' ⟨x, H', J4, rx, q⟩ => ?_) fun _ _ q => q)
    exact ⟨x, H', J4.os, J4.bare, J4.base, J4.hok, rx, q⟩
  · match r, out with
    | .error e, out => exact passAt tk σZ pz H2 s2 e s3 J2 out
    | .ok (.ret u), out => exact J2.after out
    | .ok .next, out => exact out.elim
    | .ok .brk, out => exact out.elim
    | .ok .cont, out => exact out.elim
theorem lam_mk2 {tbs : List (Addr × Str)} {co tb : Addr} {pr : Arguments} {bd : Expr} {sc : Scope} {lp : Pos} {Ex Qx : Value → Shared → Prop} (I : Inv X pins σ H s) (B : TabB X.base X.mg co tb) (hco : X.env.code = .ref co)
    (hin : (tb, X.env.qual ++ "<lambda>") ∈ tbs) (one : ∀ q ∈ tbs, q.1 = tb → q.2 = X.env.qual ++ "<lambda>") (hTb : Tabs tbs H) (cells : ∀ y ∈ sc.names, y.2 = .free → ∃ c, X.env.cells.lookup y.1 = some c)
    (fin : ∀ (fn cn : Addr) (pm ct : Value) (H1 : Hp) (s1 : Shared), Inv X pins σ H1 s1 → OneMore tb (X.env.qual ++ "<lambda>") H cn H1 → Tabs tbs H1 →
      s1.heap.get? fn = some (lamOb "<lambda>" (X.env.qual ++ "<lambda>") pr bd sc (cloFrom X.env.cells sc.names []) .none pm cn ct) → H1 fn = none → fn ∉ frs X.stack → H1 cn = some (CodeO cn (X.env.qual ++ "<lambda>")) → s.heap.objs.size ≤ fn → Qx (.ref fn) s1) :
    wpAny (model X.prog X.w) X.A (makeTail "<lambda>" (X.env.qual ++ "<lambda>") pr (.expr bd) sc X.env .none .none none lp lp.line) Qx Ex s := by
  obtain ⟨row, e1, e2, e3⟩ := hTb _ hin
  have onH : s.heap.get? tb = some { cls := .none, data := .fields row } := I.hok tb _ e1
  have hbm : s.heap.BuiltinsAt X.mg tb := B.bm.keeps I.bk
  have new_fr : ∀ q, s.heap.objs.size ≤ q → q ∉ frs X.stack := fun q hq hm => by
    cases List.mem_cons.mp (I.stkSub _ hm) with
    | inl e => exact Nat.lt_irrefl _ (Nat.lt_of_lt_of_le (e ▸ I.lt) hq)
    | inr e => exact I.nofs hq e
  cases known : codeAmong lp row.toList with
  | some v =>
    obtain ⟨cn, rfl, k⟩ := e3 lp v known
    refine lm_tailHit (mg := X.mg) (c := co) (P := tb) (ps := row) (closure_ok cells) I.ok.glob (I.mod.glob.keeps I.bk) hco (B.code.keeps I.bk) onH e2 known hbm fun ct hp tk kp hs => ?_
    refine fin hp.objs.size cn _ ct H _ (I.kept (t' := tk) fun q o e => Heap.get?_push_of_some _ (kp q o e)) (.inl rfl) hTb (Heap.get?_push_size _ rfl) (I.hok.fresh hs) (new_fr _ hs) k hs
  | none =>
    refine lm_tail (mg := X.mg) (c := co) (P := tb) (ps := row) (closure_ok cells) I.ok.glob (I.mod.glob.keeps I.bk) hco (B.code.keeps I.bk) onH e2 known B.gP hbm fun cn ct hp tk kp ge lt rec_ grown => ?_
    obtain ⟨cn2, ob, fs, tn, ecn, r1, r2, r3⟩ := rec_
    cases ecn
    have big : s.heap.objs.size ≤ hp.objs.size := Nat.le_trans ge (Nat.le_of_lt lt)
    have free : H cn = none := I.hok.fresh ge
    have tbn : tb ≠ cn := ne_of_none e1 free
    have J := inv_table (t' := tk) (more := #[rawInt lp.line, rawInt lp.col, .ref cn]) (h' := hp.push (lamOb "<lambda>" (X.env.qual ++ "<lambda>") pr bd sc (cloFrom X.env.cells sc.names []) .none ((X.mg "__name__").getD .none) cn ct)) I e1
      (fun q o n e => Heap.get?_push_of_some _ (kp q o n e)) (Heap.get?_push_of_some _ grown) ge ⟨ob, fs, tn, Heap.get?_push_of_some _ r1, r2, r3⟩
    have stay : ∀ q o, H q = some o → (∀ u, o ≠ .tbl u) → upd (upd H tb (.tbl (row ++ #[rawInt lp.line, rawInt lp.col, .ref cn]))) cn (CodeO cn (X.env.qual ++ "<lambda>")) q = some o := fun q o e n => by
      have n1 : q ≠ tb := fun z => by
        rw [z, e1] at e
        exact n row (Option.some.inj e).symm
      rw [upd_ne (ne_of_none e free), upd_ne n1, e]
    refine fin hp.objs.size cn _ ct _ _ J (.inr ⟨row, _, e1, free, rfl⟩) (fun q hq => ?_) (Heap.get?_push_size _ rfl) ?_ (new_fr _ big) upd_same big
    · by_cases hb : q.1 = tb
      · rw [one q hq hb, hb]
        have eL : (row ++ #[rawInt lp.line, rawInt lp.col, .ref cn]).toList = row.toList ++ [rawInt lp.line, rawInt lp.col, .ref cn] := by simp
        refine ⟨_, by rw [upd_ne tbn, upd_same], by rw [eL]; exact PySem.TriplesOk_snoc _ _ _ _ e2, fun p' v hv => ?_⟩
        rw [eL] at hv
        cases among_app _ e2 hv with
        | inl z =>
          obtain ⟨c0, y1, y2⟩ := e3 p' v z
          exact ⟨c0, y1, stay _ _ y2 codeO_ne⟩
        | inr z => exact ⟨cn, z, upd_same⟩
      · obtain ⟨row2, y1, y2, y3⟩ := hTb q hq
        refine ⟨row2, by rw [upd_ne (ne_of_none y1 free), upd_ne hb]; exact y1, y2, fun p' v hv => ?_⟩
        obtain ⟨c0, z1, z2⟩ := y3 p' v hv
        exact ⟨c0, z1, stay _ _ z2 codeO_ne⟩
    · rw [upd_ne (Nat.ne_of_gt lt), upd_ne (Nat.ne_of_gt (Nat.lt_of_lt_of_le (Heap.lt_size onH) big))]
      exact I.hok.fresh big
theorem lam_mkP {tbs : List (Addr × Str)} {co tb : Addr} {pr : Arguments} {p : Str} {bd : Expr} {sc : Scope} {lp : Pos} {Ex Qx : Value → Shared → Prop} (I : Inv X pins σ H s) (B : TabB X.base X.mg co tb) (hco : X.env.code = .ref co)
    (hin : (tb, X.env.qual ++ "<lambda>") ∈ tbs) (one : ∀ q ∈ tbs, q.1 = tb → q.2 = X.env.qual ++ "<lambda>") (hTb : Tabs tbs H) (par : lamPar1 pr = some p) (cells : ∀ y ∈ sc.names, y.2 = .free → ∃ c, X.env.cells.lookup y.1 = some c)
    (fin : ∀ (fn cn : Addr) (pm ct : Value) (H1 : Hp) (s1 : Shared), Inv X pins σ H1 s1 → OneMore tb (X.env.qual ++ "<lambda>") H cn H1 → Tabs tbs H1 →
      s1.heap.get? fn = some (lamOb "<lambda>" (X.env.qual ++ "<lambda>") pr bd sc (cloFrom X.env.cells sc.names []) .none pm cn ct) → H1 fn = none → fn ∉ frs X.stack → H1 cn = some (CodeO cn (X.env.qual ++ "<lambda>")) → s.heap.objs.size ≤ fn → Qx (.ref fn) s1) :
    wpAny (model X.prog X.w) X.A (eval (.Lambda pr bd sc lp) X.env) Qx Ex s := by
  unfold lamPar1 at par
  split at par
  · cases par
    refine kla_eval rfl ?_
    rw [makeFunction_eq]
    simp only [List.zip_nil_right, List.filterMap_nil, List.isEmpty_nil, if_true, pure_bind]
    exact lam_mk2 I B hco hin one hTb cells fin
  · cases par
end
end Pv

-- Pq18
set_option Elab.async false
set_option linter.all false
set_option maxRecDepth 100000
set_option maxHeartbeats 8000000
namespace Pv
open PySem PySem.Spec L2
open PyProof.Rows (envOfC)
/-! ## a def that takes a lambda with a parameter, and other values -/
abbrev toPj (P : Pa) (f cn : Addr) (q : Str) (B : Hp) (n j : Nat) : Pa := ⟨P.kc, P.Tb, (cn, LamX.CodeO cn q) :: P.pin, [(j, .ref f)], B :: P.h0, [], n⟩
/-- the names of the taker's body -/
abbrev takGa (Ng : List Str) (sg : Scope) (a : Str) (con : List (Str × PyData)) (m : FnD) (tfs : List (Str × FnI)) : Ga := ⟨Ng, sg, tfs, con, false, true, [a], none, some (a, ⟨1, m⟩), fun _ _ => none, [], [], [], false, false, [], fun _ _ => none, false, []⟩
/-- what the taker makes of it: ds stand before the lambda, es behind it -/
def takF (n : Nat) (Ng : List Str) (sg : Scope) (a : Str) (con : List (Str × PyData)) (tfs : List (Str × FnI)) (bg : List Stmt) (m : FnD) (ds es : List PyData) : T PyData :=
  match cSs (takGa Ng sg a con m tfs) [] n bg with
  | some fs => noRaise (T.bind (fs 100000 (ds.map some ++ none :: es.map some ++ List.replicate (Ng.length - (ds.length + 1 + es.length)) none)) outD)
  | none => .stuck
section
variable {P : Pa} {f cn : Addr} {q : Str} {B H H' : Hp} {b c nt j : Nat}
theorem bud_toPj (U : Bud P b H) (h : H cn = some (LamX.CodeO cn q)) (F : Frm B H) : Bud (toPj P f cn q B nt j) b H := bud_toP (f := f) (nt := nt) U h F
theorem bud_of_toPj (U : Bud (toPj P f cn q B nt j) b H) : Bud P b H := bud_of_toP (f := f) (cn := cn) (q := q) (B := B) (nt := nt) U
theorem bud_onj (U : Bud (toPj P f cn q B nt j) b H) (F : Frm H H') (U' : Bud P c H') : Bud (toPj P f cn q B nt j) c H' := bud_on (f := f) (cn := cn) (q := q) (B := B) (nt := nt) U F U'
theorem ren_up {σ : St} {ρ : En} {v : V} {d : PyData} (R : Ren P H σ ρ) (np : P.pl = []) (r : Rp P.kc H v d) : Ren (upP P) H (σ ++ [some v]) (ρ ++ [some d]) := by
  have hl : ρ.length = P.n := by rw [R.len, np]; rfl
  refine ⟨?_, ?_, fun i e hi he => ?_, fun q hq => ?_, Pls.none_ rfl⟩
  · rw [List.length_append, R.n]
    rfl
  · rw [List.length_append, hl]
    rfl
  · by_cases h : i < P.n
    · rw [List.getElem?_append_left (by omega)] at he
      obtain ⟨w, e1, e2⟩ := R.val i e h he
      exact ⟨w, by rw [List.getElem?_append_left (by rw [R.n]; exact h)]; exact e1, e2⟩
    · have hi' : i = P.n := by
        have : i < P.n + 1 := hi
        omega
      subst hi'
      rw [List.getElem?_append_right (by omega), hl] at he
      rw [Nat.sub_self] at he
      cases he
      exact ⟨v, by rw [List.getElem?_append_right (by rw [R.n]; omega), R.n, Nat.sub_self]; rfl, r⟩
  · have := R.fz q hq
    rw [List.getElem?_append_left (List.getElem?_eq_some_iff.mp this).1]
    exact this
end
/-- the call of the lambda, over data -/
theorem thk1_conv {P : Pa} {f cn : Addr} {q : Str} {nt j : Nat} {B HZ : Hp} {σ σZ : St} {ρ ρZ : En} {b : Nat} {fe fb : FE} {W : WX} {Q : VK} (np : P.pl = []) (R : Ren P B σ ρ) (U : Bud (toPj P f cn q B nt j) b HZ) (RZ : Ren (toPj P f cn q B nt j) HZ σZ ρZ)
    (w : T.wp (T.bind (fe ρZ) fun d => lamM fb ρ [d]) b (KQ (toPj P f cn q B nt j) HZ Q) (KW (toPj P f cn q B nt j) HZ (WE W σZ))) :
    σZ[j]? = some (some (.ref f)) ∧ tEv (toPj P f cn q B nt j) W fe σZ HZ fun v H1 => ∃ v', [v] = [v'] ∧ H1 cn = some (LamX.CodeO cn q) ∧ tEv (upP P) (W0 (WE W σZ)) fb (σ ++ [some v']) H1 Q := by
  refine ⟨RZ.fz (j, .ref f) List.mem_cons_self, ρZ, b, U, RZ, T.wp_mono (T.wp_bind.mp w) (fun d c _ k v H1 F1 U1 r1 => ?_) fun _ _ _ e => e⟩
  refine ⟨v, rfl, (U1.2.2.1 (cn, LamX.CodeO cn q) List.mem_cons_self).1, ρ ++ [some d], c, bud_of_toPj U1, ren_up (R.frm (U1.2.2.2 B List.mem_cons_self)) np r1, T.wp_mono k (fun d' c' _ k' => ?_) fun x c' _ k' => ?_⟩
  · exact fun v2 H' F U' r => k' v2 H' (F1.trans F) (bud_onj U1 F U') r
  · exact fun C d2 vs H' hC F U' hd rr => k' C d2 vs H' hC (F1.trans F) (bud_onj U1 F U') hd rr
end Pv

-- Pq19
set_option Elab.async false
set_option linter.all false
set_option maxRecDepth 100000
set_option maxHeartbeats 8000000
namespace Pv
open PySem PySem.Spec L2
open PyProof.Rows (envOfC)
section
variable {X : Cx} {P : Pa} {Γ : Ga} {W : WX} {pins : List (Addr × Obj)} {σ : L2.St} {ρ : En} {H : Hp} {s : Shared}
open LamX in
/-- the surroundings of the taker's body -/
theorem tak_xo {Ng : List Str} {qg : Str} {sg : Scope} {g fn cn : Addr} {cdg pm ct : Value} {pr : Arguments} {bd : Expr} {sc : Scope} {k j : Nat} {a p : Str} {fb : FE}
    (x : XB P Γ X W) (np : P.pl = []) (I : Inv X pins σ H s) (R : Ren P H σ ρ) (L : LamN X.N [p] X.env.scope sc) (isF : s.heap.get? fn = some (lamOb "<lambda>" (X.env.qual ++ "<lambda>") pr bd sc (cloFrom X.env.cells sc.names []) .none pm cn ct)) (un0 : H fn = none) (nofr : fn ∉ frs X.stack)
    (par : lamPar1 pr = some p)
    (room : Room (k + 1) (X.A.deeper (envOfC qg sg s.heap.objs.size g cdg)))
    (rd : ∀ (A : Around) (outer : List Env) (s : Shared) (H : Hp) (E : XK), Room k (A.deeper (lamEnv X sc s.heap.objs.size fn cn)) → PE (lamCx1 X A outer s H E sc p fn cn) bd (tEv (upP P) (W0 E) fb))
    (nd : Ng.Nodup) (hN : Ng[j]? = some a) (hv : Vis sg a) (d1 : (a == ("__debug__" : Str)) = false) (d2 : (a == ("__classdict__" : Str)) = false)
    {tfs : List (Str × FnI)} (tfn : ∀ y i, tfs.lookup y = some i → ∃ f fd ps, X.mg y = some (.ref f) ∧ PySem.W.keepIn X.K (.ref f) = true ∧ Binds X.K fd ps [] ∧ FnOk X.prog X.w X.K X.mg X.base (L2.CX X.prog X.w) k f fd ps (spT P i))
    (pn : List (Addr × Obj)) (xe : Value → Shared → Prop) (W' : WX) (tk : Takes ((toldCx X Ng qg sg g cdg s H).tr pn xe) W') :
    XO (toPj P fn cn (X.env.qual ++ "<lambda>") H Ng.length j) (takGa Ng sg a Γ.con (lamM fb ρ) tfs) ((toldCx X Ng qg sg g cdg s H).tr pn xe) W' := by
  refine XB.up { hK := x.hK, hN := rfl, hsc := rfl, nd := nd, calm := (fun _ => rfl), fz := fun q hq => ?_, pl := (fun i hi => nomatch hi), pn := rfl, hpl := rfl, plfz := (fun i hi => nomatch hi), u := ?_, con := x.con, fns := fun y i hi => ?_, blt := x.blt, grd := (fun z => nomatch z), ek := .inl rfl, kw := (fun _ _ _ _ h => nomatch h), fnB := (fun z => nomatch z), gx := (fun z => nomatch z), exA := (fun _ _ h => nomatch h), exI := (fun _ _ h => nomatch h), thk := fun a' i h => ⟨fun z => ?_, fun z e fe h0 he p1 p2 => ?_⟩ } rfl
  · obtain rfl : q = (j, .ref fn) := by simpa using hq
    exact ⟨a, hN, List.mem_cons_self⟩
  · have := room.un
    show (X.A.deeper (envOfC qg sg s.heap.objs.size g cdg)).units + 70 < cLine
    omega
  · obtain ⟨f', fd, ps, m1, m2, m3, m4⟩ := tfn y i hi
    exact ⟨f', m1, m2, fun pins σ H s Q us vs I r h => run_fnS (X := (toldCx X Ng qg sg g cdg _ _).tr pn xe) m4 (room.mono (Nat.le_succ k)) m3 (passAt tk σ) I r (spT_toP (f := fn) (nt := Ng.length) h)⟩
  · cases h
    cases z
  · cases h
    exact impE (lam_act1 I L isF un0 nofr par tk room rd hN hv d1 d2 h0 (pa_cons he pa_nil (star_cons h0))) fun σZ HZ Q ⟨ρZ, b, U, RZ, w⟩ => thk1_conv np R U RZ w
/-- a fresh object is kept -/
theorem Inv.pinFresh {ob : Obj} {fn : Addr} (I : Inv X pins σ H s) (e : s.heap.get? fn = some ob) (n : H fn = none) (l : fn ≠ X.env.locals) (fs : fn ∉ X.fs) (c : ∀ v, ob.data ≠ .cell v) : Inv X ((fn, ob) :: pins) σ H s := by
  refine ⟨I.ok, I.os, I.bare, I.base, I.loc, I.cell, I.free, I.freeC, fun q hq => ?_, I.hok, I.len⟩
  rcases List.mem_append.mp hq with h | h
  · exact I.pin q (List.mem_append_left _ h)
  · rcases List.mem_cons.mp h with rfl | h
    · exact ⟨e, n, l, fs, c⟩
    · exact I.pin q (List.mem_append_right _ h)
theorem Inv.unpin {q : Addr × Obj} (I : Inv X (q :: pins) σ H s) : Inv X pins σ H s := by
  refine ⟨I.ok, I.os, I.bare, I.base, I.loc, I.cell, I.free, I.freeC, fun r hr => ?_, I.hok, I.len⟩
  rcases List.mem_append.mp hr with h | h
  · exact I.pin r (List.mem_append_left _ h)
  · exact I.pin r (List.mem_append_right _ (List.mem_cons_of_mem _ h))
open LamX in
/-- THE RULE: a value, a lambda with a parameter and a value handed to a def -/
theorem tak_rule (xb : XB P Γ X W) (np : P.pl = []) {x x1 a x2 p : Str} {g co tb : Addr} {k n : Nat} {pg : Arguments} {bg : List Stmt} {sg : Scope} {dV kV doc pm cdv ct oc : Value} {an od : Option Addr} {osl : Array (Option Value)} {Ng : List Str}
    (hm : X.mg x = some (.ref g)) (hk : PySem.W.keepIn X.K (.ref g) = true)
    (lk : X.K.lookup g = some ⟨oc, od, .func (PySem.W.fnOf x x pg bg sg dV kV doc pm an cdv ct), osl⟩) (hcg : PySem.W.codeIn X.K cdv x = true) (hb : L2.Binds X.K (PySem.W.fnOf x x pg bg sg dV kV doc pm an cdv ct) [x1, a, x2] []) (Sg : FnScope Ng [x1, a, x2] sg)
    (hN : Ng[1]? = some a) (hNl : 3 ≤ Ng.length) (hv : Vis sg a) (d1 : (a == ("__debug__" : Str)) = false) (d2 : (a == ("__classdict__" : Str)) = false) (B : TabB X.base X.mg co tb) (hcode : X.env.code = .ref co) (hin : (tb, X.env.qual ++ "<lambda>") ∈ P.Tb) (one : ∀ q ∈ P.Tb, q.1 = tb → q.2 = X.env.qual ++ "<lambda>")
    (room : Room (k + 2) X.A)
    {tfs : List (Str × FnI)} (tfn : ∀ y i, tfs.lookup y = some i → ∃ f fd ps, X.mg y = some (.ref f) ∧ PySem.W.keepIn X.K (.ref f) = true ∧ Binds X.K fd ps [] ∧ FnOk X.prog X.w X.K X.mg X.base (L2.CX X.prog X.w) k f fd ps (spT P i))
    {params : Arguments} {body e1 e2 : Expr} {scope : Scope} {f1 f2 fb : FE} {px lpos pos : Pos} (par : lamPar1 params = some p) (L : LamN X.N [p] X.env.scope scope)
    (rd : ∀ (A : Around) (outer : List Env) (s : Shared) (H : Hp) (E : XK) (f c' : Addr), Room k (A.deeper (lamEnv X scope s.heap.objs.size f c')) → PE (lamCx1 X A outer s H E scope p f c') body (tEv (upP P) (W0 E) fb))
    (h1 : isStar e1 = false) (h2 : isStar e2 = false) (he1 : PE X e1 (tEv P W f1)) (he2 : PE X e2 (tEv P W f2)) (hg : glob Γ x = true) :
    PE X (.Call (.Name x px) [e1, .Lambda params body scope lpos, e2] [] pos) (tEv P W fun ρ => T.bind (f1 ρ) fun d => T.bind (f2 ρ) fun e => takF n Ng sg a Γ.con tfs bg (lamM fb ρ) [d] [e]) := by
  have gx : X.env.scope.names.lookup x = some .globalImplicit ∧ (x == ("__debug__" : Str)) = false := by
    unfold glob at hg
    rw [Bool.and_eq_true] at hg
    rw [xb.hsc]
    exact ⟨of_decide_eq_true hg.1, by simpa using hg.2⟩
  refine ⟨fun pins s σ H Q I q => ?_⟩
  obtain ⟨ρ, b, U, R, q⟩ := q
  refine wpAny_Call_Name_kw (ld_glob I gx.1 hm ?_ gx.2)
  refine PySem.W.callWith_K (h₀ := X.base) I.ok.mod.kin hk ?_ (star_cons h1) (by
    show (backTo pos ((false, eval (.Lambda params body scope lpos) X.env) :: starEach [e2] X.env)).any (·.1) = false
    rw [star_cons h2]
    rfl)
  rw [star_cons h1]
  show wpAny _ _ (spliced ((false, eval e1 X.env) :: backTo pos (starEach [.Lambda params body scope lpos, e2] X.env))) _ _ s
  refine Calls.spliced_cons (thn (he1.run pins s σ H _ I (stepE (R := fun v H1 => ∃ d b1, Frm H H1 ∧ Bud P b1 H1 ∧ Rp P.kc H1 v d ∧ Ren P H1 σ ρ ∧ T.wp (T.bind (f2 ρ) fun e => takF n Ng sg a Γ.con tfs bg (lamM fb ρ) [d] [e]) b1 (KQ P H Q) (KW P H (WE W σ))) U R q (fun _ _ e => e) fun d b1 v H1 F1 U1 r1 R1 q1 => ⟨d, b1, F1, U1, r1, R1, q1⟩)) fun u1 s1 ⟨v1, H1, I1, ru1, d, b1, F1, U1, r1, R1, q1⟩ => ?_)
  show wpAny _ _ (spliced ((false, eval (.Lambda params body scope lpos) X.env) :: backTo pos (starEach [e2] X.env))) _ _ s1
  refine Calls.spliced_cons (lam_mkP I1 B hcode hin one U1.2.1 par (L.has I.ok) fun fn cn pm' ct' H2 s2 I2 om T2 isF un0 nofr code ge => ?_)
  have F2 := om.frm
  have U2 := om.bud U1 T2
  have R2 := R1.frm F2
  have I2' := Inv.pinFresh I2 isF un0 (fun z => Nat.lt_irrefl _ (Nat.lt_of_lt_of_le (z ▸ I1.lt) ge)) (I1.nofs ge) (fun v z => nomatch z)
  rw [star_cons h2]
  show wpAny _ _ (spliced ((false, eval e2 X.env) :: backTo pos (starEach [] X.env))) _ _ s2
  refine Calls.spliced_cons (thn (he2.run _ s2 σ H2 _ I2' (stepE (R := fun v H3 => ∃ d2 b3, Frm H2 H3 ∧ Bud P b3 H3 ∧ Rp P.kc H3 v d2 ∧ Ren P H3 σ ρ ∧ T.wp (takF n Ng sg a Γ.con tfs bg (lamM fb ρ) [d] [d2]) b3 (KQ P H Q) (KW P H (WE W σ))) U2 R2 q1 (fun _ _ e => (e.frm F1).frm F2) fun d2 b3 v H3 F3 U3 r3 R3 q3 => ⟨d2, b3, F3, U3, r3, R3, q3⟩)) fun u2 s3 ⟨v2, H3, I3', ru2, d2', b3, F3, U3, r3, R3, q3⟩ => ?_)
  have isF3 : s3.heap.get? fn = some (lamOb "<lambda>" (X.env.qual ++ "<lambda>") params body scope (cloFrom X.env.cells scope.names []) .none pm' cn ct') := (I3'.pin (fn, _) (List.mem_append_right _ List.mem_cons_self)).1
  have un3 : H3 fn = none := (I3'.pin (fn, lamOb "<lambda>" (X.env.qual ++ "<lambda>") params body scope (cloFrom X.env.cells scope.names []) .none pm' cn ct') (List.mem_append_right _ List.mem_cons_self)).2.1
  have I3 := Inv.unpin I3'
  have code3 := F3.stay code nd_code code_tbl
  have r1' := r1.frm (F2.trans F3)
  refine Calls.spliced_nil ⟨I3.kIn, ?_⟩
  have rc : codeAny (model X.prog X.w) X.A (.call (.ref g) ⟨[u1, .ref fn, u2], []⟩) (CR C8.CX0 X.stack X.prog X.w H3 s3 Q C8.E0) s3 := by
    refine run_ofS (N := Ng) (ps := [x1, a, x2]) (us := [u1, .ref fn, u2]) (vs := [v1, .ref fn, v2]) lk hcg Sg room I3.env0 (hb s3 [u1, .ref fn, u2] I3.kIn rfl) (.cons ru1 (.cons rfl (.cons ru2 .nil))) rfl fun room1 => ?_
    have xo := fun (pn : List (Addr × Obj)) (xe : Value → Shared → Prop) (W' : WX) (tk : Takes ((toldCx X Ng x sg g cdv s3 H3).tr pn xe) W') =>
      tak_xo (k := k) (j := 1) xb np I3 R3 L isF3 un3 nofr par room1 (fun A outer s H E r => rd A outer s H E fn cn r) Sg.nd hN hv d1 d2 tfn pn xe W' tk
    have q4 : T.wp (match cSs (takGa Ng sg a Γ.con (lamM fb ρ) tfs) [] n bg with
      | some fs => noRaise (T.bind (fs 100000 ([d].map some ++ none :: [d2'].map some ++ List.replicate (Ng.length - ([d].length + 1 + [d2'].length)) none)) outD)
      | none => .stuck) b3 (KQ P H Q) (KW P H (WE W σ)) := q3
    cases hcs : cSs (takGa Ng sg a Γ.con (lamM fb ρ) tfs) [] n bg with
    | none =>
      rw [hcs] at q4
      exact q4.elim
    | some fs =>
      rw [hcs] at q4
      have q2 := T.wp_bind.mp (noRaise_wp q4)
      have xs : XS (toPj P fn cn (X.env.qual ++ "<lambda>") H3 Ng.length 1) (takGa Ng sg a Γ.con (lamM fb ρ) tfs) [] (toldCx X Ng x sg g cdv s3 H3).nox (fun _ _ _ => False) := {
        x := xo [] (fun _ _ => False) _ L2.takes0
        fn := fun _ => rfl
        bk := by
          show (if sg.kind.isAnnotationScope then ScopeKind.function else sg.kind) = .function
          rw [Sg.kind]
          rfl
        tk := fun _ => L2.takes0
        own := fun _ => PassesOwn.never
        try_ := fun z => nomatch z
        rz := fun c fs h => nomatch h }
      have F03 : Frm H H3 := (F1.trans F2).trans F3
      refine ⟨_, ((sndS xs n).B bg fs hcs).nox, 100000, _, b3, bud_toPj U3 code3 (Frm.refl _), ⟨?_, ?_, fun i d' _ e => ?_, fun r hr => ?_, Pls.none_ rfl⟩, T.wp_mono q2 (fun o c _ qo => ?_) fun _ _ _ e => e.elim⟩
      · unfold L2.start
        simp
        omega
      · simp
        omega
      · unfold L2.start
        match i, e with
        | 0, e =>
          cases e
          exact ⟨v1, rfl, r1'⟩
        | 1, e => cases e
        | 2, e =>
          cases e
          exact ⟨v2, rfl, r3⟩
        | i + 3, e =>
          have e' : (List.replicate (Ng.length - 3) (none : Option PyData))[i]? = some (some d') := e
          rw [List.getElem?_replicate] at e'
          split at e' <;> cases e'
      · obtain rfl : r = (1, .ref fn) := by simpa using hr
        unfold L2.start
        rfl
      · cases o with
        | nx ρ2 => exact fun σ' H' F' U' R' => qo .non H' (F03.trans (U'.2.2.2 H3 List.mem_cons_self)) (bud_of_toPj U') .non
        | rt d => exact fun v H' F' U' r' => qo v H' (F03.trans (U'.2.2.2 H3 List.mem_cons_self)) (bud_of_toPj U') r'
        | bk ρ2 => exact qo.elim
        | ct ρ2 => exact qo.elim
  refine wpAny_call (codeAny_mono rc fun r s4 hq => ?_)
  match r, hq with
  | .error e, hq => exact (show False from hq).elim
  | .ok (.ret u), hq => exact I3.after hq
  | .ok .next, hq => exact hq.elim
  | .ok .brk, hq => exact hq.elim
  | .ok .cont, hq => exact hq.elim
end
end Pv

-- Pq20
set_option Elab.async false
set_option linter.all false
set_option maxRecDepth 100000
set_option maxHeartbeats 8000000
namespace Pv
open PySem PySem.Spec L2 LamX
open PyProof.Rows (envOfC)
/-! ## a def of the program that hands a lambda with a parameter to another -/
abbrev Ga.mkK (N : List Str) (sc : Scope) (fns : List (Str × FnI)) (con : List (Str × PyData)) (taks : List (Str × (FnD → PyData → PyData → T PyData))) : Ga := ⟨N, sc, fns, con, false, true, [], none, none, fun _ _ => none, [], fns, [], false, true, [], fun _ _ => none, false, taks⟩
/-- the taker -/
structure TakI (P : Pa) (prog : Program) (w : World) (mg : Str → Option Value) (base : Heap) (k : Nat) (con : List (Str × PyData)) (x : Str) (tf : FnD → PyData → PyData → T PyData) : Prop where
  ex : ∃ (x1 a x2 : Str) (g : Addr) (n : Nat) (pg : Arguments) (bg : List Stmt) (sg : Scope) (dV kV doc pm cdv ct oc : Value) (an od : Option Addr) (osl : Array (Option Value)) (Ng : List Str) (tfs : List (Str × FnI)),
    tf = (fun m d e => takF n Ng sg a con tfs bg m [d] [e]) ∧ mg x = some (.ref g) ∧ PySem.W.keepIn P.kc.K (.ref g) = true ∧
    P.kc.K.lookup g = some ⟨oc, od, .func (PySem.W.fnOf x x pg bg sg dV kV doc pm an cdv ct), osl⟩ ∧ PySem.W.codeIn P.kc.K cdv x = true ∧ L2.Binds P.kc.K (PySem.W.fnOf x x pg bg sg dV kV doc pm an cdv ct) [x1, a, x2] [] ∧ FnScope Ng [x1, a, x2] sg ∧ Ng[1]? = some a ∧ 3 ≤ Ng.length ∧ Vis sg a ∧ (a == ("__debug__" : Str)) = false ∧ (a == ("__classdict__" : Str)) = false ∧
    ∀ y i, tfs.lookup y = some i → ∃ f fd ps, mg y = some (.ref f) ∧ PySem.W.keepIn P.kc.K (.ref f) = true ∧ Binds P.kc.K fd ps [] ∧ FnOk prog w P.kc.K mg base (L2.CX prog w) k f fd ps (spT P i)
section
variable {P : Pa} {prog : Program} {w : World} {mg : Str → Option Value} {base h : Heap} {k : Nat} {fns : List (Str × FnI)} {con : List (Str × PyData)} {errs : List (Str × List Str)} {taks : List (Str × (FnD → PyData → PyData → T PyData))}
theorem lx1_of {B0 : Hp} (pg : Pg P prog w mg base k fns con errs) {N ps : List Str} {qual : Str} {scope : Scope} {f : Addr} {cdv : Value} {A : Around} {outer : List Env} {s : Shared} {H : Hp} {E : XK} (S : FnScope N ps scope)
    (sc : Scope) (q : Str) (L : LamN N [q] scope sc) (A' : Around) (outer' : List Env) (s' : Shared) (H' : Hp) (E' : XK) (f' c' : Addr) (hr : Room k (A'.deeper (lamEnv (cxOf (L2.CX prog w) prog w P.kc.K mg base N qual scope f cdv A outer s H E) sc s'.heap.objs.size f' c'))) :
    XB (upP (inP P B0 N.length [])) (lamGa1 (Ga.mkK N scope fns con taks) sc q) (lamCx1 (cxOf (L2.CX prog w) prog w P.kc.K mg base N qual scope f cdv A outer s H E) A' outer' s' H' E' sc q f' c') (W0 E') where
  hK := rfl
  hN := rfl
  hsc := rfl
  nd := by
    show (N ++ [q]).Nodup
    rw [List.nodup_append]
    refine ⟨S.nd, by simp, fun a ha b hb e => ?_⟩
    rw [List.mem_singleton.mp hb] at e
    subst e
    exact (L.own _ (PySem.mem_of_lookup (L.par _ List.mem_cons_self))).1 rfl ha
  calm := fun _ => rfl
  fz := fun q hq => by rw [show (upP (inP P B0 N.length [])).fz = P.fz from rfl, pg.nf] at hq; cases hq
  pl := fun i hi => nomatch hi
  pn := by
    show N.length + 1 = (N ++ [q]).length
    simp
  hpl := rfl
  plfz := fun i hi => nomatch hi
  u := by
    have := hr.un
    show (A'.deeper (lamEnv (cxOf (L2.CX prog w) prog w P.kc.K mg base N qual scope f cdv A outer s H E) sc s'.heap.objs.size f' c')).units + 70 < cLine
    omega
  con := pg.con
  fns := fun x i hi => by
    obtain ⟨g, fd, qs, k1, k2, k3, k4⟩ := pg.fns x i hi
    exact ⟨g, k1, k2, fun pins σ H s Q us vs I r h => run_fnS k4 hr k3 (passAt (takes_of rfl rfl rfl rfl) σ) I r (spT_in (B := B0) (n := N.length) (pl := []) h)⟩
  fnB := fun z => nomatch z
  blt := pg.blt
  grd := fun z => nomatch z
  ek := .inl rfl
  kw := fun _ _ _ _ h => nomatch h
  exA := fun _ _ h => nomatch h
  exI := fun _ _ h => nomatch h
  thk := fun _ _ h => nomatch h
  gx := fun z => nomatch z
theorem xs_ofK (pg : Pg P prog w mg base k fns con errs) (nd : (errs.map (·.1)).Nodup) (tks : ∀ x tf, taks.lookup x = some tf → TakI P prog w mg base k con x tf) {N ps : List Str} {qual : Str} {scope : Scope} {f : Addr} {cdv : Value} {A : Around} {outer : List Env} {s : Shared} {H : Hp} {E : XK} (S : FnScope N ps scope) (h2 : 2 ≤ k) (hr : Room (k + 2) (A.deeper (envOfC qual scope s.heap.objs.size f cdv)))
    (la : LamAt P mg base qual cdv) :
    XS (inP P H N.length (plOf N [])) (Ga.mkK N scope fns con taks) (errsOf scope errs) (cxOf (L2.CX prog w) prog w P.kc.K mg base N qual scope f cdv A outer s H E) E := by
  have xs0 := xs_of (rep := false) (pls := []) (H := H) (E := E) (outer := outer) pg nd S h2 (hr.mono (by omega)) (fun z => Bool.noConfusion z)
  have xb : XB (inP P H N.length (plOf N [])) (Ga.mkK N scope fns con taks) (cxOf (L2.CX prog w) prog w P.kc.K mg base N qual scope f cdv A outer s H E) (fun c d _ H => E c d H) := {
    hK := rfl
    hN := rfl
    hsc := rfl
    nd := S.nd
    calm := fun _ => rfl
    fz := fun q hq => by rw [show (inP P H N.length (plOf N [])).fz = P.fz from rfl, pg.nf] at hq; cases hq
    pl := fun i hi => nomatch hi
    pn := rfl
    hpl := rfl
    plfz := fun i hi => nomatch hi
    ek := .inl rfl
    kw := fun _ _ _ _ h => nomatch h
    exA := fun y er h => nomatch h
    exI := fun y er h => nomatch h
    thk := fun a th h => nomatch h
    gx := fun z => nomatch z
    u := xs0.x.u
    con := pg.con
    fns := xs0.x.fns
    fnB := xs0.x.fnB
    blt := pg.blt
    grd := fun z => nomatch z }
  refine { x := ⟨xb, (fun _ _ h => nomatch h), ?_⟩, fn := xs0.fn, bk := xs0.bk, tk := fun _ => takes_of rfl rfl rfl rfl, own := fun _ => passes_of rfl, try_ := (fun z => nomatch z), rz := xs0.rz }
  intro x tf hl params q body e1 e2 sc f1 f2 fb px lpos pos par hok hbd h1 h2' he1 he2 hgx
  obtain ⟨co, tb, ecd, B, hin, one⟩ := la
  obtain ⟨x1, a, x2, g, n, pgs, bg, sg, dV, kV, doc, pm, cdg, ct, oc, an, od, osl, Ng, tfs, etf, hm, hk, lk, hcg, hb, Sg, hN, hNl, hv, d1, d2, tfn⟩ := (tks x tf hl).ex
  have hco : (cxOf (L2.CX prog w) prog w P.kc.K mg base N qual scope f cdv A outer s H E).env.code = .ref co := ecd
  obtain ⟨qx, eq⟩ : ∃ qx : Str, qx = (cxOf (L2.CX prog w) prog w P.kc.K mg base N qual scope f cdv A outer s H E).env.qual := ⟨_, rfl⟩
  have eq' : qx = qual ++ ".<locals>." := eq
  have hin' : (tb, (cxOf (L2.CX prog w) prog w P.kc.K mg base N qual scope f cdv A outer s H E).env.qual ++ "<lambda>") ∈ P.Tb := by
    rw [← eq, eq']
    exact hin
  have one' : ∀ q ∈ P.Tb, q.1 = tb → q.2 = (cxOf (L2.CX prog w) prog w P.kc.K mg base N qual scope f cdv A outer s H E).env.qual ++ "<lambda>" := by
    rw [← eq, eq']
    exact one
  have L : LamN N [q] scope sc := lamN_by hok
  have key := tak_rule (X := cxOf (L2.CX prog w) prog w P.kc.K mg base N qual scope f cdv A outer s H E) (P := inP P H N.length (plOf N [])) (Γ := Ga.mkK N scope fns con taks) (W := fun c d _ H => E c d H) xb rfl (x := x) (x1 := x1) (a := a) (x2 := x2) (p := q) (g := g) (co := co) (tb := tb) (k := k) (n := n) (pg := pgs) (bg := bg) (sg := sg) (Ng := Ng)
    hm hk lk hcg hb Sg hN hNl hv d1 d2 B hco hin' one' hr (tfs := tfs) (fun y i hy => by
      obtain ⟨f1, fd1, ps1, m1, m2, m3, m4⟩ := tfn y i hy
      exact ⟨f1, fd1, ps1, m1, m2, m3, ⟨fun vs H Q E h => m4.len _ _ _ _ (spT_in h), fun A o s H args us vs Q E hr e0 hb r h => m4.run A o s H args us vs Q E hr e0 hb r (spT_in h)⟩⟩) (params := params) (body := body) (e1 := e1) (e2 := e2) (scope := sc) (f1 := f1) (f2 := f2) (fb := fb) (px := px) (lpos := lpos) (pos := pos) par L
    (fun A' outer' s' H' E' f' c' r => hbd _ _ (lx1_of pg S sc q L A' outer' s' H' E' f' c' r)) h1 h2' he1 he2 hgx
  rw [etf]
  exact key
theorem def_okK (pg : Pg P prog w mg base k fns con errs) (nd : (errs.map (·.1)).Nodup) (h2 : 2 ≤ k) (tks : ∀ x tf, taks.lookup x = some tf → TakI P prog w mg base k con x tf) {name qual : Str} {params : Arguments} {body : List Stmt} {scope : Scope} {f : Addr} {dV kV doc pm cdv ct oc : Value} {an od : Option Addr} {osl : Array (Option Value)} {N ps : List Str} {n : Nat} {fs : FS}
    (lk : P.kc.K.lookup f = some ⟨oc, od, .func (PySem.W.fnOf name qual params body scope dV kV doc pm an cdv ct), osl⟩) (hcd : PySem.W.codeIn P.kc.K cdv qual = true) (S : FnScope N ps scope) (la : LamAt P mg base qual cdv)
    (hc : cSs (Ga.mkK N scope fns con taks) (errsOf scope errs) n body = some fs) : FnOk prog w P.kc.K mg base (L2.CX prog w) (k + 3) f (PySem.W.fnOf name qual params body scope dV kV doc pm an cdv ct) ps (spT P ⟨ps.length, runDef N.length fs⟩) :=
  fn_of (k := k + 2) lk hcd S (fun vs H Q E h => h.1) fun A outer s H vs Q E hr h =>
    ⟨tS (inP P H N.length (plOf N [])) E fs, (sndS (xs_ofK pg nd tks S h2 hr la) n).B _ _ hc, body_run pg.nf (by rw [h.1]; exact scope_len S) (fun i hi => nomatch hi) (by rw [h.1]; exact h)⟩
/-- one more def of the program, with such a lambda -/
theorem Pg.consK (pg : Pg P prog w mg base k fns con errs) (nd : (errs.map (·.1)).Nodup) (h2 : 2 ≤ k) (tks : ∀ x tf, taks.lookup x = some tf → TakI P prog w mg base k con x tf) (X : P.kc.K.In h) (G : h.Ns mainGlobals mg) {x : Str} {st : Stmt} {f : Addr} {cdv : Value} {N ps : List Str} {n nN np : Nat} {fs : FS} (d : DefA P.kc.K x st f cdv) (S : FnScope N ps (defScope st)) (pl : Plain x st ps) (la : LamAt P mg base x cdv)
    (hc : cSs (Ga.mkK N (defScope st) fns con taks) (errsOf (defScope st) errs) n (defBody st) = some fs) (hN : N.length = nN) (hp : ps.length = np) : Pg P prog w mg base (k + 3) ((x, ⟨np, runDef nN fs⟩) :: fns) con errs := by
  subst hN hp
  obtain ⟨oc, od, an, kV, doc, pm, ct, osl, l⟩ := d.l
  exact (pg.mono (by omega)).add (PySem.W.mg_of X G d.a) d.k ((fun_mk l d.c d.k).binds pl) (def_okK pg nd h2 tks l d.c S la hc)
end
end Pv

-- Pq22
set_option Elab.async false
set_option linter.all false
set_option maxRecDepth 100000
set_option maxHeartbeats 8000000
namespace Pv
open PySem PySem.Spec L2
open PyProof.Rows (envOfC)

section
variable {prog : Program} {w : World} {K : PySem.W.Frag} {mg : Str → Option Value} {base : Heap}
def mixScS : Scope := { kind := .function, names := [("cell", .local), ("k", .local), ("stirred", .local)], isGenerator := false, isCoroutine := false, more := [] }
theorem mix_okS {qual : Str} {st : Stmt} {f : Addr} {fd : FuncData} {k : Nat} (F : Fun K "_law_mixed" qual st f fd) (hsc : defScope st = mixScS)
    {q1 q2 q3 q4 q5 q6 q7 q8 q9 q10 q11 q12 q13 q14 q15 q16 q17 q18 q19 q20 q21 q22 q23 q24 q25 q26 q27 q28 q29 : Pos} (hb : defBody st = [ (Stmt.Assign (targets := [(Expr.Name "stirred" q1)]) (value := (Expr.BinOp (left := (Expr.BinOp (left := (Expr.BinOp (left := (Expr.Name "cell" q2)) (op := Operator.Mod) (right := (Expr.Subscript (value := (Expr.List (elts := [ (Expr.Constant (Const.int 1000000007) 0 q3), (Expr.Constant (Const.int 998244353) 0 q4), (Expr.Constant (Const.int 2147483629) 0 q5), (Expr.Constant (Const.int 1000000009) 0 q6)]) (pos := q7))) (slice := (Expr.BinOp (left := (Expr.Name "k" q8)) (op := Operator.Mod) (right := (Expr.Constant (Const.int 4) 0 q9)) (pos := q10))) (pos := q11))) (pos := q12))) (op := Operator.Add) (right := (Expr.BinOp (left := (Expr.Constant (Const.int 7919) 0 q13)) (op := Operator.Mult) (right := (Expr.Name "k" q14)) (pos := q15))) (pos := q16))) (op := Operator.Add) (right := (Expr.Constant (Const.int 13) 0 q17)) (pos := q18))) (pos := q19)), (Stmt.Return (value := (some (Expr.BinOp (left := (Expr.BinOp (left := (Expr.BinOp (left := (Expr.BinOp (left := (Expr.Name "stirred" q20)) (op := Operator.Mult) (right := (Expr.Name "stirred" q21)) (pos := q22))) (op := Operator.Mod) (right := (Expr.Constant (Const.int 2147483647) 0 q23)) (pos := q24))) (op := Operator.Mult) (right := (Expr.Constant (Const.int 48271) 0 q25)) (pos := q26))) (op := Operator.Mod) (right := (Expr.Constant (Const.int 2147483647) 0 q27)) (pos := q28)))) (pos := q29))]) : FnOk prog w K mg base (L2.CX prog w) (k + 1) f fd ["cell", "k"] spMix := by
  have S : FnScope ["cell", "k", "stirred"] ["cell", "k"] (defScope st) := by
    rw [hsc]
    exact ⟨rfl, rfl, rfl, by decide +kernel, rfl, by decide +kernel, by decide +kernel⟩
  have v0 : Vis (defScope st) "cell" := by rw [hsc]; exact .inl rfl
  have v1 : Vis (defScope st) "k" := by rw [hsc]; exact .inl rfl
  have v2 : Vis (defScope st) "stirred" := by rw [hsc]; exact .inl rfl
  have l2 : (defScope st).names.lookup ("stirred" : Str) = some NameKind.local := by rw [hsc]; rfl
  refine F.okX S (fun vs H Q E h => ?_) fun cdv A outer s H vs Q E hr h => ?_
  · obtain ⟨c, t, rfl, _⟩ := h
    rfl
  · obtain ⟨c, t, rfl, h0, h1, q⟩ := h
    rw [hb]
    refine ⟨_, pss_cons (ps_set S.nd (i := 2) rfl (.inl l2) (pe_op op_add (pe_op op_add (pe_op op_mod (pe_var (i := 0) rfl v0) (pe_ix ix_list (pe_lst (pa_cons pe_int (pa_cons pe_int (pa_cons pe_int (pa_cons pe_int pa_nil))))) (pe_op op_mod (pe_var (i := 1) rfl v1) pe_int) (plain_ix rfl))) (pe_op op_mul pe_int (pe_var (i := 1) rfl v1))) pe_int) rfl (.inr l2))
      (pss_one (ps_ret (pe_op op_mod (pe_op op_mul (pe_op op_mod (pe_op op_mul (pe_var (i := 2) rfl v2) (pe_var (i := 2) rfl v2)) pe_int) pe_int) pe_int))), ?_⟩
    refine ⟨_, rfl, ?_⟩
    refine ⟨by show 4 ≤ _; rw [sizeLine_eq]; decide, fun p hp => ?_⟩
    refine ⟨_, rfl, t, 4, rfl, rfl, (by show (0 : Int) < 4; decide), ?_⟩
    have m0 : 0 ≤ t % 4 := Int.emod_nonneg _ (by decide)
    have m1 : t % 4 < 4 := Int.emod_lt_of_pos _ (by decide)
    have at4 : ∃ m : Int, 0 < m ∧ m < 2147483648 ∧ atI [V.int 1000000007, V.int 998244353, V.int 2147483629, V.int 1000000009] (t % 4) = some (.int m) := by
      have : t % 4 = 0 ∨ t % 4 = 1 ∨ t % 4 = 2 ∨ t % 4 = 3 := by omega
      rcases this with e | e | e | e <;> rw [e]
      · exact ⟨1000000007, by decide, by decide, rfl⟩
      · exact ⟨998244353, by decide, by decide, rfl⟩
      · exact ⟨2147483629, by decide, by decide, rfl⟩
      · exact ⟨1000000009, by decide, by decide, rfl⟩
    obtain ⟨m, hm0, hm1, hm⟩ := at4
    refine ⟨p, _, t % 4, .int m, rfl, rfl, .inl (.inl upd_same), hm, ?_⟩
    refine ⟨c, m, rfl, rfl, hm0, ?_⟩
    have r0 : 0 ≤ c % m := Int.emod_nonneg _ (by omega)
    have r1 : c % m < m := Int.emod_lt_of_pos _ hm0
    refine ⟨_, rfl, 7919, t, rfl, rfl, .inl (by decide), ?_⟩
    refine ⟨c % m, 7919 * t, rfl, rfl, ?_⟩
    refine ⟨c % m + 7919 * t, 13, rfl, rfl, ?_⟩
    obtain ⟨o, ho⟩ : ∃ o : Int, o = c % m + 7919 * t + 13 := ⟨_, rfl⟩
    have o0 : 0 ≤ o := by omega
    have o1 : o < 2 ^ 64 := by omega
    refine ⟨_, rfl, _, rfl, o, o, congrArg V.int ho.symm, congrArg V.int ho.symm, .inl ⟨by omega, o1⟩, ?_⟩
    refine ⟨o * o, 2147483647, rfl, rfl, (by show (0 : Int) < 2147483647; decide), ?_⟩
    refine ⟨_, 48271, rfl, rfl, .inr (by decide), ?_⟩
    refine ⟨_, 2147483647, rfl, rfl, (by show (0 : Int) < 2147483647; decide), ?_⟩
    exact q _ p _ hp


def mixScN : Scope := { kind := .function, names := [("cell", .local), ("k", .local), ("number", .local)], isGenerator := false, isCoroutine := false, more := [] }
theorem mix_okN {qual : Str} {st : Stmt} {f : Addr} {fd : FuncData} {k : Nat} (F : Fun K "_law_mixed" qual st f fd) (hsc : defScope st = mixScN)
    {q1 q2 q3 q4 q5 q6 q7 q8 q9 q10 q11 q12 q13 q14 q15 q16 q17 q18 q19 q20 q21 q22 q23 q24 q25 q26 q27 q28 q29 : Pos} (hb : defBody st = [ (Stmt.Assign (targets := [(Expr.Name "number" q1)]) (value := (Expr.BinOp (left := (Expr.BinOp (left := (Expr.BinOp (left := (Expr.Name "cell" q2)) (op := Operator.Mod) (right := (Expr.Subscript (value := (Expr.List (elts := [ (Expr.Constant (Const.int 1000000007) 0 q3), (Expr.Constant (Const.int 998244353) 0 q4), (Expr.Constant (Const.int 2147483629) 0 q5), (Expr.Constant (Const.int 1000000009) 0 q6)]) (pos := q7))) (slice := (Expr.BinOp (left := (Expr.Name "k" q8)) (op := Operator.Mod) (right := (Expr.Constant (Const.int 4) 0 q9)) (pos := q10))) (pos := q11))) (pos := q12))) (op := Operator.Add) (right := (Expr.BinOp (left := (Expr.Constant (Const.int 7919) 0 q13)) (op := Operator.Mult) (right := (Expr.Name "k" q14)) (pos := q15))) (pos := q16))) (op := Operator.Add) (right := (Expr.Constant (Const.int 13) 0 q17)) (pos := q18))) (pos := q19)), (Stmt.Return (value := (some (Expr.BinOp (left := (Expr.BinOp (left := (Expr.BinOp (left := (Expr.BinOp (left := (Expr.Name "number" q20)) (op := Operator.Mult) (right := (Expr.Name "number" q21)) (pos := q22))) (op := Operator.Mod) (right := (Expr.Constant (Const.int 2147483647) 0 q23)) (pos := q24))) (op := Operator.Mult) (right := (Expr.Constant (Const.int 48271) 0 q25)) (pos := q26))) (op := Operator.Mod) (right := (Expr.Constant (Const.int 2147483647) 0 q27)) (pos := q28)))) (pos := q29))]) : FnOk prog w K mg base (L2.CX prog w) (k + 1) f fd ["cell", "k"] spMix := by
  have S : FnScope ["cell", "k", "number"] ["cell", "k"] (defScope st) := by
    rw [hsc]
    exact ⟨rfl, rfl, rfl, by decide +kernel, rfl, by decide +kernel, by decide +kernel⟩
  have v0 : Vis (defScope st) "cell" := by rw [hsc]; exact .inl rfl
  have v1 : Vis (defScope st) "k" := by rw [hsc]; exact .inl rfl
  have v2 : Vis (defScope st) "number" := by rw [hsc]; exact .inl rfl
  have l2 : (defScope st).names.lookup ("number" : Str) = some NameKind.local := by rw [hsc]; rfl
  refine F.okX S (fun vs H Q E h => ?_) fun cdv A outer s H vs Q E hr h => ?_
  · obtain ⟨c, t, rfl, _⟩ := h
    rfl
  · obtain ⟨c, t, rfl, h0, h1, q⟩ := h
    rw [hb]
    refine ⟨_, pss_cons (ps_set S.nd (i := 2) rfl (.inl l2) (pe_op op_add (pe_op op_add (pe_op op_mod (pe_var (i := 0) rfl v0) (pe_ix ix_list (pe_lst (pa_cons pe_int (pa_cons pe_int (pa_cons pe_int (pa_cons pe_int pa_nil))))) (pe_op op_mod (pe_var (i := 1) rfl v1) pe_int) (plain_ix rfl))) (pe_op op_mul pe_int (pe_var (i := 1) rfl v1))) pe_int) rfl (.inr l2))
      (pss_one (ps_ret (pe_op op_mod (pe_op op_mul (pe_op op_mod (pe_op op_mul (pe_var (i := 2) rfl v2) (pe_var (i := 2) rfl v2)) pe_int) pe_int) pe_int))), ?_⟩
    refine ⟨_, rfl, ?_⟩
    refine ⟨by show 4 ≤ _; rw [sizeLine_eq]; decide, fun p hp => ?_⟩
    refine ⟨_, rfl, t, 4, rfl, rfl, (by show (0 : Int) < 4; decide), ?_⟩
    have m0 : 0 ≤ t % 4 := Int.emod_nonneg _ (by decide)
    have m1 : t % 4 < 4 := Int.emod_lt_of_pos _ (by decide)
    have at4 : ∃ m : Int, 0 < m ∧ m < 2147483648 ∧ atI [V.int 1000000007, V.int 998244353, V.int 2147483629, V.int 1000000009] (t % 4) = some (.int m) := by
      have : t % 4 = 0 ∨ t % 4 = 1 ∨ t % 4 = 2 ∨ t % 4 = 3 := by omega
      rcases this with e | e | e | e <;> rw [e]
      · exact ⟨1000000007, by decide, by decide, rfl⟩
      · exact ⟨998244353, by decide, by decide, rfl⟩
      · exact ⟨2147483629, by decide, by decide, rfl⟩
      · exact ⟨1000000009, by decide, by decide, rfl⟩
    obtain ⟨m, hm0, hm1, hm⟩ := at4
    refine ⟨p, _, t % 4, .int m, rfl, rfl, .inl (.inl upd_same), hm, ?_⟩
    refine ⟨c, m, rfl, rfl, hm0, ?_⟩
    have r0 : 0 ≤ c % m := Int.emod_nonneg _ (by omega)
    have r1 : c % m < m := Int.emod_lt_of_pos _ hm0
    refine ⟨_, rfl, 7919, t, rfl, rfl, .inl (by decide), ?_⟩
    refine ⟨c % m, 7919 * t, rfl, rfl, ?_⟩
    refine ⟨c % m + 7919 * t, 13, rfl, rfl, ?_⟩
    obtain ⟨o, ho⟩ : ∃ o : Int, o = c % m + 7919 * t + 13 := ⟨_, rfl⟩
    have o0 : 0 ≤ o := by omega
    have o1 : o < 2 ^ 64 := by omega
    refine ⟨_, rfl, _, rfl, o, o, congrArg V.int ho.symm, congrArg V.int ho.symm, .inl ⟨by omega, o1⟩, ?_⟩
    refine ⟨o * o, 2147483647, rfl, rfl, (by show (0 : Int) < 2147483647; decide), ?_⟩
    refine ⟨_, 48271, rfl, rfl, .inr (by decide), ?_⟩
    refine ⟨_, 2147483647, rfl, rfl, (by show (0 : Int) < 2147483647; decide), ?_⟩
    exact q _ p _ hp


def mixScM : Scope := { kind := .function, names := [("cell", .local), ("k", .local), ("mixture", .local)], isGenerator := false, isCoroutine := false, more := [] }
theorem mix_okM {qual : Str} {st : Stmt} {f : Addr} {fd : FuncData} {k : Nat} (F : Fun K "_law_mixed" qual st f fd) (hsc : defScope st = mixScM)
    {q1 q2 q3 q4 q5 q6 q7 q8 q9 q10 q11 q12 q13 q14 q15 q16 q17 q18 q19 q20 q21 q22 q23 q24 q25 q26 q27 q28 q29 : Pos} (hb : defBody st = [ (Stmt.Assign (targets := [(Expr.Name "mixture" q1)]) (value := (Expr.BinOp (left := (Expr.BinOp (left := (Expr.BinOp (left := (Expr.Name "cell" q2)) (op := Operator.Mod) (right := (Expr.Subscript (value := (Expr.List (elts := [ (Expr.Constant (Const.int 1000000007) 0 q3), (Expr.Constant (Const.int 998244353) 0 q4), (Expr.Constant (Const.int 2147483629) 0 q5), (Expr.Constant (Const.int 1000000009) 0 q6)]) (pos := q7))) (slice := (Expr.BinOp (left := (Expr.Name "k" q8)) (op := Operator.Mod) (right := (Expr.Constant (Const.int 4) 0 q9)) (pos := q10))) (pos := q11))) (pos := q12))) (op := Operator.Add) (right := (Expr.BinOp (left := (Expr.Constant (Const.int 7919) 0 q13)) (op := Operator.Mult) (right := (Expr.Name "k" q14)) (pos := q15))) (pos := q16))) (op := Operator.Add) (right := (Expr.Constant (Const.int 13) 0 q17)) (pos := q18))) (pos := q19)), (Stmt.Return (value := (some (Expr.BinOp (left := (Expr.BinOp (left := (Expr.BinOp (left := (Expr.BinOp (left := (Expr.Name "mixture" q20)) (op := Operator.Mult) (right := (Expr.Name "mixture" q21)) (pos := q22))) (op := Operator.Mod) (right := (Expr.Constant (Const.int 2147483647) 0 q23)) (pos := q24))) (op := Operator.Mult) (right := (Expr.Constant (Const.int 48271) 0 q25)) (pos := q26))) (op := Operator.Mod) (right := (Expr.Constant (Const.int 2147483647) 0 q27)) (pos := q28)))) (pos := q29))]) : FnOk prog w K mg base (L2.CX prog w) (k + 1) f fd ["cell", "k"] spMix := by
  have S : FnScope ["cell", "k", "mixture"] ["cell", "k"] (defScope st) := by
    rw [hsc]
    exact ⟨rfl, rfl, rfl, by decide +kernel, rfl, by decide +kernel, by decide +kernel⟩
  have v0 : Vis (defScope st) "cell" := by rw [hsc]; exact .inl rfl
  have v1 : Vis (defScope st) "k" := by rw [hsc]; exact .inl rfl
  have v2 : Vis (defScope st) "mixture" := by rw [hsc]; exact .inl rfl
  have l2 : (defScope st).names.lookup ("mixture" : Str) = some NameKind.local := by rw [hsc]; rfl
  refine F.okX S (fun vs H Q E h => ?_) fun cdv A outer s H vs Q E hr h => ?_
  · obtain ⟨c, t, rfl, _⟩ := h
    rfl
  · obtain ⟨c, t, rfl, h0, h1, q⟩ := h
    rw [hb]
    refine ⟨_, pss_cons (ps_set S.nd (i := 2) rfl (.inl l2) (pe_op op_add (pe_op op_add (pe_op op_mod (pe_var (i := 0) rfl v0) (pe_ix ix_list (pe_lst (pa_cons pe_int (pa_cons pe_int (pa_cons pe_int (pa_cons pe_int pa_nil))))) (pe_op op_mod (pe_var (i := 1) rfl v1) pe_int) (plain_ix rfl))) (pe_op op_mul pe_int (pe_var (i := 1) rfl v1))) pe_int) rfl (.inr l2))
      (pss_one (ps_ret (pe_op op_mod (pe_op op_mul (pe_op op_mod (pe_op op_mul (pe_var (i := 2) rfl v2) (pe_var (i := 2) rfl v2)) pe_int) pe_int) pe_int))), ?_⟩
    refine ⟨_, rfl, ?_⟩
    refine ⟨by show 4 ≤ _; rw [sizeLine_eq]; decide, fun p hp => ?_⟩
    refine ⟨_, rfl, t, 4, rfl, rfl, (by show (0 : Int) < 4; decide), ?_⟩
    have m0 : 0 ≤ t % 4 := Int.emod_nonneg _ (by decide)
    have m1 : t % 4 < 4 := Int.emod_lt_of_pos _ (by decide)
    have at4 : ∃ m : Int, 0 < m ∧ m < 2147483648 ∧ atI [V.int 1000000007, V.int 998244353, V.int 2147483629, V.int 1000000009] (t % 4) = some (.int m) := by
      have : t % 4 = 0 ∨ t % 4 = 1 ∨ t % 4 = 2 ∨ t % 4 = 3 := by omega
      rcases this with e | e | e | e <;> rw [e]
      · exact ⟨1000000007, by decide, by decide, rfl⟩
      · exact ⟨998244353, by decide, by decide, rfl⟩
      · exact ⟨2147483629, by decide, by decide, rfl⟩
      · exact ⟨1000000009, by decide, by decide, rfl⟩
    obtain ⟨m, hm0, hm1, hm⟩ := at4
    refine ⟨p, _, t % 4, .int m, rfl, rfl, .inl (.inl upd_same), hm, ?_⟩
    refine ⟨c, m, rfl, rfl, hm0, ?_⟩
    have r0 : 0 ≤ c % m := Int.emod_nonneg _ (by omega)
    have r1 : c % m < m := Int.emod_lt_of_pos _ hm0
    refine ⟨_, rfl, 7919, t, rfl, rfl, .inl (by decide), ?_⟩
    refine ⟨c % m, 7919 * t, rfl, rfl, ?_⟩
    refine ⟨c % m + 7919 * t, 13, rfl, rfl, ?_⟩
    obtain ⟨o, ho⟩ : ∃ o : Int, o = c % m + 7919 * t + 13 := ⟨_, rfl⟩
    have o0 : 0 ≤ o := by omega
    have o1 : o < 2 ^ 64 := by omega
    refine ⟨_, rfl, _, rfl, o, o, congrArg V.int ho.symm, congrArg V.int ho.symm, .inl ⟨by omega, o1⟩, ?_⟩
    refine ⟨o * o, 2147483647, rfl, rfl, (by show (0 : Int) < 2147483647; decide), ?_⟩
    refine ⟨_, 48271, rfl, rfl, .inr (by decide), ?_⟩
    refine ⟨_, 2147483647, rfl, rfl, (by show (0 : Int) < 2147483647; decide), ?_⟩
    exact q _ p _ hp


def digScS : Scope := { kind := .function, names := [("state", .local), ("size", .local), ("j", .local), ("found", .local), ("range", .globalImplicit), ("_law_mixed", .globalImplicit)], isGenerator := false, isCoroutine := false, more := [] }
theorem digit_okS {P : Pa} {qual : Str} {st : Stmt} {f g : Addr} {fd gd : FuncData} {k : Nat} (hK : P.kc.K = K) (F : Fun K "_law_digit" qual st f fd) (hsc : defScope st = digScS)
    (hr0 : mg "range" = none) (hm0 : mg "_law_mixed" = some (.ref g)) (hm1 : PySem.W.keepIn K (.ref g) = true) (hm2 : Binds K gd ["cell", "k"] []) (hm3 : FnOk prog w K mg base (L2.CX prog w) k g gd ["cell", "k"] spMix)
    {q1 q2 q3 q4 q5 q6 q7 q8 q9 q10 q11 q12 q13 q14 q15 q16 q17 q18 q19 q20 q21 q22 q23 q24 q25 q26 q27 q28 q29 q30 q31 q32 q33 q34 q35 q36 q37 q38 q39 q40 q41 q42 q43 q44 q45 q46 q47 q48 q49 q50 q51 q52 q53 q54 q55 q56 : Pos} (hb : defBody st = [ (Stmt.If (test := (Expr.Compare (left := (Expr.Subscript (value := (Expr.Name "state" q1)) (slice := (Expr.Constant (Const.str "left") 0 q2)) (pos := q3))) (ops := [CmpOp.Eq]) (comparators := [(Expr.Constant (Const.int 0) 0 q4)]) (pos := q5))) (body := [ (Stmt.For (target := (Expr.Name "j" q6)) (iter := (Expr.Call (func := (Expr.Name "range" q7)) (args := [(Expr.Constant (Const.int 4) 0 q8)]) (keywords := []) (pos := q9))) (body := [ (Stmt.Assign (targets := [ (Expr.Subscript (value := (Expr.Name "state" q10)) (slice := (Expr.Constant (Const.str "turns") 0 q11)) (pos := q12))]) (value := (Expr.BinOp (left := (Expr.Subscript (value := (Expr.Name "state" q13)) (slice := (Expr.Constant (Const.str "turns") 0 q14)) (pos := q15))) (op := Operator.Add) (right := (Expr.Constant (Const.int 1) 0 q16)) (pos := q17))) (pos := q18)), (Stmt.Assign (targets := [ (Expr.Subscript (value := (Expr.Name "state" q19)) (slice := (Expr.Constant (Const.str "left") 0 q20)) (pos := q21))]) (value := (Expr.BinOp (left := (Expr.BinOp (left := (Expr.Subscript (value := (Expr.Name "state" q22)) (slice := (Expr.Constant (Const.str "left") 0 q23)) (pos := q24))) (op := Operator.Mult) (right := (Expr.Constant (Const.int 2147483647) 0 q25)) (pos := q26))) (op := Operator.Add) (right := (Expr.Call (func := (Expr.Name "_law_mixed" q27)) (args := [ (Expr.Subscript (value := (Expr.Name "state" q28)) (slice := (Expr.Constant (Const.str "cell") 0 q29)) (pos := q30)), (Expr.Subscript (value := (Expr.Name "state" q31)) (slice := (Expr.Constant (Const.str "turns") 0 q32)) (pos := q33))]) (keywords := []) (pos := q34))) (pos := q35))) (pos := q36))]) (orelse := []) (pos := q37))]) (orelse := []) (pos := q38)), (Stmt.Assign (targets := [(Expr.Name "found" q39)]) (value := (Expr.BinOp (left := (Expr.Subscript (value := (Expr.Name "state" q40)) (slice := (Expr.Constant (Const.str "left") 0 q41)) (pos := q42))) (op := Operator.Mod) (right := (Expr.Name "size" q43)) (pos := q44))) (pos := q45)), (Stmt.Assign (targets := [ (Expr.Subscript (value := (Expr.Name "state" q46)) (slice := (Expr.Constant (Const.str "left") 0 q47)) (pos := q48))]) (value := (Expr.BinOp (left := (Expr.Subscript (value := (Expr.Name "state" q49)) (slice := (Expr.Constant (Const.str "left") 0 q50)) (pos := q51))) (op := Operator.FloorDiv) (right := (Expr.Name "size" q52)) (pos := q53))) (pos := q54)), (Stmt.Return (some (Expr.Name "found" q55)) q56)]) : FnOk prog w K mg base (L2.CX prog w) (k + 1) f fd ["state", "size"] (spT P ⟨2, digM⟩) := by
  subst hK
  have S : FnScope ["state", "size", "j", "found"] ["state", "size"] (defScope st) := by
    rw [hsc]
    exact ⟨rfl, rfl, rfl, by decide +kernel, rfl, by decide +kernel, by decide +kernel⟩
  have v0 : Vis (defScope st) "state" := by rw [hsc]; exact .inl rfl
  have v1 : Vis (defScope st) "size" := by rw [hsc]; exact .inl rfl
  have v3 : Vis (defScope st) "found" := by rw [hsc]; exact .inl rfl
  have l2 : (defScope st).names.lookup ("j" : Str) = some NameKind.local := by rw [hsc]; rfl
  have l3 : (defScope st).names.lookup ("found" : Str) = some NameKind.local := by rw [hsc]; rfl
  have g4 : (defScope st).names.lookup ("range" : Str) = some NameKind.globalImplicit := by rw [hsc]; rfl
  have g5 : (defScope st).names.lookup ("_law_mixed" : Str) = some NameKind.globalImplicit := by rw [hsc]; rfl
  refine F.okX S (fun vs H Q E h => h.1) fun cdv A outer s H vs Q E hr h => ?_
  obtain ⟨hl, ds, b, U, r, q⟩ := h
  obtain ⟨n, b, rfl, n0, n1, rfl, qq⟩ := digM_wp q
  cases r with
  | cons r1 r =>
    cases r with
    | cons r2 r =>
      cases r
      cases r2
      cases r1 with
      | @drw a o ho hd =>
        obtain ⟨l, c, t, rfl⟩ := hd
        have ht := U.1.2 a l c t ho
        have hu : (A.deeper (envOfC qual (defScope st) s.heap.objs.size f cdv)).units + 1 < cLine := by
          have := hr.un
          omega
        rw [hb]
        refine ⟨_, pss_cons (ps_if (pt_cmp (pc_eqI (pe_dget hu (pe_var (i := 0) rfl v0) pe_str (plain_ix rfl)) pe_int))
            (pss_one (ps_for (passes_of rfl) rfl (pi_range1 g4 hr0 (pa_cons pe_int pa_nil)) (pg_name S.nd (i := 2) rfl (.inl l2) (.inr l2))
              (pss_cons (ps_dput hu (pe_var (i := 0) rfl v0) pe_str (pe_op op_add (pe_dget hu (pe_var (i := 0) rfl v0) pe_str (plain_ix rfl)) pe_int) rfl)
              (pss_one (ps_dput hu (pe_var (i := 0) rfl v0) pe_str (pe_op op_add (pe_op op_mul (pe_dget hu (pe_var (i := 0) rfl v0) pe_str (plain_ix rfl)) pe_int)
                (pe_callS (E := fun _ => E) hm3 hr g5 hm0 hm1 hm2 (fun σ => passAt (takes_of rfl rfl rfl rfl) σ) (pa_cons (pe_dget hu (pe_var (i := 0) rfl v0) pe_str (plain_ix rfl)) (pa_cons (pe_dget hu (pe_var (i := 0) rfl v0) pe_str (plain_ix rfl)) pa_nil)))) rfl))))) pss_nil)
          (pss_cons (ps_set S.nd (i := 3) rfl (.inl l3) (pe_op op_mod (pe_dget hu (pe_var (i := 0) rfl v0) pe_str (plain_ix rfl)) (pe_var (i := 1) rfl v1)) rfl (.inr l3))
          (pss_cons (ps_dput hu (pe_var (i := 0) rfl v0) pe_str (pe_op op_fdiv (pe_dget hu (pe_var (i := 0) rfl v0) pe_str (plain_ix rfl)) (pe_var (i := 1) rfl v1)) rfl)
          (pss_one (ps_ret (pe_var (i := 3) rfl v3))))), ?_⟩
        refine ⟨_, rfl, a, _, rfl, dg ho get_l, l, 0, rfl, rfl, _, rfl, ?_⟩
        show ite _ _ _
        split
        · refine ⟨4, rfl, by decide, by decide, ?_⟩
          refine for_range (fun i σ H' => i ≤ 4 ∧ ∃ (x : Option V) (l' : Int), σ = [some (.ref a), some (.int n), x, none] ∧ H' a = some (drawO l' c (t + i)) ∧ DS a H H') ⟨by decide, none, l, rfl, by simpa using ho, DS.refl⟩ ?_ ?_
          · rintro i σ H' hi ⟨hi4, x, l', rfl, e1, d⟩
            refine ⟨_, rfl, a, _, rfl, dg e1 get_t, _, 1, rfl, rfl, _, rfl, a, _, rfl, dp e1 put_t, ?_⟩
            refine ⟨_, rfl, a, _, rfl, dg upd_same get_l, l', 2147483647, rfl, rfl, .inr (by decide), ?_⟩
            refine ⟨_, rfl, a, _, rfl, dg upd_same get_c, _, rfl, a, _, rfl, dg upd_same get_t, c, _, rfl, ?_, ?_, fun z p xs hp => ?_⟩
            · have := ht.1
              omega
            · have h1 := ht.2
              have hc : ((b + 1 : Nat) : Int) = (b : Int) + 1 := by omega
              rw [hc] at h1
              have h2 : i < 4 := hi
              omega
            have pa : a ≠ p := by
              intro z
              subst z
              rw [upd_same] at hp
              cases hp
            have e2 : upd (upd H' a (drawO l' c (t + i + 1))) p (.lst xs) a = some (drawO l' c (t + i + 1)) := by rw [upd_ne pa, upd_same]
            refine ⟨_, z, rfl, rfl, _, rfl, a, _, rfl, dp e2 put_l, ?_⟩
            refine ⟨hi, some (.int (0 + i)), l' * 2147483647 + z, rfl, ?_, (d.put.lay hp nd_lst).put⟩
            rw [upd_same]
            have : t + (i : Int) + 1 = t + ((i + 1 : Nat) : Int) := by omega
            rw [this]
          · rintro σ H' ⟨_, x, l', rfl, e1, d⟩
            have t0 : 0 ≤ t + ((4 : Int).toNat : Int) := by
              have := ht.1
              omega
            obtain ⟨t', et, le4⟩ : ∃ t', t' = t + ((4 : Int).toNat : Int) ∧ t' ≤ t + 4 := ⟨_, rfl, by omega⟩
            rw [← et] at e1 t0
            refine ⟨_, rfl, a, _, rfl, dg e1 get_l, _, rfl, l', n, rfl, rfl, n0, ?_⟩
            refine ⟨_, rfl, a, _, rfl, dg e1 get_l, _, rfl, l', n, rfl, rfl, ⟨n0, n1⟩, _, rfl, a, _, rfl, dp e1 put_l, ?_⟩
            refine ⟨_, rfl, ?_⟩
            have t4 : t' + 4 * (b : Int) ≤ 2 ^ 40 := by
              have := ht.2
              have hc : ((b + 1 : Nat) : Int) = (b : Int) + 1 := by omega
              rw [hc] at this
              omega
            exact qq (l' % n) (Int.emod_nonneg _ (by omega)) (Int.emod_lt_of_pos _ n0) _ _ (d.put.frm ho upd_same) (d.put.bud (U.le (Nat.le_succ b)) ho upd_same t0 t4) (.int _)
        · obtain ⟨l', el⟩ : ∃ l', l' = l := ⟨_, rfl⟩
          obtain ⟨t', et, le4⟩ : ∃ t', t' = t ∧ t' ≤ t + 4 := ⟨_, rfl, by omega⟩
          have e1 : H a = some (drawO l' c t') := by rw [el, et]; exact ho
          have d : DS a H H := DS.refl
          have t0 : 0 ≤ t' := by rw [et]; exact ht.1
          refine ⟨_, rfl, a, _, rfl, dg e1 get_l, _, rfl, l', n, rfl, rfl, n0, ?_⟩
          refine ⟨_, rfl, a, _, rfl, dg e1 get_l, _, rfl, l', n, rfl, rfl, ⟨n0, n1⟩, _, rfl, a, _, rfl, dp e1 put_l, ?_⟩
          refine ⟨_, rfl, ?_⟩
          have t4 : t' + 4 * (b : Int) ≤ 2 ^ 40 := by
            have := ht.2
            have hc : ((b + 1 : Nat) : Int) = (b : Int) + 1 := by omega
            rw [hc] at this
            omega
          exact qq (l' % n) (Int.emod_nonneg _ (by omega)) (Int.emod_lt_of_pos _ n0) _ _ (d.put.frm ho upd_same) (d.put.bud (U.le (Nat.le_succ b)) ho upd_same t0 t4) (.int _)

end
end Pv

-- Pq23
set_option Elab.async false
set_option linter.all false
set_option maxRecDepth 100000
set_option maxHeartbeats 4000000
namespace Pv
open PySem PySem.Spec L2
/-! ## a value of plain things and tuples that stands at the top -/
def LitK (K : PySem.W.Frag) (u : Value) (d : PyData) : Prop := ∃ v, RelV v u ∧ ∀ (Z : Kc) (H : Hp), Z.K = K → Rp Z H v d
inductive LitKs (K : PySem.W.Frag) : List Value → List PyData → Prop
  | nil : LitKs K [] []
  | cons {u : Value} {us : List Value} {d : PyData} {ds : List PyData} (h : LitK K u d) (r : LitKs K us ds) : LitKs K (u :: us) (d :: ds)
section
variable {K : PySem.W.Frag}
theorem litK_non : LitK K .none .none := ⟨.non, rfl, fun _ _ _ => .non⟩
theorem litK_bl {b : Bool} : LitK K (.bool b) (.bool b) := ⟨.bl b, rfl, fun _ _ _ => .bl b⟩
theorem litK_int {i : Int} {t : Tok} : LitK K (.int i t) (.int i) := ⟨.int i, ⟨t, rfl⟩, fun _ _ _ => .int i⟩
theorem litK_str {x : Str} {t : Tok} : LitK K (.str x t) (.str x) := ⟨.str x, ⟨t, rfl⟩, fun _ _ _ => .str x⟩
theorem litKs_get : ∀ {us : List Value} {ds : List PyData}, LitKs K us ds → ∃ vs, Vals vs us ∧ ∀ (Z : Kc) (H : Hp), Z.K = K → RpA Z H vs ds
  | _, _, .nil => ⟨[], .nil, fun _ _ _ => .nil⟩
  | _, _, .cons ⟨v, h1, h2⟩ r => by
    obtain ⟨vs, k1, k2⟩ := litKs_get r
    exact ⟨v :: vs, .cons h1 k1, fun Z H hz => .cons (h2 Z H hz) (k2 Z H hz)⟩
theorem litK_tup {a : Addr} {od : Option Addr} {its : Array Value} {n : Nat} {sl : Array (Option Value)} {ds : List PyData} (l : K.lookup a = some ⟨.type "tuple", od, .seq its n, sl⟩) (sz : its.size ≤ sizeLine) (r : LitKs K its.toList ds) : LitK K (.ref a) (.tuple ds) := by
  obtain ⟨vs, k1, k2⟩ := litKs_get r
  exact ⟨.ref a, rfl, fun Z H hz => .tup (xs := vs) (.inr ⟨_, its, n, by rw [hz]; exact l, rfl, rfl, sz, k1⟩) (k2 Z H hz)⟩
structure LitF (K : PySem.W.Frag) (x : Str) (d : PyData) : Prop where
  ex : ∃ u, PySem.W.nsIn K mainGlobals x = some (some u) ∧ LitK K u d
theorem litF_mk {x : Str} {d : PyData} {u : Value} (g : PySem.W.nsIn K mainGlobals x = some (some u)) (t : LitK K u d) : LitF K x d := ⟨u, g, t⟩
theorem LitF.con {Z : Kc} {mg : Str → Option Value} {h : Heap} {x : Str} {d : PyData} (hz : Z.K = K) (X : K.In h) (G : h.Ns mainGlobals mg) (t : LitF K x d) : ∃ v u, mg x = some u ∧ RelV v u ∧ ∀ H, Rp Z H v d := by
  obtain ⟨u, g, v, h1, h2⟩ := t.ex
  exact ⟨v, u, PySem.W.mg_of X G g, h1, fun H => h2 Z H hz⟩
end
theorem TakI.mono {P : Pa} {prog : Program} {w : World} {mg : Str → Option Value} {base : Heap} {k : Nat} {con : List (Str × PyData)} {x : Str} {tf : FnD → PyData → PyData → T PyData} {j : Nat} (l : TakI P prog w mg base k con x tf) (h : k ≤ j) : TakI P prog w mg base j con x tf := by
  obtain ⟨x1, a, x2, g, n, pg, bg, sg, dV, kV, doc, pm, cdv, ct, oc, an, od, osl, Ng, tfs, e1, e2, e3, e4, e5, e6, e7, e8, e9, e10, e11, e12, e13⟩ := l.ex
  exact ⟨x1, a, x2, g, n, pg, bg, sg, dV, kV, doc, pm, cdv, ct, oc, an, od, osl, Ng, tfs, e1, e2, e3, e4, e5, e6, e7, e8, e9, e10, e11, e12, fun y i hy => by
    obtain ⟨f, fd, ps, m1, m2, m3, m4⟩ := e13 y i hy
    exact ⟨f, fd, ps, m1, m2, m3, m4.mono h⟩⟩
end Pv

-- M1
set_option Elab.async false
set_option linter.all false
set_option maxRecDepth 100000
set_option maxHeartbeats 4000000
namespace Pv
open PySem SX PySem.Builtin PySem.Builtin.Str
/-! ## texts as rows of signs: strip, partition, columns -/
def dig (c : Nat) : Bool := decide (48 ≤ c) && decide (c ≤ 57)
def cap (c : Nat) : Bool := decide (65 ≤ c) && decide (c ≤ 90)
theorem digits_S : ("0123456789" : Str) = S [48, 49, 50, 51, 52, 53, 54, 55, 56, 57] := by decide +kernel
theorem caps_S : ("ABCDEFGHIJKLMNOPQRSTUVWXYZ" : Str) = S [65, 66, 67, 68, 69, 70, 71, 72, 73, 74, 75, 76, 77, 78, 79, 80, 81, 82, 83, 84, 85, 86, 87, 88, 89, 90] := by decide +kernel
theorem mem_digits (c : Nat) : ("0123456789" : Str).cps.contains c = dig c := by
  rw [digits_S]
  unfold dig
  rw [Bool.eq_iff_iff]
  simp [S]
  omega
theorem mem_caps (c : Nat) : ("ABCDEFGHIJKLMNOPQRSTUVWXYZ" : Str).cps.contains c = cap c := by
  rw [caps_S]
  unfold cap
  rw [Bool.eq_iff_iff]
  simp [S]
  omega
theorem goes_digits : ("0123456789" : Str).cps.contains = dig := funext mem_digits
theorem goes_caps : ("ABCDEFGHIJKLMNOPQRSTUVWXYZ" : Str).cps.contains = cap := funext mem_caps
theorem dropWhile_take {α : Type} (p : α → Bool) : ∀ l : List α, l.drop (l.takeWhile p).length = l.dropWhile p
  | [] => rfl
  | a :: r => by
    rw [List.takeWhile_cons, List.dropWhile_cons]
    by_cases h : p a = true
    · rw [if_pos h, if_pos h, List.length_cons, List.drop_succ_cons, dropWhile_take p r]
    · rw [if_neg h, if_neg h]
      rfl
theorem take_rev (p : Nat → Bool) (l : List Nat) : l.take (l.length - (l.reverse.takeWhile p).length) = (l.reverse.dropWhile p).reverse := by
  rw [← dropWhile_take, List.reverse_drop]
  simp
theorem mem_tw {p : Nat → Bool} {c : Nat} : ∀ {l : List Nat}, c ∈ l.takeWhile p → p c = true
  | [], h => by cases h
  | a :: r, h => by
    rw [List.takeWhile_cons] at h
    by_cases ha : p a = true
    · rw [if_pos ha] at h
      rcases List.mem_cons.mp h with rfl | h
      · exact ha
      · exact mem_tw h
    · rw [if_neg ha] at h
      cases h
theorem dw_nil {p : Nat → Bool} : ∀ {l : List Nat}, (∀ c ∈ l, p c = true) → l.dropWhile p = []
  | [], _ => rfl
  | a :: r, h => by
    rw [List.dropWhile_cons, if_pos (h a List.mem_cons_self)]
    exact dw_nil fun c hc => h c (List.mem_cons_of_mem _ hc)
theorem dw_head {p : Nat → Bool} {a : Nat} {r : List Nat} : ∀ {l : List Nat}, l.dropWhile p = a :: r → p a = false
  | [], h => by cases h
  | b :: l, h => by
    rw [List.dropWhile_cons] at h
    by_cases hb : p b = true
    · rw [if_pos hb] at h
      exact dw_head h
    · rw [if_neg hb] at h
      cases h
      simpa using hb
def rst (p : Nat → Bool) (l : List Nat) : List Nat := (l.reverse.dropWhile p).reverse
theorem tl_sub (x : Str) (i j : Nat) : strSub x i j = S ((x.cps.toList.drop i).take (j - i)) := TL.ext_tl (TL.tl_strSub x i j)
theorem rstrip_S (l : List Nat) : Txt.rstripChars (S l) "0123456789" = S (rst dig l) := by
  unfold Txt.rstripChars
  rw [PyProof.Rows.stripBy_eq, goes_digits, tl_sub]
  have e : stripLo dig false (S l) = 0 := rfl
  have e2 : stripHi dig true (S l) 0 = l.length - (l.reverse.takeWhile dig).length := by
    unfold stripHi
    simp [S, Str.length]
  rw [e, e2]
  show S ((l.drop 0).take _) = _
  rw [List.drop_zero, Nat.sub_zero, take_rev]
  rfl
/-- nothing is left exactly if all signs are stripped -/
theorem strip_all (l : List Nat) : (Txt.stripChars (S l) "ABCDEFGHIJKLMNOPQRSTUVWXYZ" == Str.empty) = l.all cap := by
  unfold Txt.stripChars
  rw [PyProof.Rows.stripBy_eq, goes_caps, tl_sub]
  have e0 : (Str.empty : Str) = S [] := rfl
  rw [e0, S_beq, Bool.eq_iff_iff, beq_iff_eq, List.all_eq_true]
  have e : stripLo cap true (S l) = (l.takeWhile cap).length := rfl
  rw [e]
  have e2 : stripHi cap true (S l) (l.takeWhile cap).length = l.length - ((l.dropWhile cap).reverse.takeWhile cap).length := by
    unfold stripHi
    simp [S, Str.length, dropWhile_take]
  rw [e2]
  show (l.drop _).take _ = [] ↔ _
  rw [dropWhile_take]
  constructor
  · intro h c hc
    by_cases hd : l.dropWhile cap = []
    · have := List.takeWhile_append_dropWhile (p := cap) (l := l)
      rw [hd, List.append_nil] at this
      rw [← this] at hc
      exact mem_tw hc
    · exfalso
      obtain ⟨a, r, ear⟩ := List.exists_cons_of_ne_nil hd
      have hna : cap a = false := dw_head ear
      have hl : ((l.dropWhile cap).reverse.takeWhile cap).length < (l.dropWhile cap).length := by
        have h1 : ((l.dropWhile cap).reverse.takeWhile cap).length ≤ (l.dropWhile cap).reverse.length := (List.takeWhile_sublist _).length_le
        rw [List.length_reverse] at h1
        rcases Nat.lt_or_ge ((l.dropWhile cap).reverse.takeWhile cap).length (l.dropWhile cap).length with h2 | h2
        · exact h2
        · exfalso
          have h3 : (l.dropWhile cap).reverse.takeWhile cap = (l.dropWhile cap).reverse := (List.takeWhile_sublist _).eq_of_length_le (by rw [List.length_reverse]; exact h2)
          have : a ∈ (l.dropWhile cap).reverse.takeWhile cap := by rw [h3, ear]; simp
          have := mem_tw this
          rw [hna] at this
          cases this
      have hlen : l.length = (l.takeWhile cap).length + (l.dropWhile cap).length := by
        rw [← List.length_append, List.takeWhile_append_dropWhile]
      have h0 := congrArg List.length h
      rw [List.length_take, List.length_nil] at h0
      omega
  · intro h
    rw [dw_nil h, List.take_nil]
end Pv

-- M2
set_option Elab.async false
set_option linter.all false
set_option maxRecDepth 100000
set_option maxHeartbeats 4000000
namespace Pv
open PySem SX TL NumText
/-! ## names of columns and places -/
def colV (A : List Nat) : Nat := A.foldl (fun a c => 26 * a + (c - 64)) 0
def colL (n : Nat) : List Nat := if n ≤ 26 then [64 + n] else [64 + (n - 1) / 26, 65 + (n - 1) % 26]
structure Good (A D : List Nat) : Prop where
  a0 : 1 ≤ A.length
  a1 : A.length ≤ 2
  ac : ∀ c ∈ A, cap c = true
  d0 : 1 ≤ D.length
  d1 : D.length ≤ 4
  dd : ∀ c ∈ D, dig c = true
  dh : D.head? ≠ some 48
theorem cap_iff {c : Nat} : cap c = true ↔ 65 ≤ c ∧ c ≤ 90 := by unfold cap; simp
theorem dig_iff {c : Nat} : dig c = true ↔ 48 ≤ c ∧ c ≤ 57 := by unfold dig; simp
def placeL (l : List Nat) : Option (Nat × Nat) :=
  if ((1 ≤ (l.takeWhile cap).length ∧ (l.takeWhile cap).length ≤ 2) ∧ (1 ≤ (l.dropWhile cap).length ∧ (l.dropWhile cap).length ≤ 4)) ∧ (l.dropWhile cap).all dig = true ∧ (l.dropWhile cap).head? ≠ some 48 then some (digitsVal (l.dropWhile cap), colV (l.takeWhile cap)) else none
theorem tw_app {p : Nat → Bool} : ∀ {A D : List Nat}, (∀ c ∈ A, p c = true) → (∀ c, D.head? = some c → p c = false) → (A ++ D).takeWhile p = A ∧ (A ++ D).dropWhile p = D
  | [], [], _, _ => ⟨rfl, rfl⟩
  | [], d :: D, _, h => by
    have := h d rfl
    simp [List.takeWhile_cons, List.dropWhile_cons, this]
  | a :: A, D, h, k => by
    obtain ⟨h1, h2⟩ := tw_app (A := A) (fun c hc => h c (List.mem_cons_of_mem _ hc)) k
    rw [List.cons_append, List.takeWhile_cons, List.dropWhile_cons, if_pos (h a List.mem_cons_self), if_pos (h a List.mem_cons_self), h1, h2]
    exact ⟨rfl, rfl⟩
theorem Good.cut {A D : List Nat} (g : Good A D) : (A ++ D).takeWhile cap = A ∧ (A ++ D).dropWhile cap = D := tw_app g.ac fun c h => by
  have hc : c ∈ D := List.mem_of_head? h
  have := dig_iff.mp (g.dd c hc)
  have n : ¬ cap c = true := fun z => by
    have := cap_iff.mp z
    omega
  simpa using n
theorem placeL_good {A D : List Nat} (g : Good A D) : placeL (A ++ D) = some (digitsVal D, colV A) := by
  unfold placeL
  rw [g.cut.1, g.cut.2, if_pos ⟨⟨⟨g.a0, g.a1⟩, g.d0, g.d1⟩, List.all_eq_true.mpr g.dd, g.dh⟩]
theorem placeL_inv {l : List Nat} {p : Nat × Nat} (h : placeL l = some p) : ∃ A D, l = A ++ D ∧ Good A D ∧ p = (digitsVal D, colV A) := by
  unfold placeL at h
  split at h
  · rename_i c
    cases h
    exact ⟨_, _, List.takeWhile_append_dropWhile.symm, ⟨c.1.1.1, c.1.1.2, fun c hc => mem_tw hc, c.1.2.1, c.1.2.2, List.all_eq_true.mp c.2.1, c.2.2⟩, rfl⟩
  · cases h
/-- the digits at the end -/
def lastD (l : List Nat) : List Nat := (l.reverse.takeWhile dig).reverse
theorem rst_app (l : List Nat) : rst dig l ++ lastD l = l := by
  unfold rst lastD
  rw [← List.reverse_append, List.takeWhile_append_dropWhile, List.reverse_reverse]
theorem lastD_dig {l : List Nat} : ∀ c ∈ lastD l, dig c = true := fun c hc => mem_tw (List.mem_reverse.mp hc)
theorem Good.rst {A D : List Nat} (g : Good A D) : Pv.rst dig (A ++ D) = A ∧ lastD (A ++ D) = D := by
  have k := tw_app (p := dig) (A := D.reverse) (D := A.reverse) (fun c hc => g.dd c (List.mem_reverse.mp hc)) fun c h => by
    have hc : c ∈ A := List.mem_reverse.mp (List.mem_of_head? h)
    have := cap_iff.mp (g.ac c hc)
    have n : ¬ dig c = true := fun z => by
      have := dig_iff.mp z
      omega
    simpa using n
  unfold Pv.rst lastD
  rw [List.reverse_append, k.1, k.2, List.reverse_reverse, List.reverse_reverse]
  exact ⟨rfl, rfl⟩
theorem drop_rst (l : List Nat) : l.drop (rst dig l).length = lastD l := by
  conv => lhs; rw [← rst_app l]
  rw [show (rst dig (rst dig l ++ lastD l)) = rst dig l by rw [rst_app]]
  exact List.drop_left
/-- what the program asks -/
theorem placeL_rst {l : List Nat} (h : placeL l = none) : ¬ (((1 ≤ (lastD l).length ∧ (lastD l).length ≤ 4) ∧ (lastD l).head? ≠ some 48) ∧ (1 ≤ (rst dig l).length ∧ (rst dig l).length ≤ 2) ∧ (rst dig l).all cap = true) := fun ⟨⟨⟨h1, h2⟩, h3⟩, ⟨h4, h5⟩, h6⟩ => by
  have g : Good (rst dig l) (lastD l) := ⟨h4, h5, List.all_eq_true.mp h6, h1, h2, fun c hc => lastD_dig c hc, h3⟩
  have := placeL_good g
  rw [rst_app, h] at this
  cases this
theorem colV_lt {A : List Nat} (h0 : 1 ≤ A.length) (h1 : A.length ≤ 2) (hc : ∀ c ∈ A, cap c = true) : 1 ≤ colV A ∧ colV A ≤ 702 ∧ colL (colV A) = A := by
  match A, h0, h1 with
  | [a], _, _ =>
    have := cap_iff.mp (hc a (by simp))
    have e : colV [a] = a - 64 := by simp [colV]
    rw [e]
    refine ⟨by omega, by omega, ?_⟩
    unfold colL
    rw [if_pos (by omega)]
    congr 1
    omega
  | [a, b], _, _ =>
    have := cap_iff.mp (hc a (by simp))
    have := cap_iff.mp (hc b (by simp))
    have e : colV [a, b] = 26 * (a - 64) + (b - 64) := by simp [colV]
    rw [e]
    refine ⟨by omega, by omega, ?_⟩
    unfold colL
    rw [if_neg (by omega)]
    have e1 : 64 + (26 * (a - 64) + (b - 64) - 1) / 26 = a := by omega
    have e2 : 65 + (26 * (a - 64) + (b - 64) - 1) % 26 = b := by omega
    rw [e1, e2]
theorem colL_ok {n : Nat} (h0 : 1 ≤ n) (h1 : n ≤ 702) : 1 ≤ (colL n).length ∧ (colL n).length ≤ 2 ∧ (∀ c ∈ colL n, cap c = true) ∧ colV (colL n) = n := by
  unfold colL
  split
  · refine ⟨by simp, by simp, fun c hc => ?_, ?_⟩
    · have : c = 64 + n := by simpa using hc
      exact cap_iff.mpr (by omega)
    · simp [colV]
  · refine ⟨by simp, by simp, fun c hc => ?_, ?_⟩
    · have : c = 64 + (n - 1) / 26 ∨ c = 65 + (n - 1) % 26 := by simpa using hc
      exact cap_iff.mpr (by omega)
    · simp [colV]
      omega
theorem numL_head : ∀ n : Nat, 1 ≤ n → (numL n).head? ≠ some 48 := by
  intro n
  induction n using Nat.strongRecOn with
  | _ n ih =>
    intro h
    by_cases hn : n < 10
    · rw [numL_lt hn]
      simp
      omega
    · rw [numL_step (by omega)]
      have := ih (n / 10) (by omega) (by omega)
      cases e : numL (n / 10) with
      | nil => exact absurd e (numL_ne _)
      | cons a r =>
        rw [e] at this
        simpa using this
theorem num_good {r : Nat} (h0 : 1 ≤ r) (h1 : r ≤ 9999) : 1 ≤ (numL r).length ∧ (numL r).length ≤ 4 ∧ (∀ c ∈ numL r, dig c = true) ∧ (numL r).head? ≠ some 48 := by
  refine ⟨?_, numL_len (by decide) (by omega), fun c hc => dig_iff.mpr (numL_digits r c hc), numL_head r h0⟩
  cases e : numL r with
  | nil => exact absurd e (numL_ne r)
  | cons a l => simp
theorem name_good {r c : Nat} (h0 : 1 ≤ r) (h1 : r ≤ 9999) (h2 : 1 ≤ c) (h3 : c ≤ 702) : Good (colL c) (numL r) := by
  obtain ⟨a0, a1, ac, _⟩ := colL_ok h2 h3
  obtain ⟨d0, d1, dd, dh⟩ := num_good h0 h1
  exact ⟨a0, a1, ac, d0, d1, dd, dh⟩
theorem name_place {r c : Nat} (h0 : 1 ≤ r) (h1 : r ≤ 9999) (h2 : 1 ≤ c) (h3 : c ≤ 702) : placeL (colL c ++ numL r) = some (r, c) := by
  rw [placeL_good (name_good h0 h1 h2 h3), numL_val, (colL_ok h2 h3).2.2.2]
theorem val_bound : ∀ {D : List Nat}, (∀ c ∈ D, dig c = true) → ∀ a, D.foldl (fun acc c => acc * 10 + (c - 48)) a ≤ (a + 1) * 10 ^ D.length - 1 ∧ a * 10 ^ D.length ≤ D.foldl (fun acc c => acc * 10 + (c - 48)) a
  | [], _, a => by simp
  | c :: D, h, a => by
    have hc := dig_iff.mp (h c (by simp))
    obtain ⟨k1, k2⟩ := val_bound (D := D) (fun d hd => h d (List.mem_cons_of_mem _ hd)) (a * 10 + (c - 48))
    rw [List.foldl_cons, List.length_cons, Nat.pow_succ]
    have e1 : (a * 10 + (c - 48) + 1) * 10 ^ D.length ≤ (a + 1) * (10 ^ D.length * 10) := by
      rw [show (a + 1) * (10 ^ D.length * 10) = ((a + 1) * 10) * 10 ^ D.length by rw [Nat.mul_comm (10 ^ D.length) 10, Nat.mul_assoc]]
      exact Nat.mul_le_mul_right _ (by omega)
    have e2 : a * (10 ^ D.length * 10) ≤ (a * 10 + (c - 48)) * 10 ^ D.length := by
      rw [show a * (10 ^ D.length * 10) = (a * 10) * 10 ^ D.length by rw [Nat.mul_comm (10 ^ D.length) 10, Nat.mul_assoc]]
      exact Nat.mul_le_mul_right _ (by omega)
    exact ⟨by omega, by omega⟩
theorem Good.row {A D : List Nat} (g : Good A D) : 1 ≤ digitsVal D ∧ digitsVal D ≤ 9999 := by
  have hb := (val_bound g.dd 0).1
  have hp : 10 ^ D.length ≤ 10 ^ 4 := Nat.pow_le_pow_right (by decide) g.d1
  have e : digitsVal D = D.foldl (fun acc c => acc * 10 + (c - 48)) 0 := rfl
  refine ⟨?_, by rw [e]; omega⟩
  cases hD : D with
  | nil =>
    have := g.d0
    rw [hD] at this
    cases this
  | cons c r =>
    refine digitsVal_pos ?_
    have := dig_iff.mp (g.dd c (by rw [hD]; simp))
    have n := g.dh
    rw [hD] at n
    have : c ≠ 48 := fun z => n (by rw [z]; rfl)
    omega
theorem placeL_bound {l : List Nat} {r c : Nat} (h : placeL l = some (r, c)) : 1 ≤ r ∧ r ≤ 9999 ∧ 1 ≤ c ∧ c ≤ 702 := by
  obtain ⟨A, D, _, g, e⟩ := placeL_inv h
  cases e
  have := colV_lt g.a0 g.a1 g.ac
  exact ⟨g.row.1, g.row.2, this.1, this.2.1⟩
/-- no place's name has a sign that is neither a capital letter nor a digit -/
theorem placeL_free {l : List Nat} {s : Nat} (hs : s ∈ l) (h1 : cap s = false) (h2 : dig s = false) : placeL l = none := by
  cases e : placeL l with
  | none => rfl
  | some p =>
    exfalso
    obtain ⟨A, D, rfl, g, _⟩ := placeL_inv e
    rcases List.mem_append.mp hs with h | h
    · rw [g.ac s h] at h1
      cases h1
    · rw [g.dd s h] at h2
      cases h2
theorem placeL_noCap {l : List Nat} (h : ∀ c ∈ l, cap c = false) : placeL l = none := by
  cases e : placeL l with
  | none => rfl
  | some p =>
    exfalso
    obtain ⟨A, D, rfl, g, _⟩ := placeL_inv e
    match A, g.a0 with
    | a :: A, _ =>
      have h1 := h a (by simp)
      rw [g.ac a (by simp)] at h1
      cases h1
end Pv

-- M3
set_option Elab.async false
set_option linter.all false
set_option maxRecDepth 100000
set_option maxHeartbeats 4000000
namespace Pv
open PySem SX TL NumText L2
/-! ## texts compared, measured -/
def okL (l : List Nat) : Prop := ∀ c ∈ l, c < 128
theorem okL.app {a b : List Nat} (h : okL a) (k : okL b) : okL (a ++ b) := fun c hc => (List.mem_append.mp hc).elim (h c) (k c)
theorem okL.cap {a : List Nat} (h : ∀ c ∈ a, Pv.cap c = true) : okL a := fun c hc => by
  have := cap_iff.mp (h c hc)
  omega
theorem okL.dig {a : List Nat} (h : ∀ c ∈ a, Pv.dig c = true) : okL a := fun c hc => by
  have := dig_iff.mp (h c hc)
  omega
theorem okL.sub {a b : List Nat} (h : okL b) (k : ∀ c ∈ a, c ∈ b) : okL a := fun c hc => h c (k c hc)
/-- what == may be asked of -/
def plD (d : PyData) : Bool := noDict d && SeqAt.shaped d
theorem plD_S {l : List Nat} (h : okL l) : plD (.str (S l)) = true := by
  have e : PyData.strOk (S l) = true := by
    unfold PyData.strOk
    rw [← Array.all_toList, List.all_eq_true]
    intro c hc
    have := h c hc
    exact decide_eq_true (by omega)
  have e2 : (PyData.str (S l)).canLay0 = true := e
  have e3 : PyData.depth (.str (S l)) = 0 := by rfl
  unfold plD SeqAt.shaped
  rw [e2, e3]
  rfl
theorem opC_eqP {d e : PyData} (h : plD d = true) (k : plD e = true) : opC .Eq d e = .ret (.bool (PyData.eqv d e)) := by
  unfold plD at h k
  obtain ⟨h1, h2⟩ := Bool.and_eq_true_iff.mp h
  obtain ⟨k1, k2⟩ := Bool.and_eq_true_iff.mp k
  have ee : (noDict d && noDict e && SeqAt.shaped d && SeqAt.shaped e) = true := by rw [h1, h2, k1, k2]; rfl
  have e0 : opC .Eq d e = if (noDict d && noDict e && SeqAt.shaped d && SeqAt.shaped e) = true then T.ret (.bool (PyData.eqv d e)) else .stuck := by cases d <;> cases e <;> rfl
  rw [e0, if_pos ee]
theorem opC_neP {d e : PyData} (h : plD d = true) (k : plD e = true) : opC .NotEq d e = .ret (.bool (!PyData.eqv d e)) := by
  unfold plD at h k
  obtain ⟨h1, h2⟩ := Bool.and_eq_true_iff.mp h
  obtain ⟨k1, k2⟩ := Bool.and_eq_true_iff.mp k
  have ee : (noDict d && noDict e && SeqAt.shaped d && SeqAt.shaped e) = true := by rw [h1, h2, k1, k2]; rfl
  have e0 : opC .NotEq d e = if (noDict d && noDict e && SeqAt.shaped d && SeqAt.shaped e) = true then T.ret (.bool (!PyData.eqv d e)) else .stuck := by cases d <;> cases e <;> rfl
  rw [e0, if_pos ee]
theorem eqS (a b : List Nat) : PyData.eqv (.str (S a)) (.str (S b)) = decide (a = b) := by
  have e : PyData.eqv (.str (S a)) (.str (S b)) = (S a == S b) := by rfl
  rw [e, S_beq_eq]
theorem opC_eqS {a b : List Nat} (h : okL a) (k : okL b) : opC .Eq (.str (S a)) (.str (S b)) = .ret (.bool (decide (a = b))) := by rw [opC_eqP (plD_S h) (plD_S k), eqS]
theorem opC_neS {a b : List Nat} (h : okL a) (k : okL b) : opC .NotEq (.str (S a)) (.str (S b)) = .ret (.bool (!decide (a = b))) := by rw [opC_neP (plD_S h) (plD_S k), eqS]
theorem strip_sub (l : List Nat) : ∃ l', Txt.stripChars (S l) "ABCDEFGHIJKLMNOPQRSTUVWXYZ" = S l' ∧ (∀ c ∈ l', c ∈ l) ∧ decide (l' = []) = l.all Pv.cap := by
  have e := strip_all l
  unfold Txt.stripChars at e ⊢
  rw [PyProof.Rows.stripBy_eq, tl_sub] at e ⊢
  refine ⟨_, rfl, fun c hc => List.mem_of_mem_drop (List.mem_of_mem_take hc), ?_⟩
  have e0 : (Str.empty : Str) = S [] := rfl
  rw [e0, S_beq_eq] at e
  exact e
theorem len_S {l : List Nat} (h : l.length ≤ big) : f_len [.str (S l)] = .ret (.int l.length) := by
  show (if (S l).length ≤ big then T.ret (PyData.int (S l).length) else .stuck) = _
  rw [S_len, if_pos h]
theorem lb1 : 1 ≤ big := by decide
theorem lb2 : 2 ≤ big := by decide
theorem lb3 : 3 ≤ big := by decide
theorem lb4 : 4 ≤ big := by decide
theorem lb5 : 5 ≤ big := by decide
theorem lb6 : 6 ≤ big := by decide
theorem lb7 : 7 ≤ big := by decide
theorem lb8 : 8 ≤ big := by decide
theorem lb9 : 9 ≤ big := by decide
theorem lb10 : 10 ≤ big := by decide
theorem lb11 : 11 ≤ big := by decide
theorem lb12 : 12 ≤ big := by decide
theorem emp_S : ("" : Str) = S [] := by decide +kernel
theorem zero_S : ("0" : Str) = S [48] := by decide +kernel
theorem one_S : ("1" : Str) = S [49] := by decide +kernel
theorem A_S : ("A" : Str) = S [65] := by decide +kernel
theorem Z_S : ("Z" : Str) = S [90] := by decide +kernel
theorem nine_S : ("9" : Str) = S [57] := by decide +kernel
theorem colon_S : (":" : Str) = S [58] := by decide +kernel
theorem cut_from {l : List Nat} {n : Nat} (h : l.length ≤ big) : opS (.str (S l)) (some (n : Int)) none = .ret (.str (S (l.drop n))) := by
  show (if (S l).length ≤ big then T.ret (PyData.str (cutS (S l) (some (n : Int)) none)) else .stuck) = _
  rw [S_len, if_pos h]
  have e : cutS (S l) (some (n : Int)) none = S (l.drop n) := by
    unfold cutS
    rw [S_len, HT.sIx_nat, HT.sIx_none]
    show S ((l.drop (min n l.length)).take (l.length - min n l.length)) = _
    rw [List.take_of_length_le (by simp)]
    by_cases hn : n ≤ l.length
    · rw [Nat.min_eq_left hn]
    · rw [Nat.min_eq_right (by omega), List.drop_eq_nil_of_le (by omega), List.drop_eq_nil_of_le (by omega)]
  rw [e]
theorem cut_to {l : List Nat} {n : Nat} (h : l.length ≤ big) : opS (.str (S l)) none (some (n : Int)) = .ret (.str (S (l.take n))) := by
  show (if (S l).length ≤ big then T.ret (PyData.str (cutS (S l) none (some (n : Int)))) else .stuck) = _
  rw [S_len, if_pos h]
  have e : cutS (S l) none (some (n : Int)) = S (l.take n) := by
    unfold cutS
    rw [S_len, HT.sIx_nat, HT.sIx_none]
    show S ((l.drop 0).take (min n l.length - 0)) = _
    rw [List.drop_zero, Nat.sub_zero]
    by_cases hn : n ≤ l.length
    · rw [Nat.min_eq_left hn]
    · rw [Nat.min_eq_right (by omega), List.take_of_length_le (by omega), List.take_of_length_le (by omega)]
  rw [e]
theorem at_S {l : List Nat} {n c : Nat} (h : l.length ≤ big) (e : l[n]? = some c) : Pv.opI (.str (S l)) (.int n) = .ret (.str (S [c])) := by
  obtain ⟨hn, _⟩ := List.getElem?_eq_some_iff.mp e
  have e2 : Pv.opI.atI' (S l).cps.toList (n : Int) = some c := by
    unfold Pv.opI.atI' L2.ixN
    rw [if_pos (by omega), if_pos (by show (n : Int) < ((l.length : Nat) : Int); omega)]
    exact e
  show (if (S l).length ≤ big then T.ofO ((Pv.opI.atI' (S l).cps.toList (n : Int)).map fun c => PyData.str ⟨#[c]⟩) else .stuck) = _
  rw [S_len, if_pos h, e2]
  rfl
theorem cat_S {a b : List Nat} (h : a.length + b.length ≤ big) : opB .Add (.str (S a)) (.str (S b)) = .ret (.str (S (a ++ b))) := by
  show (if (S a).length + (S b).length ≤ big then T.ret (PyData.str (S a ++ S b)) else .stuck) = _
  rw [S_len, S_len, if_pos h, S_cat]
theorem items_S (l : List Nat) : itemsD (.str (S l)) = .ret (l.map fun c => .str (S [c])) := rfl
theorem int_D {D : List Nat} (h : ∀ c ∈ D, Pv.dig c = true) (hne : D ≠ []) (hl : D.length ≤ 640) : f_int [.str (S D)] = .ret (.int (digitsVal D)) := by
  show (if (S D).length ≤ 640 then T.ofO ((PySem.intText? (S D)).map PyData.int) else .stuck) = _
  rw [S_len, if_pos hl, int_S (List.all_eq_true.mpr fun c hc => by have := dig_iff.mp (h c hc); simp; omega) hne (by omega)]
  rfl
theorem ord_S (c : Nat) : f_ord [.str (S [c])] = .ret (.int c) := by
  show (if (S [c]).length = 1 then T.ret (PyData.int ((S [c]).cps.getD 0 0 : Nat)) else .stuck) = _
  rw [S_len, if_pos (show ([c] : List Nat).length = 1 from rfl)]
  rfl
theorem lt_one (a b : Nat) : decide (([a] : List Nat) < [b]) = decide (a < b) := by
  rw [decide_eq_decide]
  constructor
  · intro h
    rcases List.cons_lt_cons_iff.mp h with h | ⟨_, h⟩
    · exact h
    · exact absurd h (List.not_lt_nil _)
  · intro h
    exact List.cons_lt_cons_iff.mpr (.inl h)
theorem opC_leS {a b : Nat} : opC .LtE (.str (S [a])) (.str (S [b])) = .ret (.bool (decide (a ≤ b))) := by
  show T.ret (PyData.bool (!decide (([b] : List Nat) < [a]))) = _
  rw [lt_one]
  congr 2
  by_cases h : a ≤ b
  · rw [decide_eq_true h, decide_eq_false (by omega)]
    rfl
  · rw [decide_eq_false h, decide_eq_true (by omega)]
    rfl
/-- a capital letter's number among all -/
theorem idx_caps : ∀ n, n < 26 → Builtin.Str.occurrences ("ABCDEFGHIJKLMNOPQRSTUVWXYZ" : Str) (S [65 + n]) 0 ("ABCDEFGHIJKLMNOPQRSTUVWXYZ" : Str).length 1 = [n] := by decide +kernel
end Pv

-- M4
set_option Elab.async false
set_option linter.all false
set_option maxRecDepth 100000
set_option maxHeartbeats 4000000
namespace Pv
open PySem SX L2
/-! ## runs with picks -/
/-- t ends well with at most n picks -/
structure Ok {α : Type} (t : T α) (n : Nat) (Q : α → Prop) : Prop where
  run : ∀ b, n ≤ b → T.wp t b (fun a c => b ≤ c + n ∧ Q a) (fun _ _ => False)
section
variable {α β : Type} {t : T α} {n k : Nat} {Q R : α → Prop}
theorem ok_ret {a : α} (h : Q a) : Ok (.ret a) n Q := ⟨fun b _ => ⟨by omega, h⟩⟩
theorem ok_mono (h : Ok t n Q) (hn : n ≤ k) (hq : ∀ a, Q a → R a) : Ok t k R := ⟨fun b hb => T.wp_mono (h.run b (by omega)) (fun a c _ q => ⟨by omega, hq a q.2⟩) fun _ _ _ e => e⟩
theorem ok_pick {m : Int} {f : Int → T α} (h : ∀ i, 0 ≤ i → i < m → Ok (f i) n Q) : Ok (.pick m f) (n + 1) Q := ⟨fun b hb => by
  cases b with
  | zero => omega
  | succ b => exact fun i h0 h1 => T.wp_mono ((h i h0 h1).run b (by omega)) (fun a c _ q => ⟨by omega, q.2⟩) fun _ _ _ e => e⟩
theorem ok_bind {f : α → T β} {S : β → Prop} (h : Ok t n Q) (hf : ∀ a, Q a → Ok (f a) k S) : Ok (T.bind t f) (n + k) S := ⟨fun b hb => T.wp_bind.mpr (T.wp_mono (h.run b (by omega)) (fun a c _ q => T.wp_mono ((hf a q.2).run c (by omega)) (fun a' c' _ q' => ⟨by omega, q'.2⟩) fun _ _ _ e => e) fun _ _ _ e => e)⟩
theorem ok_wp {b : Nat} (h : Ok t n Q) (hn : n ≤ b) : T.wp t b (fun a _ => Q a) (fun _ _ => False) := T.wp_mono (h.run b hn) (fun _ _ _ q => q.2) fun _ _ _ e => e
theorem bind_pick {m : Int} {f : Int → T α} {g : α → T β} : T.bind (.pick m f) g = .pick m fun i => T.bind (f i) g := rfl
theorem noRaise_ret {a : α} : noRaise (.ret a) = .ret a := rfl
/-- a for, by an invariant over the turns -/
theorem ok_for {step : PyData → En → T Out} {I : Nat → En → Prop} {N : Nat} (hs : ∀ k d ρ, k < N → I k ρ → Ok (step d ρ) n fun o => ∃ ρ', o = .nx ρ' ∧ I (k + 1) ρ') : ∀ (ds : List PyData) (k : Nat) (ρ : En), k + ds.length ≤ N → I k ρ → Ok (forL step ds ρ) (n * ds.length) fun o => ∃ ρ', o = .nx ρ' ∧ I (k + ds.length) ρ'
  | [], k, ρ, _, h => ok_ret ⟨ρ, rfl, h⟩
  | d :: r, k, ρ, hk, h => by
    rw [List.length_cons] at hk
    refine ok_mono (ok_bind (k := n * r.length) (hs k d ρ (by omega) h) (S := fun o => ∃ ρ', o = Out.nx ρ' ∧ I (k + 1 + r.length) ρ') fun o ho => ?_) (by rw [List.length_cons, Nat.mul_succ]; omega) fun o ho => ?_
    · obtain ⟨ρ', rfl, h'⟩ := ho
      exact ok_for hs r (k + 1) ρ' (by omega) h'
    · obtain ⟨ρ', e, h'⟩ := ho
      exact ⟨ρ', e, by rw [List.length_cons, show k + (r.length + 1) = k + 1 + r.length by omega]; exact h'⟩
theorem ok_forIn {step : PyData → En → T Out} {I : En → Prop} {D : PyData → Prop} (hs : ∀ d ρ, D d → I ρ → Ok (step d ρ) n fun o => ∃ ρ', o = .nx ρ' ∧ I ρ') : ∀ (ds : List PyData) (ρ : En), (∀ d ∈ ds, D d) → I ρ → Ok (forL step ds ρ) (n * ds.length) fun o => ∃ ρ', o = .nx ρ' ∧ I ρ'
  | [], ρ, _, h => ok_ret ⟨ρ, rfl, h⟩
  | d :: r, ρ, hd, h => by
    refine ok_mono (ok_bind (k := n * r.length) (hs d ρ (hd d (by simp)) h) (S := fun o => ∃ ρ', o = Out.nx ρ' ∧ I ρ') fun o ho => ?_) (by rw [List.length_cons, Nat.mul_succ]; omega) fun o ho => ho
    obtain ⟨ρ', rfl, h'⟩ := ho
    exact ok_forIn hs r ρ' (fun x hx => hd x (List.mem_cons_of_mem _ hx)) h'
theorem dig_at {m : Int} (h0 : 0 < m) (h1 : m < 1073741824) : digM [drawD, .int m] = .pick m fun i => T.ret (PyData.int i) := by
  have e : isDr drawD = true := rfl
  show (if isDr drawD = true ∧ 0 < m ∧ m < 1073741824 then T.pick m (fun i => T.ret (PyData.int i)) else .stuck) = _
  rw [if_pos ⟨e, h0, h1⟩]
end
theorem opC_ltI {i j : Int} : opC .Lt (.int i) (.int j) = .ret (.bool (decide (i < j))) := rfl
theorem opC_gtI {i j : Int} : opC .Gt (.int i) (.int j) = .ret (.bool (decide (j < i))) := rfl
theorem fdiv_at {i j : Int} (h0 : 0 < j) (h1 : j < 1073741824) : opB .FloorDiv (.int i) (.int j) = .ret (.int (i / j)) := by
  show (if 0 < j ∧ j < 1073741824 then T.ret (PyData.int (i / j)) else .stuck) = _
  rw [if_pos ⟨h0, h1⟩]
theorem mod_at {i j : Int} (h0 : 0 < j) : opB .Mod (.int i) (.int j) = .ret (.int (i % j)) := by
  show (if 0 < j then T.ret (PyData.int (i % j)) else .stuck) = _
  rw [if_pos h0]
theorem mul_at {i j : Int} (h0 : -(2 ^ 64) < i) (h1 : i < 2 ^ 64) : opB .Mult (.int i) (.int j) = .ret (.int (i * j)) := by
  show (if (-(2 ^ 64) < i ∧ i < 2 ^ 64) ∨ (-(2 ^ 64) < j ∧ j < 2 ^ 64) then T.ret (PyData.int (i * j)) else .stuck) = _
  rw [if_pos (.inl ⟨h0, h1⟩)]
theorem at_L {xs : List PyData} {i : Int} {d : PyData} (h0 : 0 ≤ i) (e : xs[i.toNat]? = some d) : Pv.opI (.list xs) (.int i) = .ret d := by
  obtain ⟨hn, _⟩ := List.getElem?_eq_some_iff.mp e
  show T.ofO (Pv.opI.atI' xs i) = _
  unfold Pv.opI.atI' L2.ixN
  rw [if_pos h0, if_pos (by omega)]
  simp only [Option.bind_some, e]
  rfl
theorem at_T {xs : List PyData} {i : Int} {d : PyData} (h0 : 0 ≤ i) (e : xs[i.toNat]? = some d) : Pv.opI (.tuple xs) (.int i) = .ret d := by
  obtain ⟨hn, _⟩ := List.getElem?_eq_some_iff.mp e
  show T.ofO (Pv.opI.atI' xs i) = _
  unfold Pv.opI.atI' L2.ixN
  rw [if_pos h0, if_pos (by omega)]
  simp only [Option.bind_some, e]
  rfl
/-- a sign of a text, by a number -/
theorem at_SI {l : List Nat} {i : Int} {c : Nat} (h : l.length ≤ big) (h0 : 0 ≤ i) (e : l[i.toNat]? = some c) : Pv.opI (.str (S l)) (.int i) = .ret (.str (S [c])) := by
  obtain ⟨n, rfl⟩ := Int.eq_ofNat_of_zero_le h0
  exact at_S h e
end Pv

-- M5
set_option maxRecDepth 100000
set_option maxHeartbeats 4000000
set_option linter.all false
namespace Pv
open PySem SX L2
/-! ## what may be printed, and its print compared -/
structure Sk (d : PyData) (k n : Nat) : Prop where
  nd : noDict d = true
  sh : d.showable = true
  dp : d.depth ≤ k
  ln : d.shown.length ≤ n
  ok : ∀ c ∈ d.shown.cps.toList, c < 0x110000
def skB (k n : Nat) (d : PyData) : Bool := noDict d && d.showable && decide (d.depth ≤ k) && decide (d.shown.length ≤ n) && PyData.strOk d.shown
theorem strOk_iff {x : Str} : PyData.strOk x = true ↔ ∀ c ∈ x.cps.toList, c < 0x110000 := by
  unfold PyData.strOk
  rw [← Array.all_toList, List.all_eq_true]
  exact ⟨fun h c hc => of_decide_eq_true (h c hc), fun h c hc => decide_eq_true (h c hc)⟩
theorem sk_of {k n : Nat} {d : PyData} (h : skB k n d = true) : Sk d k n := by
  unfold skB at h
  simp only [Bool.and_eq_true, decide_eq_true_eq] at h
  obtain ⟨⟨⟨⟨h1, h2⟩, h3⟩, h4⟩, h5⟩ := h
  exact ⟨h1, h2, h3, h4, strOk_iff.mp h5⟩
theorem sk_all {k n : Nat} {ds : List PyData} (h : ds.all (skB k n) = true) : ∀ d ∈ ds, Sk d k n := fun d hd => sk_of (List.all_eq_true.mp h d hd)
theorem noDicts_of : ∀ {xs : List PyData}, (∀ x ∈ xs, noDict x = true) → noDicts xs = true
  | [], _ => rfl
  | x :: xs, h => by
    show (noDict x && noDicts xs) = true
    rw [h x List.mem_cons_self, noDicts_of fun y hy => h y (List.mem_cons_of_mem _ hy)]
    rfl
theorem showableAll_of : ∀ {xs : List PyData}, (∀ x ∈ xs, x.showable = true) → PyData.showableAll xs = true
  | [], _ => by rw [PyData.showableAll]
  | x :: xs, h => by
    rw [PyData.showableAll, h x List.mem_cons_self, showableAll_of fun y hy => h y (List.mem_cons_of_mem _ hy)]
    rfl
theorem depthAll_of {k : Nat} : ∀ {xs : List PyData}, (∀ x ∈ xs, x.depth ≤ k) → PyData.depthAll xs ≤ k
  | [], _ => by rw [PyData.depthAll]; exact Nat.zero_le _
  | x :: xs, h => by
    rw [PyData.depthAll]
    exact Nat.max_le.mpr ⟨h x List.mem_cons_self, depthAll_of fun y hy => h y (List.mem_cons_of_mem _ hy)⟩
theorem sum_le {n : Nat} : ∀ {ts : List Str}, (∀ t ∈ ts, t.length ≤ n) → (ts.map (·.length)).sum ≤ n * ts.length
  | [], _ => by simp
  | t :: ts, h => by
    have h1 := h t List.mem_cons_self
    have h2 := sum_le (n := n) (ts := ts) fun y hy => h y (List.mem_cons_of_mem _ hy)
    simp only [List.map_cons, List.sum_cons, List.length_cons, Nat.mul_add, Nat.mul_one]
    omega
theorem join_le {n : Nat} {xs : List PyData} (h : ∀ x ∈ xs, x.shown.length ≤ n) : (Str.join ", " (PyData.shownAll xs)).length ≤ (n + 2) * xs.length := by
  have e := PyProof.Rows.shownAll_eq_map xs
  have k := StrLaws.join_length_le ", " (PyData.shownAll xs)
  rw [e] at k ⊢
  have s := sum_le (n := n) (ts := xs.map PyData.shown) fun t ht => by
    obtain ⟨x, hx, rfl⟩ := List.mem_map.mp ht
    exact h x hx
  rw [List.length_map] at s k
  have e2 : (", " : Str).length = 2 := by decide +kernel
  rw [e2] at k
  rw [Nat.add_mul]
  omega
theorem join_ok {xs : List PyData} (h : ∀ x ∈ xs, ∀ c ∈ x.shown.cps.toList, c < 0x110000) : ∀ c ∈ (Str.join ", " (PyData.shownAll xs)).cps.toList, c < 0x110000 := fun c hc => by
  rw [PyProof.Rows.mem_join] at hc
  rcases hc with ⟨t, ht, hc⟩ | ⟨_, hc⟩
  · rw [PyProof.Rows.shownAll_eq_map] at ht
    obtain ⟨x, hx, rfl⟩ := List.mem_map.mp ht
    exact h x hx c hc
  · have e2 : (", " : Str).cps.toList = [44, 32] := by decide +kernel
    rw [e2] at hc
    simp at hc
    omega
theorem mem_app3 {a b c : Str} {x : Nat} (h : x ∈ (a ++ b ++ c).cps.toList) : x ∈ a.cps.toList ∨ x ∈ b.cps.toList ∨ x ∈ c.cps.toList := by
  rw [PyProof.Rows.mem_cps_append, PyProof.Rows.mem_cps_append] at h
  rcases h with (h | h) | h
  · exact .inl h
  · exact .inr (.inl h)
  · exact .inr (.inr h)
theorem Sk.list {xs : List PyData} {k n : Nat} (h : ∀ x ∈ xs, Sk x k n) : Sk (.list xs) (k + 1) ((n + 2) * xs.length + 2) := by
  refine ⟨noDicts_of fun x hx => (h x hx).nd, ?_, ?_, ?_, fun c hc => ?_⟩
  · rw [PyData.showable]
    exact showableAll_of fun x hx => (h x hx).sh
  · rw [PyData.depth]
    exact Nat.succ_le_succ (depthAll_of fun x hx => (h x hx).dp)
  · have k2 := join_le fun x hx => (h x hx).ln
    have e1 : ("[" : Str).length = 1 := by decide +kernel
    have e2 : ("]" : Str).length = 1 := by decide +kernel
    rw [PyData.shown_list, Str.length_append, Str.length_append, e1, e2]
    omega
  · rw [PyData.shown_list] at hc
    have e1 : ("[" : Str).cps.toList = [91] := by decide +kernel
    have e2 : ("]" : Str).cps.toList = [93] := by decide +kernel
    rcases mem_app3 hc with hc | hc | hc
    · rw [e1] at hc; simp at hc; omega
    · exact join_ok (fun x hx => (h x hx).ok) c hc
    · rw [e2] at hc; simp at hc; omega
theorem Sk.tup {xs : List PyData} {k n : Nat} (h : ∀ x ∈ xs, Sk x k n) : Sk (.tuple xs) (k + 1) ((n + 2) * xs.length + 3) := by
  have e2 : ∀ b : Bool, ((if b then ",)" else ")" : String) : Str).length ≤ 2 ∧ ∀ c ∈ ((if b then ",)" else ")" : String) : Str).cps.toList, c < 0x110000 := by decide +kernel
  refine ⟨noDicts_of fun x hx => (h x hx).nd, ?_, ?_, ?_, fun c hc => ?_⟩
  · rw [PyData.showable]
    exact showableAll_of fun x hx => (h x hx).sh
  · rw [PyData.depth]
    exact Nat.succ_le_succ (depthAll_of fun x hx => (h x hx).dp)
  · have k2 := join_le fun x hx => (h x hx).ln
    have e1 : ("(" : Str).length = 1 := by decide +kernel
    rw [PyData.shown_tuple, Str.length_append, Str.length_append, e1]
    have := (e2 (xs.length == 1)).1
    omega
  · rw [PyData.shown_tuple] at hc
    have e1 : ("(" : Str).cps.toList = [40] := by decide +kernel
    rcases mem_app3 hc with hc | hc | hc
    · rw [e1] at hc; simp at hc; omega
    · exact join_ok (fun x hx => (h x hx).ok) c hc
    · exact (e2 _).2 c hc
theorem Sk.mono {d : PyData} {k n k' n' : Nat} (h : Sk d k n) (hk : k ≤ k') (hn : n ≤ n') : Sk d k' n' := ⟨h.nd, h.sh, Nat.le_trans h.dp hk, Nat.le_trans h.ln hn, h.ok⟩
theorem Sk.rep {d : PyData} {k n : Nat} (h : Sk d k n) (hk : k ≤ 60) (hn : n ≤ big) : f_repr [d] = .ret (.str d.shown) := by
  show (if ((noDict d || tupE d) && d.showable && decide (d.depth ≤ 60) && decide (d.shown.length ≤ big)) = true then T.ret (PyData.str d.shown) else .stuck) = _
  rw [if_pos]
  rw [h.nd, h.sh, decide_eq_true (Nat.le_trans h.dp hk), decide_eq_true (Nat.le_trans h.ln hn)]
  rfl
theorem plD_str {x : Str} (h : PyData.strOk x = true) : plD (.str x) = true := by
  have e2 : (PyData.str x).canLay0 = true := h
  have e3 : PyData.depth (.str x) = 0 := by rfl
  unfold plD SeqAt.shaped
  rw [e2, e3]
  rfl
theorem eqv_str (x : Str) : PyData.eqv (.str x) (.str x) = true := by
  show (x == x) = true
  exact beq_self_eq_true x
theorem Sk.ne {d : PyData} {k n : Nat} (h : Sk d k n) : opC .NotEq (.str d.shown) (.str d.shown) = .ret (.bool false) := by
  rw [opC_neP (plD_str (strOk_iff.mpr h.ok)) (plD_str (strOk_iff.mpr h.ok)), eqv_str]
  rfl
theorem Sk.eq {d : PyData} {k n : Nat} (h : Sk d k n) : opC .Eq (.str d.shown) (.str d.shown) = .ret (.bool true) := by
  rw [opC_eqP (plD_str (strOk_iff.mpr h.ok)) (plD_str (strOk_iff.mpr h.ok)), eqv_str]
end Pv

-- M6
set_option maxRecDepth 100000
set_option maxHeartbeats 4000000
set_option linter.all false
namespace Pv
open PySem L2
/-! ## running a reading: piles; every way through -/
theorem appR_at {k m : Nat} {fe : FE} {ρ : En} {xs : List PyData} (h : ρ[k]? = some (some (.list xs))) : appR k fe m ρ = T.bind (fe ρ) fun d => if xs.length < big then .ret (.nx (ρ.set k (some (.list (xs ++ [d]))))) else .stuck := by
  unfold appR
  rw [h]
theorem viewF_at {α : Type} {i k : Nat} {f : En → T α} {ρ : En} {d : PyData} (h : ρ[k]? = some (some d)) : viewF i k f ρ = f ((ρ.set i (some d)).set k none) := by
  unfold viewF
  rw [h]
theorem viewF_no {α : Type} {i k : Nat} {f : En → T α} {ρ : En} (h : ρ[k]? = some none) : viewF i k f ρ = f ρ := by
  unfold viewF
  rw [h]
theorem bind_id {α : Type} : ∀ {t : T α}, (T.bind t fun a => .ret a) = t
  | .ret _ => rfl
  | .err _ => rfl
  | .pick n f => congrArg (T.pick n) (funext fun i => bind_id)
  | .stuck => rfl
def runAll : Nat → T PyData → Bool
  | _, .ret (.bool b) => b
  | k + 1, .pick n f => (List.range n.toNat).all fun i => runAll k (f (i : Int))
  | _, _ => false
theorem runAll_ok : ∀ (k : Nat) (t : T PyData), runAll k t = true → Ok t k fun d => d = .bool true
  | k, .ret d, h => ok_ret (by
    cases d with
    | bool b => cases k <;> exact congrArg PyData.bool h
    | _ => cases k <;> cases h)
  | k, .err e, h => by cases k <;> cases h
  | k, .stuck, h => by cases k <;> cases h
  | 0, .pick n f, h => by cases h
  | k + 1, .pick n f, h => ok_pick fun i h0 h1 => by
    have := List.all_eq_true.mp h i.toNat (List.mem_range.mpr (by omega))
    rw [Int.toNat_of_nonneg h0] at this
    exact runAll_ok k _ this
theorem map_at {α β : Type} {f g : α → β} : ∀ {ds : List α}, ds.map f = ds.map g → ∀ d ∈ ds, f d = g d
  | [], _, _, h => by cases h
  | a :: ds, e, d, h => by
    rw [List.map_cons, List.map_cons, List.cons.injEq] at e
    rcases List.mem_cons.mp h with rfl | h
    · exact e.1
    · exact map_at e.2 d h
end Pv

-- M7
set_option linter.all false
set_option maxRecDepth 100000
set_option maxHeartbeats 4000000
namespace Pv
open PySem SX TL L2 PySem.Builtin PySem.Builtin.Str
/-! ## join, replace, split, on rows of signs -/
def jn (z : List Nat) : List (List Nat) → List Nat
  | [] => []
  | [p] => p
  | p :: q :: r => p ++ (z ++ jn z (q :: r))
theorem glueL_jn (z : List Nat) : ∀ (p : List Nat) (r : List (List Nat)), p ++ StrLaws.glueL z (r.map S) = jn z (p :: r)
  | p, [] => by
    show p ++ [] = p
    simp
  | p, q :: r => by
    have ih := glueL_jn z q r
    show p ++ (z ++ (q ++ StrLaws.glueL z (r.map S))) = p ++ (z ++ jn z (q :: r))
    rw [ih]
theorem ext_S {x : Str} {l : List Nat} (h : x.cps.toList = l) : x = S l := by
  cases x
  subst h
  simp [S]
theorem join_S (z : List Nat) : ∀ ls : List (List Nat), Txt.join (S z) (ls.map S) = S (jn z ls)
  | [] => by rfl
  | p :: r => by
    apply ext_S
    have e := StrLaws.glued_list (S z) (S p) (r.map S)
    show (glued (S z) (S p :: r.map S)).cps.toList = _
    rw [e]
    exact glueL_jn z p r
theorem txts_S : ∀ ls : List (List Nat), txtsD (ls.map fun l => .str (S l)) = some (ls.map S)
  | [] => rfl
  | p :: r => by
    show (txtsD (r.map fun l => PyData.str (S l))).map (fun as => S p :: as) = _
    rw [txts_S r]
    rfl
theorem joinS_S {z : List Nat} {ls : List (List Nat)} (h : (ls.map List.length).sum + ls.length * z.length ≤ 16777216) : joinS (S z) (ls.map fun l => .str (S l)) = .ret (.str (S (jn z ls))) := by
  unfold joinS
  rw [txts_S]
  have e : ((ls.map S).map (·.length)).sum = (ls.map List.length).sum := by
    rw [List.map_map]
    rfl
  show (if ((ls.map S).map (·.length)).sum + (ls.map S).length * (S z).length ≤ 16777216 then T.ret (PyData.str (Txt.join (S z) (ls.map S))) else .stuck) = _
  rw [e, List.length_map, S_len, if_pos h, join_S]
theorem jn_one : ∀ l : List Nat, jn [] (l.map fun c => [c]) = l
  | [] => rfl
  | [c] => rfl
  | c :: d :: r => by
    have ih := jn_one (d :: r)
    show [c] ++ ([] ++ jn [] ((d :: r).map fun c => [c])) = _
    rw [ih]
    rfl
theorem sum_one : ∀ l : List Nat, ((l.map fun c => [c]).map List.length).sum = l.length
  | [] => rfl
  | c :: r => by
    simp only [List.map_cons, List.sum_cons, List.length_cons, List.length_nil, sum_one r]
    omega
/-- a sign replaced by a text -/
def rp (c : Nat) (z : List Nat) (l : List Nat) : List Nat := l.flatMap fun d => if d = c then z else [d]
theorem replL_one (c : Nat) (z : List Nat) : ∀ l : List Nat, StrLaws.replL [c] z l = rp c z l
  | [] => StrLaws.replL_nil
  | d :: r => by
    have ih := replL_one c z r
    by_cases h : d = c
    · subst h
      rw [StrLaws.replL_hit (by simp) (by simp)]
      show z ++ StrLaws.replL [d] z r = _
      rw [ih]
      simp [rp]
    · rw [StrLaws.replL_miss (by simpa using h), ih]
      simp [rp, h]
theorem replace_S (l : List Nat) (c : Nat) (z : List Nat) : Txt.replace (S l) (S [c]) (S z) = S (rp c z l) := by
  apply ext_S
  rw [StrLaws.replace_list (by show 1 ≤ 1; omega)]
  exact replL_one c z l
theorem strJoin_S (z : List Nat) : ∀ ls : List (List Nat), Str.join (S z) (ls.map S) = S (jn z ls)
  | [] => rfl
  | [p] => rfl
  | p :: q :: r => by
    have ih := strJoin_S z (q :: r)
    show S p ++ S z ++ Str.join (S z) ((q :: r).map S) = _
    rw [ih, S_cat, S_cat, List.append_assoc]
    rfl
theorem cut_inj {c : Nat} : ∀ {p q X Y : List Nat}, c ∉ p → c ∉ q → p ++ c :: X = q ++ c :: Y → p = q ∧ X = Y
  | [], [], X, Y, _, _, h => ⟨rfl, by simpa using h⟩
  | [], b :: q, X, Y, _, hq, h => by
    have h' : c = b ∧ X = q ++ c :: Y := by simpa using h
    exact absurd (by rw [h'.1]; simp) hq
  | a :: p, [], X, Y, hp, _, h => by
    have h' : a = c ∧ p ++ c :: X = Y := by simpa using h
    exact absurd (by rw [h'.1]; simp) hp
  | a :: p, b :: q, X, Y, hp, hq, h => by
    have h' : a = b ∧ p ++ c :: X = q ++ c :: Y := by simpa using h
    obtain ⟨e1, e2⟩ := cut_inj (p := p) (q := q) (fun m => hp (List.mem_cons_of_mem _ m)) (fun m => hq (List.mem_cons_of_mem _ m)) h'.2
    exact ⟨by rw [h'.1, e1], e2⟩
theorem jn_inj {c : Nat} : ∀ {as bs : List (List Nat)}, as ≠ [] → bs ≠ [] → (∀ p ∈ as, c ∉ p) → (∀ p ∈ bs, c ∉ p) → jn [c] as = jn [c] bs → as = bs
  | [], _, h, _, _, _, _ => absurd rfl h
  | _ :: _, [], _, h, _, _, _ => absurd rfl h
  | [p], [q], _, _, _, _, h => by
    have : p = q := h
    rw [this]
  | [p], q :: q2 :: r, _, _, ha, _, h => by
    have h' : p = q ++ ([c] ++ jn [c] (q2 :: r)) := h
    exact absurd (by rw [h']; simp) (ha p (by simp))
  | p :: p2 :: r, [q], _, _, _, hb, h => by
    have h' : p ++ ([c] ++ jn [c] (p2 :: r)) = q := h
    exact absurd (by rw [← h']; simp) (hb q (by simp))
  | p :: p2 :: r, q :: q2 :: t, _, _, ha, hb, h => by
    have h' : p ++ c :: jn [c] (p2 :: r) = q ++ c :: jn [c] (q2 :: t) := h
    obtain ⟨e1, e2⟩ := cut_inj (ha p (by simp)) (hb q (by simp)) h'
    have ih := jn_inj (as := p2 :: r) (bs := q2 :: t) (by simp) (by simp) (fun x hx => ha x (List.mem_cons_of_mem _ hx)) (fun x hx => hb x (List.mem_cons_of_mem _ hx)) e2
    rw [e1, ih]
theorem all_S : ∀ qs : List Str, qs = (qs.map fun q => q.cps.toList).map S
  | [] => rfl
  | q :: r => by
    have e : S q.cps.toList = q := (ext_S rfl).symm
    rw [List.map_cons, List.map_cons, e, ← all_S r]
theorem split_S {c : Nat} {ls : List (List Nat)} (h0 : ls ≠ []) (h : ∀ p ∈ ls, c ∉ p) : Txt.split (S (jn [c] ls)) (S [c]) = ls.map S := by
  have e1 := StrLaws.join_split (S (jn [c] ls)) (S [c])
  have e2 := StrLaws.split_free (S (jn [c] ls)) c
  have e3 := PyProof.Rows.split_pos (S (jn [c] ls)) (S [c])
  rw [show (⟨#[c]⟩ : Str) = S [c] from rfl] at e2
  generalize Txt.split (S (jn [c] ls)) (S [c]) = qs at e1 e2 e3
  rw [all_S qs] at e1 ⊢
  rw [strJoin_S] at e1
  have e4 : jn [c] (qs.map fun q => q.cps.toList) = jn [c] ls := congrArg (fun x : Str => x.cps.toList) e1
  congr 1
  refine jn_inj (c := c) ?_ h0 (fun p hp => ?_) h e4
  · intro z
    have : qs = [] := by simpa using z
    rw [this] at e3
    simp at e3
  · obtain ⟨q, hq, rfl⟩ := List.mem_map.mp hp
    exact e2 q hq
end Pv

-- M8
set_option maxRecDepth 100000
set_option maxHeartbeats 4000000
set_option linter.all false
namespace Pv
open PySem SX TL L2 NumText
/-! ## ints printed; comprehensions; the turns of a for, one row after the other -/
theorem sk_N {e : Nat} (h : e ≤ 100000) : Sk (.int (e : Int)) 0 6 := by
  have e1 : PyData.shown (.int (e : Int)) = S (numL e) := num_S e
  have hl : (numL e).length ≤ 6 := numL_len (by decide) (by omega)
  have e2 : (PyData.int (e : Int)).showable = true := by
    unfold PyData.showable
    have h3 : (e : Int).natAbs = e := Int.natAbs_natCast e
    show decide ((e : Int).natAbs.log2 < 1920) = true
    rw [h3]
    have : e.log2 < 24 := by
      by_cases h0 : e = 0
      · subst h0
        decide
      · exact (Nat.log2_lt h0).mpr (by omega)
    exact decide_eq_true (by omega)
  refine ⟨rfl, e2, Nat.le_refl _, by rw [e1, S_len]; exact hl, fun c hc => ?_⟩
  rw [e1] at hc
  have := dig_iff.mpr (numL_digits e c (by simpa [S] using hc))
  unfold dig at this
  simp at this
  omega
theorem sk_Z {i : Int} (h0 : 0 ≤ i) (h : i ≤ 100000) : Sk (.int i) 0 6 := by
  have := sk_N (e := i.toNat) (by omega)
  rwa [show ((i.toNat : Nat) : Int) = i by omega] at this
theorem lc_map {fe : FE} {i : Nat} {ρ : En} {g : PyData → PyData} : ∀ (ds acc : List PyData), (∀ d ∈ ds, fe (ρ.set i (some d)) = .ret (g d)) → acc.length + ds.length ≤ 100000 → lcR (fun _ => T.ret true) fe (Tg.one i) ρ ds acc = .ret (.list (acc ++ ds.map g))
  | [], acc, _, _ => by
    unfold lcR
    simp
  | d :: ds, acc, h, hl => by
    rw [List.length_cons] at hl
    have hb : acc.length < big := by show _ < 100000; omega
    have e := h d (by simp)
    unfold lcR
    simp only [Tg.put, T.bind_ret, if_pos, e, hb]
    rw [lc_map ds (acc ++ [g d]) (fun x hx => h x (by simp [hx])) (by simp; omega)]
    simp
/-- a for over rows that are made of things: what is done, and what is left -/
theorem ok_each {α : Type} {n : Nat} {f : α → PyData} {step : PyData → En → T Out} {I : List α → En → Prop} {all : List α} (hs : ∀ done x left ρ, all = done ++ x :: left → I done ρ → Ok (step (f x) ρ) n fun o => ∃ ρ', o = .nx ρ' ∧ I (done ++ [x]) ρ') : ∀ (left done : List α) (ρ : En), all = done ++ left → I done ρ → Ok (forL step (left.map f) ρ) (n * left.length) fun o => ∃ ρ', o = .nx ρ' ∧ I all ρ'
  | [], done, ρ, e, h => by
    rw [List.append_nil] at e
    subst e
    exact ok_ret ⟨ρ, rfl, h⟩
  | x :: left, done, ρ, e, h => by
    refine ok_mono (ok_bind (k := n * left.length) (hs done x left ρ e h) (S := fun o => ∃ ρ', o = Out.nx ρ' ∧ I all ρ') fun o ho => ?_) (by rw [List.length_cons, Nat.mul_succ]; omega) fun o ho => ho
    obtain ⟨ρ', rfl, h'⟩ := ho
    exact ok_each hs left (done ++ [x]) ρ' (by rw [e, List.append_assoc]; rfl) h'
/-! ## what every law's main asks for -/
theorem enum_item : ∀ (ns : List Int) (k : Nat), ∀ d ∈ enumD (ns.map .int) k, ∃ (i : Nat) (c : Int), d = .tuple [.int i, .int c] ∧ i < k + ns.length
  | [], k, d, h => nomatch h
  | n :: ns, k, d, h => by
    rcases List.mem_cons.mp (show d ∈ PyData.tuple [.int (k : Nat), .int n] :: enumD (ns.map .int) (k + 1) from h) with rfl | h
    · exact ⟨k, n, rfl, by simp⟩
    · obtain ⟨i, c, e, hi⟩ := enum_item ns (k + 1) d h
      exact ⟨i, c, e, by simp; omega⟩
/-- xs[:n], of any list -/
theorem cutN (xs : List PyData) (n : Nat) : cutD xs none (some (n : Int)) = xs.take n := by
  unfold cutD
  rw [HT.sIx_none, HT.sIx_nat, List.drop_zero, Nat.sub_zero]
  by_cases h : n ≤ xs.length
  · rw [Nat.min_eq_left h]
  · rw [Nat.min_eq_right (by omega), List.take_of_length_le (Nat.le_refl _), List.take_of_length_le (by omega)]
/-- xs[n:], of any list -/
theorem cutF (xs : List PyData) (n : Nat) : cutD xs (some (n : Int)) none = xs.drop n := by
  unfold cutD
  rw [HT.sIx_none, HT.sIx_nat]
  by_cases h : n ≤ xs.length
  · rw [Nat.min_eq_left h, List.take_of_length_le (by simp)]
  · rw [Nat.min_eq_right (by omega), List.drop_of_length_le (Nat.le_refl _), List.drop_of_length_le (by omega), List.take_nil]
theorem cut_ints (ns : List Int) (n : Nat) : opS (.list (ns.map .int)) none (some (n : Int)) = .ret (.list ((ns.take n).map .int)) := by
  show T.ret (PyData.list (cutD (ns.map .int) none (some (n : Int)))) = _
  rw [cutN, List.map_take]
theorem draw_at {c k : Int} (h0 : 0 ≤ k) (h1 : k ≤ 1000000) : drawM [.int c, .int k] = .ret drawD := by
  show (if 0 ≤ k ∧ k ≤ 1000000 then T.ret drawD else .stuck) = _
  rw [if_pos ⟨h0, h1⟩]
theorem ok_noRaise {α : Type} {Q : α → Prop} {n : Nat} {t : T α} (h : Ok t n Q) : Ok (noRaise t) n Q := by
  have key : ∀ {t : T α} {b : Nat} {P : α → Nat → Prop}, T.wp t b P (fun _ _ => False) → T.wp (noRaise t) b P (fun _ _ => False) := by
    intro t
    induction t with
    | ret a => exact fun h => h
    | err e => exact fun h => h.elim
    | stuck => exact fun h => h.elim
    | pick n f ih => exact fun {b P} h => match b, h with
      | b + 1, h => fun i h0 h1 => ih i (h i h0 h1)
  exact ⟨fun b hb => key (h.run b hb)⟩
theorem sum_at (ns : List Int) : ∃ s : Int, f_sum [.list (ns.map .int)] = .ret (.int s) := by
  have key : ∀ ns : List Int, ∃ s, allInts (ns.map .int) = some s := by
    intro ns
    induction ns with
    | nil => exact ⟨0, rfl⟩
    | cons n ns ih =>
      obtain ⟨s, e⟩ := ih
      exact ⟨n + s, by show (allInts (ns.map PyData.int)).map (n + ·) = _; rw [e]; rfl⟩
  obtain ⟨s, e⟩ := key ns
  exact ⟨s, by show T.ofO ((allInts (ns.map PyData.int)).map PyData.int) = _; rw [e]; rfl⟩
theorem add_L {xs ys : List PyData} (h : xs.length + ys.length ≤ 100000) : opB .Add (.list xs) (.list ys) = .ret (.list (xs ++ ys)) := by
  show (if xs.length + ys.length ≤ big then T.ret (PyData.list (xs ++ ys)) else .stuck) = _
  exact if_pos h
theorem add_T {xs ys : List PyData} (h : xs.length + ys.length ≤ 100000) : opB .Add (.tuple xs) (.tuple ys) = .ret (.tuple (xs ++ ys)) := by
  show (if xs.length + ys.length ≤ big then T.ret (PyData.tuple (xs ++ ys)) else .stuck) = _
  exact if_pos h
theorem truT : truD (.bool true) = .ret true := rfl
theorem range3 : rangeD1 (.int 3) = .ret [.int 0, .int 1, .int 2] := by rfl
theorem len_D (xs : List PyData) : f_len [.list xs] = .ret (.int xs.length) := rfl
section
variable {α β : Type} {n k : Nat}
/-- a statement that goes on -/
theorem ok_st {R : Out → Prop} {t : T Out} {g : En → T Out} {ρ : En} (e : t = .ret (.nx ρ)) (h : Ok (g ρ) n R) : Ok (T.bind t fun o => seqT o g) n R := by rw [e, T.bind_ret, seqT_nx]; exact h
theorem ok_stp {t : T Out} {g : En → T Out} {P : En → Prop} {R : Out → Prop} (e : Ok t n fun o => ∃ ρ, o = .nx ρ ∧ P ρ) (h : ∀ ρ, P ρ → Ok (g ρ) k R) : Ok (T.bind t fun o => seqT o g) (n + k) R := ok_bind e fun o ho => by
  obtain ⟨ρ, rfl, hp⟩ := ho
  rw [seqT_nx]
  exact h ρ hp
theorem ok_one {R : β → Prop} {t : T α} {g : α → T β} {a : α} (e : t = .ret a) (h : Ok (g a) n R) : Ok (T.bind t g) n R := by rw [e, T.bind_ret]; exact h
end
/-- what is behind a pick -/
def pkAt {α : Type} : T α → Int → T α
  | .pick _ f, i => f i
  | t, _ => t
end Pv

-- K44a
set_option maxRecDepth 100000
set_option maxHeartbeats 4000000
set_option linter.all false
namespace K44
open PySem L2 Pv
def tops := PySem.Challenge.pw_gridfile_k44_runs_of_settings.main.body
def top (i : Nat) : Stmt := tops.getD i (.Pass ⟨0,0,0,0⟩)
def s_SIGNS : Str := " !\"#$&'()*+,-./0123456789:;<=>?@ABCDEFGHIJKLMNOPQRSTUVWXYZ[\\]^_`abcdefghijklmnopqrstuvwxyz{|}~"
def con1 : List (Str × PyData) := [("SIGNS", .str s_SIGNS), ("MOST_ROW", .int 9999), ("PLAIN", .tuple [.str "", .tuple [.str "Plain", .int 10, .bool false, .bool false], .none, .tuple [.int 0, .int 0, .int 0, .int 0], .tuple [.str "general", .bool false]]), ("MOST_FORMAT", .int 40), ("MOST_FONT_NAME", .int 31), ("MOST_FONT_SIZE", .int 400), ("MOST_COLOR", .int 16777215), ("MOST_BORDER", .int 3), ("ALIGN_WORDS", .tuple [.str "general", .str "left", .str "center", .str "right"]), ("MOST_SIZE", .int 1000)]
def errs1 : List (Str × List Str) := [("BadWord", ["given"]), ("BadBook", ["given"]), ("BadNumber", ["given"]), ("BadMap", ["given"]), ("BadCells", ["at"]), ("BadColumns", ["at"]), ("BadTable", ["at"]), ("BadPaper", ["at"])]
def NN (i : Nat) : List Str := if i = 42 then locN (defScope (top i)) ++ (["number"] : List Str) else if i = 57 then locN (defScope (top i)) ++ (["one"] : List Str) else locN (defScope (top i))
abbrev er (i : Nat) : List (Str × List Str) := errsOf (defScope (top i)) errs1
def subE (c d : Str) : Option Bool := if (errs1.map (·.1)).contains c then (if d = "GridError" then some true else if d = "Refused" then some false else if (errs1.map (·.1)).contains d then some (decide (c = d)) else none) else none
def eclE : List Str := ["GridError", "Refused", "BadWord", "BadBook", "BadNumber", "BadMap", "BadCells", "BadColumns", "BadTable", "BadPaper"]
abbrev ga (fns : List (Str × FnI)) (i : Nat) (pls : List Str) (gx : Bool) : Ga := Ga.mkP (NN i) (defScope (top i)) fns con1 false pls gx
abbrev gaT (fns : List (Str × FnI)) (i : Nat) : Ga := Ga.mkT (NN i) (defScope (top i)) fns con1 subE eclE
abbrev gaK (fns : List (Str × FnI)) (i : Nat) (taks : List (Str × (FnD → PyData → PyData → T PyData))) : Ga := Ga.mkK (NN i) (defScope (top i)) fns con1 taks
abbrev F0 : List (Str × FnI) := []
def cl2 : {fs : FS // cSs (ga F0 2 [] false) (er 2) 60 (defBody (top 2)) = some fs} := ⟨_, rfl⟩
def m2 : FnD := runDef ((NN 2).length) cl2.1
abbrev F2 : List (Str × FnI) := ("is_integer", ⟨3, m2⟩) :: F0
def cl3 : {fs : FS // cSs (ga F2 3 [] false) (er 3) 60 (defBody (top 3)) = some fs} := ⟨_, rfl⟩
def m3 : FnD := runDef ((NN 3).length) cl3.1
abbrev F3 : List (Str × FnI) := ("is_made_of", ⟨2, m3⟩) :: F2
def cl4 : {fs : FS // cSs (ga F3 4 [] false) (er 4) 60 (defBody (top 4)) = some fs} := ⟨_, rfl⟩
def m4 : FnD := runDef ((NN 4).length) cl4.1
abbrev F4 : List (Str × FnI) := ("is_text", ⟨4, m4⟩) :: F3
def cl5 : {fs : FS // cSs (ga F4 5 [] false) (er 5) 60 (defBody (top 5)) = some fs} := ⟨_, rfl⟩
def m5 : FnD := runDef ((NN 5).length) cl5.1
abbrev F5 : List (Str × FnI) := ("is_one_of", ⟨2, m5⟩) :: F4
def cl6 : {fs : FS // cSs (ga F5 6 [] false) (er 6) 60 (defBody (top 6)) = some fs} := ⟨_, rfl⟩
def m6 : FnD := runDef ((NN 6).length) cl6.1
abbrev F6 : List (Str × FnI) := ("is_row", ⟨1, m6⟩) :: F5
def cl7 : {fs : FS // cSs (ga F6 7 [] false) (er 7) 60 (defBody (top 7)) = some fs} := ⟨_, rfl⟩
def m7 : FnD := runDef ((NN 7).length) cl7.1
abbrev F7 : List (Str × FnI) := ("is_tuple_of", ⟨2, m7⟩) :: F6
def cl29 : {fs : FS // cSs (ga F7 29 [] false) (er 29) 60 (defBody (top 29)) = some fs} := ⟨_, rfl⟩
def m29 : FnD := runDef ((NN 29).length) cl29.1
abbrev F29 : List (Str × FnI) := ("_is_format", ⟨1, m29⟩) :: F7
def cl30 : {fs : FS // cSs (ga F29 30 [] false) (er 30) 60 (defBody (top 30)) = some fs} := ⟨_, rfl⟩
def m30 : FnD := runDef ((NN 30).length) cl30.1
abbrev F30 : List (Str × FnI) := ("_is_font", ⟨1, m30⟩) :: F29
def cl31 : {fs : FS // cSs (ga F30 31 [] false) (er 31) 60 (defBody (top 31)) = some fs} := ⟨_, rfl⟩
def m31 : FnD := runDef ((NN 31).length) cl31.1
abbrev F31 : List (Str × FnI) := ("_is_fill", ⟨1, m31⟩) :: F30
def cl32 : {fs : FS // cSs (ga F31 32 [] false) (er 32) 60 (defBody (top 32)) = some fs} := ⟨_, rfl⟩
def m32 : FnD := runDef ((NN 32).length) cl32.1
abbrev F32 : List (Str × FnI) := ("_is_border", ⟨1, m32⟩) :: F31
def cl33 : {fs : FS // cSs (ga F32 33 [] false) (er 33) 60 (defBody (top 33)) = some fs} := ⟨_, rfl⟩
def m33 : FnD := runDef ((NN 33).length) cl33.1
abbrev F33 : List (Str × FnI) := ("_is_align", ⟨1, m33⟩) :: F32
def cl28 : {fs : FS // cSs (ga F33 28 [] false) (er 28) 60 (defBody (top 28)) = some fs} := ⟨_, rfl⟩
def m28 : FnD := runDef ((NN 28).length) cl28.1
abbrev F28 : List (Str × FnI) := ("is_style", ⟨1, m28⟩) :: F33
def cl38 : {fs : FS // cSs (ga F28 38 [] false) (er 38) 60 (defBody (top 38)) = some fs} := ⟨_, rfl⟩
def m38 : FnD := runDef ((NN 38).length) cl38.1
abbrev F38 : List (Str × FnI) := ("is_size", ⟨1, m38⟩) :: F28
def cl37 : {fs : FS // cSs (ga F38 37 [] false) (er 37) 60 (defBody (top 37)) = some fs} := ⟨_, rfl⟩
def m37 : FnD := runDef ((NN 37).length) cl37.1
abbrev F37 : List (Str × FnI) := ("is_setting", ⟨2, m37⟩) :: F38
abbrev tfs39 : List (Str × FnI) := [("is_row", ⟨1, m6⟩)]
def tk39 (m : FnD) (d e : PyData) : T PyData := takF 60 (NN 39) (defScope (top 39)) "is_right" con1 tfs39 (defBody (top 39)) m [d] [e]
def clK39 (m : FnD) : {fs : FS // cSs (takGa (NN 39) (defScope (top 39)) "is_right" con1 m tfs39) [] 60 (defBody (top 39)) = some fs} := ⟨_, rfl⟩
def cl36 : {fs : FS // cSs (gaK F37 36 [("_wrong_item", tk39)]) (er 36) 60 (defBody (top 36)) = some fs} := ⟨_, rfl⟩
def m36 : FnD := runDef ((NN 36).length) cl36.1
abbrev F36 : List (Str × FnI) := ("wrong_setting", ⟨2, m36⟩) :: F37
def cl41 : {fs : FS // cSs (ga F36 41 ["runs"] false) (er 41) 60 (defBody (top 41)) = some fs} := ⟨_, rfl⟩
def m41 : FnD := runDef ((NN 41).length + (plOf (NN 41) ["runs"]).length) cl41.1
abbrev F41 : List (Str × FnI) := ("setting_runs", ⟨1, m41⟩) :: F36
def cl43 : {fs : FS // cSs (ga F41 43 [] false) (er 43) 60 (defBody (top 43)) = some fs} := ⟨_, rfl⟩
def m43 : FnD := runDef ((NN 43).length) cl43.1
abbrev F43 : List (Str × FnI) := ("_is_run", ⟨1, m43⟩) :: F41
def cl42 : {fs : FS // cSs (ga F43 42 ["settings"] false) (er 42) 60 (defBody (top 42)) = some fs} := ⟨_, rfl⟩
def m42 : FnD := runDef ((NN 42).length + (plOf (NN 42) ["settings"]).length) cl42.1
abbrev F42 : List (Str × FnI) := ("settings_of", ⟨1, m42⟩) :: F43
def cl49 : {fs : FS // cSs (gaT F0 49) (er 49) 60 (defBody (top 49)) = some fs} := ⟨_, rfl⟩
def m49 : FnD := runDef ((NN 49).length) cl49.1
def cl50 : {fs : FS // cSs (gaT F0 50) (er 50) 60 (defBody (top 50)) = some fs} := ⟨_, rfl⟩
def m50 : FnD := runDef ((NN 50).length) cl50.1
abbrev FP : List (Str × FnI) := F42
abbrev tfsT : List (Str × FnI) := [("_law_places", ⟨1, m49⟩), ("_law_givens", ⟨1, m50⟩)]
abbrev lga (fns : List (Str × FnI)) (lams : List (Str × (T PyData → T PyData))) (i : Nat) (pls : List Str := []) (kwo : Str → List Str → Option (List Nat) := fun _ _ => none) : Ga := lawGa (NN i) (defScope (top i)) fns FP con1 lams pls kwo
abbrev tga (th : T PyData) : Ga := toldGa (NN 48) (defScope (top 48)) "ask" con1 subE eclE true th tfsT
def told : T PyData → T PyData := toldF 60 (NN 48) (defScope (top 48)) "ask" con1 subE eclE true tfsT (defBody (top 48))
def clT (th : T PyData) : {fs : FS // cSs (tga th) [] 60 (defBody (top 48)) = some fs} := ⟨_, rfl⟩
abbrev G0 : List (Str × FnI) := ("_law_digit", ⟨2, digM⟩) :: ("_law_draw", ⟨2, drawM⟩) :: FP
abbrev lam1 : List (Str × (T PyData → T PyData)) := [("_law_told", told)]
def cl52 : {fs : FS // cSs (lga G0 [] 52 []) [] 60 (defBody (top 52)) = some fs} := ⟨_, rfl⟩
def m52 : FnD := runDef ((NN 52).length) cl52.1
abbrev G52 : List (Str × FnI) := ("_law_plain", ⟨0, m52⟩) :: G0
def cl53 : {fs : FS // cSs (lga G52 [] 53 ["found"]) [] 60 (defBody (top 53)) = some fs} := ⟨_, rfl⟩
def m53 : FnD := runDef ((NN 53).length + (plOf (NN 53) ["found"]).length) cl53.1
abbrev G53 : List (Str × FnI) := ("_law_settings", ⟨1, m53⟩) :: G52
def cl54 : {fs : FS // cSs (lga G53 [] 54 ["found"]) [] 60 (defBody (top 54)) = some fs} := ⟨_, rfl⟩
def m54 : FnD := runDef ((NN 54).length + (plOf (NN 54) ["found"]).length) cl54.1
abbrev G54 : List (Str × FnI) := ("_law_own_runs", ⟨1, m54⟩) :: G53
def cl55 : {fs : FS // cSs (lga G54 [] 55 ["parts"]) [] 60 (defBody (top 55)) = some fs} := ⟨_, rfl⟩
def m55 : FnD := runDef ((NN 55).length + (plOf (NN 55) ["parts"]).length) cl55.1
abbrev G55 : List (Str × FnI) := ("_law_is_divided_right", ⟨2, m55⟩) :: G54
def cl56 : {fs : FS // cSs (lga G55 [] 56 []) [] 60 (defBody (top 56)) = some fs} := ⟨_, rfl⟩
def m56 : FnD := runDef ((NN 56).length) cl56.1
abbrev G56 : List (Str × FnI) := ("_law_wrong_setting", ⟨2, m56⟩) :: G55
def cl57 : {fs : FS // cSs (lga G56 lam1 57 []) [] 60 (defBody (top 57)) = some fs} := ⟨_, rfl⟩
def m57 : FnD := runDef ((NN 57).length) cl57.1
abbrev G57 : List (Str × FnI) := ("law", ⟨1, m57⟩) :: G56
end K44

-- K44b
set_option maxRecDepth 100000
set_option maxHeartbeats 4000000
set_option linter.all false
namespace K44
open PySem L2 Pv
theorem nn1 : NN 2 = (["value", "least", "most"] : List Str) ∧ NN 7 = (["value", "many"] : List Str) ∧ NN 37 = (["value", "most"] : List Str) ∧ NN 38 = (["value"] : List Str) ∧ NN 28 = (["value", "text", "font", "fill", "border", "align"] : List Str) := by
  refine ⟨?_, ?_, ?_, ?_, ?_⟩ <;> kernel_rfl
theorem run2 (i a b : Int) : m2 [.int i, .int a, .int b] = .ret (.bool (decide (a ≤ i) && decide (i ≤ b))) := by
  simp [m2, cl2, runDef, nn1.1, getV_at, T.bind_ret, isi_int_int, isi_bool_int, opC_le, asB_bool, bind_ite, seqT_rt, seqT_nx, outD_rt]
  by_cases h : a ≤ i <;> simp [h]
def plainD : PyData := .tuple [.str "", .tuple [.str "Plain", .int 10, .bool false, .bool false], .none, .tuple [.int 0, .int 0, .int 0, .int 0], .tuple [.str "general", .bool false]]
def zeroD : PyData := .tuple [.str "0", .tuple [.str "Plain", .int 10, .bool false, .bool false], .none, .tuple [.int 0, .int 0, .int 0, .int 0], .tuple [.str "general", .bool false]]
/-- what a setting says beside its number -/
def menu : List (PyData × PyData × PyData) := [(.int 5, .bool false, plainD), (.int 5, .bool true, plainD), (.int 0, .bool false, plainD), (.int 0, .bool true, plainD), (.none, .bool true, plainD), (.none, .bool false, zeroD)]
def setD (n : Int) (e : PyData × PyData × PyData) : PyData := .tuple [.int n, e.1, e.2.1, e.2.2]
theorem all38 : menu.map (fun e => m38 [e.1]) = menu.map fun _ => .ret (.bool true) := by kernel_rfl
theorem all28 : menu.map (fun e => m28 [e.2.2]) = menu.map fun _ => .ret (.bool true) := by kernel_rfl
theorem allB : menu.map (fun e => isiD (tyName (Str.ofString "bool")) e.2.1) = menu.map fun _ => .ret (.bool true) := by kernel_rfl
theorem allT : menu.map (fun e => opC .NotEq (.tuple [e.1, e.2.1, e.2.2]) (.tuple [.none, .bool false, plainD])) = menu.map fun _ => .ret (.bool true) := by kernel_rfl
theorem run37 {n b : Int} {e : PyData × PyData × PyData} (h : e ∈ menu) : m37 [setD n e, .int b] = .ret (.bool (decide (1 ≤ n) && decide (n ≤ b))) := by
  have h7 : m7 [setD n e, .int 4] = .ret (.bool true) := by kernel_rfl
  have i0 : Pv.opI (setD n e) (.int 0) = .ret (.int n) := by kernel_rfl
  have i1 : Pv.opI (setD n e) (.int 1) = .ret e.1 := by kernel_rfl
  have i2 : Pv.opI (setD n e) (.int 2) = .ret e.2.1 := by kernel_rfl
  have i3 : Pv.opI (setD n e) (.int 3) = .ret e.2.2 := by kernel_rfl
  have s1 : opS (setD n e) (some 1) none = .ret (.tuple [e.1, e.2.1, e.2.2]) := by kernel_rfl
  have a1 := map_at all38 e h
  have a2 := map_at all28 e h
  have a3 := map_at allB e h
  have a4 := map_at allT e h
  simp only [m37, cl37, runDef, nn1.2.2.1, List.map_cons, List.map_nil, List.length_cons, List.length_nil, Nat.zero_add, Nat.reduceAdd, Nat.reduceSub, List.replicate, List.cons_append, List.nil_append]
  simp [getV_at, T.bind_ret, T.bind_assoc, h7, i0, i1, i2, i3, run2, a1, a2, a3, asB_bool, seqT_nx, seqT_rt, s1, asI_int]
  have tb : ∀ c : Bool, truD (.bool c) = .ret c := fun _ => rfl
  have a5 : opC .NotEq (.tuple [e.1, e.2.1, e.2.2]) (.tuple [.none, .bool false, .tuple [.str "", .tuple [.str "Plain", .int 10, .bool false, .bool false], .none, .tuple [.int 0, .int 0, .int 0, .int 0], .tuple [.str "general", .bool false]]]) = .ret (.bool true) := a4
  cases hc : (decide (1 ≤ n) && decide (n ≤ b)) <;> simp [tb, T.bind_ret, T.bind_assoc, seqT_nx, seqT_rt, getV_at, i1, i3, a1, a2, asB_bool, s1, lb3, a5, outD_rt]
end K44

-- K44c
set_option maxRecDepth 100000
set_option maxHeartbeats 4000000
set_option linter.all false
namespace K44
open PySem L2 Pv
theorem nn39 : NN 39 = (["items", "is_right", "most", "before", "at", "item"] : List Str) := by kernel_rfl
theorem row_l (ds : List PyData) : m6 [.list ds] = .ret (.bool true) := by kernel_rfl
theorem row_t (ds : List PyData) : m6 [.tuple ds] = .ret (.bool true) := by kernel_rfl
/-- the number of a right item -/
abbrev Num := PyData → Option Int
/-- is b at least n -/
def reach (b : Option Int) (n : Int) : Bool := match b with
  | some c => decide (n ≤ c)
  | none => false
/-- the first wrong item: none of its kind, or not above the one before -/
def fw (R : Num) : List PyData → Nat → Option Int → Option Nat
  | [], _, _ => none
  | d :: ds, k, b => match R d with
    | none => some k
    | some n => if reach b n = true then some k else fw R ds (k + 1) (some n)
def bd : Option Int → PyData
  | some c => .int c
  | none => .none
def wrongD : Option Nat → PyData
  | some j => .tuple [.int (j : Int)]
  | none => .none
theorem loopW {α : Type} {R : Num} {step : PyData → En → T Out} {I most : PyData} {ds : List PyData} {lim : Nat}
    (hs : ∀ (k : Nat) (d : PyData) (b : Option Int) (x y : Option PyData), d ∈ ds → k < lim → step (.tuple [.int (k : Int), d]) [some I, none, some most, some (bd b), x, y] = match R d with
      | none => .ret (.rt (.tuple [.int (k : Int)]))
      | some n => if reach b n = true then .ret (.rt (.tuple [.int (k : Int)])) else .ret (.nx [some I, none, some most, some (.int n), some (.int (k : Int)), some d]))
    {K : Out → T α} {R0 : T α} (hk : ∀ ρ, K (.nx ρ) = R0) : ∀ (es : List PyData) (k : Nat) (b : Option Int) (x y : Option PyData), (∀ d ∈ es, d ∈ ds) → k + es.length ≤ lim →
    T.bind (forL step (enumD es k) [some I, none, some most, some (bd b), x, y]) K = match fw R es k b with
      | some j => K (.rt (.tuple [.int (j : Int)]))
      | none => R0
  | [], k, b, x, y, _, _ => hk _
  | d :: es, k, b, x, y, hm, hl => by
    rw [List.length_cons] at hl
    show T.bind (T.bind (step (.tuple [.int (k : Int), d]) _) _) K = _
    rw [hs k d b x y (hm d (by simp)) (by omega)]
    unfold fw
    cases hR : R d with
    | none => rfl
    | some n =>
      dsimp only
      by_cases hr : reach b n = true
      · rw [if_pos hr, if_pos hr]
        rfl
      · rw [if_neg hr, if_neg hr]
        exact loopW hs hk es (k + 1) (some n) _ _ (fun d hd => hm d (by simp [hd])) (by omega)
/-- what _wrong_item does -/
theorem tkR {m : FnD} {R : Num} {ds : List PyData} {most : Nat} (hm : ds.length ≤ most) (hR : ∀ d ∈ ds, match R d with | none => m [d] = .ret (.bool false) | some n => m [d] = .ret (.bool true) ∧ Pv.opI d (.int 0) = .ret (.int n)) (I : PyData) (hI : I = .list ds ∨ I = .tuple ds) :
    tk39 m I (.int (most : Int)) = .ret (wrongD (fw R ds 0 none)) := by
  have hrow : m6 [I] = .ret (.bool true) := by
    rcases hI with rfl | rfl
    · exact row_l ds
    · exact row_t ds
  have hen : enumOf I = .ret (enumD ds 0) := by rcases hI with rfl | rfl <;> rfl
  have tb : ∀ c : Bool, truD (.bool c) = .ret c := fun _ => rfl
  unfold tk39 takF
  rw [(clK39 m).2]
  simp only [clK39, nn39, List.map_cons, List.map_nil, List.length_cons, List.length_nil, Nat.zero_add, Nat.reduceAdd, Nat.reduceSub, List.replicate, List.cons_append, List.nil_append]
  simp [getV_at, T.bind_ret, T.bind_assoc, hrow, seqT_nx, seqT_rt, asB_bool, tfs39, tb, hen, lb1]
  refine (congrArg noRaise (loopW (R := R) (ds := ds) (lim := most) (I := I) (most := .int (most : Int)) ?hs (R0 := T.ret PyData.none) (fun ρ => rfl) ds 0 none none none (fun d hd => hd) (by omega))).trans ?he
  case he => cases fw R ds 0 none <;> rfl
  case hs =>
    intro k d b x y hd hk
    have h1 := hR d hd
    have hne : ¬ (k : Int) = (most : Int) := by omega
    have eq : opC .Eq (.int (k : Int)) (.int (most : Int)) = .ret (.bool false) := by rw [opC_eqI, eqvI, decide_eq_false hne]
    cases hr : R d with
    | none =>
      rw [hr] at h1
      simp [setAll, getV_at, T.bind_ret, T.bind_assoc, eq, asB_bool, h1, tb, seqT_nx, seqT_rt, lb1]
    | some n =>
      rw [hr] at h1
      have i0 : opC .IsNot .none .none = .ret (.bool false) := by kernel_rfl
      have i1 : ∀ c : Int, opC .IsNot (.int c) .none = .ret (.bool true) := fun c => by kernel_rfl
      cases b with
      | none => simp [setAll, getV_at, T.bind_ret, T.bind_assoc, eq, asB_bool, h1.1, h1.2, tb, seqT_nx, seqT_rt, lb1, bd, reach, i0]
      | some c =>
        by_cases hc : n ≤ c <;> simp [setAll, getV_at, T.bind_ret, T.bind_assoc, eq, asB_bool, h1.1, h1.2, tb, seqT_nx, seqT_rt, lb1, bd, reach, i1, opC_le, hc]
end K44

-- K44d
set_option maxRecDepth 100000
set_option maxHeartbeats 4000000
set_option linter.all false
namespace K44
open PySem L2 Pv
theorem nn36 : NN 36 = (["settings", "most"] : List Str) := by kernel_rfl
theorem run36 {R : Num} {ds : List PyData} {most : Nat} (hm : ds.length ≤ most) (hR : ∀ d ∈ ds, match R d with | none => m37 [d, .int most] = .ret (.bool false) | some n => m37 [d, .int most] = .ret (.bool true) ∧ Pv.opI d (.int 0) = .ret (.int n)) (I : PyData) (hI : I = .list ds ∨ I = .tuple ds) :
    m36 [I, .int (most : Int)] = .ret (wrongD (fw R ds 0 none)) := by
  simp only [m36, cl36, runDef, nn36, List.map_cons, List.map_nil, List.length_cons, List.length_nil, Nat.zero_add, Nat.reduceAdd, Nat.reduceSub, List.replicate, List.cons_append, List.nil_append]
  simp [getV_at, T.bind_ret, T.bind_assoc]
  rw [tkR (R := R) hm (fun d hd => ?_) I hI]
  · rfl
  · have h1 := hR d hd
    cases hr : R d with
    | none =>
      rw [hr] at h1
      simp [lamM, getV_at, T.bind_ret, h1]
    | some n =>
      rw [hr] at h1
      simp [lamM, getV_at, T.bind_ret, h1.1, h1.2]
end K44

-- K44e
set_option maxRecDepth 100000
set_option maxHeartbeats 4000000
set_option linter.all false
namespace K44
open PySem L2 Pv
/-! ## the settings of the law: a number, and an entry of the menu -/
def ent (i : Nat) : PyData × PyData × PyData := menu.getD i (.none, .none, .none)
theorem ent_mem {i : Nat} (h : i < 6) : ent i ∈ menu := by
  unfold ent
  rw [List.getD_eq_getElem?_getD, List.getElem?_eq_getElem (show i < menu.length from h)]
  exact List.getElem_mem _
/-- (a, size, hidden, style) -/
def sD (a : Int) (i : Nat) : PyData := setD a (ent i)
/-- (first, last, size, hidden, style) -/
def rD (f l : Int) (i : Nat) : PyData := .tuple [.int f, .int l, (ent i).1, (ent i).2.1, (ent i).2.2]
theorem range_at {α : Type} {f g : Nat → α} {n : Nat} (h : (List.range n).map f = (List.range n).map g) {i : Nat} (hi : i < n) : f i = g i := map_at h i (List.mem_range.mpr hi)
theorem pl_s (a : Int) {i : Nat} (h : i < 6) : plD (sD a i) = true :=
  range_at (f := fun i => plD (sD a i)) (g := fun _ => true) (n := 6) (by kernel_rfl) h
theorem pl_r (a b : Int) {i : Nat} (h : i < 6) : plD (rD a b i) = true :=
  range_at (f := fun i => plD (rD a b i)) (g := fun _ => true) (n := 6) (by kernel_rfl) h
theorem ent_eqv : ∀ i < 6, ∀ j < 6, PyData.eqv (.tuple [(ent i).1, (ent i).2.1, (ent i).2.2]) (.tuple [(ent j).1, (ent j).2.1, (ent j).2.2]) = decide (i = j) := by decide +kernel
theorem eqv_s (a b : Int) {i j : Nat} (hi : i < 6) (hj : j < 6) : PyData.eqv (sD a i) (sD b j) = (decide (a = b) && decide (i = j)) := by
  rw [← ent_eqv i hi j hj, ← eqvI]
  rfl
theorem eq_s (a b : Int) {i j : Nat} (hi : i < 6) (hj : j < 6) : opC .Eq (sD a i) (sD b j) = .ret (.bool (decide (a = b) && decide (i = j))) := by
  rw [opC_eqP (pl_s a hi) (pl_s b hj), eqv_s a b hi hj]
/-- what a setting says to is_setting -/
theorem set_ok {a : Int} {i most : Nat} (hi : i < 6) (h0 : 1 ≤ a) (h1 : a ≤ most) : m37 [sD a i, .int most] = .ret (.bool true) ∧ Pv.opI (sD a i) (.int 0) = .ret (.int a) := by
  refine ⟨?_, by kernel_rfl⟩
  show m37 [setD a (ent i), .int most] = _
  rw [run37 (ent_mem hi), decide_eq_true h0, decide_eq_true h1]
  rfl
/-- settings that ascend are right -/
theorem fw_ok {R : Num} : ∀ (ss : List (Int × Nat)) (k : Nat) (b : Option Int), (∀ s ∈ ss, R (sD s.1 s.2) = some s.1) → (∀ s ∈ ss.head?, reach b s.1 = false) → ss.Pairwise (fun s t => s.1 < t.1) → fw R (ss.map fun s => sD s.1 s.2) k b = none
  | [], _, _, _, _, _ => rfl
  | s :: ss, k, b, hR, hb, hp => by
    have h1 := hR s (by simp)
    have h2 := hb s (by simp)
    show fw R (sD s.1 s.2 :: ss.map fun s => sD s.1 s.2) k b = none
    unfold fw
    rw [h1]
    dsimp only
    rw [h2, if_neg (by simp)]
    refine fw_ok ss (k + 1) (some s.1) (fun t ht => hR t (by simp [ht])) (fun t ht => ?_) (List.pairwise_cons.mp hp).2
    have hm : t ∈ ss := List.mem_of_mem_head? ht
    have := (List.pairwise_cons.mp hp).1 t hm
    unfold reach
    exact decide_eq_false (by omega)
end K44

-- K44f
set_option maxRecDepth 100000
set_option maxHeartbeats 4000000
set_option linter.all false
namespace K44
open PySem L2 Pv
theorem nn41 : NN 41 = (["settings", "wrong", "runs", "number", "size", "hidden", "style"] : List Str) := by kernel_rfl
theorem pl41 : plOf (["settings", "wrong", "runs", "number", "size", "hidden", "style"] : List Str) (["runs"] : List Str) = [2] := by kernel_rfl
abbrev Run := Int × Int × Nat
def rT (r : Run) : PyData := rD r.1 r.2.1 r.2.2
/-- one setting more -/
def stepR (acc : List Run) (s : Int × Nat) : List Run := match acc.getLast? with
  | some r => if r.2.1 = s.1 - 1 ∧ r.2.2 = s.2 then acc.dropLast ++ [(r.1, s.1, s.2)] else acc ++ [(s.1, s.1, s.2)]
  | none => acc ++ [(s.1, s.1, s.2)]
theorem last_at {xs : List PyData} {d : PyData} : Pv.opI (.list (xs ++ [d])) (.int (-1)) = .ret d := by
  have h : (xs ++ [d]).length = xs.length + 1 := by simp
  show T.ofO (Pv.opI.atI' (xs ++ [d]) (-1)) = _
  unfold Pv.opI.atI' L2.ixN
  rw [if_neg (by omega), h]
  have e : (-1 + ((xs.length + 1 : Nat) : Int)).toNat = xs.length := by omega
  rw [if_pos (by omega), e]
  show T.ofO ((xs ++ [d])[xs.length]?) = _
  rw [List.getElem?_append_right (Nat.le_refl _), Nat.sub_self]
  rfl
theorem lat_r {f l : Int} {i : Nat} (h : i < 6) : atomT (.ret (rD f l i)) = .ret (rD f l i) :=
  range_at (f := fun i => atomT (.ret (rD f l i))) (g := fun i => .ret (rD f l i)) (n := 6) (by kernel_rfl) h
theorem cut_r {f l : Int} {i : Nat} : opS (rD f l i) (some 1) none = .ret (sD l i) := by kernel_rfl
theorem fst_r {f l : Int} {i : Nat} : Pv.opI (rD f l i) (.int 0) = .ret (.int f) := by kernel_rfl
theorem nd_r (a b : Int) {i : Nat} (h : i < 6) : noDict (rD a b i) = true :=
  range_at (f := fun i => noDict (rD a b i)) (g := fun _ => true) (n := 6) (by kernel_rfl) h
theorem cl_r (a b : Int) {i : Nat} (h : i < 6) : (rD a b i).canLay0 = true :=
  range_at (f := fun i => (rD a b i).canLay0) (g := fun _ => true) (n := 6) (by kernel_rfl) h
theorem dp_r (a b : Int) {i : Nat} (h : i < 6) : (rD a b i).depth = 3 :=
  range_at (f := fun i => (rD a b i).depth) (g := fun _ => 3) (n := 6) (by kernel_rfl) h
theorem canAll_of : ∀ {xs : List PyData}, (∀ x ∈ xs, x.canLay0 = true) → PyData.canLayAll0 xs = true
  | [], _ => rfl
  | x :: xs, h => by
    show (x.canLay0 && PyData.canLayAll0 xs) = true
    rw [h x (by simp), canAll_of fun y hy => h y (by simp [hy])]
    rfl
theorem pl_runs {rs : List Run} (h : ∀ r ∈ rs, r.2.2 < 6) : plD (.list (rs.map rT)) = true := by
  have key : ∀ x ∈ rs.map rT, ∃ a b i, i < 6 ∧ x = rD a b i := fun x hx => by
    obtain ⟨r, hr, rfl⟩ := List.mem_map.mp hx
    exact ⟨r.1, r.2.1, r.2.2, h r hr, rfl⟩
  have n1 : noDict (.list (rs.map rT)) = true := noDicts_of fun x hx => by
    obtain ⟨a, b, i, hi, rfl⟩ := key x hx
    exact nd_r a b hi
  have c1 : (PyData.list (rs.map rT)).canLay0 = true := canAll_of fun x hx => by
    obtain ⟨a, b, i, hi, rfl⟩ := key x hx
    exact cl_r a b hi
  have d1 : (PyData.list (rs.map rT)).depth ≤ 4 := by
    rw [PyData.depth]
    exact Nat.succ_le_succ (depthAll_of fun x hx => by
      obtain ⟨a, b, i, hi, rfl⟩ := key x hx
      exact Nat.le_of_eq (dp_r a b hi))
  unfold plD SeqAt.shaped
  rw [n1, c1, decide_eq_true (Nat.le_trans d1 (by decide))]
  rfl
theorem ne_list {rs : List Run} (h : ∀ r ∈ rs, r.2.2 < 6) (h0 : rs ≠ []) : opC .NotEq (.list (rs.map rT)) (.list []) = .ret (.bool true) := by
  obtain ⟨r, t, rfl⟩ := List.exists_cons_of_ne_nil h0
  rw [opC_neP (pl_runs h) (by rfl)]
  rfl
theorem stepR_len (acc : List Run) (s : Int × Nat) : (stepR acc s).length ≤ acc.length + 1 := by
  unfold stepR
  split
  · split
    · simp only [List.length_append, List.length_dropLast, List.length_cons, List.length_nil]
      omega
    · simp
  · simp
theorem stepR_ok {acc : List Run} {s : Int × Nat} (h : ∀ r ∈ acc, r.2.2 < 6) (hs : s.2 < 6) : ∀ r ∈ stepR acc s, r.2.2 < 6 := by
  have key : ∀ xs : List Run, (∀ r ∈ xs, r.2.2 < 6) → ∀ f : Int, ∀ r ∈ xs ++ [(f, s.1, s.2)], r.2.2 < 6 := fun xs hx f r hr => by
    rcases List.mem_append.mp hr with h1 | h1
    · exact hx r h1
    · rw [List.mem_singleton.mp h1]
      exact hs
  unfold stepR
  split
  · split
    · exact key _ (fun r hr => h r ((List.dropLast_sublist _).subset hr)) _
    · exact key _ h _
  · exact key _ h _
abbrev envR (I : PyData) (acc : List Run) (x y z t : Option PyData) : En := [some I, some .none, none, x, y, z, t, some (.list (acc.map rT))]
theorem loopR {α : Type} {step : PyData → En → T Out} {I : PyData} {ss : List (Int × Nat)} (h6 : ∀ s ∈ ss, s.2 < 6)
    (hs : ∀ (s : Int × Nat) (acc : List Run) (x y z t : Option PyData), s ∈ ss → (∀ r ∈ acc, r.2.2 < 6) → acc.length < 1000 → ∃ x' y' z' t', step (sD s.1 s.2) (envR I acc x y z t) = .ret (.nx (envR I (stepR acc s) x' y' z' t')))
    {K : Out → T α} {R0 : List Run → T α} (hk : ∀ acc x y z t, K (.nx (envR I acc x y z t)) = R0 acc) : ∀ (es : List (Int × Nat)) (acc : List Run) (x y z t : Option PyData), (∀ s ∈ es, s ∈ ss) → (∀ r ∈ acc, r.2.2 < 6) → acc.length + es.length ≤ 1000 →
    T.bind (forL step (es.map fun s => sD s.1 s.2) (envR I acc x y z t)) K = R0 (es.foldl stepR acc)
  | [], acc, x, y, z, t, _, _, _ => hk acc x y z t
  | s :: es, acc, x, y, z, t, hm, ha, hl => by
    rw [List.length_cons] at hl
    obtain ⟨x', y', z', t', e⟩ := hs s acc x y z t (hm s (by simp)) ha (by omega)
    show T.bind (T.bind (step (sD s.1 s.2) _) _) K = _
    rw [e]
    exact loopR h6 hs hk es (stepR acc s) x' y' z' t' (fun s hs => hm s (by simp [hs])) (stepR_ok ha (h6 s (hm s (by simp)))) (by have := stepR_len acc s; omega)
/-- setting_runs, over right settings -/
theorem run41 {I : PyData} {ss : List (Int × Nat)} (hI : itemsD I = .ret (ss.map fun s => sD s.1 s.2)) (h6 : ∀ s ∈ ss, s.2 < 6) (hl : ss.length ≤ 1000) (h : m36 [I, .int 9999] = .ret .none) : m41 [I] = .ret (.list ((ss.foldl stepR []).map rT)) := by
  have i0 : opC .IsNot .none .none = .ret (.bool false) := by kernel_rfl
  simp only [m41, cl41, runDef, nn41, pl41, List.map_cons, List.map_nil, List.length_cons, List.length_nil, Nat.zero_add, Nat.reduceAdd, Nat.reduceSub, List.replicate, List.cons_append, List.nil_append]
  simp [getV_at, T.bind_ret, T.bind_assoc, h, seqT_nx, i0, asB_bool, pileR, hI, asI_int]
  refine (loopR (I := I) (ss := ss) h6 ?hs (R0 := fun acc => T.ret (PyData.list (acc.map rT))) ?hk ss [] none none none none (fun s hs => hs) (fun r hr => absurd hr (by simp)) (by simpa using hl))
  case hk =>
    intro acc x y z t
    simp [seqT_nx, viewF, getV_at, T.bind_ret, seqT_rt, outD_rt]
  case hs =>
    intro s acc x y z t hm ha hlen
    have hi := h6 s hm
    have sub1 : opB .Sub (.int s.1) (.int 1) = .ret (.int (s.1 - 1)) := opB_sub
    refine ⟨some (.int s.1), some (ent s.2).1, some (ent s.2).2.1, some (ent s.2).2.2, ?_⟩
    rcases List.eq_nil_or_concat acc with rfl | ⟨init, r, rfl⟩
    · have ne0 : opC .NotEq (.list []) (.list []) = .ret (.bool false) := by kernel_rfl
      simp [sD, setD, setAll, T.bind_ret, T.bind_assoc, viewF, getV_at, ne0, asB_bool, appR, lb5, seqT_nx, stepR, rT, rD, show 0 < big by decide]
    · rw [List.concat_eq_append] at ha hlen ⊢
      have hr := ha r (by simp)
      have st : stepR (init ++ [r]) s = if r.2.1 = s.1 - 1 ∧ r.2.2 = s.2 then init ++ [(r.1, s.1, s.2)] else init ++ [r] ++ [(s.1, s.1, s.2)] := by simp [stepR]
      have ne1 : opC .NotEq (.list ((init ++ [r]).map rT)) (.list []) = .ret (.bool true) := ne_list (fun x hx => ha x hx) (by simp)
      have l1 : Pv.opI (.list ((init ++ [r]).map rT)) (.int (-1)) = .ret (rT r) := by
        rw [List.map_append]
        exact last_at
      have eq1 : opC .Eq (sD r.2.1 r.2.2) (sD (s.1 - 1) s.2) = .ret (.bool (decide (r.2.1 = s.1 - 1) && decide (r.2.2 = s.2))) := eq_s _ _ hr hi
      have e4 : (PyData.tuple [.int (s.1 - 1), (ent s.2).1, (ent s.2).2.1, (ent s.2).2.2]) = sD (s.1 - 1) s.2 := rfl
      have f0 : Pv.opI (rT r) (.int 0) = .ret (.int r.1) := fst_r
      have ct : opS (rT r) (some 1) none = .ret (sD r.2.1 r.2.2) := cut_r
      rw [st]
      by_cases hc : r.2.1 = s.1 - 1 ∧ r.2.2 = s.2
      · rw [if_pos hc]
        have cb : (decide (r.2.1 = s.1 - 1) && decide (r.2.2 = s.2)) = true := by simp [hc.1, hc.2]
        rw [cb] at eq1
        have lt : lessD (PyData.tuple [.int r.1, .int s.1, (ent s.2).1, (ent s.2).2.1, (ent s.2).2.2]) = true :=
          range_at (f := fun i => lessD (PyData.tuple [.int r.1, .int s.1, (ent i).1, (ent i).2.1, (ent i).2.2])) (g := fun _ => true) (n := 6) (by kernel_rfl) hi
        generalize hL : (init ++ [r]).map rT = L at ne1 l1
        simp [sD, setD, setAll, T.bind_ret, T.bind_assoc, viewF, getV_at, hL, ne1, l1, ct, asB_bool, lb4, lb5, seqT_nx, sub1]
        have eq2 : opC .Eq (.tuple [.int r.2.1, (ent r.2.2).1, (ent r.2.2).2.1, (ent r.2.2).2.2]) (.tuple [.int (s.1 - 1), (ent s.2).1, (ent s.2).2.1, (ent s.2).2.2]) = .ret (.bool true) := eq1
        have hLl : L.length ≤ big ∧ L ≠ [] := by
          rw [← hL]
          refine ⟨?_, by simp⟩
          show _ ≤ 100000
          simp at hlen ⊢
          omega
        have hset : L.set (L.length - 1) (PyData.tuple [.int r.1, .int s.1, (ent s.2).1, (ent s.2).2.1, (ent s.2).2.2]) = (init ++ [(r.1, s.1, s.2)]).map rT := by
          rw [← hL, List.map_append, List.map_append]
          simp [rT, rD]
        rw [eq2, T.bind_ret, asB_bool, T.bind_ret, if_pos rfl]
        simp [lastR, atomT, getV_at, T.bind_ret, T.bind_assoc, l1, f0, lt, seqT_nx, hLl.1, hLl.2, hset]
      · rw [if_neg hc]
        have cb : (decide (r.2.1 = s.1 - 1) && decide (r.2.2 = s.2)) = false := by
          cases h : (decide (r.2.1 = s.1 - 1) && decide (r.2.2 = s.2)) with
          | false => rfl
          | true => exact absurd (by simpa using h) hc
        rw [cb] at eq1
        have eq2 : opC .Eq (.tuple [.int r.2.1, (ent r.2.2).1, (ent r.2.2).2.1, (ent r.2.2).2.2]) (.tuple [.int (s.1 - 1), (ent s.2).1, (ent s.2).2.1, (ent s.2).2.2]) = .ret (.bool false) := eq1
        have hb : ((init ++ [r]).map rT).length < big := by
          show _ < 100000
          simp at hlen ⊢
          omega
        have hap : (init ++ [r]).map rT ++ [PyData.tuple [.int s.1, .int s.1, (ent s.2).1, (ent s.2).2.1, (ent s.2).2.2]] = (init ++ [r] ++ [(s.1, s.1, s.2)]).map rT := by
          rw [List.map_append (l₁ := init ++ [r])]
          rfl
        generalize hL : (init ++ [r]).map rT = L at ne1 l1 hb hap
        simp [sD, setD, setAll, T.bind_ret, T.bind_assoc, viewF, getV_at, hL, ne1, l1, ct, asB_bool, lb4, lb5, seqT_nx, sub1]
        rw [eq2, T.bind_ret, asB_bool, T.bind_ret, if_neg (by simp)]
        simp [appR, getV_at, T.bind_ret, T.bind_assoc, seqT_nx, hb, hap, -List.append_assoc]
        simp
end K44

-- K44g
set_option maxRecDepth 100000
set_option maxHeartbeats 4000000
set_option linter.all false
namespace K44
open PySem L2 Pv
theorem nn54 : NN 54 = (["settings", "found", "one", "last"] : List Str) := by kernel_rfl
theorem pl54 : plOf (["settings", "found", "one", "last"] : List Str) (["found"] : List Str) = [1] := by kernel_rfl
abbrev envL (I : PyData) (acc : List Run) (x y : Option PyData) : En := [some I, none, x, y, some (.list (acc.map rT))]
theorem loopL {α : Type} {step : PyData → En → T Out} {I : PyData} {ss : List (Int × Nat)} (h6 : ∀ s ∈ ss, s.2 < 6)
    (hs : ∀ (s : Int × Nat) (acc : List Run) (x y : Option PyData), s ∈ ss → (∀ r ∈ acc, r.2.2 < 6) → acc.length < 1000 → ∃ x' y', step (sD s.1 s.2) (envL I acc x y) = .ret (.nx (envL I (stepR acc s) x' y')))
    {K : Out → T α} {R0 : List Run → T α} (hk : ∀ acc x y, K (.nx (envL I acc x y)) = R0 acc) : ∀ (es : List (Int × Nat)) (acc : List Run) (x y : Option PyData), (∀ s ∈ es, s ∈ ss) → (∀ r ∈ acc, r.2.2 < 6) → acc.length + es.length ≤ 1000 →
    T.bind (forL step (es.map fun s => sD s.1 s.2) (envL I acc x y)) K = R0 (es.foldl stepR acc)
  | [], acc, x, y, _, _, _ => hk acc x y
  | s :: es, acc, x, y, hm, ha, hl => by
    rw [List.length_cons] at hl
    obtain ⟨x', y', e⟩ := hs s acc x y (hm s (by simp)) ha (by omega)
    show T.bind (T.bind (step (sD s.1 s.2) _) _) K = _
    rw [e]
    exact loopL h6 hs hk es (stepR acc s) x' y' (fun s hs => hm s (by simp [hs])) (stepR_ok ha (h6 s (hm s (by simp)))) (by have := stepR_len acc s; omega)
def eD (i : Nat) : PyData := .tuple [(ent i).1, (ent i).2.1, (ent i).2.2]
theorem pl_e {i : Nat} (h : i < 6) : plD (eD i) = true := range_at (f := fun i => plD (eD i)) (g := fun _ => true) (n := 6) (by kernel_rfl) h
theorem eq_e {i j : Nat} (hi : i < 6) (hj : j < 6) : opC .Eq (eD i) (eD j) = .ret (.bool (decide (i = j))) := by
  rw [opC_eqP (pl_e hi) (pl_e hj)]
  exact congrArg (fun b => T.ret (PyData.bool b)) (ent_eqv i hi j hj)
/-- the law's own runs -/
theorem run54 {I : PyData} {ss : List (Int × Nat)} (hI : itemsD I = .ret (ss.map fun s => sD s.1 s.2)) (h6 : ∀ s ∈ ss, s.2 < 6) (h1 : ∀ s ∈ ss, 1 ≤ s.1) (hl : ss.length ≤ 1000) : m54 [I] = .ret (.list ((ss.foldl stepR []).map rT)) := by
  simp only [m54, cl54, runDef, nn54, pl54, List.map_cons, List.map_nil, List.length_cons, List.length_nil, Nat.zero_add, Nat.reduceAdd, Nat.reduceSub, List.replicate, List.cons_append, List.nil_append]
  simp [getV_at, T.bind_ret, T.bind_assoc, seqT_nx, asB_bool, pileR, hI, asI_int]
  refine (loopL (I := I) (ss := ss) h6 ?hs (R0 := fun acc => T.ret (PyData.list (acc.map rT))) ?hk ss [] none none (fun s hs => hs) (fun r hr => absurd hr (by simp)) (by simpa using hl))
  case hk =>
    intro acc x y
    simp [seqT_nx, viewF, getV_at, T.bind_ret, seqT_rt, outD_rt]
  case hs =>
    intro s acc x y hm ha hlen
    have hi := h6 s hm
    have p1 := h1 s hm
    have o0 : Pv.opI (sD s.1 s.2) (.int 0) = .ret (.int s.1) := by kernel_rfl
    have o1 : opS (sD s.1 s.2) (some 1) none = .ret (eD s.2) := by kernel_rfl
    have ct : ∀ f : Int, opB .Add (.tuple [.int f]) (sD s.1 s.2) = .ret (rD f s.1 s.2) := fun f => by kernel_rfl
    have eI : ∀ a b : Int, opC .Eq (.int a) (.int b) = .ret (.bool (decide (a = b))) := fun a b => by rw [opC_eqI, eqvI]
    rcases List.eq_nil_or_concat acc with rfl | ⟨init, r, rfl⟩
    · refine ⟨some (sD s.1 s.2), some (.tuple [.int 0, .int (-1), .none, .none, .none]), ?_⟩
      have ne0 : opC .NotEq (.list []) (.list []) = .ret (.bool false) := by kernel_rfl
      have q1 : Pv.opI (.tuple [.int 0, .int (-1), .none, .none, .none]) (.int 1) = .ret (.int (-1)) := by kernel_rfl
      have lt : lessD (.tuple [.int 0, .int (-1), .none, .none, .none]) = true := by kernel_rfl
      have d0 : decide ((-1 : Int) + 1 = s.1) = false := decide_eq_false (by omega)
      have e0 : opC .Eq (.int 0) (.int s.1) = .ret (.bool false) := by rw [eI, decide_eq_false (by omega)]
      simp [viewF, atomT, T.bind_ret, T.bind_assoc, getV_at, ne0, asB_bool, lb5, lt, q1, o0, opB_add, e0, appR, lb1, ct, seqT_nx, stepR, rT, show 0 < big by decide]
    · rw [List.concat_eq_append] at ha hlen ⊢
      have hr := ha r (by simp)
      have st : stepR (init ++ [r]) s = if r.2.1 = s.1 - 1 ∧ r.2.2 = s.2 then init ++ [(r.1, s.1, s.2)] else init ++ [r] ++ [(s.1, s.1, s.2)] := by simp [stepR]
      have ne1 : opC .NotEq (.list ((init ++ [r]).map rT)) (.list []) = .ret (.bool true) := ne_list (fun x hx => ha x hx) (by simp)
      have l1 : Pv.opI (.list ((init ++ [r]).map rT)) (.int (-1)) = .ret (rT r) := by
        rw [List.map_append]
        exact last_at
      have lt : lessD (rT r) = true := range_at (f := fun i => lessD (rD r.1 r.2.1 i)) (g := fun _ => true) (n := 6) (by kernel_rfl) hr
      have q0 : Pv.opI (rT r) (.int 0) = .ret (.int r.1) := fst_r
      have q1 : Pv.opI (rT r) (.int 1) = .ret (.int r.2.1) := by kernel_rfl
      have q2 : opS (rT r) (some 2) none = .ret (eD r.2.2) := by kernel_rfl
      have ee := eq_e hr hi
      have hb : ((init ++ [r]).map rT).length < big := by
        show _ < 100000
        simp at hlen ⊢
        omega
      have hap : (init ++ [r]).map rT ++ [rD s.1 s.1 s.2] = (init ++ [r] ++ [(s.1, s.1, s.2)]).map rT := by
        rw [List.map_append (l₁ := init ++ [r])]
        rfl
      have hcut : opS (.list ((init ++ [r]).map rT)) none (some (-1)) = .ret (.list (init.map rT)) := by
        show T.ret (PyData.list (cutD _ none (some (-1)))) = _
        unfold cutD
        have e1 : HT.sIx ((init ++ [r]).map rT).length ((init ++ [r]).map rT).length (some (-1)) = init.length := by
          unfold HT.sIx
          dsimp only
          rw [if_pos (by decide)]
          simp
          try omega
        rw [e1, HT.sIx_none, List.drop_zero, Nat.sub_zero, List.map_append, List.take_left' (by simp)]
      have hset : init.map rT ++ [rD r.1 s.1 s.2] = (init ++ [(r.1, s.1, s.2)]).map rT := by
        rw [List.map_append]
        rfl
      have hbi : (init.map rT).length + 1 ≤ big := by
        show _ ≤ 100000
        simp at hlen ⊢
        omega
      refine ⟨some (sD s.1 s.2), some (rT r), ?_⟩
      generalize hL : (init ++ [r]).map rT = L at ne1 l1 hb hap hcut
      by_cases hn : r.2.1 + 1 = s.1
      · by_cases hj : r.2.2 = s.2
        · rw [st.trans (if_pos ⟨by omega, hj⟩)]
          simp [viewF, atomT, T.bind_ret, T.bind_assoc, getV_at, hL, ne1, l1, asB_bool, lt, q1, o0, opB_add, eI, hn, q2, o1, ee, hj, addR, hcut, q0, lb1, ct, seqT_nx]
          have e6 : opC .Eq (eD s.2) (eD s.2) = .ret (.bool true) := by rw [eq_e hi hi]; simp
          have hbi' : init.length + 1 ≤ big := by simpa using hbi
          rw [e6, T.bind_ret, asB_bool, T.bind_ret, if_pos rfl, if_pos hbi', hset]
          rfl
        · rw [st.trans (if_neg (fun z => hj z.2))]
          simp [viewF, atomT, T.bind_ret, T.bind_assoc, getV_at, hL, ne1, l1, asB_bool, lt, q1, o0, opB_add, eI, hn, q2, o1, ee, hj, appR, lb1, ct, seqT_nx, hb, hap, -List.append_assoc]
      · rw [st.trans (if_neg (fun z => hn (by omega)))]
        simp [viewF, atomT, T.bind_ret, T.bind_assoc, getV_at, hL, ne1, l1, asB_bool, lt, q1, o0, opB_add, eI, hn, appR, lb1, ct, seqT_nx, hb, hap, -List.append_assoc]
end K44

-- K44h
set_option maxRecDepth 100000
set_option maxHeartbeats 4000000
set_option linter.all false
namespace K44
open PySem L2 Pv
/-- the number before -/
def lastB : List (Int × Nat) → Option Int → Option Int
  | [], b => b
  | s :: ss, _ => lastB ss (some s.1)
/-- behind settings that ascend the first wrong item is found -/
theorem fw_bad {R : Num} {d : PyData} {rest : List PyData} : ∀ (ss : List (Int × Nat)) (k : Nat) (b : Option Int), (∀ s ∈ ss, R (sD s.1 s.2) = some s.1) → (∀ s ∈ ss.head?, reach b s.1 = false) → ss.Pairwise (fun s t => s.1 < t.1) →
    (R d = none ∨ ∃ n, R d = some n ∧ reach (lastB ss b) n = true) → fw R ((ss.map fun s => sD s.1 s.2) ++ d :: rest) k b = some (k + ss.length)
  | [], k, b, _, _, _, hd => by
    show fw R (d :: rest) k b = _
    unfold fw
    rcases hd with h | ⟨n, h, hr⟩
    · rw [h]
      rfl
    · rw [h]
      dsimp only
      rw [if_pos (show reach b n = true from hr)]
      rfl
  | s :: ss, k, b, hR, hb, hp, hd => by
    have h1 := hR s (by simp)
    have h2 := hb s (by simp)
    show fw R (sD s.1 s.2 :: ((ss.map fun s => sD s.1 s.2) ++ d :: rest)) k b = _
    unfold fw
    rw [h1]
    dsimp only
    rw [h2, if_neg (by simp)]
    rw [fw_bad ss (k + 1) (some s.1) (fun t ht => hR t (by simp [ht])) (fun t ht => ?_) (List.pairwise_cons.mp hp).2 hd, List.length_cons]
    · congr 1
      omega
    · have hm : t ∈ ss := List.mem_of_mem_head? ht
      have := (List.pairwise_cons.mp hp).1 t hm
      unfold reach
      exact decide_eq_false (by omega)
/-- setting_runs of what is wrong -/
theorem bad41 {I : PyData} {j : Nat} (h : m36 [I, .int 9999] = .ret (wrongD (some j))) : m41 [I] = .err ⟨"BadColumns", [("at", .int (j : Int))]⟩ := by
  have i0 : opC .IsNot (.tuple [.int (j : Int)]) .none = .ret (.bool true) := by kernel_rfl
  have i1 : Pv.opI (.tuple [.int (j : Int)]) (.int 0) = .ret (.int (j : Int)) := by kernel_rfl
  simp only [m41, cl41, runDef, nn41, pl41, List.map_cons, List.map_nil, List.length_cons, List.length_nil, Nat.zero_add, Nat.reduceAdd, Nat.reduceSub, List.replicate, List.cons_append, List.nil_append]
  simp [getV_at, T.bind_ret, T.bind_assoc, h, seqT_nx, wrongD, i0, i1, asB_bool]
  rfl
end K44

-- K44i
set_option maxRecDepth 100000
set_option maxHeartbeats 4000000
set_option linter.all false
namespace K44
open PySem L2 Pv
theorem told_ret (d : PyData) : told (.ret d) = .ret (.list [d]) := by kernel_rfl
theorem told_bad (v : PyData) : told (.err ⟨"BadColumns", [("at", v)]⟩) = .ret (.tuple [.str "columns", v]) := by kernel_rfl
theorem last_none : told (m41 [.none]) = .ret (.tuple [.str "columns", .none]) := by kernel_rfl
theorem last_a : told (m42 [.str "a"]) = .ret (.tuple [.str "columns", .none]) := by kernel_rfl
end K44

-- K44j
set_option maxRecDepth 100000
set_option maxHeartbeats 4000000
set_option linter.all false
namespace K44
open PySem L2 Pv
theorem nn53 : NN 53 = (["state", "found", "number", "size", "hidden", "style", "turn"] : List Str) := by kernel_rfl
theorem pl53 : plOf (["state", "found", "number", "size", "hidden", "style", "turn"] : List Str) (["found"] : List Str) = [1] := by kernel_rfl
/-- the settings that the law draws -/
structure Sts (ss : List (Int × Nat)) (nb : Int) (k : Nat) : Prop where
  ln : ss.length = k
  ok : ∀ s ∈ ss, s.2 < 6 ∧ 1 ≤ s.1 ∧ s.1 ≤ nb
  up : ss.Pairwise fun s t => s.1 < t.1
theorem Sts.add {ss : List (Int × Nat)} {nb n : Int} {k i : Nat} (h : Sts ss nb k) (h0 : 0 ≤ nb) (hn : nb < n) (hi : i < 6) : Sts (ss ++ [(n, i)]) n (k + 1) := by
  refine ⟨by rw [List.length_append, h.ln]; rfl, fun s hs => ?_, ?_⟩
  · rcases List.mem_append.mp hs with h1 | h1
    · have := h.ok s h1
      exact ⟨this.1, this.2.1, by omega⟩
    · rw [List.mem_singleton.mp h1]
      exact ⟨hi, by show 1 ≤ n; omega, Int.le_refl _⟩
  · rw [List.pairwise_append]
    refine ⟨h.up, by simp, fun s hs t ht => ?_⟩
    rw [List.mem_singleton.mp ht]
    have := (h.ok s hs).2.2
    show s.1 < n
    omega
theorem at_L' {xs : List PyData} {i : Int} (h0 : 0 ≤ i) (h1 : i < (xs.length : Nat)) : ∃ d, d ∈ xs ∧ Pv.opI (.list xs) (.int i) = .ret d := by
  have : i.toNat < xs.length := by omega
  exact ⟨xs[i.toNat], List.getElem_mem this, at_L h0 (List.getElem?_eq_getElem this)⟩
theorem ok_dig {α : Type} {m : Int} {k : Nat} {Q : α → Prop} {f : PyData → T α} (h0 : 0 < m) (h1 : m < 1073741824) (h : ∀ i : Int, 0 ≤ i → i < m → Ok (f (.int i)) k Q) : Ok (T.bind (digM [drawD, .int m]) f) (k + 1) Q := by
  rw [dig_at h0 h1]
  exact ok_pick fun i h2 h3 => h i h2 h3
theorem range_len {n : Nat} (h : n < 1000) : ∃ ds : List PyData, rangeD1 (.int (n : Int)) = .ret ds ∧ ds.length = n := by
  refine ⟨(List.range ((n : Int)).toNat).map fun k => .int (0 + (k : Nat)), ?_, by simp⟩
  unfold rangeD1
  exact if_pos ⟨by omega, by omega⟩
def I53 (b : Int) (k : Nat) (ρ : En) : Prop := ∃ (nb : Int) (i : Nat) (j : Option PyData) (ss : List (Int × Nat)), ρ = [some drawD, none, some (.int nb), some (ent i).1, some (ent i).2.1, some (ent i).2.2, j, some (.list (ss.map fun s => sD s.1 s.2))] ∧ i < 6 ∧ 0 ≤ nb ∧ nb ≤ b + 2 * (k : Int) ∧ Sts ss nb k
theorem run52 : m52 [] = .ret plainD := by kernel_rfl
theorem run53 : Ok (m53 [drawD]) 42 fun d => ∃ (ss : List (Int × Nat)) (nb : Int) (k : Nat), d = .list (ss.map fun s => sD s.1 s.2) ∧ Sts ss nb k ∧ nb ≤ 9990 ∧ k ≤ 10 := by
  unfold m53 runDef
  simp only [cl53, nn53, pl53, List.map_cons, List.map_nil, List.length_cons, List.length_nil, Nat.zero_add, Nat.reduceAdd, Nat.reduceSub, List.replicate, List.cons_append, List.nil_append]
  simp [getV_at, T.bind_ret, T.bind_assoc, seqT_nx, asB_bool, pileR, asI_int, par2P, lb3, show 0 ≤ big by decide]
  refine ok_mono (n := 41 + 1) (ok_dig (by decide) (by decide) fun i hi hi3 => ?_) (by omega) fun _ h => h
  obtain ⟨d, hd, e⟩ := at_L' (xs := [.int 0, .int 0, .int 9970]) hi hi3
  have hd' : ∃ nb : Int, d = .int nb ∧ 0 ≤ nb ∧ nb ≤ 9970 := by
    simp only [List.mem_cons, List.not_mem_nil, or_false] at hd
    rcases hd with rfl | rfl | rfl
    · exact ⟨0, rfl, by decide, by decide⟩
    · exact ⟨0, rfl, by decide, by decide⟩
    · exact ⟨9970, rfl, by decide, by decide⟩
  obtain ⟨nb, rfl, n0, n1⟩ := hd'
  rw [e]
  simp [T.bind_ret, T.bind_assoc, seqT_nx, par3F, run52, getV_at]
  refine ok_mono (n := 40 + 1) (ok_dig (by decide) (by decide) fun t ht ht2 => ?_) (by omega) fun _ h => h
  obtain ⟨tn, rfl⟩ : ∃ n : Nat, t = n := ⟨t.toNat, by omega⟩
  obtain ⟨ds, r, rl⟩ := range_len (n := tn) (by omega)
  rw [r, T.bind_ret]
  refine ok_mono (n := 4 * ds.length + 0) (ok_bind (n := 4 * ds.length) (k := 0) (ok_for (n := 4) (N := 10) (I := I53 nb) ?st ds 0 _ (by omega) ⟨nb, 0, none, [], rfl, by decide, n0, by omega, ⟨rfl, fun s hs => absurd hs (by simp), List.Pairwise.nil⟩⟩) fun o ho => ?_) (by omega) fun _ h => h
  case st =>
    rintro k d ρ hk ⟨n, i, j, ss, rfl, hi, h0, hb, hS⟩
    simp [T.bind_ret, T.bind_assoc, getV_at, lb4]
    refine ok_mono (n := 3 + 1) (ok_dig (by decide) (by decide) fun p hp hp2 => ?_) (by omega) fun _ h => h
    obtain ⟨x, hx, e⟩ := at_L' (xs := [.int 1, .int 1, .int 1, .int 2]) hp hp2
    have hx' : ∃ q : Int, x = .int q ∧ 1 ≤ q ∧ q ≤ 2 := by
      simp only [List.mem_cons, List.not_mem_nil, or_false] at hx
      rcases hx with rfl | rfl | rfl | rfl
      · exact ⟨1, rfl, by decide, by decide⟩
      · exact ⟨1, rfl, by decide, by decide⟩
      · exact ⟨1, rfl, by decide, by decide⟩
      · exact ⟨2, rfl, by decide, by decide⟩
    obtain ⟨q, rfl, q1, q2⟩ := hx'
    rw [e, T.bind_ret, opB_add, T.bind_ret]
    refine ok_mono (n := 2 + 1) (ok_dig (by decide) (by decide) fun u hu hu2 => ?_) (by omega) fun _ h => h
    have tl : ∀ i' : Nat, i' < 6 → Ok (T.bind (T.ret (Out.nx [some drawD, none, some (.int (n + q)), some (ent i').1, some (ent i').2.1, some (ent i').2.2, some d, some (.list (ss.map fun s => sD s.1 s.2))])) fun o => seqT o fun ρ => T.bind (appR 7 (fun ρ => T.bind (getV ρ 2) fun a => T.bind (getV ρ 3) fun a_1 => T.bind (getV ρ 4) fun a_2 => T.bind (getV ρ 5) fun a_3 => T.ret (PyData.tuple [a, a_1, a_2, a_3])) 100000 ρ) fun o => seqT o fun ρ => T.ret (Out.nx ρ)) 0 fun x => ∃ ρ', x = Out.nx ρ' ∧ I53 nb (k + 1) ρ' := fun i' hi' => by
      have hb' : (ss.map fun s => sD s.1 s.2).length < big := by
        rw [List.length_map, hS.ln]
        show k < 100000
        omega
      refine ok_mono (Q := fun x => x = Out.nx [some drawD, none, some (.int (n + q)), some (ent i').1, some (ent i').2.1, some (ent i').2.2, some d, some (.list ((ss ++ [(n + q, i')]).map fun s => sD s.1 s.2))]) ?_ (Nat.le_refl _) fun x hx => ⟨_, hx, n + q, i', some d, ss ++ [(n + q, i')], rfl, hi', by omega, by omega, hS.add h0 (by omega) hi'⟩
      rw [T.bind_ret, seqT_nx]
      unfold appR
      dsimp only [List.getElem?_cons_succ, List.getElem?_cons_zero]
      rw [getV_at (d := .int (n + q)) rfl, T.bind_ret, getV_at (d := (ent i').1) rfl, T.bind_ret, getV_at (d := (ent i').2.1) rfl, T.bind_ret, getV_at (d := (ent i').2.2) rfl, T.bind_ret, T.bind_ret, if_pos hb', T.bind_ret, seqT_nx]
      refine ok_ret ?_
      rw [List.map_append]
      rfl
    have eI : ∀ a b : Int, opC .Eq (.int a) (.int b) = .ret (.bool (decide (a = b))) := fun a b => by rw [opC_eqI, eqvI]
    by_cases hu0 : u = 0
    · subst hu0
      rw [eI, T.bind_ret, asB_bool, T.bind_ret, if_pos (by decide)]
      simp only [T.bind_assoc]
      refine ok_mono (n := 1 + 1) (ok_dig (by decide) (by decide) fun v hv hv2 => ?_) (by omega) fun _ h => h
      obtain ⟨sz, hsz, e2⟩ := at_L' (xs := [.none, .int 0, .int 5]) hv hv2
      rw [e2, T.bind_ret]
      refine ok_mono (n := 0 + 1) (ok_dig (by decide) (by decide) fun w hw hw2 => ?_) (by omega) fun _ h => h
      have hw' : w = 0 ∨ w = 1 := by omega
      simp only [List.mem_cons, List.not_mem_nil, or_false] at hsz
      rcases hsz with rfl | rfl | rfl <;> rcases hw' with rfl | rfl
      · exact tl 5 (by decide)
      · exact tl 4 (by decide)
      · exact tl 2 (by decide)
      · exact tl 3 (by decide)
      · exact tl 0 (by decide)
      · exact tl 1 (by decide)
    · rw [eI, T.bind_ret, asB_bool, T.bind_ret, decide_eq_false hu0, if_neg (by simp)]
      exact ok_mono (tl i hi) (by omega) fun _ h => h
  · obtain ⟨ρ, rfl, n, i, j, ss, rfl, hi, h0, hb, hS⟩ := ho
    refine ok_mono (Q := fun d => d = .list (ss.map fun s => sD s.1 s.2)) ?_ (Nat.le_refl _) fun d hd => ⟨ss, hd, n, 0 + ds.length, hS, by omega, by omega⟩
    simp [seqT_nx, viewF, getV_at, T.bind_ret, seqT_rt, outD_rt]
    exact ok_ret rfl
end K44

-- K44k
set_option maxRecDepth 100000
set_option maxHeartbeats 4000000
set_option linter.all false
namespace K44
open PySem L2 Pv
theorem nn42 : NN 42 = (["runs", "settings", "at", "run", "number"] : List Str) ∧ NN 43 = (["value"] : List Str) := by
  refine ⟨?_, ?_⟩ <;> kernel_rfl
/-- _is_run -/
theorem run43 {f l : Int} {i : Nat} (hi : i < 6) (h0 : 1 ≤ f) (h1 : f ≤ l) (h2 : l ≤ 9999) : m43 [rD f l i] = .ret (.bool true) := by
  have h7 : m7 [rD f l i, .int 5] = .ret (.bool true) := by kernel_rfl
  have o1 : Pv.opI (rD f l i) (.int 1) = .ret (.int l) := by kernel_rfl
  have o0 : Pv.opI (rD f l i) (.int 0) = .ret (.int f) := by kernel_rfl
  have c2 : opS (rD f l i) (some 2) none = .ret (eD i) := by kernel_rfl
  have tb : ∀ c : Bool, truD (.bool c) = .ret c := fun _ => rfl
  have r2 : m2 [.int l, .int 1, .int 9999] = .ret (.bool true) := by
    rw [run2, decide_eq_true (by omega), decide_eq_true (by omega)]
    rfl
  have us : unstar (eD i) = .ret [(ent i).1, (ent i).2.1, (ent i).2.2] := by kernel_rfl
  have r37 : m37 [.tuple [.int f, (ent i).1, (ent i).2.1, (ent i).2.2], .int l] = .ret (.bool true) := by
    have := run37 (n := f) (b := l) (ent_mem hi)
    rw [decide_eq_true h0, decide_eq_true h1] at this
    exact this
  simp only [m43, cl43, runDef, nn42.2, List.map_cons, List.map_nil, List.length_cons, List.length_nil, Nat.zero_add, Nat.reduceAdd, Nat.reduceSub, List.replicate, List.cons_append, List.nil_append]
  simp [getV_at, T.bind_ret, T.bind_assoc, h7, o1, o0, c2, tb, r2, asB_bool, seqT_nx, seqT_rt, asI_int, us, lb4, r37, outD_rt]
end K44

-- K44l
set_option maxRecDepth 100000
set_option maxHeartbeats 4000000
set_option linter.all false
namespace K44
open PySem L2 Pv
theorem pl42 : plOf (["runs", "settings", "at", "run", "number"] : List Str) (["settings"] : List Str) = [1] := by kernel_rfl
abbrev Sg := Int × Nat
def sT (s : Sg) : PyData := sD s.1 s.2
/-- the settings of a run -/
def expR (r : Run) : List Sg := (List.range (r.2.1 + 1 - r.1).toNat).map fun k => (r.1 + (k : Nat), r.2.2)
theorem expR_mem {r : Run} {s : Sg} (h : s ∈ expR r) : r.1 ≤ s.1 ∧ s.1 ≤ r.2.1 ∧ s.2 = r.2.2 := by
  obtain ⟨k, hk, rfl⟩ := List.mem_map.mp h
  have := List.mem_range.mp hk
  exact ⟨by show r.1 ≤ r.1 + (k : Int); omega, by show r.1 + (k : Int) ≤ r.2.1; omega, rfl⟩
/-- a right run -/
structure RunOk (r : Run) : Prop where
  i : r.2.2 < 6
  f : 1 ≤ r.1
  l : r.1 ≤ r.2.1
  m : r.2.1 ≤ 9999
theorem expR_len {r : Run} (h : RunOk r) : (expR r).length ≤ 9999 := by
  unfold expR
  have := h.f
  have := h.l
  have := h.m
  simp
  omega
abbrev env42 (I : PyData) (acc : List PyData) (x y z : Option PyData) : En := [some I, none, x, y, z, some (.list acc)]
theorem wipe42 (a b c d e f : Option PyData) : wipeE [a, b, c, d, e, f] (List.map (fun x => x.snd) (lcOwn [Str.ofString "runs", Str.ofString "settings", Str.ofString "at", Str.ofString "run", Str.ofString "number"] { kind := ScopeKind.function, names := [(Str.ofString ".0", NameKind.local), (Str.ofString "number", NameKind.local), (Str.ofString "run", NameKind.free)], isGenerator := false, isCoroutine := false })) = [a, b, c, d, none, f] := by kernel_rfl
theorem nd_s (a : Int) {i : Nat} (h : i < 6) : noDict (sD a i) = true :=
  range_at (f := fun i => noDict (sD a i)) (g := fun _ => true) (n := 6) (by kernel_rfl) h
theorem cl_s (a : Int) {i : Nat} (h : i < 6) : (sD a i).canLay0 = true :=
  range_at (f := fun i => (sD a i).canLay0) (g := fun _ => true) (n := 6) (by kernel_rfl) h
theorem dp_s (a : Int) {i : Nat} (h : i < 6) : (sD a i).depth = 3 :=
  range_at (f := fun i => (sD a i).depth) (g := fun _ => 3) (n := 6) (by kernel_rfl) h
theorem pl_sets {ss : List Sg} (h : ∀ s ∈ ss, s.2 < 6) : plD (.list (ss.map sT)) = true := by
  have key : ∀ x ∈ ss.map sT, ∃ a i, i < 6 ∧ x = sD a i := fun x hx => by
    obtain ⟨r, hr, rfl⟩ := List.mem_map.mp hx
    exact ⟨r.1, r.2, h r hr, rfl⟩
  have n1 : noDict (.list (ss.map sT)) = true := noDicts_of fun x hx => by
    obtain ⟨a, i, hi, rfl⟩ := key x hx
    exact nd_s a hi
  have c1 : (PyData.list (ss.map sT)).canLay0 = true := canAll_of fun x hx => by
    obtain ⟨a, i, hi, rfl⟩ := key x hx
    exact cl_s a hi
  have d1 : (PyData.list (ss.map sT)).depth ≤ 4 := by
    rw [PyData.depth]
    exact Nat.succ_le_succ (depthAll_of fun x hx => by
      obtain ⟨a, i, hi, rfl⟩ := key x hx
      exact Nat.le_of_eq (dp_s a hi))
  unfold plD SeqAt.shaped
  rw [n1, c1, decide_eq_true (Nat.le_trans d1 (by decide))]
  rfl
theorem ne_sets {ss : List Sg} (h : ∀ s ∈ ss, s.2 < 6) (h0 : ss ≠ []) : opC .NotEq (.list (ss.map sT)) (.list []) = .ret (.bool true) := by
  obtain ⟨r, t, rfl⟩ := List.exists_cons_of_ne_nil h0
  rw [opC_neP (pl_sets h) (by rfl)]
  rfl
/-- the last number of a row of settings -/
theorem lastS {ss : List Sg} (h : ss ≠ []) : ∃ s, s ∈ ss ∧ Pv.opI (.list (ss.map sT)) (.int (-1)) = .ret (sT s) ∧ ss.getLast? = some s := by
  rcases List.eq_nil_or_concat ss with rfl | ⟨init, r, rfl⟩
  · exact absurd rfl h
  · rw [List.concat_eq_append]
    refine ⟨r, by simp, ?_, by simp⟩
    rw [List.map_append]
    exact last_at
theorem loop42 {α : Type} {step : PyData → En → T Out} {I : PyData} {rs : List Run} {F : List Sg} (h6 : ∀ r ∈ rs, RunOk r)
    (hs : ∀ (k : Nat) (r : Run) (acc : List Sg) (x y z : Option PyData), r ∈ rs → (∀ s ∈ acc, s.2 < 6) → (∀ s ∈ acc, s.1 < r.1) → acc.length ≤ 20000 → ∃ x' y' z', step (.tuple [.int (k : Int), rT r]) (env42 I (acc.map sT) x y z) = .ret (.nx (env42 I ((acc ++ expR r).map sT) x' y' z')))
    {K : Out → T α} {R0 : T α} {tail : List PyData} (hF : F.length ≤ 20000) (hk : ∀ x y z, T.bind (forL step (enumD tail (rs.length)) (env42 I (F.map sT) x y z)) K = R0) : ∀ (es : List Run) (k : Nat) (acc : List Sg) (x y z : Option PyData), k + es.length = rs.length → (∀ r ∈ es, r ∈ rs) → es.Pairwise (fun r s => r.2.1 < s.1) → (∀ s ∈ acc, s.2 < 6) → (∀ r ∈ es, ∀ s ∈ acc, s.1 < r.1) → acc ++ es.flatMap expR = F →
    T.bind (forL step (enumD (es.map rT ++ tail) k) (env42 I (acc.map sT) x y z)) K = R0
  | [], k, acc, x, y, z, hl, _, _, ha, _, hb => by
    rw [List.length_nil, Nat.add_zero] at hl
    subst hl
    simp only [List.flatMap_nil, List.append_nil] at hb
    subst hb
    exact hk x y z
  | r :: es, k, acc, x, y, z, hl, hm, hp, ha, hlt, hb => by
    rw [List.length_cons] at hl
    have hF' := hF
    rw [← hb, List.flatMap_cons, List.length_append, List.length_append] at hF'
    obtain ⟨x', y', z', e⟩ := hs k r acc x y z (hm r (by simp)) ha (hlt r (by simp)) (by omega)
    have p := List.pairwise_cons.mp hp
    show T.bind (T.bind (step (.tuple [.int (k : Int), rT r]) _) _) K = _
    rw [e]
    refine loop42 h6 hs hF hk es (k + 1) (acc ++ expR r) x' y' z' (by omega) (fun s hs => hm s (by simp [hs])) p.2 (fun s h => ?_) (fun q hq s h => ?_) (by rw [← hb, List.flatMap_cons, ← List.append_assoc])
    · rcases List.mem_append.mp h with h | h
      · exact ha s h
      · rw [(expR_mem h).2.2]
        exact (h6 r (hm r (by simp))).i
    · rcases List.mem_append.mp h with h | h
      · exact hlt q (by simp [hq]) s h
      · have := p.1 q hq
        have := (expR_mem h).2.1
        omega
end K44

-- K44m
set_option maxRecDepth 100000
set_option maxHeartbeats 4000000
set_option linter.all false
namespace K44
open PySem L2 Pv
theorem unst_e (i : Nat) : unstar (eD i) = .ret [(ent i).1, (ent i).2.1, (ent i).2.2] := by kernel_rfl
theorem step42 {r : Run} (h : RunOk r) {acc : List Sg} (ha : ∀ s ∈ acc, s.2 < 6) (hlt : ∀ s ∈ acc, s.1 < r.1) (hl : acc.length ≤ 20000) : (acc = [] ∧ opC .NotEq (.list (acc.map sT)) (.list []) = .ret (.bool false)) ∨ ∃ s : Sg, opC .NotEq (.list (acc.map sT)) (.list []) = .ret (.bool true) ∧ Pv.opI (.list (acc.map sT)) (.int (-1)) = .ret (sT s) ∧ s.1 < r.1 := by
  by_cases h0 : acc = []
  · subst h0
    exact .inl ⟨rfl, by kernel_rfl⟩
  · obtain ⟨s, hs, e, _⟩ := lastS h0
    exact .inr ⟨s, ne_sets ha h0, e, hlt s hs⟩
theorem fst_s (a : Int) (i : Nat) : Pv.opI (sD a i) (.int 0) = .ret (.int a) := by kernel_rfl
theorem range2 {f l : Int} (h0 : 1 ≤ f) (h2 : f ≤ l) (h1 : l ≤ 9999) : rangeD2 (.int f) (.int (l + 1)) = .ret ((List.range (l + 1 - f).toNat).map fun k => .int (f + (k : Nat))) := by
  unfold rangeD2
  exact if_pos ⟨by omega, by omega, by omega, by omega⟩
theorem one42 {I : PyData} {tail : List PyData} {rs : List Run} (h6 : ∀ r ∈ rs, RunOk r) (hp : rs.Pairwise fun r s => r.2.1 < s.1) (hb : (rs.flatMap expR).length ≤ 20000) (hrow : m6 [I] = .ret (.bool true)) (hen : enumOf I = .ret (enumD (rs.map rT ++ tail) 0)) {R0 : T PyData}
    (hk : (tail = [] ∧ R0 = .ret (.tuple ((rs.flatMap expR).map sT))) ∨ (∃ d rest, tail = d :: rest ∧ R0 = .err ⟨"BadColumns", [("at", .int (rs.length : Int))]⟩ ∧ (m43 [d] = .ret (.bool false) ∨ (∃ n s, m43 [d] = .ret (.bool true) ∧ Pv.opI d (.int 0) = .ret (.int n) ∧ (rs.flatMap expR).getLast? = some s ∧ n ≤ s.1)))) :
    m42 [I] = R0 := by
  have tb : ∀ c : Bool, truD (.bool c) = .ret c := fun _ => rfl
  simp only [m42, cl42, runDef, nn42.1, pl42, List.map_cons, List.map_nil, List.length_cons, List.length_nil, Nat.zero_add, Nat.reduceAdd, Nat.reduceSub, List.replicate, List.cons_append, List.nil_append]
  simp [getV_at, T.bind_ret, T.bind_assoc, hrow, hen, seqT_nx, asB_bool, tb, pileR]
  refine loop42 (rs := rs) (I := I) (tail := tail) h6 ?hs hb ?hk rs 0 [] none none none (by omega) (fun r hr => hr) hp (by simp) (by simp) (by simp)
  case hs =>
    intro k r acc x y z hr ha hlt hl
    have ho := h6 r hr
    have r43 : m43 [rT r] = .ret (.bool true) := run43 ho.i ho.f ho.l ho.m
    have o0 : Pv.opI (rT r) (.int 0) = .ret (.int r.1) := fst_r
    have o1 : Pv.opI (rT r) (.int 1) = .ret (.int r.2.1) := by kernel_rfl
    have c2 : opS (rT r) (some 2) none = .ret (eD r.2.2) := by kernel_rfl
    have hm : (expR r).map sT = ((List.range (r.2.1 + 1 - r.1).toNat).map fun k => PyData.int (r.1 + (k : Nat))).map fun d => PyData.tuple [d, (ent r.2.2).1, (ent r.2.2).2.1, (ent r.2.2).2.2] := by
      unfold expR
      rw [List.map_map, List.map_map]
      rfl
    have e5 := expR_len ho
    refine ⟨some (.int (k : Int)), some (rT r), z, ?_⟩
    have hlen : acc.length + ((expR r).map sT).length ≤ big := by
      simp only [List.length_map]
      show _ ≤ 100000
      omega
    have fin : ∀ ρ', ρ' = env42 I (acc.map sT) (some (.int (k : Int))) (some (rT r)) z → T.bind (extR 5 (fun ρ => (getV ρ 3).bind fun a => (Pv.opI a (PyData.int 0)).bind fun a => (getV ρ 3).bind fun a_1 => (Pv.opI a_1 (PyData.int 1)).bind fun a_2 => (opB Operator.Add a_2 (PyData.int 1)).bind fun a_3 => (rangeD2 a a_3).bind fun ds => noRaise (lcR (fun x => T.ret true) (fun ρ => (getV ρ 4).bind fun a => (getV ρ 3).bind fun a_4 => (asI (PyData.int 2)).bind fun a_5 => (opS a_4 (some a_5) none).bind fun a_6 => (unstar a_6).bind fun a_7 => if a_7.length + 1 ≤ big then T.ret (PyData.tuple (a :: a_7)) else T.stuck) (Tg.one 4) (wipeE ρ (List.map (fun x => x.snd) (lcOwn [Str.ofString "runs", Str.ofString "settings", Str.ofString "at", Str.ofString "run", Str.ofString "number"] { kind := ScopeKind.function, names := [(Str.ofString ".0", NameKind.local), (Str.ofString "number", NameKind.local), (Str.ofString "run", NameKind.free)], isGenerator := false, isCoroutine := false }))) ds [])) 100000 ρ') (fun o => seqT o fun ρ => T.ret (Out.nx ρ)) = T.ret (Out.nx (env42 I ((acc ++ expR r).map sT) (some (.int (k : Int))) (some (rT r)) z)) := by
      rintro _ rfl
      unfold extR
      simp only [env42, List.getElem?_cons_succ, List.getElem?_cons_zero, wipe42]
      simp [getV_at, T.bind_ret, T.bind_assoc, o0, o1, opB_add, range2 ho.f ho.l ho.m]
      rw [lc_map (g := fun d => PyData.tuple [d, (ent r.2.2).1, (ent r.2.2).2.1, (ent r.2.2).2.2])]
      · rw [noRaise_ret, T.bind_ret]
        dsimp only
        rw [List.nil_append, ← hm, if_pos hlen, T.bind_ret, seqT_nx]
      · intro d hd
        simp [getV_at, T.bind_ret, asI_int, c2, unst_e, lb4]
      · have : ((List.range (r.2.1 + 1 - r.1).toNat).map fun k => PyData.int (r.1 + (k : Nat))).length = ((expR r).map sT).length := by rw [hm]; simp
        rw [this, List.length_map]
        simp
        omega
    rcases step42 ho ha hlt hl with ⟨rfl, q⟩ | ⟨s, q1, q2, q3⟩
    · simp [setAll, T.bind_ret, T.bind_assoc, viewF, getV_at, r43, tb, asB_bool, q, seqT_nx, -List.map_append]
      exact fin _ rfl
    · have fs := fst_s s.1 s.2
      have lt : decide (r.1 ≤ s.1) = false := decide_eq_false (by omega)
      have hlt : ¬ (r.1 ≤ s.1) := by omega
      simp only [setAll, T.bind_ret, T.bind_assoc]
      generalize hL : acc.map sT = L at q1 q2 fin
      simp [setAll, T.bind_ret, T.bind_assoc, viewF, getV_at, r43, tb, asB_bool, q1, asI_int, q2, o0, sT, fs, opC_le, hlt, seqT_nx, -List.map_append]
      exact fin _ rfl
  case hk =>
    intro x y z
    have h6F : ∀ s ∈ rs.flatMap expR, s.2 < 6 := fun s hs => by
      obtain ⟨r, hr, h⟩ := List.mem_flatMap.mp hs
      rw [(expR_mem h).2.2]
      exact (h6 r hr).i
    generalize hF : rs.flatMap expR = F at hk h6F
    rcases hk with ⟨rfl, rfl⟩ | ⟨d, rest, rfl, rfl, h⟩
    · generalize hL : F.map sT = L
      simp only [enumD, forL]
      simp [T.bind_ret, seqT_nx, seqT_rt, viewF, getV_at, outD_rt]
      rfl
    · simp only [enumD, forL, T.bind_assoc]
      rcases h with h | ⟨n, s, h1, h2, h3, h4⟩
      · generalize hL : F.map sT = L
        simp [setAll, T.bind_ret, T.bind_assoc, viewF, getV_at, h, tb]
        rfl
      · have h0 : F ≠ [] := fun z => by rw [z] at h3; cases h3
        obtain ⟨s', _, q2, q3⟩ := lastS h0
        have : s' = s := by rw [h3] at q3; exact (Option.some.inj q3).symm
        subst this
        have q1 := ne_sets h6F h0
        have fs := fst_s s'.1 s'.2
        generalize hL : F.map sT = L at q1 q2
        simp [setAll, T.bind_ret, T.bind_assoc, viewF, getV_at, h1, tb, asB_bool, q1, asI_int, q2, h2, sT, fs, opC_le, h4]
        rfl
end K44

-- K44n
set_option maxRecDepth 100000
set_option maxHeartbeats 4000000
set_option linter.all false
namespace K44
open PySem L2 Pv
theorem exp_one (a : Int) (i : Nat) : expR (a, a, i) = [(a, i)] := by
  unfold expR
  have : (a + 1 - a).toNat = 1 := by omega
  dsimp only
  rw [this]
  simp [List.range_succ]
theorem exp_more {f l : Int} (h : f ≤ l) (i : Nat) : expR (f, l + 1, i) = expR (f, l, i) ++ [(l + 1, i)] := by
  unfold expR
  dsimp only
  have : (l + 1 + 1 - f).toNat = (l + 1 - f).toNat + 1 := by omega
  rw [this, List.range_succ, List.map_append]
  congr 1
  have : f + (((l + 1 - f).toNat : Nat) : Int) = l + 1 := by omega
  show [((f + (((l + 1 - f).toNat : Nat) : Int), i) : Sg)] = _
  rw [this]
theorem exp_cut {f c l : Int} (h : f ≤ c) (h2 : c ≤ l) (i : Nat) : expR (f, l, i) = expR (f, c, i) ++ expR (c + 1, l, i) := by
  unfold expR
  dsimp only
  have e : (l + 1 - f).toNat = (c + 1 - f).toNat + (l + 1 - (c + 1)).toNat := by omega
  rw [e, List.range_add, List.map_append, List.map_map]
  congr 1
  apply List.map_congr_left
  intro k _
  have : f + (((c + 1 - f).toNat + k : Nat) : Int) = c + 1 + (k : Int) := by omega
  simp only [Function.comp]
  rw [this]
/-- runs that stand for the settings -/
structure RunsOf (rs : List Run) (ss : List Sg) : Prop where
  ok : ∀ r ∈ rs, RunOk r
  up : rs.Pairwise fun r s => r.2.1 < s.1
  ex : rs.flatMap expR = ss
theorem RunsOf.snoc {rs : List Run} {ss : List Sg} {r : Run} (h : RunsOf rs ss) (hr : RunOk r) (hlt : ∀ q ∈ rs, q.2.1 < r.1) : RunsOf (rs ++ [r]) (ss ++ expR r) := by
  refine ⟨fun q hq => ?_, ?_, ?_⟩
  · rcases List.mem_append.mp hq with h1 | h1
    · exact h.ok q h1
    · rw [List.mem_singleton.mp h1]; exact hr
  · rw [List.pairwise_append]
    refine ⟨h.up, by simp, fun q hq t ht => ?_⟩
    rw [List.mem_singleton.mp ht]
    exact hlt q hq
  · rw [List.flatMap_append, h.ex]
    simp
theorem RunsOf.init {rs : List Run} {ss : List Sg} {r : Run} (h : RunsOf (rs ++ [r]) ss) : ∃ ss', RunsOf rs ss' ∧ ss = ss' ++ expR r ∧ RunOk r ∧ ∀ q ∈ rs, q.2.1 < r.1 := by
  have p := List.pairwise_append.mp h.up
  refine ⟨rs.flatMap expR, ⟨fun q hq => h.ok q (by simp [hq]), p.1, rfl⟩, ?_, h.ok r (by simp), fun q hq => p.2.2 q hq r (by simp)⟩
  rw [← h.ex, List.flatMap_append]
  simp
theorem runs_step {rs : List Run} {ss : List Sg} {s : Sg} (h : RunsOf rs ss) (hi : s.2 < 6) (h1 : 1 ≤ s.1) (h2 : s.1 ≤ 9999) (hlt : ∀ r ∈ rs, r.2.1 < s.1) : RunsOf (stepR rs s) (ss ++ [s]) ∧ ∀ r ∈ stepR rs s, r.2.1 ≤ s.1 := by
  have new : RunsOf (rs ++ [(s.1, s.1, s.2)]) (ss ++ [s]) := by
    have := h.snoc (r := (s.1, s.1, s.2)) ⟨hi, h1, Int.le_refl _, h2⟩ (fun q hq => hlt q hq)
    rwa [exp_one] at this
  have newl : ∀ r ∈ rs ++ [(s.1, s.1, s.2)], r.2.1 ≤ s.1 := fun r hr => by
    rcases List.mem_append.mp hr with h1 | h1
    · have := hlt r h1; omega
    · rw [List.mem_singleton.mp h1]; exact Int.le_refl _
  unfold stepR
  rcases List.eq_nil_or_concat rs with rfl | ⟨init, r, rfl⟩
  · exact ⟨new, newl⟩
  · rw [List.concat_eq_append] at *
    have e1 : (init ++ [r]).getLast? = some r := by simp
    rw [e1]
    dsimp only
    by_cases hc : r.2.1 = s.1 - 1 ∧ r.2.2 = s.2
    · rw [if_pos hc]
      have e2 : (init ++ [r]).dropLast = init := by simp
      rw [e2]
      obtain ⟨ss', g, rfl, ro, lt⟩ := h.init
      have es : s.1 = r.2.1 + 1 := by omega
      refine ⟨?_, fun q hq => ?_⟩
      · have := g.snoc (r := (r.1, s.1, s.2)) ⟨hi, ro.f, by show r.1 ≤ s.1; have := ro.l; omega, h2⟩ (fun q hq => lt q hq)
        rw [List.append_assoc]
        have e3 : expR (r.1, s.1, s.2) = expR r ++ [s] := by
          rw [es, exp_more ro.l, ← hc.2, ← es]
          obtain ⟨f, l, i⟩ := r
          obtain ⟨a, j⟩ := s
          have : i = j := hc.2
          subst this
          rfl
        rwa [e3] at this
      · rcases List.mem_append.mp hq with h1 | h1
        · have := hlt q (by simp [h1]); omega
        · rw [List.mem_singleton.mp h1]; exact Int.le_refl _
    · rw [if_neg hc]
      exact ⟨new, newl⟩
theorem runs_fold : ∀ (es : List Sg) {rs : List Run} {ss : List Sg}, RunsOf rs ss → (∀ s ∈ es, s.2 < 6 ∧ 1 ≤ s.1 ∧ s.1 ≤ 9999) → es.Pairwise (fun s t => s.1 < t.1) → (∀ s ∈ es, ∀ r ∈ rs, r.2.1 < s.1) → RunsOf (es.foldl stepR rs) (ss ++ es)
  | [], rs, ss, h, _, _, _ => by simpa using h
  | s :: es, rs, ss, h, ho, hp, hlt => by
    have o := ho s (by simp)
    have p := List.pairwise_cons.mp hp
    have st := runs_step h o.1 o.2.1 o.2.2 (hlt s (by simp))
    have := runs_fold es st.1 (fun t ht => ho t (by simp [ht])) p.2 (fun t ht r hr => by
      have := st.2 r hr
      have := p.1 t ht
      omega)
    rw [List.append_assoc] at this
    exact this
theorem runs_of {ss : List Sg} (ho : ∀ s ∈ ss, s.2 < 6 ∧ 1 ≤ s.1 ∧ s.1 ≤ 9999) (hp : ss.Pairwise fun s t => s.1 < t.1) : RunsOf (ss.foldl stepR []) ss :=
  runs_fold ss ⟨by simp, by simp, rfl⟩ ho hp (by simp)
theorem fold_len : ∀ (es : List Sg) (rs : List Run), (es.foldl stepR rs).length ≤ rs.length + es.length
  | [], rs => by simp
  | s :: es, rs => by
    have := fold_len es (stepR rs s)
    have := stepR_len rs s
    simp only [List.foldl_cons, List.length_cons]
    omega
/-- settings_of over runs -/
theorem of_runs {rs : List Run} {ss : List Sg} (h : RunsOf rs ss) (hb : ss.length ≤ 20000) (I : PyData) (hI : I = .list (rs.map rT) ∨ I = .tuple (rs.map rT)) : m42 [I] = .ret (.tuple (ss.map sT)) := by
  have hrow : m6 [I] = .ret (.bool true) := by
    rcases hI with rfl | rfl
    · exact row_l _
    · exact row_t _
  have hen : enumOf I = .ret (enumD (rs.map rT ++ []) 0) := by rcases hI with rfl | rfl <;> simp [enumOf]
  refine one42 (tail := []) h.ok h.up (by rw [h.ex]; exact hb) hrow hen (.inl ⟨rfl, ?_⟩)
  rw [h.ex]
theorem bad_runs {rs : List Run} {ss : List Sg} {d : PyData} {rest : List PyData} (h : RunsOf rs ss) (hb : ss.length ≤ 20000) (hd : m43 [d] = .ret (.bool false) ∨ (∃ n s, m43 [d] = .ret (.bool true) ∧ Pv.opI d (.int 0) = .ret (.int n) ∧ ss.getLast? = some s ∧ n ≤ s.1)) :
    m42 [.list (rs.map rT ++ d :: rest)] = .err ⟨"BadColumns", [("at", .int (rs.length : Int))]⟩ := by
  refine one42 (tail := d :: rest) h.ok h.up (by rw [h.ex]; exact hb) (row_l _) (by rfl) (.inr ⟨d, rest, rfl, rfl, ?_⟩)
  rw [h.ex]
  exact hd
end K44

-- K44o
set_option maxRecDepth 100000
set_option maxHeartbeats 4000000
set_option linter.all false
namespace K44
open PySem L2 Pv
/-- the number of a right setting, as the program judges it -/
@[irreducible] def Rm : Num := fun d => match m37 [d, .int 9999] with
  | .ret (.bool true) => match Pv.opI d (.int 0) with
    | .ret (.int n) => some n
    | _ => none
  | _ => none
/-- a value that is judged -/
def Judged (d : PyData) : Prop := m37 [d, .int 9999] = .ret (.bool false) ∨ ∃ n, m37 [d, .int 9999] = .ret (.bool true) ∧ Pv.opI d (.int 0) = .ret (.int n)
theorem rm_of {d : PyData} (h : Judged d) : match Rm d with | none => m37 [d, .int (9999 : Nat)] = .ret (.bool false) | some n => m37 [d, .int (9999 : Nat)] = .ret (.bool true) ∧ Pv.opI d (.int 0) = .ret (.int n) := by
  rcases h with h | ⟨n, h, h2⟩
  · have e : Rm d = none := by unfold Rm; rw [h]
    rw [e]
    exact h
  · have e : Rm d = some n := by unfold Rm; rw [h]; dsimp only; rw [h2]
    rw [e]
    exact ⟨h, h2⟩
theorem rm_no {d : PyData} (h : m37 [d, .int 9999] = .ret (.bool false)) : Rm d = none := by unfold Rm; rw [h]
theorem rm_yes {d : PyData} {n : Int} (h : m37 [d, .int 9999] = .ret (.bool true)) (h2 : Pv.opI d (.int 0) = .ret (.int n)) : Rm d = some n := by unfold Rm; rw [h]; dsimp only; rw [h2]
structure Good (ss : List Sg) : Prop where
  ok : ∀ s ∈ ss, s.2 < 6 ∧ 1 ≤ s.1 ∧ s.1 ≤ 9999
  up : ss.Pairwise fun s t => s.1 < t.1
  ln : ss.length ≤ 100
theorem set_m {s : Sg} (h : s.2 < 6 ∧ 1 ≤ s.1 ∧ s.1 ≤ 9999) : m37 [sT s, .int 9999] = .ret (.bool true) ∧ Pv.opI (sT s) (.int 0) = .ret (.int s.1) := set_ok (most := 9999) h.1 h.2.1 h.2.2
theorem rm_s {s : Sg} (h : s.2 < 6 ∧ 1 ≤ s.1 ∧ s.1 ≤ 9999) : Rm (sD s.1 s.2) = some s.1 := rm_yes (set_m h).1 (set_m h).2
theorem jud_s {s : Sg} (h : s.2 < 6 ∧ 1 ≤ s.1 ∧ s.1 ≤ 9999) : Judged (sT s) := .inr ⟨s.1, set_m h⟩
theorem runs41 {ss : List Sg} (h : Good ss) (I : PyData) (hI : I = .list (ss.map sT) ∨ I = .tuple (ss.map sT)) : m41 [I] = .ret (.list ((ss.foldl stepR []).map rT)) := by
  have hl := h.ln
  refine run41 (ss := ss) ?_ (fun s hs => (h.ok s hs).1) (by omega) ?_
  · rcases hI with rfl | rfl <;> rfl
  · have e := run36 (R := Rm) (most := 9999) (ds := ss.map sT) (by simp; omega) (fun d hd => ?_) I hI
    · rw [show fw Rm (ss.map sT) 0 none = none from fw_ok ss 0 none (fun s hs => rm_s (h.ok s hs)) (fun s hs => rfl) h.up] at e
      exact e
    · obtain ⟨s, hs, rfl⟩ := List.mem_map.mp hd
      exact rm_of (jud_s (h.ok s hs))
theorem bad_set {ss : List Sg} (h : Good ss) {d : PyData} {rest : List PyData} (hr : rest.length ≤ 100) (hj : ∀ x ∈ d :: rest, Judged x) (hd : m37 [d, .int 9999] = .ret (.bool false) ∨ ∃ n, m37 [d, .int 9999] = .ret (.bool true) ∧ Pv.opI d (.int 0) = .ret (.int n) ∧ reach (lastB ss none) n = true) : m41 [.list (ss.map sT ++ d :: rest)] = .err ⟨"BadColumns", [("at", .int (ss.length : Int))]⟩ := by
  have hl := h.ln
  refine bad41 ?_
  have e := run36 (R := Rm) (most := 9999) (ds := ss.map sT ++ d :: rest) (by simp; omega) (fun x hx => ?_) (.list (ss.map sT ++ d :: rest)) (.inl rfl)
  · rw [show fw Rm (ss.map sT ++ d :: rest) 0 none = some (0 + ss.length) from fw_bad ss 0 none (fun s hs => rm_s (h.ok s hs)) (fun s hs => rfl) h.up (by
      rcases hd with hd | ⟨n, h1, h2, h3⟩
      · exact .inl (rm_no hd)
      · exact .inr ⟨n, rm_yes h1 h2, h3⟩)] at e
    rw [Nat.zero_add] at e
    exact e
  · rcases List.mem_append.mp hx with hx | hx
    · obtain ⟨s, hs, rfl⟩ := List.mem_map.mp hx
      exact rm_of (jud_s (h.ok s hs))
    · exact rm_of (hj x hx)
theorem lastB_app : ∀ (ss : List Sg) (b : Option Int) (s : Sg), lastB (ss ++ [s]) b = some s.1
  | [], b, s => rfl
  | t :: ss, b, s => lastB_app ss (some t.1) s
end K44

-- K44p
set_option maxRecDepth 100000
set_option maxHeartbeats 4000000
set_option linter.all false
namespace K44
open PySem L2 Pv
/-! ## is what is divided put together again -/
theorem nn55 : NN 55 = (["state", "settings", "runs", "parts", "first", "last", "size", "hidden", "style", "cut"] : List Str) := by kernel_rfl
theorem pl55 : plOf (["state", "settings", "runs", "parts", "first", "last", "size", "hidden", "style", "cut"] : List Str) (["parts"] : List Str) = [3] := by kernel_rfl
theorem sk_ent : ∀ i < 6, skB 2 200 (ent i).1 = true ∧ skB 2 200 (ent i).2.1 = true ∧ skB 2 200 (ent i).2.2 = true := by decide +kernel
theorem sk_s {s : Sg} (h : s.2 < 6 ∧ 1 ≤ s.1 ∧ s.1 ≤ 9999) : Sk (sT s) 3 811 := by
  obtain ⟨a, b, c⟩ := sk_ent s.2 h.1
  refine (Sk.tup (xs := [.int s.1, (ent s.2).1, (ent s.2).2.1, (ent s.2).2.2]) (k := 2) (n := 200) fun x hx => ?_).mono (by omega) (by simp)
  simp only [List.mem_cons, List.not_mem_nil, or_false] at hx
  rcases hx with rfl | rfl | rfl | rfl
  · exact (sk_Z (by omega) (by omega)).mono (by omega) (by omega)
  · exact sk_of a
  · exact sk_of b
  · exact sk_of c
theorem sk_r {r : Run} (h : RunOk r) : Sk (rT r) 3 1013 := by
  obtain ⟨a, b, c⟩ := sk_ent r.2.2 h.i
  have h1 := h.f
  have h2 := h.l
  have h3 := h.m
  refine (Sk.tup (xs := [.int r.1, .int r.2.1, (ent r.2.2).1, (ent r.2.2).2.1, (ent r.2.2).2.2]) (k := 2) (n := 200) fun x hx => ?_).mono (by omega) (by simp)
  simp only [List.mem_cons, List.not_mem_nil, or_false] at hx
  rcases hx with rfl | rfl | rfl | rfl | rfl
  · exact (sk_Z (by omega) (by omega)).mono (by omega) (by omega)
  · exact (sk_Z (by omega) (by omega)).mono (by omega) (by omega)
  · exact sk_of a
  · exact sk_of b
  · exact sk_of c
theorem sk_runs {rs : List Run} {ss : List Sg} (h : RunsOf rs ss) (hl : rs.length ≤ 50) : Sk (.list (rs.map rT)) 4 51000 := by
  refine (Sk.list (xs := rs.map rT) (k := 3) (n := 1013) fun x hx => ?_).mono (by omega) (by simp; omega)
  obtain ⟨r, hr, rfl⟩ := List.mem_map.mp hx
  exact sk_r (h.ok r hr)
theorem sk_sets {ss : List Sg} (h : Good ss) : Sk (.tuple (ss.map sT)) 4 90000 := by
  have hl := h.ln
  refine (Sk.tup (xs := ss.map sT) (k := 3) (n := 811) fun x hx => ?_).mono (by omega) (by simp; omega)
  obtain ⟨r, hr, rfl⟩ := List.mem_map.mp hx
  exact sk_s (h.ok r hr)
def I55 (L R : PyData) (done : List Run) (ρ : En) : Prop := ∃ (ps : List Run) (x1 x2 x3 x4 x5 x6 : Option PyData), ρ = [some drawD, some L, some R, none, x1, x2, x3, x4, x5, x6, some (.list (ps.map rT))] ∧ RunsOf ps (done.flatMap expR) ∧ (∀ p ∈ ps, ∃ r ∈ done, p.2.1 ≤ r.2.1) ∧ ps.length ≤ 2 * done.length
theorem run55 {ss : List Sg} (h : Good ss) (h10 : ss.length ≤ 10) : Ok (m55 [drawD, .list (ss.map sT)]) 10 fun d => d = .bool true := by
  have e1 := runs41 h (.list (ss.map sT)) (.inl rfl)
  have e2 := runs41 h (.tuple (ss.map sT)) (.inr rfl)
  have e3 := run54 (I := .list (ss.map sT)) (ss := ss) rfl (fun s hs => (h.ok s hs).1) (fun s hs => (h.ok s hs).2.1) (by omega)
  have ro := runs_of h.ok h.up
  have rl := fold_len ss []
  rw [List.length_nil, Nat.zero_add] at rl
  generalize hrs : ss.foldl stepR [] = rs at e1 e2 e3 ro rl
  have sr := sk_runs ro (by omega)
  have sp := sr.rep (by omega) (by show _ ≤ 100000; omega)
  have ne1 := sr.ne
  have ft : f_tuple [.list (ss.map sT)] = .ret (.tuple (ss.map sT)) := rfl
  have it : itemsD (.list (rs.map rT)) = .ret (rs.map rT) := rfl
  unfold m55 runDef
  simp only [cl55, nn55, pl55, List.map_cons, List.map_nil, List.length_cons, List.length_nil, Nat.zero_add, Nat.reduceAdd, Nat.reduceSub, List.replicate, List.cons_append, List.nil_append]
  generalize hL : PyData.list (ss.map sT) = L at e1 e2 e3 ft
  generalize hR : PyData.list (rs.map rT) = R at e1 e2 e3 sp ne1 it
  simp [getV_at, T.bind_ret, T.bind_assoc, seqT_nx, asB_bool, pileR, asI_int, e1, e2, e3, sp, ne1, ft, it]
  refine ok_mono (n := 1 * rs.length + 0) (ok_bind (ok_each (I := I55 L R) (all := rs) (n := 1) ?st rs [] _ rfl ⟨[], none, none, none, none, none, none, rfl, ⟨by simp, by simp, rfl⟩, by simp, by simp⟩) fun o ho => ?fin) (by omega) fun _ h => h
  case fin =>
    obtain ⟨ρ, rfl, ps, x1, x2, x3, x4, x5, x6, rfl, hp, _, hl⟩ := ho
    rw [ro.ex] at hp
    have a1 := of_runs hp (by omega) (.list (ps.map rT)) (.inl rfl)
    have a2 := of_runs ro (by omega) R (.inl hR.symm)
    have ss4 := sk_sets h
    have a3 := ss4.rep (by omega) (by show _ ≤ 100000; omega)
    have a4 := ss4.eq
    generalize hP : PyData.list (ps.map rT) = P at a1
    simp [seqT_nx, viewF, getV_at, T.bind_ret, T.bind_assoc, hP, a1, a2, a3, ft, a4, asB_bool, seqT_rt, outD_rt]
    exact ok_ret rfl
  case st =>
    rintro done r left ρ ea ⟨ps, x1, x2, x3, x4, x5, x6, rfl, hp, hlt, hl⟩
    have hr : r ∈ rs := by rw [ea]; simp
    have ho := ro.ok r hr
    have b1 := ho.f
    have b2 := ho.l
    have b3 := ho.m
    have up := ro.up
    rw [ea] at up
    have lt : ∀ q ∈ done, q.2.1 < r.1 := fun q hq => (List.pairwise_append.mp up).2.2 q hq r (by simp)
    have ltp : ∀ p ∈ ps, p.2.1 < r.1 := fun p hp => by
      obtain ⟨q, hq, h1⟩ := hlt p hp
      have := lt q hq
      omega
    have dl : done.length + 1 ≤ rs.length := by rw [ea]; simp
    simp [rT, rD, setAll, T.bind_ret, T.bind_assoc, getV_at, opB_sub, opB_add]
    refine ok_mono (n := 0 + 1) (ok_dig (by omega) (by omega) fun c c0 c1 => ?_) (by omega) fun _ h => h
    have hi := ho.i
    have cutL : r.1 + c ≤ r.2.1 := by omega
    have b6 : (ps.map rT).length < big := by rw [List.length_map]; show _ < 100000; omega
    have p1 := hp.snoc (r := (r.1, r.1 + c, r.2.2)) ⟨hi, b1, by show r.1 ≤ r.1 + c; omega, by show r.1 + c ≤ 9999; omega⟩ ltp
    have ap1 : ps.map rT ++ [PyData.tuple [.int r.1, .int (r.1 + c), (ent r.2.2).1, (ent r.2.2).2.1, (ent r.2.2).2.2]] = (ps ++ [(r.1, r.1 + c, r.2.2)]).map rT := by
      rw [List.map_append]
      rfl
    have lo : ∀ p ∈ ps, ∃ q ∈ done ++ [r], p.2.1 ≤ q.2.1 := fun p hp => by
      obtain ⟨q, hq, h1⟩ := hlt p hp
      exact ⟨q, by simp [hq], h1⟩
    have fd : (done ++ [r]).flatMap expR = done.flatMap expR ++ expR r := by simp
    rw [opB_add, T.bind_ret, appR_at (xs := ps.map rT) rfl]
    rw [getV_at (d := .int r.1) rfl, T.bind_ret, getV_at (d := .int (r.1 + c)) rfl, T.bind_ret, getV_at (d := (ent r.2.2).1) rfl, T.bind_ret, getV_at (d := (ent r.2.2).2.1) rfl, T.bind_ret, getV_at (d := (ent r.2.2).2.2) rfl, T.bind_ret, if_pos lb5, T.bind_ret, if_pos b6, T.bind_ret, seqT_nx, ap1]
    simp only [List.set_cons_succ, List.set_cons_zero]
    by_cases hc : r.1 + c < r.2.1
    · have p2 := p1.snoc (r := (r.1 + c + 1, r.2.1, r.2.2)) ⟨hi, by show 1 ≤ r.1 + c + 1; omega, by show r.1 + c + 1 ≤ r.2.1; omega, b3⟩ (fun q hq => by
        rcases List.mem_append.mp hq with h1 | h1
        · have := ltp q h1
          show q.2.1 < r.1 + c + 1
          omega
        · rw [List.mem_singleton.mp h1]
          show r.1 + c < r.1 + c + 1
          omega)
      have b7 : ((ps ++ [(r.1, r.1 + c, r.2.2)]).map rT).length < big := by rw [List.length_map, List.length_append]; show _ + 1 < 100000; omega
      have ap2 : (ps ++ [(r.1, r.1 + c, r.2.2)]).map rT ++ [PyData.tuple [.int (r.1 + c + 1), .int r.2.1, (ent r.2.2).1, (ent r.2.2).2.1, (ent r.2.2).2.2]] = (ps ++ [(r.1, r.1 + c, r.2.2)] ++ [(r.1 + c + 1, r.2.1, r.2.2)]).map rT := by
        rw [List.map_append (l₁ := ps ++ [(r.1, r.1 + c, r.2.2)])]
        rfl
      generalize hL2 : (ps ++ [(r.1, r.1 + c, r.2.2)]).map rT = L2 at b7 ap2
      rw [getV_at (d := .int (r.1 + c)) rfl, T.bind_ret, getV_at (d := .int r.2.1) rfl, T.bind_ret, opC_ltI, T.bind_ret, decide_eq_true hc, asB_bool, T.bind_ret, if_pos rfl]
      rw [appR_at (xs := L2) rfl]
      rw [getV_at (d := .int (r.1 + c)) rfl, T.bind_ret, opB_add, T.bind_ret, getV_at (d := .int r.2.1) rfl, T.bind_ret, getV_at (d := (ent r.2.2).1) rfl, T.bind_ret, getV_at (d := (ent r.2.2).2.1) rfl, T.bind_ret, getV_at (d := (ent r.2.2).2.2) rfl, T.bind_ret, if_pos lb5, T.bind_ret, if_pos b7, T.bind_ret, seqT_nx, T.bind_ret, seqT_nx, ap2]
      refine ok_ret ⟨_, rfl, _, _, _, _, _, _, _, rfl, ?_, fun p hp => ?_, by simp; omega⟩
      · rw [fd, show expR r = expR (r.1, r.1 + c, r.2.2) ++ expR (r.1 + c + 1, r.2.1, r.2.2) from exp_cut (by omega) cutL r.2.2, ← List.append_assoc]
        exact p2
      · rcases List.mem_append.mp hp with hp | hp
        · rcases List.mem_append.mp hp with hp | hp
          · exact lo p hp
          · rw [List.mem_singleton.mp hp]
            exact ⟨r, by simp, cutL⟩
        · rw [List.mem_singleton.mp hp]
          exact ⟨r, by simp, Int.le_refl _⟩
    · rw [getV_at (d := .int (r.1 + c)) rfl, T.bind_ret, getV_at (d := .int r.2.1) rfl, T.bind_ret, opC_ltI, T.bind_ret, decide_eq_false hc, asB_bool, T.bind_ret, if_neg (by simp), T.bind_ret, seqT_nx]
      have ec : r.1 + c = r.2.1 := by omega
      refine ok_ret ⟨_, rfl, _, _, _, _, _, _, _, rfl, ?_, fun p hp => ?_, by simp; omega⟩
      · rw [fd, show expR r = expR (r.1, r.1 + c, r.2.2) by rw [ec]]
        exact p1
      · rcases List.mem_append.mp hp with hp | hp
        · exact lo p hp
        · rw [List.mem_singleton.mp hp]
          exact ⟨r, by simp, cutL⟩
end K44

-- K44q
set_option maxRecDepth 100000
set_option maxHeartbeats 4000000
set_option linter.all false
namespace K44
open PySem L2 Pv
/-! ## what is no setting, what is no run -/
def sv (n : Int) (x y z : PyData) : PyData := .tuple [.int n, x, y, z]
def rv (f l : Int) (x y z : PyData) : PyData := .tuple [.int f, .int l, x, y, z]
theorem run37g {n b : Int} {x y z : PyData} {sb cb st nq : Bool} (a1 : m38 [x] = .ret (.bool sb)) (a3 : isiD (tyName (Str.ofString "bool")) y = .ret (.bool cb)) (a2 : m28 [z] = .ret (.bool st)) (a4 : opC .NotEq (.tuple [x, y, z]) (.tuple [.none, .bool false, plainD]) = .ret (.bool nq)) : m37 [sv n x y z, .int b] = .ret (.bool (decide (1 ≤ n) && decide (n ≤ b) && cb && sb && st && nq)) := by
  have h7 : m7 [sv n x y z, .int 4] = .ret (.bool true) := by kernel_rfl
  have i0 : Pv.opI (sv n x y z) (.int 0) = .ret (.int n) := by kernel_rfl
  have i1 : Pv.opI (sv n x y z) (.int 1) = .ret x := by kernel_rfl
  have i2 : Pv.opI (sv n x y z) (.int 2) = .ret y := by kernel_rfl
  have i3 : Pv.opI (sv n x y z) (.int 3) = .ret z := by kernel_rfl
  have s1 : opS (sv n x y z) (some 1) none = .ret (.tuple [x, y, z]) := by kernel_rfl
  have tb : ∀ c : Bool, truD (.bool c) = .ret c := fun _ => rfl
  have a5 : opC .NotEq (.tuple [x, y, z]) (.tuple [.none, .bool false, .tuple [.str "", .tuple [.str "Plain", .int 10, .bool false, .bool false], .none, .tuple [.int 0, .int 0, .int 0, .int 0], .tuple [.str "general", .bool false]]]) = .ret (.bool nq) := a4
  simp only [m37, cl37, runDef, nn1.2.2.1, List.map_cons, List.map_nil, List.length_cons, List.length_nil, Nat.zero_add, Nat.reduceAdd, Nat.reduceSub, List.replicate, List.cons_append, List.nil_append]
  simp [getV_at, T.bind_ret, T.bind_assoc, h7, i0, i1, i2, i3, run2, a1, a2, a3, asB_bool, seqT_nx, seqT_rt, s1, asI_int]
  cases hc : (decide (1 ≤ n) && decide (n ≤ b)) <;> cases cb <;> cases sb <;> cases st <;> simp [tb, T.bind_ret, T.bind_assoc, seqT_nx, seqT_rt, getV_at, i1, i3, a1, a2, a3, asB_bool, s1, lb3, a5, outD_rt]
theorem run43g {f l : Int} {x y z : PyData} {sb cb st nq : Bool} (a1 : m38 [x] = .ret (.bool sb)) (a3 : isiD (tyName (Str.ofString "bool")) y = .ret (.bool cb)) (a2 : m28 [z] = .ret (.bool st)) (a4 : opC .NotEq (.tuple [x, y, z]) (.tuple [.none, .bool false, plainD]) = .ret (.bool nq)) : m43 [rv f l x y z] = .ret (.bool (decide (1 ≤ l) && decide (l ≤ 9999) && (decide (1 ≤ f) && decide (f ≤ l) && cb && sb && st && nq))) := by
  have h7 : m7 [rv f l x y z, .int 5] = .ret (.bool true) := by kernel_rfl
  have o1 : Pv.opI (rv f l x y z) (.int 1) = .ret (.int l) := by kernel_rfl
  have o0 : Pv.opI (rv f l x y z) (.int 0) = .ret (.int f) := by kernel_rfl
  have c2 : opS (rv f l x y z) (some 2) none = .ret (.tuple [x, y, z]) := by kernel_rfl
  have tb : ∀ c : Bool, truD (.bool c) = .ret c := fun _ => rfl
  have us : unstar (.tuple [x, y, z]) = .ret [x, y, z] := by kernel_rfl
  have r37 : m37 [.tuple [.int f, x, y, z], .int l] = _ := run37g (n := f) (b := l) a1 a3 a2 a4
  simp only [m43, cl43, runDef, nn42.2, List.map_cons, List.map_nil, List.length_cons, List.length_nil, Nat.zero_add, Nat.reduceAdd, Nat.reduceSub, List.replicate, List.cons_append, List.nil_append]
  simp [getV_at, T.bind_ret, T.bind_assoc, h7, o1, o0, c2, tb, run2, asB_bool, seqT_nx, seqT_rt, asI_int]
  by_cases hc : l < 1 ∨ 9999 < l
  · rw [if_pos hc]
    have : (decide (1 ≤ l) && decide (l ≤ 9999)) = false := by
      cases h : (decide (1 ≤ l) && decide (l ≤ 9999)) with
      | false => rfl
      | true =>
        simp only [Bool.and_eq_true, decide_eq_true_eq] at h
        omega
    rw [this]
    rfl
  · rw [if_neg hc]
    have : (decide (1 ≤ l) && decide (l ≤ 9999)) = true := by
      simp only [Bool.and_eq_true, decide_eq_true_eq]
      omega
    rw [this]
    simp [T.bind_ret, T.bind_assoc, tb, asB_bool, seqT_nx, seqT_rt, getV_at, o1, o0, c2, us, lb4, r37, outD_rt, asI_int]
/-- the law's wrong settings -/
def badD (low : Int) (j : Nat) : PyData := ([.none, sv low (.int 5) (.bool false) plainD, sv 10000 (.int 5) (.bool false) plainD, sv (low + 1) .none (.bool false) plainD, sv (low + 1) (.int 5) (.int 0) plainD, sv (low + 1) (.int 1001) (.bool false) plainD, sv (low + 1) (.bool true) (.bool false) plainD, .list [.int (low + 1), .int 5, .bool false, plainD], sv (low + 1) (.int (-1)) (.bool false) plainD, sv (low + 1) (.int 5) (.bool false) .none, sv (low + 1) (.int 5) (.bool false) (.tuple [.str "", .tuple [.str "Plain", .int 10, .bool false, .bool false], .none, .tuple [.int 0, .int 0, .int 0, .int 0]]), .tuple [.bool true, .int 5, .bool false, plainD]] : List PyData).getD j .none
theorem one37 (n : Int) : m37 [sv n (.int 5) (.bool false) plainD, .int 9999] = .ret (.bool (decide (1 ≤ n) && decide (n ≤ 9999))) := by
  rw [run37g (sb := true) (cb := true) (st := true) (nq := true) (by kernel_rfl) (by kernel_rfl) (by kernel_rfl) (by kernel_rfl)]
  simp
theorem no37 {j : Nat} (low : Int) (h : j < 12) (h1 : j ≠ 1) : m37 [badD low j, .int 9999] = .ret (.bool false) := by
  have cs : j = 0 ∨ j = 2 ∨ j = 3 ∨ j = 4 ∨ j = 5 ∨ j = 6 ∨ j = 7 ∨ j = 8 ∨ j = 9 ∨ j = 10 ∨ j = 11 := by omega
  have pl : m28 [plainD] = .ret (.bool true) := by kernel_rfl
  rcases cs with rfl | rfl | rfl | rfl | rfl | rfl | rfl | rfl | rfl | rfl | rfl
  · kernel_rfl
  · kernel_rfl
  · rw [show badD low 3 = sv (low + 1) .none (.bool false) plainD from rfl, run37g (sb := true) (cb := true) (st := true) (nq := false) (by kernel_rfl) (by kernel_rfl) pl (by kernel_rfl)]
    simp
  · rw [show badD low 4 = sv (low + 1) (.int 5) (.int 0) plainD from rfl, run37g (sb := true) (cb := false) (st := true) (nq := true) (by kernel_rfl) (by kernel_rfl) pl (by kernel_rfl)]
    simp
  · rw [show badD low 5 = sv (low + 1) (.int 1001) (.bool false) plainD from rfl, run37g (sb := false) (cb := true) (st := true) (nq := true) (by kernel_rfl) (by kernel_rfl) pl (by kernel_rfl)]
    simp
  · rw [show badD low 6 = sv (low + 1) (.bool true) (.bool false) plainD from rfl, run37g (sb := false) (cb := true) (st := true) (nq := true) (by kernel_rfl) (by kernel_rfl) pl (by kernel_rfl)]
    simp
  · kernel_rfl
  · rw [show badD low 8 = sv (low + 1) (.int (-1)) (.bool false) plainD from rfl, run37g (sb := false) (cb := true) (st := true) (nq := true) (by kernel_rfl) (by kernel_rfl) pl (by kernel_rfl)]
    simp
  · rw [show badD low 9 = sv (low + 1) (.int 5) (.bool false) .none from rfl, run37g (sb := true) (cb := true) (st := false) (nq := true) (by kernel_rfl) (by kernel_rfl) (by kernel_rfl) (by kernel_rfl)]
    simp
  · rw [show badD low 10 = sv (low + 1) (.int 5) (.bool false) (.tuple [.str "", .tuple [.str "Plain", .int 10, .bool false, .bool false], .none, .tuple [.int 0, .int 0, .int 0, .int 0]]) from rfl, run37g (sb := true) (cb := true) (st := false) (nq := true) (by kernel_rfl) (by kernel_rfl) (by kernel_rfl) (by kernel_rfl)]
    simp
  · kernel_rfl
/-- behind these settings it is the first wrong one -/
theorem bad37 {ss : List Sg} {low : Int} {j : Nat} (h : j < 12) (hl : (ss = [] ∧ low = 0) ∨ (lastB ss none = some low ∧ 1 ≤ low ∧ low ≤ 9999)) : m37 [badD low j, .int 9999] = .ret (.bool false) ∨ ∃ n, m37 [badD low j, .int 9999] = .ret (.bool true) ∧ Pv.opI (badD low j) (.int 0) = .ret (.int n) ∧ reach (lastB ss none) n = true := by
  by_cases h1 : j = 1
  · subst h1
    rw [show badD low 1 = sv low (.int 5) (.bool false) plainD from rfl, one37]
    rcases hl with ⟨_, rfl⟩ | ⟨e, l1, l2⟩
    · exact .inl (by simp)
    · refine .inr ⟨low, by simp [l1, l2], by kernel_rfl, ?_⟩
      rw [e]
      exact decide_eq_true (Int.le_refl _)
  · exact .inl (no37 low h h1)
theorem bad_jud {low : Int} {j : Nat} (h : j < 12) (hl : low = 0 ∨ (1 ≤ low ∧ low ≤ 9999)) : Judged (badD low j) := by
  by_cases h1 : j = 1
  · subst h1
    show Judged (sv low (.int 5) (.bool false) plainD)
    unfold Judged
    rw [one37]
    rcases hl with rfl | ⟨l1, l2⟩
    · exact .inl (by simp)
    · exact .inr ⟨low, by simp [l1, l2], by kernel_rfl⟩
  · exact .inl (no37 low h h1)
/-- the law's wrong runs -/
def wrD (low : Int) (bad : PyData) (j : Nat) : PyData := ([.none, bad, rv (low + 2) (low + 1) (.int 5) (.bool false) plainD, rv low low (.int 5) (.bool false) plainD, rv (low + 1) 10000 (.int 5) (.bool true) plainD, rv (low + 1) (low + 2) .none (.bool false) plainD, rv (low + 1) (low + 2) (.int 1001) (.bool false) plainD, rv (low + 1) (low + 2) (.int 5) (.int 0) plainD, rv (low + 1) (low + 2) (.int 5) (.bool false) .none] : List PyData).getD j .none
theorem no43b {i : Nat} (low : Int) (h : i < 12) : m43 [badD low i] = .ret (.bool false) :=
  range_at (f := fun i => m43 [badD low i]) (g := fun _ => .ret (.bool false)) (n := 12) (by kernel_rfl) h
theorem wr43 {ss : List Sg} {low : Int} {i j : Nat} (h : j < 9) (hi : i < 12) (hl : low = 0 ∨ (1 ≤ low ∧ ∃ s : Sg, ss.getLast? = some s ∧ s.1 = low)) : m43 [wrD low (badD low i) j] = .ret (.bool false) ∨ (∃ n s, m43 [wrD low (badD low i) j] = .ret (.bool true) ∧ Pv.opI (wrD low (badD low i) j) (.int 0) = .ret (.int n) ∧ ss.getLast? = some s ∧ n ≤ s.1) := by
  have cs : j = 0 ∨ j = 1 ∨ j = 2 ∨ j = 3 ∨ j = 4 ∨ j = 5 ∨ j = 6 ∨ j = 7 ∨ j = 8 := by omega
  have pl : m28 [plainD] = .ret (.bool true) := by kernel_rfl
  rcases cs with rfl | rfl | rfl | rfl | rfl | rfl | rfl | rfl | rfl
  · exact .inl (by kernel_rfl)
  · exact .inl (no43b low hi)
  · refine .inl ?_
    rw [show wrD low (badD low i) 2 = rv (low + 2) (low + 1) (.int 5) (.bool false) plainD from rfl, run43g (sb := true) (cb := true) (st := true) (nq := true) (by kernel_rfl) (by kernel_rfl) pl (by kernel_rfl)]
    have : decide (low + 2 ≤ low + 1) = false := decide_eq_false (by omega)
    simp [this]
  · rw [show wrD low (badD low i) 3 = rv low low (.int 5) (.bool false) plainD from rfl, run43g (sb := true) (cb := true) (st := true) (nq := true) (by kernel_rfl) (by kernel_rfl) pl (by kernel_rfl)]
    rcases hl with rfl | ⟨h1, s, e, rfl⟩
    · exact .inl (by simp)
    · by_cases h2 : s.1 ≤ 9999
      · exact .inr ⟨s.1, s, by simp [h1, h2], by kernel_rfl, e, Int.le_refl _⟩
      · exact .inl (by simp [h2])
  · refine .inl ?_
    rw [show wrD low (badD low i) 4 = rv (low + 1) 10000 (.int 5) (.bool true) plainD from rfl, run43g (sb := true) (cb := true) (st := true) (nq := true) (by kernel_rfl) (by kernel_rfl) pl (by kernel_rfl)]
    simp
  · refine .inl ?_
    rw [show wrD low (badD low i) 5 = rv (low + 1) (low + 2) .none (.bool false) plainD from rfl, run43g (sb := true) (cb := true) (st := true) (nq := false) (by kernel_rfl) (by kernel_rfl) pl (by kernel_rfl)]
    simp
  · refine .inl ?_
    rw [show wrD low (badD low i) 6 = rv (low + 1) (low + 2) (.int 1001) (.bool false) plainD from rfl, run43g (sb := false) (cb := true) (st := true) (nq := true) (by kernel_rfl) (by kernel_rfl) pl (by kernel_rfl)]
    simp
  · refine .inl ?_
    rw [show wrD low (badD low i) 7 = rv (low + 1) (low + 2) (.int 5) (.int 0) plainD from rfl, run43g (sb := true) (cb := false) (st := true) (nq := true) (by kernel_rfl) (by kernel_rfl) pl (by kernel_rfl)]
    simp
  · refine .inl ?_
    rw [show wrD low (badD low i) 8 = rv (low + 1) (low + 2) (.int 5) (.bool false) .none from rfl, run43g (sb := true) (cb := true) (st := false) (nq := true) (by kernel_rfl) (by kernel_rfl) (by kernel_rfl) (by kernel_rfl)]
    simp
end K44

-- K44r
set_option maxRecDepth 100000
set_option maxHeartbeats 4000000
set_option linter.all false
namespace K44
open PySem L2 Pv
theorem e56 (low : Int) : m56 [drawD, .int low] = .pick 12 fun i => pkAt (m56 [drawD, .int low]) i := by kernel_rfl
theorem a56 (low : Int) : (List.range 12).map (fun j : Nat => pkAt (m56 [drawD, .int low]) (j : Int)) = (List.range 12).map fun j : Nat => .ret (badD low j) := by kernel_rfl
theorem run56 (low : Int) : Ok (m56 [drawD, .int low]) 1 fun d => ∃ j, j < 12 ∧ d = badD low j := by
  rw [e56]
  refine ok_pick fun i h0 h1 => ?_
  obtain ⟨j, rfl⟩ := Int.eq_ofNat_of_zero_le h0
  have := range_at (a56 low) (i := j) (by omega)
  rw [show pkAt (m56 [drawD, .int low]) (j : Int) = _ from this]
  exact ok_ret ⟨j, by omega, rfl⟩
theorem nn57 : NN 57 = (["script", "plain", "k", "cell", "state", "turn", "settings", "at", "low", "bad", "wrong", "ends", "bent", "pieces", "one"] : List Str) := by kernel_rfl
end K44

-- K44s
set_option maxRecDepth 100000
set_option maxHeartbeats 4000000
set_option linter.all false
namespace K44
open PySem L2 Pv
def J57 (ρ : En) : Prop := ∃ (a k c x4 x5 x6 x7 x8 x9 x10 x11 x12 x13 x14 : Option PyData), ρ = [a, some plainD, k, c, x4, x5, x6, x7, x8, x9, x10, x11, x12, x13, x14]
def I57 (ρ : En) : Prop := ∃ (a k c x5 x6 x7 x8 x9 x10 x11 x12 x13 x14 : Option PyData), ρ = [a, some plainD, k, c, some drawD, x5, x6, x7, x8, x9, x10, x11, x12, x13, x14]
theorem ne_col (i : Int) : opC .NotEq (.tuple [.str "columns", .int i]) (.tuple [.str "columns", .int i]) = .ret (.bool false) := by
  rw [opC_neP (by kernel_rfl) (by kernel_rfl)]
  have e : PyData.eqv (.tuple [.str "columns", .int i]) (.tuple [.str "columns", .int i]) = (PyData.eqv (.str "columns") (.str "columns") && (PyData.eqv (.int i) (.int i) && true)) := by rfl
  rw [e, eqv_str, eqvI]
  simp
theorem wipe57 (a b c d e f g h i j k l m n o : Option PyData) : wipeE [a, b, c, d, e, f, g, h, i, j, k, l, m, n, o] (List.map (fun x => x.snd) (lcOwn [Str.ofString "script", Str.ofString "plain", Str.ofString "k", Str.ofString "cell", Str.ofString "state", Str.ofString "turn", Str.ofString "settings", Str.ofString "at", Str.ofString "low", Str.ofString "bad", Str.ofString "wrong", Str.ofString "ends", Str.ofString "bent", Str.ofString "pieces", Str.ofString "one"] { kind := ScopeKind.function, names := [(Str.ofString ".0", NameKind.local), (Str.ofString "one", NameKind.local)], isGenerator := false, isCoroutine := false })) = [a, b, c, d, e, f, g, h, i, j, k, l, m, n, none] := by kernel_rfl
def rv' (n : Int) (x y : PyData) : PyData := .tuple [.int n, x, y, plainD]
theorem main0 (ns : List Int) (hn : ns.length ≤ 63) : Ok (m57 [.list (ns.map .int)]) 1000 fun d => d = .bool true := by
  obtain ⟨s, es⟩ := sum_at ns
  have el := add_L (xs := (ns.take 1).map .int) (ys := [.int s]) (by simp; omega)
  have c1 := cut_ints ns 1
  unfold m57 runDef
  simp only [cl57, nn57, List.map_cons, List.map_nil, List.length_cons, List.length_nil, Nat.zero_add, Nat.reduceAdd, Nat.reduceSub, List.replicate, List.cons_append, List.nil_append]
  rw [if_pos trivial, run52]
  refine ok_bind (n := 1000) (k := 0) (Q := fun o => o = Out.rt (.bool true)) ?_ (fun o ho => by rw [ho, outD_rt]; exact ok_ret rfl)
  refine ok_st (ρ := [some (.list (ns.map .int)), some plainD, none, none, none, none, none, none, none, none, none, none, none, none, none]) (by rfl) ?_
  have hds : ∀ d ∈ enumD ((ns.take 1).map PyData.int ++ [.int s]) 0, ∃ (i : Nat) (c : Int), d = .tuple [.int i, .int c] ∧ i < 10 := fun d hd => by
    have e : (ns.take 1).map PyData.int ++ [.int s] = (ns.take 1 ++ [s]).map PyData.int := by simp
    rw [e] at hd
    obtain ⟨i, c, rfl, hi⟩ := enum_item _ 0 d hd
    simp at hi
    exact ⟨i, c, rfl, by omega⟩
  have hdl : (enumD ((ns.take 1).map PyData.int ++ [.int s]) 0).length ≤ 2 := by
    rw [enum_len]
    simp
    omega
  obtain ⟨cells, hc⟩ : ∃ x, x = enumD ((ns.take 1).map PyData.int ++ [.int s]) 0 := ⟨_, rfl⟩
  rw [← hc] at hds hdl
  refine ok_mono (n := 300 * cells.length + 0) (ok_stp (ok_one (a := cells) ?first (ok_forIn (n := 300) (I := J57) (D := fun d => ∃ (i : Nat) (c : Int), d = .tuple [.int i, .int c] ∧ i < 10) ?step cells _ hds ⟨_, _, _, _, _, _, _, _, _, _, _, _, _, _, rfl⟩)) ?rest) (by omega) fun _ h => h
  case first =>
    simp [getV_at, T.bind_ret, T.bind_assoc, asI_int, lb1]
    rw [show opS (.list (ns.map PyData.int)) none (some 1) = _ from c1, T.bind_ret, es, T.bind_ret, el, hc]
    rfl
  case rest =>
    rintro ρ ⟨a, k, c, x4, x5, x6, x7, x8, x9, x10, x11, x12, x13, x14, rfl⟩
    exact ok_ret rfl
  case step =>
    rintro d ρ ⟨i, c, rfl, hi⟩ ⟨a, k, c', x4, x5, x6, x7, x8, x9, x10, x11, x12, x13, x14, rfl⟩
    have dr := draw_at (c := c) (k := (i : Int)) (by omega) (by omega)
    refine ok_one (a := [a, some plainD, some (.int (i : Int)), some (.int c), x4, x5, x6, x7, x8, x9, x10, x11, x12, x13, x14]) (by rfl) ?_
    refine ok_st (ρ := [a, some plainD, some (.int (i : Int)), some (.int c), some drawD, x5, x6, x7, x8, x9, x10, x11, x12, x13, x14]) (by simp [getV_at, T.bind_ret, T.bind_assoc, dr]) ?_
    refine ok_mono (n := 300 + 0) (ok_stp (P := I57) (n := 300) (ok_one (a := [.int 0, .int 1, .int 2]) (by rfl) (ok_mono (n := 100 * 3) (ok_forIn (n := 100) (I := I57) (D := fun _ => True) ?turn [.int 0, .int 1, .int 2] _ (fun _ _ => trivial) ⟨_, _, _, _, _, _, _, _, _, _, _, _, _, rfl⟩) (by decide) fun _ h => h)) ?ends) (by omega) fun _ h => h
    case ends =>
      rintro ρ ⟨a, k, c', x5, x6, x7, x8, x9, x10, x11, x12, x13, x14, rfl⟩
      refine ok_st (ρ := [a, some plainD, k, c', some drawD, x5, x6, x7, x8, x9, x10, some (.list [rv' 1 (.int 0) (.bool false), rv' 2 (.int 1000) (.bool true)]), x12, x13, x14]) (by kernel_rfl) ?_
      refine ok_st (ρ := [a, some plainD, k, c', some drawD, x5, x6, x7, x8, x9, x10, some (.list [rv' 1 (.int 0) (.bool false), rv' 2 (.int 1000) (.bool true)]), x12, x13, x14]) (by kernel_rfl) ?_
      refine ok_st (ρ := [a, some plainD, k, c', some drawD, x5, x6, x7, x8, x9, x10, some (.list [rv' 1 (.int 0) (.bool false), rv' 2 (.int 1000) (.bool true)]), x12, x13, x14]) (by kernel_rfl) ?_
      refine ok_st (ρ := [a, some plainD, k, c', some drawD, x5, x6, x7, x8, x9, x10, some (.list [rv' 1 (.int 0) (.bool false), rv' 2 (.int 1000) (.bool true)]), x12, x13, x14]) (by kernel_rfl) ?_
      exact ok_ret ⟨_, rfl, _, _, _, _, _, _, _, _, _, _, _, _, _, _, rfl⟩
    case turn =>
      rintro d ρ - ⟨a, k, c', x5, x6, x7, x8, x9, x10, x11, x12, x13, x14, rfl⟩
      refine ok_one (a := [a, some plainD, k, c', some drawD, some d, x6, x7, x8, x9, x10, x11, x12, x13, x14]) (by rfl) ?_
      refine ok_stp (n := 42) (k := 58) (P := fun ρ => ∃ (ss : List Sg), Good ss ∧ ss.length ≤ 10 ∧ ρ = [a, some plainD, k, c', some drawD, some d, some (.list (ss.map sT)), x7, x8, x9, x10, x11, x12, x13, x14]) ?s1 ?r1
      case s1 =>
        simp [getV_at, T.bind_ret]
        refine ok_bind (n := 42) (k := 0) run53 fun y hy => ?_
        obtain ⟨ss, nb, k0, rfl, hS, hb, hk⟩ := hy
        have := hS.ln
        exact ok_ret ⟨_, rfl, ss, ⟨fun s hs => by have := hS.ok s hs; omega, hS.up, by omega⟩, by omega, rfl⟩
      rintro _ ⟨ss, hG, h10, rfl⟩
      refine ok_stp (n := 10) (k := 48) (P := fun ρ => ρ = [a, some plainD, k, c', some drawD, some d, some (.list (ss.map sT)), x7, x8, x9, x10, x11, x12, x13, x14]) ?s2 ?r2
      case s2 =>
        generalize hL : PyData.list (ss.map sT) = L
        simp [getV_at, T.bind_ret, T.bind_assoc]
        refine ok_bind (n := 10) (k := 0) (hL ▸ run55 hG h10) fun y hy => ?_
        subst hy
        rw [truT, T.bind_ret]
        exact ok_ret rfl
      rintro _ rfl
      refine ok_stp (n := 1) (k := 47) (P := fun ρ => ∃ i : Nat, i ≤ ss.length ∧ ρ = [a, some plainD, k, c', some drawD, some d, some (.list (ss.map sT)), some (.int (i : Int)), x8, x9, x10, x11, x12, x13, x14]) ?s3 ?r3
      case s3 =>
        have ln := len_D (ss.map sT)
        rw [List.length_map] at ln
        generalize hL : PyData.list (ss.map sT) = L at ln
        simp [getV_at, T.bind_ret, T.bind_assoc, ln, opB_add]
        refine ok_dig (k := 0) (by omega) (by omega) fun i h0 h1 => ?_
        obtain ⟨j, rfl⟩ := Int.eq_ofNat_of_zero_le h0
        exact ok_ret ⟨_, rfl, j, by omega, rfl⟩
      rintro _ ⟨i, hi, rfl⟩
      obtain ⟨low, hlow, hle⟩ : ∃ low : Int, ((ss.take i = [] ∧ low = 0) ∨ (∃ s, (ss.take i).getLast? = some s ∧ s ∈ ss ∧ low = s.1)) ∧ (T.bind (T.bind (opC .Gt (.int (i : Int)) (.int 0)) asB) fun k => if k = true then T.bind (Pv.opI (.list (ss.map sT)) (.int ((i : Int) - 1))) fun x => Pv.opI x (.int 0) else T.ret (.int 0)) = .ret (.int low) := by
        by_cases h0 : i = 0
        · subst h0
          exact ⟨0, .inl ⟨rfl, rfl⟩, rfl⟩
        · obtain ⟨j, rfl⟩ : ∃ j, i = j + 1 := ⟨i - 1, by omega⟩
          have hj : j < ss.length := by omega
          refine ⟨(ss[j]).1, .inr ⟨ss[j], ?_, List.getElem_mem _, rfl⟩, ?_⟩
          · rw [List.getLast?_take]
            simp [hj]
          · rw [opC_gtI, T.bind_ret, decide_eq_true (by omega), asB_bool, T.bind_ret, if_pos rfl, at_L (d := sT ss[j]) (by omega), T.bind_ret]
            · exact fst_s _ _
            · have : (((j + 1 : Nat) : Int) - 1).toNat = j := by omega
              rw [this, List.getElem?_map, List.getElem?_eq_getElem hj]
              rfl
      refine ok_st (ρ := [a, some plainD, k, c', some drawD, some d, some (.list (ss.map sT)), some (.int (i : Int)), some (.int low), x9, x10, x11, x12, x13, x14]) ?s4 ?r4
      case s4 =>
        generalize hL : PyData.list (ss.map sT) = L at hle
        rw [T.bind_assoc] at hle
        have hle' := congrArg (fun t => T.bind t fun d_1 => T.ret (Out.nx [a, some plainD, k, c', some drawD, some d, some L, some (.int (i : Int)), some d_1, x9, x10, x11, x12, x13, x14])) hle
        simp only [T.bind_assoc, T.bind_ret] at hle'
        simp [getV_at, T.bind_ret, T.bind_assoc, opB_sub]
        exact hle'
      refine ok_stp (n := 1) (k := 46) (P := fun ρ => ∃ j : Nat, j < 12 ∧ ρ = [a, some plainD, k, c', some drawD, some d, some (.list (ss.map sT)), some (.int (i : Int)), some (.int low), some (badD low j), x10, x11, x12, x13, x14]) ?s5 ?r5
      case s5 =>
        generalize hL : PyData.list (ss.map sT) = L
        simp [getV_at, T.bind_ret, T.bind_assoc]
        refine ok_bind (n := 1) (k := 0) (run56 low) fun y hy => ?_
        obtain ⟨j, hj, rfl⟩ := hy
        exact ok_ret ⟨_, rfl, j, hj, rfl⟩
      rintro _ ⟨j, hj, rfl⟩
      obtain ⟨ps, hps⟩ : ∃ ps, ps = ss.take i := ⟨_, rfl⟩
      obtain ⟨qs, hqs⟩ : ∃ qs, qs = ss.drop i := ⟨_, rfl⟩
      refine ok_st (ρ := [a, some plainD, k, c', some drawD, some d, some (.list (ss.map sT)), some (.int (i : Int)), some (.int low), some (badD low j), x10, x11, some (.list (ps.map sT ++ badD low j :: qs.map sT)), x13, x14]) ?s6 ?r6
      case s6 =>
        have c1 : opS (.list (ss.map sT)) none (some (i : Int)) = .ret (.list (ps.map sT)) := by
          show T.ret (PyData.list (cutD (ss.map sT) none (some (i : Int)))) = _
          rw [cutN, hps, List.map_take]
        have c2 : opS (.list (ss.map sT)) (some (i : Int)) none = .ret (.list (qs.map sT)) := by
          show T.ret (PyData.list (cutD (ss.map sT) (some (i : Int)) none)) = _
          rw [cutF, hqs, List.map_drop]
        have l1 : ps.length ≤ 10 := by rw [hps]; simp; omega
        have l2 : qs.length ≤ 10 := by rw [hqs]; simp; omega
        have a1 := add_L (xs := ps.map sT) (ys := [badD low j]) (by simp; omega)
        have a2 := add_L (xs := ps.map sT ++ [badD low j]) (ys := qs.map sT) (by simp; omega)
        have e3 : ps.map sT ++ [badD low j] ++ qs.map sT = ps.map sT ++ badD low j :: qs.map sT := by simp
        rw [e3] at a2
        generalize hL : PyData.list (ss.map sT) = L at c1 c2
        generalize hB : badD low j = B at a1 a2
        simp [getV_at, T.bind_ret, T.bind_assoc, asI_int, c1, c2, a1, a2, lb1]
      have l1 : ps.length = i := by rw [hps, List.length_take]; omega
      have GP : Good ps := ⟨fun s hs => hG.ok s (by rw [hps] at hs; exact List.mem_of_mem_take hs), by rw [hps]; exact hG.up.sublist (List.take_sublist _ _), by omega⟩
      have GQ : ∀ s ∈ qs, s.2 < 6 ∧ 1 ≤ s.1 ∧ s.1 ≤ 9999 := fun s hs => hG.ok s (by rw [hqs] at hs; exact List.mem_of_mem_drop hs)
      rw [← hps] at hlow
      have low1 : low = 0 ∨ (1 ≤ low ∧ low ≤ 9999) := by
        rcases hlow with ⟨_, h⟩ | ⟨s, _, h2, rfl⟩
        · exact .inl h
        · exact .inr (hG.ok s h2).2
      have low2 : (ps = [] ∧ low = 0) ∨ (lastB ps none = some low ∧ 1 ≤ low ∧ low ≤ 9999) := by
        rcases hlow with h | ⟨s, h1, h2, rfl⟩
        · exact .inl h
        · refine .inr ⟨?_, (hG.ok s h2).2⟩
          obtain ⟨init, e⟩ := List.getLast?_eq_some_iff.mp h1
          rw [e]
          exact lastB_app init none s
      have low3 : low = 0 ∨ (1 ≤ low ∧ ∃ s : Sg, ps.getLast? = some s ∧ s.1 = low) := by
        rcases hlow with ⟨_, h⟩ | ⟨s, h1, h2, rfl⟩
        · exact .inl h
        · exact .inr ⟨(hG.ok s h2).2.1, s, h1, rfl⟩
      have b41 := bad_set GP (d := badD low j) (rest := qs.map sT) (by rw [List.length_map, hqs]; simp; omega) (fun x hx => by
        rcases List.mem_cons.mp hx with rfl | hx
        · exact bad_jud hj low1
        · obtain ⟨s, hs, rfl⟩ := List.mem_map.mp hx
          exact jud_s (GQ s hs)) (bad37 (ss := ps) hj low2)
      rw [l1] at b41
      have ne1 : opC .NotEq (.tuple [.str "columns", .int (i : Int)]) (.tuple [.str "columns", .int (i : Int)]) = .ret (.bool false) := ne_col i
      refine ok_st (ρ := [a, some plainD, k, c', some drawD, some d, some (.list (ss.map sT)), some (.int (i : Int)), some (.int low), some (badD low j), x10, x11, some (.list (ps.map sT ++ badD low j :: qs.map sT)), x13, x14]) ?s7 ?r7
      case s7 =>
        generalize hB : PyData.list (ps.map sT ++ badD low j :: qs.map sT) = B at b41
        simp [getV_at, T.bind_ret, T.bind_assoc, b41, told_bad, lb2, ne1, asB_bool]
      refine ok_st (ρ := [a, some plainD, k, c', some drawD, some d, some (.list (ss.map sT)), some (.int (i : Int)), some (.int low), some (badD low j), some (.list [.none, badD low j, rv (low + 2) (low + 1) (.int 5) (.bool false) plainD, rv low low (.int 5) (.bool false) plainD]), x11, some (.list (ps.map sT ++ badD low j :: qs.map sT)), x13, x14]) (by kernel_rfl) ?r8
      refine ok_st (ρ := [a, some plainD, k, c', some drawD, some d, some (.list (ss.map sT)), some (.int (i : Int)), some (.int low), some (badD low j), some (.list [.none, badD low j, rv (low + 2) (low + 1) (.int 5) (.bool false) plainD, rv low low (.int 5) (.bool false) plainD, rv (low + 1) 10000 (.int 5) (.bool true) plainD, rv (low + 1) (low + 2) .none (.bool false) plainD]), x11, some (.list (ps.map sT ++ badD low j :: qs.map sT)), x13, x14]) (by kernel_rfl) ?r9
      refine ok_st (ρ := [a, some plainD, k, c', some drawD, some d, some (.list (ss.map sT)), some (.int (i : Int)), some (.int low), some (badD low j), some (.list [.none, badD low j, rv (low + 2) (low + 1) (.int 5) (.bool false) plainD, rv low low (.int 5) (.bool false) plainD, rv (low + 1) 10000 (.int 5) (.bool true) plainD, rv (low + 1) (low + 2) .none (.bool false) plainD, rv (low + 1) (low + 2) (.int 1001) (.bool false) plainD, rv (low + 1) (low + 2) (.int 5) (.int 0) plainD]), x11, some (.list (ps.map sT ++ badD low j :: qs.map sT)), x13, x14]) (by kernel_rfl) ?r10
      obtain ⟨W, hW⟩ : ∃ W : List PyData, W = [.none, badD low j, rv (low + 2) (low + 1) (.int 5) (.bool false) plainD, rv low low (.int 5) (.bool false) plainD, rv (low + 1) 10000 (.int 5) (.bool true) plainD, rv (low + 1) (low + 2) .none (.bool false) plainD, rv (low + 1) (low + 2) (.int 1001) (.bool false) plainD, rv (low + 1) (low + 2) (.int 5) (.int 0) plainD, rv (low + 1) (low + 2) (.int 5) (.bool false) .none] := ⟨_, rfl⟩
      refine ok_st (ρ := [a, some plainD, k, c', some drawD, some d, some (.list (ss.map sT)), some (.int (i : Int)), some (.int low), some (badD low j), some (.list W), x11, some (.list (ps.map sT ++ badD low j :: qs.map sT)), x13, x14]) (by rw [hW]; kernel_rfl) ?r11
      obtain ⟨B, hB⟩ : ∃ B : PyData, B = .list (ps.map sT ++ badD low j :: qs.map sT) := ⟨_, rfl⟩
      rw [← hB]
      refine ok_st (ρ := [a, some plainD, k, c', some drawD, some d, some (.list (ss.map sT)), some (.int (i : Int)), some (.int low), some (badD low j), some (.list W), x11, some B, some (.list (ss.map fun s => rT (s.1, s.1, s.2))), x14]) ?s12 ?r12
      case s12 =>
        have it : itemsD (.list (ss.map sT)) = .ret (ss.map sT) := rfl
        have em : (ss.map fun s => rT (s.1, s.1, s.2)) = (ss.map sT).map fun d => match T.bind (opS d none (some 1)) fun x => opB .Add x d with | .ret x => x | _ => PyData.none := by
          rw [List.map_map]
          rfl
        generalize hL : PyData.list (ss.map sT) = L at it
        generalize hb : badD low j = bb
        rw [getV_at (d := L) rfl, T.bind_ret, it, T.bind_ret, wipe57, lc_map (g := fun d => match T.bind (opS d none (some 1)) fun x => opB .Add x d with | .ret x => x | _ => PyData.none) (ss.map sT) [] (fun d hd => ?_) (by simp; omega), noRaise_ret, T.bind_ret, List.nil_append, ← em]
        · rfl
        · obtain ⟨s, hs, rfl⟩ := List.mem_map.mp hd
          rfl
      have r0 : RunsOf (ps.map fun s => (s.1, s.1, s.2)) ps := by
        refine ⟨fun r hr => ?_, ?_, ?_⟩
        · obtain ⟨s, hs, rfl⟩ := List.mem_map.mp hr
          have := GP.ok s hs
          exact ⟨this.1, this.2.1, Int.le_refl _, this.2.2⟩
        · rw [List.pairwise_map]
          exact GP.up
        · rw [List.flatMap_map]
          simp only [exp_one]
          simp
      have b42 := fun (u : Nat) (hu : u < 9) => bad_runs (rest := qs.map fun s => rT (s.1, s.1, s.2)) r0 (by omega) (wr43 hu hj low3)
      refine ok_stp (n := 1) (k := 45) (P := fun ρ => ∃ u : Nat, u < 9 ∧ ρ = [a, some plainD, k, c', some drawD, some d, some (.list (ss.map sT)), some (.int (i : Int)), some (.int low), some (badD low j), some (.list W), x11, some B, some (.list ((ps.map fun s => (s.1, s.1, s.2)).map rT ++ wrD low (badD low j) u :: qs.map fun s => rT (s.1, s.1, s.2))), x14]) ?s13 ?r13
      case s13 =>
        have c1 : opS (.list (ss.map fun s => rT (s.1, s.1, s.2))) none (some (i : Int)) = .ret (.list ((ps.map fun s => (s.1, s.1, s.2)).map rT)) := by
          show T.ret (PyData.list (cutD _ none (some (i : Int)))) = _
          rw [cutN, hps, List.map_map, ← List.map_take]
          rfl
        have c2 : opS (.list (ss.map fun s => rT (s.1, s.1, s.2))) (some (i : Int)) none = .ret (.list (qs.map fun s => rT (s.1, s.1, s.2))) := by
          show T.ret (PyData.list (cutD _ (some (i : Int)) none)) = _
          rw [cutF, hqs, ← List.map_drop]
        have l2 : qs.length ≤ 10 := by rw [hqs]; simp; omega
        have a1 := fun x : PyData => add_L (xs := (ps.map fun s => (s.1, s.1, s.2)).map rT) (ys := [x]) (by simp; omega)
        have a2 := fun x : PyData => add_L (xs := (ps.map fun s => (s.1, s.1, s.2)).map rT ++ [x]) (ys := qs.map fun s => rT (s.1, s.1, s.2)) (by simp; omega)
        have a3 : ∀ x : PyData, (ps.map fun s => (s.1, s.1, s.2)).map rT ++ [x] ++ (qs.map fun s => rT (s.1, s.1, s.2)) = (ps.map fun s => (s.1, s.1, s.2)).map rT ++ x :: qs.map fun s => rT (s.1, s.1, s.2) := fun x => by simp
        simp only [a3] at a2
        have w1 : ∀ u : Nat, u < 9 → Pv.opI (.list W) (.int (u : Int)) = .ret (wrD low (badD low j) u) := fun u hu => at_L (by omega) (by
          rw [hW]
          show _ = some (([_, _, _, _, _, _, _, _, _] : List PyData).getD u .none)
          rw [List.getD_eq_getElem?_getD, Int.toNat_natCast]
          rw [List.getElem?_eq_getElem (show u < 9 from hu)]
          rfl)
        generalize hL : PyData.list (ss.map sT) = L
        generalize hb : badD low j = bb at w1
        generalize hP : (ps.map fun s => (s.1, s.1, s.2)).map rT = PP at c1 a1 a2
        generalize hQ : (qs.map fun s => rT (s.1, s.1, s.2)) = QQ at c2 a2
        generalize hS : PyData.list (ss.map fun s => rT (s.1, s.1, s.2)) = SS at c1 c2
        simp [getV_at, T.bind_ret, T.bind_assoc, asI_int, c1]
        refine ok_dig (k := 0) (by omega) (by omega) fun v h0 h1 => ?_
        obtain ⟨u, rfl⟩ := Int.eq_ofNat_of_zero_le h0
        simp [w1 u (by omega), T.bind_ret, lb1, a1, a2, c2]
        exact ok_ret ⟨_, rfl, u, by omega, rfl⟩
      rintro _ ⟨u, hu, rfl⟩
      have e42 := b42 u hu
      rw [List.length_map, l1] at e42
      refine ok_mono (n := 0) ?_ (by decide) fun _ h => h
      have te : ∀ t, told (m42 t) = told (m42 t) := fun _ => rfl
      generalize hPC : PyData.list ((ps.map fun s => (s.1, s.1, s.2)).map rT ++ wrD low (badD low j) u :: qs.map fun s => rT (s.1, s.1, s.2)) = PC at e42
      generalize hL : PyData.list (ss.map sT) = L
      generalize hb : badD low j = bb
      simp [getV_at, T.bind_ret, T.bind_assoc, e42, told_bad, lb2, ne1, asB_bool, seqT_nx]
      exact ok_ret ⟨_, rfl, _, _, _, _, _, _, _, _, _, _, _, _, _, rfl⟩
theorem main_ok (ns : List Int) (h : ns.length ≤ 63) : T.wp (m57 [.list (ns.map .int)]) (2 ^ 20) (fun d _ => d = .bool true) (fun _ _ => False) := ok_wp (main0 ns h) (by decide)
end K44

-- A44
set_option Elab.async false
set_option linter.all false
set_option maxRecDepth 100000
set_option maxHeartbeats 8000000
namespace K44
open PySem PySem.Spec L2 Pv SX
def initOf : Stmt → Stmt
  | .ClassDef (body := b :: _) .. => b
  | s => s
abbrev hl36 : Str := "wrong_setting" ++ ".<locals>." ++ "<lambda>"
abbrev hl57 : Str := "law" ++ ".<locals>." ++ "<lambda>"
def clP (CE0 CE1 CE2 CE3 CE4 CE5 CE6 CE7 : Addr) (c : Str) : Option Addr := if c = "BadWord" then some CE0 else if c = "BadBook" then some CE1 else if c = "BadNumber" then some CE2 else if c = "BadMap" then some CE3 else if c = "BadCells" then some CE4 else if c = "BadColumns" then some CE5 else if c = "BadTable" then some CE6 else if c = "BadPaper" then some CE7 else none
def PP (K : PySem.W.Frag) (CE0 CE1 CE2 CE3 CE4 CE5 CE6 CE7 tb36 tb57 : Addr) : Pa := ⟨⟨K, clP CE0 CE1 CE2 CE3 CE4 CE5 CE6 CE7⟩, [(tb36, hl36), (tb57, hl57)], [], [], [], [], 0⟩
theorem sc2 : FnScope (NN 2) ["value", "least", "most"] (defScope (top 2)) := ⟨rfl, rfl, rfl, by decide +kernel, rfl, by decide +kernel, by decide +kernel⟩
theorem sc3 : FnScope (NN 3) ["text", "signs"] (defScope (top 3)) := ⟨rfl, rfl, rfl, by decide +kernel, rfl, by decide +kernel, by decide +kernel⟩
theorem sc4 : FnScope (NN 4) ["value", "least", "most", "signs"] (defScope (top 4)) := ⟨rfl, rfl, rfl, by decide +kernel, rfl, by decide +kernel, by decide +kernel⟩
theorem sc5 : FnScope (NN 5) ["value", "words"] (defScope (top 5)) := ⟨rfl, rfl, rfl, by decide +kernel, rfl, by decide +kernel, by decide +kernel⟩
theorem sc6 : FnScope (NN 6) ["value"] (defScope (top 6)) := ⟨rfl, rfl, rfl, by decide +kernel, rfl, by decide +kernel, by decide +kernel⟩
theorem sc7 : FnScope (NN 7) ["value", "many"] (defScope (top 7)) := ⟨rfl, rfl, rfl, by decide +kernel, rfl, by decide +kernel, by decide +kernel⟩
theorem sc29 : FnScope (NN 29) ["value"] (defScope (top 29)) := ⟨rfl, rfl, rfl, by decide +kernel, rfl, by decide +kernel, by decide +kernel⟩
theorem sc30 : FnScope (NN 30) ["value"] (defScope (top 30)) := ⟨rfl, rfl, rfl, by decide +kernel, rfl, by decide +kernel, by decide +kernel⟩
theorem sc31 : FnScope (NN 31) ["value"] (defScope (top 31)) := ⟨rfl, rfl, rfl, by decide +kernel, rfl, by decide +kernel, by decide +kernel⟩
theorem sc32 : FnScope (NN 32) ["value"] (defScope (top 32)) := ⟨rfl, rfl, rfl, by decide +kernel, rfl, by decide +kernel, by decide +kernel⟩
theorem sc33 : FnScope (NN 33) ["value"] (defScope (top 33)) := ⟨rfl, rfl, rfl, by decide +kernel, rfl, by decide +kernel, by decide +kernel⟩
theorem sc28 : FnScope (NN 28) ["value"] (defScope (top 28)) := ⟨rfl, rfl, rfl, by decide +kernel, rfl, by decide +kernel, by decide +kernel⟩
theorem sc38 : FnScope (NN 38) ["value"] (defScope (top 38)) := ⟨rfl, rfl, rfl, by decide +kernel, rfl, by decide +kernel, by decide +kernel⟩
theorem sc37 : FnScope (NN 37) ["value", "most"] (defScope (top 37)) := ⟨rfl, rfl, rfl, by decide +kernel, rfl, by decide +kernel, by decide +kernel⟩
theorem sc39 : FnScope (NN 39) ["items", "is_right", "most"] (defScope (top 39)) := ⟨rfl, rfl, rfl, by decide +kernel, rfl, by decide +kernel, by decide +kernel⟩
theorem sc36 : FnScope (NN 36) ["settings", "most"] (defScope (top 36)) := ⟨rfl, rfl, rfl, by decide +kernel, rfl, by decide +kernel, by decide +kernel⟩
theorem sc41 : FnScope (NN 41) ["settings"] (defScope (top 41)) := ⟨rfl, rfl, rfl, by decide +kernel, rfl, by decide +kernel, by decide +kernel⟩
theorem sc43 : FnScope (NN 43) ["value"] (defScope (top 43)) := ⟨rfl, rfl, rfl, by decide +kernel, rfl, by decide +kernel, by decide +kernel⟩
theorem sc42 : FnScope (NN 42) ["runs"] (defScope (top 42)) := ⟨rfl, rfl, rfl, by decide +kernel, rfl, by decide +kernel, by decide +kernel⟩
theorem sc49 : FnScope (NN 49) ["wrong"] (defScope (top 49)) := ⟨rfl, rfl, rfl, by decide +kernel, rfl, by decide +kernel, by decide +kernel⟩
theorem sc50 : FnScope (NN 50) ["wrong"] (defScope (top 50)) := ⟨rfl, rfl, rfl, by decide +kernel, rfl, by decide +kernel, by decide +kernel⟩
theorem sc52 : FnScope (NN 52) [] (defScope (top 52)) := ⟨rfl, rfl, rfl, by decide +kernel, rfl, by decide +kernel, by decide +kernel⟩
theorem sc53 : FnScope (NN 53) ["state"] (defScope (top 53)) := ⟨rfl, rfl, rfl, by decide +kernel, rfl, by decide +kernel, by decide +kernel⟩
theorem sc54 : FnScope (NN 54) ["settings"] (defScope (top 54)) := ⟨rfl, rfl, rfl, by decide +kernel, rfl, by decide +kernel, by decide +kernel⟩
theorem sc55 : FnScope (NN 55) ["state", "settings"] (defScope (top 55)) := ⟨rfl, rfl, rfl, by decide +kernel, rfl, by decide +kernel, by decide +kernel⟩
theorem sc56 : FnScope (NN 56) ["state", "low"] (defScope (top 56)) := ⟨rfl, rfl, rfl, by decide +kernel, rfl, by decide +kernel, by decide +kernel⟩
theorem sc57 : FnScope (NN 57) ["script"] (defScope (top 57)) := ⟨rfl, rfl, rfl, by decide +kernel, rfl, by decide +kernel, by decide +kernel⟩
theorem sc48 : FnScope (NN 48) ["ask"] (defScope (top 48)) := ⟨rfl, rfl, rfl, by decide +kernel, rfl, by decide +kernel, by decide +kernel⟩
theorem bp2 : Plain "is_integer" (top 2) ["value", "least", "most"] := fun kV doc pm an cdv ct us hl => match us, hl with | [_, _, _], _ => rfl
theorem bp3 : Plain "is_made_of" (top 3) ["text", "signs"] := fun kV doc pm an cdv ct us hl => match us, hl with | [_, _], _ => rfl
theorem bp4 : Plain "is_text" (top 4) ["value", "least", "most", "signs"] := fun kV doc pm an cdv ct us hl => match us, hl with | [_, _, _, _], _ => rfl
theorem bp5 : Plain "is_one_of" (top 5) ["value", "words"] := fun kV doc pm an cdv ct us hl => match us, hl with | [_, _], _ => rfl
theorem bp6 : Plain "is_row" (top 6) ["value"] := fun kV doc pm an cdv ct us hl => match us, hl with | [_], _ => rfl
theorem bp7 : Plain "is_tuple_of" (top 7) ["value", "many"] := fun kV doc pm an cdv ct us hl => match us, hl with | [_, _], _ => rfl
theorem bp29 : Plain "_is_format" (top 29) ["value"] := fun kV doc pm an cdv ct us hl => match us, hl with | [_], _ => rfl
theorem bp30 : Plain "_is_font" (top 30) ["value"] := fun kV doc pm an cdv ct us hl => match us, hl with | [_], _ => rfl
theorem bp31 : Plain "_is_fill" (top 31) ["value"] := fun kV doc pm an cdv ct us hl => match us, hl with | [_], _ => rfl
theorem bp32 : Plain "_is_border" (top 32) ["value"] := fun kV doc pm an cdv ct us hl => match us, hl with | [_], _ => rfl
theorem bp33 : Plain "_is_align" (top 33) ["value"] := fun kV doc pm an cdv ct us hl => match us, hl with | [_], _ => rfl
theorem bp28 : Plain "is_style" (top 28) ["value"] := fun kV doc pm an cdv ct us hl => match us, hl with | [_], _ => rfl
theorem bp38 : Plain "is_size" (top 38) ["value"] := fun kV doc pm an cdv ct us hl => match us, hl with | [_], _ => rfl
theorem bp37 : Plain "is_setting" (top 37) ["value", "most"] := fun kV doc pm an cdv ct us hl => match us, hl with | [_, _], _ => rfl
theorem bp39 : Plain "_wrong_item" (top 39) ["items", "is_right", "most"] := fun kV doc pm an cdv ct us hl => match us, hl with | [_, _, _], _ => rfl
theorem bp36 : Plain "wrong_setting" (top 36) ["settings", "most"] := fun kV doc pm an cdv ct us hl => match us, hl with | [_, _], _ => rfl
theorem bp41 : Plain "setting_runs" (top 41) ["settings"] := fun kV doc pm an cdv ct us hl => match us, hl with | [_], _ => rfl
theorem bp43 : Plain "_is_run" (top 43) ["value"] := fun kV doc pm an cdv ct us hl => match us, hl with | [_], _ => rfl
theorem bp42 : Plain "settings_of" (top 42) ["runs"] := fun kV doc pm an cdv ct us hl => match us, hl with | [_], _ => rfl
theorem bp49 : Plain "_law_places" (top 49) ["wrong"] := fun kV doc pm an cdv ct us hl => match us, hl with | [_], _ => rfl
theorem bp50 : Plain "_law_givens" (top 50) ["wrong"] := fun kV doc pm an cdv ct us hl => match us, hl with | [_], _ => rfl
theorem bp52 : Plain "_law_plain" (top 52) [] := fun kV doc pm an cdv ct us hl => match us, hl with | [], _ => rfl
theorem bp53 : Plain "_law_settings" (top 53) ["state"] := fun kV doc pm an cdv ct us hl => match us, hl with | [_], _ => rfl
theorem bp54 : Plain "_law_own_runs" (top 54) ["settings"] := fun kV doc pm an cdv ct us hl => match us, hl with | [_], _ => rfl
theorem bp55 : Plain "_law_is_divided_right" (top 55) ["state", "settings"] := fun kV doc pm an cdv ct us hl => match us, hl with | [_, _], _ => rfl
theorem bp56 : Plain "_law_wrong_setting" (top 56) ["state", "low"] := fun kV doc pm an cdv ct us hl => match us, hl with | [_, _], _ => rfl
theorem bp57 : Plain "law" (top 57) ["script"] := fun kV doc pm an cdv ct us hl => match us, hl with | [_], _ => rfl
theorem bp48 : Plain "_law_told" (top 48) ["ask"] := fun kV doc pm an cdv ct us hl => match us, hl with | [_], _ => rfl
theorem bp45 : Plain "_law_mixed" (top 45) ["cell", "k"] := fun kV doc pm an cdv ct us hl => match us, hl with | [_, _], _ => rfl
theorem bp46 : Plain "_law_draw" (top 46) ["cell", "k"] := fun kV doc pm an cdv ct us hl => match us, hl with | [_, _], _ => rfl
theorem bp47 : Plain "_law_digit" (top 47) ["state", "size"] := fun kV doc pm an cdv ct us hl => match us, hl with | [_, _], _ => rfl
theorem nd1 : (errs1.map (·.1)).Nodup := by decide +kernel
section
variable {K : PySem.W.Frag} {prog : Program} {w : World} {mg : Str → Option Value} {h base : Heap}
theorem cases_cl {CE0 CE1 CE2 CE3 CE4 CE5 CE6 CE7 : Addr} {cn : Str} {C : Addr} (h : clP CE0 CE1 CE2 CE3 CE4 CE5 CE6 CE7 cn = some C) : (cn = "BadWord" ∧ C = CE0) ∨ (cn = "BadBook" ∧ C = CE1) ∨ (cn = "BadNumber" ∧ C = CE2) ∨ (cn = "BadMap" ∧ C = CE3) ∨ (cn = "BadCells" ∧ C = CE4) ∨ (cn = "BadColumns" ∧ C = CE5) ∨ (cn = "BadTable" ∧ C = CE6) ∨ (cn = "BadPaper" ∧ C = CE7) := by
  unfold clP at h
  split at h
  · rename_i e
    cases h
    exact .inl ⟨e, rfl⟩
  split at h
  · rename_i e
    cases h
    exact .inr (.inl ⟨e, rfl⟩)
  split at h
  · rename_i e
    cases h
    exact .inr (.inr (.inl ⟨e, rfl⟩))
  split at h
  · rename_i e
    cases h
    exact .inr (.inr (.inr (.inl ⟨e, rfl⟩)))
  split at h
  · rename_i e
    cases h
    exact .inr (.inr (.inr (.inr (.inl ⟨e, rfl⟩))))
  split at h
  · rename_i e
    cases h
    exact .inr (.inr (.inr (.inr (.inr (.inl ⟨e, rfl⟩)))))
  split at h
  · rename_i e
    cases h
    exact .inr (.inr (.inr (.inr (.inr (.inr (.inl ⟨e, rfl⟩))))))
  split at h
  · rename_i e
    cases h
    exact .inr (.inr (.inr (.inr (.inr (.inr (.inr (⟨e, rfl⟩)))))))
  cases h
theorem ecl1 {CGGridError CGRefused CE0 CE1 CE2 CE3 CE4 CE5 CE6 CE7 tb36 tb57 fE0 fE1 fE2 fE3 fE4 fE5 fE6 fE7 : Addr} (X : K.In h) (G : h.Ns mainGlobals mg) (aGridError : PySem.W.nsIn K mainGlobals "GridError" = some (some (.ref CGGridError))) (tGridError : ClsF K CGGridError) (aRefused : PySem.W.nsIn K mainGlobals "Refused" = some (some (.ref CGRefused))) (tRefused : ClsF K CGRefused) (eE0 : ErF K "BadWord" "given" "BadWord.__init__" (initOf (top 10)) CE0 fE0) (eE1 : ErF K "BadBook" "given" "BadBook.__init__" (initOf (top 11)) CE1 fE1) (eE2 : ErF K "BadNumber" "given" "BadNumber.__init__" (initOf (top 12)) CE2 fE2) (eE3 : ErF K "BadMap" "given" "BadMap.__init__" (initOf (top 13)) CE3 fE3) (eE4 : ErF K "BadCells" "at" "BadCells.__init__" (initOf (top 14)) CE4 fE4) (eE5 : ErF K "BadColumns" "at" "BadColumns.__init__" (initOf (top 15)) CE5 fE5) (eE6 : ErF K "BadTable" "at" "BadTable.__init__" (initOf (top 16)) CE6 fE6) (eE7 : ErF K "BadPaper" "at" "BadPaper.__init__" (initOf (top 17)) CE7 fE7)
    (sE0GGridError : PySem.W.subIn K (.ref CE0) (.ref CGGridError) = some true) (sE0GRefused : PySem.W.subIn K (.ref CE0) (.ref CGRefused) = some false) (sE0E0 : PySem.W.subIn K (.ref CE0) (.ref CE0) = some true) (sE0E1 : PySem.W.subIn K (.ref CE0) (.ref CE1) = some false) (sE0E2 : PySem.W.subIn K (.ref CE0) (.ref CE2) = some false) (sE0E3 : PySem.W.subIn K (.ref CE0) (.ref CE3) = some false) (sE0E4 : PySem.W.subIn K (.ref CE0) (.ref CE4) = some false) (sE0E5 : PySem.W.subIn K (.ref CE0) (.ref CE5) = some false) (sE0E6 : PySem.W.subIn K (.ref CE0) (.ref CE6) = some false) (sE0E7 : PySem.W.subIn K (.ref CE0) (.ref CE7) = some false) (sE1GGridError : PySem.W.subIn K (.ref CE1) (.ref CGGridError) = some true) (sE1GRefused : PySem.W.subIn K (.ref CE1) (.ref CGRefused) = some false) (sE1E0 : PySem.W.subIn K (.ref CE1) (.ref CE0) = some false) (sE1E1 : PySem.W.subIn K (.ref CE1) (.ref CE1) = some true) (sE1E2 : PySem.W.subIn K (.ref CE1) (.ref CE2) = some false) (sE1E3 : PySem.W.subIn K (.ref CE1) (.ref CE3) = some false) (sE1E4 : PySem.W.subIn K (.ref CE1) (.ref CE4) = some false) (sE1E5 : PySem.W.subIn K (.ref CE1) (.ref CE5) = some false) (sE1E6 : PySem.W.subIn K (.ref CE1) (.ref CE6) = some false) (sE1E7 : PySem.W.subIn K (.ref CE1) (.ref CE7) = some false) (sE2GGridError : PySem.W.subIn K (.ref CE2) (.ref CGGridError) = some true) (sE2GRefused : PySem.W.subIn K (.ref CE2) (.ref CGRefused) = some false) (sE2E0 : PySem.W.subIn K (.ref CE2) (.ref CE0) = some false) (sE2E1 : PySem.W.subIn K (.ref CE2) (.ref CE1) = some false) (sE2E2 : PySem.W.subIn K (.ref CE2) (.ref CE2) = some true) (sE2E3 : PySem.W.subIn K (.ref CE2) (.ref CE3) = some false) (sE2E4 : PySem.W.subIn K (.ref CE2) (.ref CE4) = some false) (sE2E5 : PySem.W.subIn K (.ref CE2) (.ref CE5) = some false) (sE2E6 : PySem.W.subIn K (.ref CE2) (.ref CE6) = some false) (sE2E7 : PySem.W.subIn K (.ref CE2) (.ref CE7) = some false) (sE3GGridError : PySem.W.subIn K (.ref CE3) (.ref CGGridError) = some true) (sE3GRefused : PySem.W.subIn K (.ref CE3) (.ref CGRefused) = some false) (sE3E0 : PySem.W.subIn K (.ref CE3) (.ref CE0) = some false) (sE3E1 : PySem.W.subIn K (.ref CE3) (.ref CE1) = some false) (sE3E2 : PySem.W.subIn K (.ref CE3) (.ref CE2) = some false) (sE3E3 : PySem.W.subIn K (.ref CE3) (.ref CE3) = some true) (sE3E4 : PySem.W.subIn K (.ref CE3) (.ref CE4) = some false) (sE3E5 : PySem.W.subIn K (.ref CE3) (.ref CE5) = some false) (sE3E6 : PySem.W.subIn K (.ref CE3) (.ref CE6) = some false) (sE3E7 : PySem.W.subIn K (.ref CE3) (.ref CE7) = some false) (sE4GGridError : PySem.W.subIn K (.ref CE4) (.ref CGGridError) = some true) (sE4GRefused : PySem.W.subIn K (.ref CE4) (.ref CGRefused) = some false) (sE4E0 : PySem.W.subIn K (.ref CE4) (.ref CE0) = some false) (sE4E1 : PySem.W.subIn K (.ref CE4) (.ref CE1) = some false) (sE4E2 : PySem.W.subIn K (.ref CE4) (.ref CE2) = some false) (sE4E3 : PySem.W.subIn K (.ref CE4) (.ref CE3) = some false) (sE4E4 : PySem.W.subIn K (.ref CE4) (.ref CE4) = some true) (sE4E5 : PySem.W.subIn K (.ref CE4) (.ref CE5) = some false) (sE4E6 : PySem.W.subIn K (.ref CE4) (.ref CE6) = some false) (sE4E7 : PySem.W.subIn K (.ref CE4) (.ref CE7) = some false) (sE5GGridError : PySem.W.subIn K (.ref CE5) (.ref CGGridError) = some true) (sE5GRefused : PySem.W.subIn K (.ref CE5) (.ref CGRefused) = some false) (sE5E0 : PySem.W.subIn K (.ref CE5) (.ref CE0) = some false) (sE5E1 : PySem.W.subIn K (.ref CE5) (.ref CE1) = some false) (sE5E2 : PySem.W.subIn K (.ref CE5) (.ref CE2) = some false) (sE5E3 : PySem.W.subIn K (.ref CE5) (.ref CE3) = some false) (sE5E4 : PySem.W.subIn K (.ref CE5) (.ref CE4) = some false) (sE5E5 : PySem.W.subIn K (.ref CE5) (.ref CE5) = some true) (sE5E6 : PySem.W.subIn K (.ref CE5) (.ref CE6) = some false) (sE5E7 : PySem.W.subIn K (.ref CE5) (.ref CE7) = some false) (sE6GGridError : PySem.W.subIn K (.ref CE6) (.ref CGGridError) = some true) (sE6GRefused : PySem.W.subIn K (.ref CE6) (.ref CGRefused) = some false) (sE6E0 : PySem.W.subIn K (.ref CE6) (.ref CE0) = some false) (sE6E1 : PySem.W.subIn K (.ref CE6) (.ref CE1) = some false) (sE6E2 : PySem.W.subIn K (.ref CE6) (.ref CE2) = some false) (sE6E3 : PySem.W.subIn K (.ref CE6) (.ref CE3) = some false) (sE6E4 : PySem.W.subIn K (.ref CE6) (.ref CE4) = some false) (sE6E5 : PySem.W.subIn K (.ref CE6) (.ref CE5) = some false) (sE6E6 : PySem.W.subIn K (.ref CE6) (.ref CE6) = some true) (sE6E7 : PySem.W.subIn K (.ref CE6) (.ref CE7) = some false) (sE7GGridError : PySem.W.subIn K (.ref CE7) (.ref CGGridError) = some true) (sE7GRefused : PySem.W.subIn K (.ref CE7) (.ref CGRefused) = some false) (sE7E0 : PySem.W.subIn K (.ref CE7) (.ref CE0) = some false) (sE7E1 : PySem.W.subIn K (.ref CE7) (.ref CE1) = some false) (sE7E2 : PySem.W.subIn K (.ref CE7) (.ref CE2) = some false) (sE7E3 : PySem.W.subIn K (.ref CE7) (.ref CE3) = some false) (sE7E4 : PySem.W.subIn K (.ref CE7) (.ref CE4) = some false) (sE7E5 : PySem.W.subIn K (.ref CE7) (.ref CE5) = some false) (sE7E6 : PySem.W.subIn K (.ref CE7) (.ref CE6) = some false) (sE7E7 : PySem.W.subIn K (.ref CE7) (.ref CE7) = some true) (nE0GRefused : CE0 ≠ CGRefused) (nE0E1 : CE0 ≠ CE1) (nE0E2 : CE0 ≠ CE2) (nE0E3 : CE0 ≠ CE3) (nE0E4 : CE0 ≠ CE4) (nE0E5 : CE0 ≠ CE5) (nE0E6 : CE0 ≠ CE6) (nE0E7 : CE0 ≠ CE7) (nE1GRefused : CE1 ≠ CGRefused) (nE1E2 : CE1 ≠ CE2) (nE1E3 : CE1 ≠ CE3) (nE1E4 : CE1 ≠ CE4) (nE1E5 : CE1 ≠ CE5) (nE1E6 : CE1 ≠ CE6) (nE1E7 : CE1 ≠ CE7) (nE2GRefused : CE2 ≠ CGRefused) (nE2E3 : CE2 ≠ CE3) (nE2E4 : CE2 ≠ CE4) (nE2E5 : CE2 ≠ CE5) (nE2E6 : CE2 ≠ CE6) (nE2E7 : CE2 ≠ CE7) (nE3GRefused : CE3 ≠ CGRefused) (nE3E4 : CE3 ≠ CE4) (nE3E5 : CE3 ≠ CE5) (nE3E6 : CE3 ≠ CE6) (nE3E7 : CE3 ≠ CE7) (nE4GRefused : CE4 ≠ CGRefused) (nE4E5 : CE4 ≠ CE5) (nE4E6 : CE4 ≠ CE6) (nE4E7 : CE4 ≠ CE7) (nE5GRefused : CE5 ≠ CGRefused) (nE5E6 : CE5 ≠ CE6) (nE5E7 : CE5 ≠ CE7) (nE6GRefused : CE6 ≠ CGRefused) (nE6E7 : CE6 ≠ CE7) (nE7GRefused : CE7 ≠ CGRefused) : Ecl (PP K CE0 CE1 CE2 CE3 CE4 CE5 CE6 CE7 tb36 tb57).kc subE eclE mg where
  xf := fun cn C hC => by
    rcases cases_cl (show clP CE0 CE1 CE2 CE3 CE4 CE5 CE6 CE7 cn = some C from hC) with ⟨rfl, rfl⟩ | ⟨rfl, rfl⟩ | ⟨rfl, rfl⟩ | ⟨rfl, rfl⟩ | ⟨rfl, rfl⟩ | ⟨rfl, rfl⟩ | ⟨rfl, rfl⟩ | ⟨rfl, rfl⟩
    · exact eE0.xf
    · exact eE1.xf
    · exact eE2.xf
    · exact eE3.xf
    · exact eE4.xf
    · exact eE5.xf
    · exact eE6.xf
    · exact eE7.xf
  cat := fun c hc => by
    have hc' : c = "GridError" ∨ c = "Refused" ∨ c = "BadWord" ∨ c = "BadBook" ∨ c = "BadNumber" ∨ c = "BadMap" ∨ c = "BadCells" ∨ c = "BadColumns" ∨ c = "BadTable" ∨ c = "BadPaper" := by simpa [eclE] using hc
    rcases hc' with rfl | rfl | rfl | rfl | rfl | rfl | rfl | rfl | rfl | rfl
    · refine ⟨CGGridError, PySem.W.mg_of X G aGridError, by decide +kernel, cls_of tGridError, fun cn b C hs hC => ?_⟩
      rcases cases_cl (show clP CE0 CE1 CE2 CE3 CE4 CE5 CE6 CE7 cn = some C from hC) with ⟨rfl, rfl⟩ | ⟨rfl, rfl⟩ | ⟨rfl, rfl⟩ | ⟨rfl, rfl⟩ | ⟨rfl, rfl⟩ | ⟨rfl, rfl⟩ | ⟨rfl, rfl⟩ | ⟨rfl, rfl⟩
      · cases (show some true = some b from hs)
        exact ⟨kit_of tGridError sE0GGridError (fun _ => rfl), exm_of tGridError sE0GGridError⟩
      · cases (show some true = some b from hs)
        exact ⟨kit_of tGridError sE1GGridError (fun _ => rfl), exm_of tGridError sE1GGridError⟩
      · cases (show some true = some b from hs)
        exact ⟨kit_of tGridError sE2GGridError (fun _ => rfl), exm_of tGridError sE2GGridError⟩
      · cases (show some true = some b from hs)
        exact ⟨kit_of tGridError sE3GGridError (fun _ => rfl), exm_of tGridError sE3GGridError⟩
      · cases (show some true = some b from hs)
        exact ⟨kit_of tGridError sE4GGridError (fun _ => rfl), exm_of tGridError sE4GGridError⟩
      · cases (show some true = some b from hs)
        exact ⟨kit_of tGridError sE5GGridError (fun _ => rfl), exm_of tGridError sE5GGridError⟩
      · cases (show some true = some b from hs)
        exact ⟨kit_of tGridError sE6GGridError (fun _ => rfl), exm_of tGridError sE6GGridError⟩
      · cases (show some true = some b from hs)
        exact ⟨kit_of tGridError sE7GGridError (fun _ => rfl), exm_of tGridError sE7GGridError⟩
    · refine ⟨CGRefused, PySem.W.mg_of X G aRefused, by decide +kernel, cls_of tRefused, fun cn b C hs hC => ?_⟩
      rcases cases_cl (show clP CE0 CE1 CE2 CE3 CE4 CE5 CE6 CE7 cn = some C from hC) with ⟨rfl, rfl⟩ | ⟨rfl, rfl⟩ | ⟨rfl, rfl⟩ | ⟨rfl, rfl⟩ | ⟨rfl, rfl⟩ | ⟨rfl, rfl⟩ | ⟨rfl, rfl⟩ | ⟨rfl, rfl⟩
      · cases (show some false = some b from hs)
        exact ⟨kit_of tRefused sE0GRefused (fun z => absurd z nE0GRefused), exm_of tRefused sE0GRefused⟩
      · cases (show some false = some b from hs)
        exact ⟨kit_of tRefused sE1GRefused (fun z => absurd z nE1GRefused), exm_of tRefused sE1GRefused⟩
      · cases (show some false = some b from hs)
        exact ⟨kit_of tRefused sE2GRefused (fun z => absurd z nE2GRefused), exm_of tRefused sE2GRefused⟩
      · cases (show some false = some b from hs)
        exact ⟨kit_of tRefused sE3GRefused (fun z => absurd z nE3GRefused), exm_of tRefused sE3GRefused⟩
      · cases (show some false = some b from hs)
        exact ⟨kit_of tRefused sE4GRefused (fun z => absurd z nE4GRefused), exm_of tRefused sE4GRefused⟩
      · cases (show some false = some b from hs)
        exact ⟨kit_of tRefused sE5GRefused (fun z => absurd z nE5GRefused), exm_of tRefused sE5GRefused⟩
      · cases (show some false = some b from hs)
        exact ⟨kit_of tRefused sE6GRefused (fun z => absurd z nE6GRefused), exm_of tRefused sE6GRefused⟩
      · cases (show some false = some b from hs)
        exact ⟨kit_of tRefused sE7GRefused (fun z => absurd z nE7GRefused), exm_of tRefused sE7GRefused⟩
    · refine ⟨CE0, PySem.W.mg_of X G eE0.a, by decide +kernel, cls_of eE0.cl, fun cn b C hs hC => ?_⟩
      rcases cases_cl (show clP CE0 CE1 CE2 CE3 CE4 CE5 CE6 CE7 cn = some C from hC) with ⟨rfl, rfl⟩ | ⟨rfl, rfl⟩ | ⟨rfl, rfl⟩ | ⟨rfl, rfl⟩ | ⟨rfl, rfl⟩ | ⟨rfl, rfl⟩ | ⟨rfl, rfl⟩ | ⟨rfl, rfl⟩
      · cases (show some true = some b from hs)
        exact ⟨kit_of eE0.cl sE0E0 (fun _ => rfl), exm_of eE0.cl sE0E0⟩
      · cases (show some false = some b from hs)
        exact ⟨kit_of eE0.cl sE1E0 (fun z => absurd z nE0E1.symm), exm_of eE0.cl sE1E0⟩
      · cases (show some false = some b from hs)
        exact ⟨kit_of eE0.cl sE2E0 (fun z => absurd z nE0E2.symm), exm_of eE0.cl sE2E0⟩
      · cases (show some false = some b from hs)
        exact ⟨kit_of eE0.cl sE3E0 (fun z => absurd z nE0E3.symm), exm_of eE0.cl sE3E0⟩
      · cases (show some false = some b from hs)
        exact ⟨kit_of eE0.cl sE4E0 (fun z => absurd z nE0E4.symm), exm_of eE0.cl sE4E0⟩
      · cases (show some false = some b from hs)
        exact ⟨kit_of eE0.cl sE5E0 (fun z => absurd z nE0E5.symm), exm_of eE0.cl sE5E0⟩
      · cases (show some false = some b from hs)
        exact ⟨kit_of eE0.cl sE6E0 (fun z => absurd z nE0E6.symm), exm_of eE0.cl sE6E0⟩
      · cases (show some false = some b from hs)
        exact ⟨kit_of eE0.cl sE7E0 (fun z => absurd z nE0E7.symm), exm_of eE0.cl sE7E0⟩
    · refine ⟨CE1, PySem.W.mg_of X G eE1.a, by decide +kernel, cls_of eE1.cl, fun cn b C hs hC => ?_⟩
      rcases cases_cl (show clP CE0 CE1 CE2 CE3 CE4 CE5 CE6 CE7 cn = some C from hC) with ⟨rfl, rfl⟩ | ⟨rfl, rfl⟩ | ⟨rfl, rfl⟩ | ⟨rfl, rfl⟩ | ⟨rfl, rfl⟩ | ⟨rfl, rfl⟩ | ⟨rfl, rfl⟩ | ⟨rfl, rfl⟩
      · cases (show some false = some b from hs)
        exact ⟨kit_of eE1.cl sE0E1 (fun z => absurd z nE0E1), exm_of eE1.cl sE0E1⟩
      · cases (show some true = some b from hs)
        exact ⟨kit_of eE1.cl sE1E1 (fun _ => rfl), exm_of eE1.cl sE1E1⟩
      · cases (show some false = some b from hs)
        exact ⟨kit_of eE1.cl sE2E1 (fun z => absurd z nE1E2.symm), exm_of eE1.cl sE2E1⟩
      · cases (show some false = some b from hs)
        exact ⟨kit_of eE1.cl sE3E1 (fun z => absurd z nE1E3.symm), exm_of eE1.cl sE3E1⟩
      · cases (show some false = some b from hs)
        exact ⟨kit_of eE1.cl sE4E1 (fun z => absurd z nE1E4.symm), exm_of eE1.cl sE4E1⟩
      · cases (show some false = some b from hs)
        exact ⟨kit_of eE1.cl sE5E1 (fun z => absurd z nE1E5.symm), exm_of eE1.cl sE5E1⟩
      · cases (show some false = some b from hs)
        exact ⟨kit_of eE1.cl sE6E1 (fun z => absurd z nE1E6.symm), exm_of eE1.cl sE6E1⟩
      · cases (show some false = some b from hs)
        exact ⟨kit_of eE1.cl sE7E1 (fun z => absurd z nE1E7.symm), exm_of eE1.cl sE7E1⟩
    · refine ⟨CE2, PySem.W.mg_of X G eE2.a, by decide +kernel, cls_of eE2.cl, fun cn b C hs hC => ?_⟩
      rcases cases_cl (show clP CE0 CE1 CE2 CE3 CE4 CE5 CE6 CE7 cn = some C from hC) with ⟨rfl, rfl⟩ | ⟨rfl, rfl⟩ | ⟨rfl, rfl⟩ | ⟨rfl, rfl⟩ | ⟨rfl, rfl⟩ | ⟨rfl, rfl⟩ | ⟨rfl, rfl⟩ | ⟨rfl, rfl⟩
      · cases (show some false = some b from hs)
        exact ⟨kit_of eE2.cl sE0E2 (fun z => absurd z nE0E2), exm_of eE2.cl sE0E2⟩
      · cases (show some false = some b from hs)
        exact ⟨kit_of eE2.cl sE1E2 (fun z => absurd z nE1E2), exm_of eE2.cl sE1E2⟩
      · cases (show some true = some b from hs)
        exact ⟨kit_of eE2.cl sE2E2 (fun _ => rfl), exm_of eE2.cl sE2E2⟩
      · cases (show some false = some b from hs)
        exact ⟨kit_of eE2.cl sE3E2 (fun z => absurd z nE2E3.symm), exm_of eE2.cl sE3E2⟩
      · cases (show some false = some b from hs)
        exact ⟨kit_of eE2.cl sE4E2 (fun z => absurd z nE2E4.symm), exm_of eE2.cl sE4E2⟩
      · cases (show some false = some b from hs)
        exact ⟨kit_of eE2.cl sE5E2 (fun z => absurd z nE2E5.symm), exm_of eE2.cl sE5E2⟩
      · cases (show some false = some b from hs)
        exact ⟨kit_of eE2.cl sE6E2 (fun z => absurd z nE2E6.symm), exm_of eE2.cl sE6E2⟩
      · cases (show some false = some b from hs)
        exact ⟨kit_of eE2.cl sE7E2 (fun z => absurd z nE2E7.symm), exm_of eE2.cl sE7E2⟩
    · refine ⟨CE3, PySem.W.mg_of X G eE3.a, by decide +kernel, cls_of eE3.cl, fun cn b C hs hC => ?_⟩
      rcases cases_cl (show clP CE0 CE1 CE2 CE3 CE4 CE5 CE6 CE7 cn = some C from hC) with ⟨rfl, rfl⟩ | ⟨rfl, rfl⟩ | ⟨rfl, rfl⟩ | ⟨rfl, rfl⟩ | ⟨rfl, rfl⟩ | ⟨rfl, rfl⟩ | ⟨rfl, rfl⟩ | ⟨rfl, rfl⟩
      · cases (show some false = some b from hs)
        exact ⟨kit_of eE3.cl sE0E3 (fun z => absurd z nE0E3), exm_of eE3.cl sE0E3⟩
      · cases (show some false = some b from hs)
        exact ⟨kit_of eE3.cl sE1E3 (fun z => absurd z nE1E3), exm_of eE3.cl sE1E3⟩
      · cases (show some false = some b from hs)
        exact ⟨kit_of eE3.cl sE2E3 (fun z => absurd z nE2E3), exm_of eE3.cl sE2E3⟩
      · cases (show some true = some b from hs)
        exact ⟨kit_of eE3.cl sE3E3 (fun _ => rfl), exm_of eE3.cl sE3E3⟩
      · cases (show some false = some b from hs)
        exact ⟨kit_of eE3.cl sE4E3 (fun z => absurd z nE3E4.symm), exm_of eE3.cl sE4E3⟩
      · cases (show some false = some b from hs)
        exact ⟨kit_of eE3.cl sE5E3 (fun z => absurd z nE3E5.symm), exm_of eE3.cl sE5E3⟩
      · cases (show some false = some b from hs)
        exact ⟨kit_of eE3.cl sE6E3 (fun z => absurd z nE3E6.symm), exm_of eE3.cl sE6E3⟩
      · cases (show some false = some b from hs)
        exact ⟨kit_of eE3.cl sE7E3 (fun z => absurd z nE3E7.symm), exm_of eE3.cl sE7E3⟩
    · refine ⟨CE4, PySem.W.mg_of X G eE4.a, by decide +kernel, cls_of eE4.cl, fun cn b C hs hC => ?_⟩
      rcases cases_cl (show clP CE0 CE1 CE2 CE3 CE4 CE5 CE6 CE7 cn = some C from hC) with ⟨rfl, rfl⟩ | ⟨rfl, rfl⟩ | ⟨rfl, rfl⟩ | ⟨rfl, rfl⟩ | ⟨rfl, rfl⟩ | ⟨rfl, rfl⟩ | ⟨rfl, rfl⟩ | ⟨rfl, rfl⟩
      · cases (show some false = some b from hs)
        exact ⟨kit_of eE4.cl sE0E4 (fun z => absurd z nE0E4), exm_of eE4.cl sE0E4⟩
      · cases (show some false = some b from hs)
        exact ⟨kit_of eE4.cl sE1E4 (fun z => absurd z nE1E4), exm_of eE4.cl sE1E4⟩
      · cases (show some false = some b from hs)
        exact ⟨kit_of eE4.cl sE2E4 (fun z => absurd z nE2E4), exm_of eE4.cl sE2E4⟩
      · cases (show some false = some b from hs)
        exact ⟨kit_of eE4.cl sE3E4 (fun z => absurd z nE3E4), exm_of eE4.cl sE3E4⟩
      · cases (show some true = some b from hs)
        exact ⟨kit_of eE4.cl sE4E4 (fun _ => rfl), exm_of eE4.cl sE4E4⟩
      · cases (show some false = some b from hs)
        exact ⟨kit_of eE4.cl sE5E4 (fun z => absurd z nE4E5.symm), exm_of eE4.cl sE5E4⟩
      · cases (show some false = some b from hs)
        exact ⟨kit_of eE4.cl sE6E4 (fun z => absurd z nE4E6.symm), exm_of eE4.cl sE6E4⟩
      · cases (show some false = some b from hs)
        exact ⟨kit_of eE4.cl sE7E4 (fun z => absurd z nE4E7.symm), exm_of eE4.cl sE7E4⟩
    · refine ⟨CE5, PySem.W.mg_of X G eE5.a, by decide +kernel, cls_of eE5.cl, fun cn b C hs hC => ?_⟩
      rcases cases_cl (show clP CE0 CE1 CE2 CE3 CE4 CE5 CE6 CE7 cn = some C from hC) with ⟨rfl, rfl⟩ | ⟨rfl, rfl⟩ | ⟨rfl, rfl⟩ | ⟨rfl, rfl⟩ | ⟨rfl, rfl⟩ | ⟨rfl, rfl⟩ | ⟨rfl, rfl⟩ | ⟨rfl, rfl⟩
      · cases (show some false = some b from hs)
        exact ⟨kit_of eE5.cl sE0E5 (fun z => absurd z nE0E5), exm_of eE5.cl sE0E5⟩
      · cases (show some false = some b from hs)
        exact ⟨kit_of eE5.cl sE1E5 (fun z => absurd z nE1E5), exm_of eE5.cl sE1E5⟩
      · cases (show some false = some b from hs)
        exact ⟨kit_of eE5.cl sE2E5 (fun z => absurd z nE2E5), exm_of eE5.cl sE2E5⟩
      · cases (show some false = some b from hs)
        exact ⟨kit_of eE5.cl sE3E5 (fun z => absurd z nE3E5), exm_of eE5.cl sE3E5⟩
      · cases (show some false = some b from hs)
        exact ⟨kit_of eE5.cl sE4E5 (fun z => absurd z nE4E5), exm_of eE5.cl sE4E5⟩
      · cases (show some true = some b from hs)
        exact ⟨kit_of eE5.cl sE5E5 (fun _ => rfl), exm_of eE5.cl sE5E5⟩
      · cases (show some false = some b from hs)
        exact ⟨kit_of eE5.cl sE6E5 (fun z => absurd z nE5E6.symm), exm_of eE5.cl sE6E5⟩
      · cases (show some false = some b from hs)
        exact ⟨kit_of eE5.cl sE7E5 (fun z => absurd z nE5E7.symm), exm_of eE5.cl sE7E5⟩
    · refine ⟨CE6, PySem.W.mg_of X G eE6.a, by decide +kernel, cls_of eE6.cl, fun cn b C hs hC => ?_⟩
      rcases cases_cl (show clP CE0 CE1 CE2 CE3 CE4 CE5 CE6 CE7 cn = some C from hC) with ⟨rfl, rfl⟩ | ⟨rfl, rfl⟩ | ⟨rfl, rfl⟩ | ⟨rfl, rfl⟩ | ⟨rfl, rfl⟩ | ⟨rfl, rfl⟩ | ⟨rfl, rfl⟩ | ⟨rfl, rfl⟩
      · cases (show some false = some b from hs)
        exact ⟨kit_of eE6.cl sE0E6 (fun z => absurd z nE0E6), exm_of eE6.cl sE0E6⟩
      · cases (show some false = some b from hs)
        exact ⟨kit_of eE6.cl sE1E6 (fun z => absurd z nE1E6), exm_of eE6.cl sE1E6⟩
      · cases (show some false = some b from hs)
        exact ⟨kit_of eE6.cl sE2E6 (fun z => absurd z nE2E6), exm_of eE6.cl sE2E6⟩
      · cases (show some false = some b from hs)
        exact ⟨kit_of eE6.cl sE3E6 (fun z => absurd z nE3E6), exm_of eE6.cl sE3E6⟩
      · cases (show some false = some b from hs)
        exact ⟨kit_of eE6.cl sE4E6 (fun z => absurd z nE4E6), exm_of eE6.cl sE4E6⟩
      · cases (show some false = some b from hs)
        exact ⟨kit_of eE6.cl sE5E6 (fun z => absurd z nE5E6), exm_of eE6.cl sE5E6⟩
      · cases (show some true = some b from hs)
        exact ⟨kit_of eE6.cl sE6E6 (fun _ => rfl), exm_of eE6.cl sE6E6⟩
      · cases (show some false = some b from hs)
        exact ⟨kit_of eE6.cl sE7E6 (fun z => absurd z nE6E7.symm), exm_of eE6.cl sE7E6⟩
    · refine ⟨CE7, PySem.W.mg_of X G eE7.a, by decide +kernel, cls_of eE7.cl, fun cn b C hs hC => ?_⟩
      rcases cases_cl (show clP CE0 CE1 CE2 CE3 CE4 CE5 CE6 CE7 cn = some C from hC) with ⟨rfl, rfl⟩ | ⟨rfl, rfl⟩ | ⟨rfl, rfl⟩ | ⟨rfl, rfl⟩ | ⟨rfl, rfl⟩ | ⟨rfl, rfl⟩ | ⟨rfl, rfl⟩ | ⟨rfl, rfl⟩
      · cases (show some false = some b from hs)
        exact ⟨kit_of eE7.cl sE0E7 (fun z => absurd z nE0E7), exm_of eE7.cl sE0E7⟩
      · cases (show some false = some b from hs)
        exact ⟨kit_of eE7.cl sE1E7 (fun z => absurd z nE1E7), exm_of eE7.cl sE1E7⟩
      · cases (show some false = some b from hs)
        exact ⟨kit_of eE7.cl sE2E7 (fun z => absurd z nE2E7), exm_of eE7.cl sE2E7⟩
      · cases (show some false = some b from hs)
        exact ⟨kit_of eE7.cl sE3E7 (fun z => absurd z nE3E7), exm_of eE7.cl sE3E7⟩
      · cases (show some false = some b from hs)
        exact ⟨kit_of eE7.cl sE4E7 (fun z => absurd z nE4E7), exm_of eE7.cl sE4E7⟩
      · cases (show some false = some b from hs)
        exact ⟨kit_of eE7.cl sE5E7 (fun z => absurd z nE5E7), exm_of eE7.cl sE5E7⟩
      · cases (show some false = some b from hs)
        exact ⟨kit_of eE7.cl sE6E7 (fun z => absurd z nE6E7), exm_of eE7.cl sE6E7⟩
      · cases (show some true = some b from hs)
        exact ⟨kit_of eE7.cl sE7E7 (fun _ => rfl), exm_of eE7.cl sE7E7⟩
theorem all_mk {l : PySem.W.OpenLaw} {fa : Addr} {f2 f3 f4 f5 f6 f7 f29 f30 f31 f32 f33 f28 f38 f37 f39 f36 f41 f43 f42 f49 f50 f45 f46 f47 f52 f53 f54 f55 f56 f48 f57 co36 co57 tb36 tb57 CGGridError CGRefused CE0 CE1 CE2 CE3 CE4 CE5 CE6 CE7 fE0 fE1 fE2 fE3 fE4 fE5 fE6 fE7  : Addr} {c2 c3 c4 c5 c6 c7 c29 c30 c31 c32 c33 c28 c38 c37 c39 c41 c43 c42 c49 c50 c45 c46 c47 c52 c53 c54 c55 c56 c48 : Value} {uSIGNS uMOST_ROW uMOST_FORMAT uMOST_FONT_NAME uMOST_FONT_SIZE uMOST_COLOR uMOST_BORDER uMOST_SIZE : Tok} (X : K.In h) (G : h.Ns mainGlobals mg) (hfa : mg "law" = some (.ref fa))
    (d2 : DefA K "is_integer" (top 2) f2 c2)
    (d3 : DefA K "is_made_of" (top 3) f3 c3)
    (d4 : DefA K "is_text" (top 4) f4 c4)
    (d5 : DefA K "is_one_of" (top 5) f5 c5)
    (d6 : DefA K "is_row" (top 6) f6 c6)
    (d7 : DefA K "is_tuple_of" (top 7) f7 c7)
    (d29 : DefA K "_is_format" (top 29) f29 c29)
    (d30 : DefA K "_is_font" (top 30) f30 c30)
    (d31 : DefA K "_is_fill" (top 31) f31 c31)
    (d32 : DefA K "_is_border" (top 32) f32 c32)
    (d33 : DefA K "_is_align" (top 33) f33 c33)
    (d28 : DefA K "is_style" (top 28) f28 c28)
    (d38 : DefA K "is_size" (top 38) f38 c38)
    (d37 : DefA K "is_setting" (top 37) f37 c37)
    (d39 : DefA K "_wrong_item" (top 39) f39 c39)
    (d36 : DefA K "wrong_setting" (top 36) f36 (.ref co36))
    (d41 : DefA K "setting_runs" (top 41) f41 c41)
    (d43 : DefA K "_is_run" (top 43) f43 c43)
    (d42 : DefA K "settings_of" (top 42) f42 c42)
    (d49 : DefA K "_law_places" (top 49) f49 c49)
    (d50 : DefA K "_law_givens" (top 50) f50 c50)
    (d45 : DefA K "_law_mixed" (top 45) f45 c45)
    (d46 : DefA K "_law_draw" (top 46) f46 c46)
    (d47 : DefA K "_law_digit" (top 47) f47 c47)
    (d52 : DefA K "_law_plain" (top 52) f52 c52)
    (d53 : DefA K "_law_settings" (top 53) f53 c53)
    (d54 : DefA K "_law_own_runs" (top 54) f54 c54)
    (d55 : DefA K "_law_is_divided_right" (top 55) f55 c55)
    (d56 : DefA K "_law_wrong_setting" (top 56) f56 c56)
    (d48 : DefA K "_law_told" (top 48) f48 c48)
    (d57 : DefA K "law" (top 57) f57 (.ref co57))
    (t36 : TabF K co36 tb36) (t57 : TabF K co57 tb57) (tn36_57 : tb36 ≠ tb57)
    (aGridError : PySem.W.nsIn K mainGlobals "GridError" = some (some (.ref CGGridError))) (tGridError : ClsF K CGGridError) (aRefused : PySem.W.nsIn K mainGlobals "Refused" = some (some (.ref CGRefused))) (tRefused : ClsF K CGRefused) (eE0 : ErF K "BadWord" "given" "BadWord.__init__" (initOf (top 10)) CE0 fE0) (eE1 : ErF K "BadBook" "given" "BadBook.__init__" (initOf (top 11)) CE1 fE1) (eE2 : ErF K "BadNumber" "given" "BadNumber.__init__" (initOf (top 12)) CE2 fE2) (eE3 : ErF K "BadMap" "given" "BadMap.__init__" (initOf (top 13)) CE3 fE3) (eE4 : ErF K "BadCells" "at" "BadCells.__init__" (initOf (top 14)) CE4 fE4) (eE5 : ErF K "BadColumns" "at" "BadColumns.__init__" (initOf (top 15)) CE5 fE5) (eE6 : ErF K "BadTable" "at" "BadTable.__init__" (initOf (top 16)) CE6 fE6) (eE7 : ErF K "BadPaper" "at" "BadPaper.__init__" (initOf (top 17)) CE7 fE7)
    (sE0GGridError : PySem.W.subIn K (.ref CE0) (.ref CGGridError) = some true) (sE0GRefused : PySem.W.subIn K (.ref CE0) (.ref CGRefused) = some false) (sE0E0 : PySem.W.subIn K (.ref CE0) (.ref CE0) = some true) (sE0E1 : PySem.W.subIn K (.ref CE0) (.ref CE1) = some false) (sE0E2 : PySem.W.subIn K (.ref CE0) (.ref CE2) = some false) (sE0E3 : PySem.W.subIn K (.ref CE0) (.ref CE3) = some false) (sE0E4 : PySem.W.subIn K (.ref CE0) (.ref CE4) = some false) (sE0E5 : PySem.W.subIn K (.ref CE0) (.ref CE5) = some false) (sE0E6 : PySem.W.subIn K (.ref CE0) (.ref CE6) = some false) (sE0E7 : PySem.W.subIn K (.ref CE0) (.ref CE7) = some false) (sE1GGridError : PySem.W.subIn K (.ref CE1) (.ref CGGridError) = some true) (sE1GRefused : PySem.W.subIn K (.ref CE1) (.ref CGRefused) = some false) (sE1E0 : PySem.W.subIn K (.ref CE1) (.ref CE0) = some false) (sE1E1 : PySem.W.subIn K (.ref CE1) (.ref CE1) = some true) (sE1E2 : PySem.W.subIn K (.ref CE1) (.ref CE2) = some false) (sE1E3 : PySem.W.subIn K (.ref CE1) (.ref CE3) = some false) (sE1E4 : PySem.W.subIn K (.ref CE1) (.ref CE4) = some false) (sE1E5 : PySem.W.subIn K (.ref CE1) (.ref CE5) = some false) (sE1E6 : PySem.W.subIn K (.ref CE1) (.ref CE6) = some false) (sE1E7 : PySem.W.subIn K (.ref CE1) (.ref CE7) = some false) (sE2GGridError : PySem.W.subIn K (.ref CE2) (.ref CGGridError) = some true) (sE2GRefused : PySem.W.subIn K (.ref CE2) (.ref CGRefused) = some false) (sE2E0 : PySem.W.subIn K (.ref CE2) (.ref CE0) = some false) (sE2E1 : PySem.W.subIn K (.ref CE2) (.ref CE1) = some false) (sE2E2 : PySem.W.subIn K (.ref CE2) (.ref CE2) = some true) (sE2E3 : PySem.W.subIn K (.ref CE2) (.ref CE3) = some false) (sE2E4 : PySem.W.subIn K (.ref CE2) (.ref CE4) = some false) (sE2E5 : PySem.W.subIn K (.ref CE2) (.ref CE5) = some false) (sE2E6 : PySem.W.subIn K (.ref CE2) (.ref CE6) = some false) (sE2E7 : PySem.W.subIn K (.ref CE2) (.ref CE7) = some false) (sE3GGridError : PySem.W.subIn K (.ref CE3) (.ref CGGridError) = some true) (sE3GRefused : PySem.W.subIn K (.ref CE3) (.ref CGRefused) = some false) (sE3E0 : PySem.W.subIn K (.ref CE3) (.ref CE0) = some false) (sE3E1 : PySem.W.subIn K (.ref CE3) (.ref CE1) = some false) (sE3E2 : PySem.W.subIn K (.ref CE3) (.ref CE2) = some false) (sE3E3 : PySem.W.subIn K (.ref CE3) (.ref CE3) = some true) (sE3E4 : PySem.W.subIn K (.ref CE3) (.ref CE4) = some false) (sE3E5 : PySem.W.subIn K (.ref CE3) (.ref CE5) = some false) (sE3E6 : PySem.W.subIn K (.ref CE3) (.ref CE6) = some false) (sE3E7 : PySem.W.subIn K (.ref CE3) (.ref CE7) = some false) (sE4GGridError : PySem.W.subIn K (.ref CE4) (.ref CGGridError) = some true) (sE4GRefused : PySem.W.subIn K (.ref CE4) (.ref CGRefused) = some false) (sE4E0 : PySem.W.subIn K (.ref CE4) (.ref CE0) = some false) (sE4E1 : PySem.W.subIn K (.ref CE4) (.ref CE1) = some false) (sE4E2 : PySem.W.subIn K (.ref CE4) (.ref CE2) = some false) (sE4E3 : PySem.W.subIn K (.ref CE4) (.ref CE3) = some false) (sE4E4 : PySem.W.subIn K (.ref CE4) (.ref CE4) = some true) (sE4E5 : PySem.W.subIn K (.ref CE4) (.ref CE5) = some false) (sE4E6 : PySem.W.subIn K (.ref CE4) (.ref CE6) = some false) (sE4E7 : PySem.W.subIn K (.ref CE4) (.ref CE7) = some false) (sE5GGridError : PySem.W.subIn K (.ref CE5) (.ref CGGridError) = some true) (sE5GRefused : PySem.W.subIn K (.ref CE5) (.ref CGRefused) = some false) (sE5E0 : PySem.W.subIn K (.ref CE5) (.ref CE0) = some false) (sE5E1 : PySem.W.subIn K (.ref CE5) (.ref CE1) = some false) (sE5E2 : PySem.W.subIn K (.ref CE5) (.ref CE2) = some false) (sE5E3 : PySem.W.subIn K (.ref CE5) (.ref CE3) = some false) (sE5E4 : PySem.W.subIn K (.ref CE5) (.ref CE4) = some false) (sE5E5 : PySem.W.subIn K (.ref CE5) (.ref CE5) = some true) (sE5E6 : PySem.W.subIn K (.ref CE5) (.ref CE6) = some false) (sE5E7 : PySem.W.subIn K (.ref CE5) (.ref CE7) = some false) (sE6GGridError : PySem.W.subIn K (.ref CE6) (.ref CGGridError) = some true) (sE6GRefused : PySem.W.subIn K (.ref CE6) (.ref CGRefused) = some false) (sE6E0 : PySem.W.subIn K (.ref CE6) (.ref CE0) = some false) (sE6E1 : PySem.W.subIn K (.ref CE6) (.ref CE1) = some false) (sE6E2 : PySem.W.subIn K (.ref CE6) (.ref CE2) = some false) (sE6E3 : PySem.W.subIn K (.ref CE6) (.ref CE3) = some false) (sE6E4 : PySem.W.subIn K (.ref CE6) (.ref CE4) = some false) (sE6E5 : PySem.W.subIn K (.ref CE6) (.ref CE5) = some false) (sE6E6 : PySem.W.subIn K (.ref CE6) (.ref CE6) = some true) (sE6E7 : PySem.W.subIn K (.ref CE6) (.ref CE7) = some false) (sE7GGridError : PySem.W.subIn K (.ref CE7) (.ref CGGridError) = some true) (sE7GRefused : PySem.W.subIn K (.ref CE7) (.ref CGRefused) = some false) (sE7E0 : PySem.W.subIn K (.ref CE7) (.ref CE0) = some false) (sE7E1 : PySem.W.subIn K (.ref CE7) (.ref CE1) = some false) (sE7E2 : PySem.W.subIn K (.ref CE7) (.ref CE2) = some false) (sE7E3 : PySem.W.subIn K (.ref CE7) (.ref CE3) = some false) (sE7E4 : PySem.W.subIn K (.ref CE7) (.ref CE4) = some false) (sE7E5 : PySem.W.subIn K (.ref CE7) (.ref CE5) = some false) (sE7E6 : PySem.W.subIn K (.ref CE7) (.ref CE6) = some false) (sE7E7 : PySem.W.subIn K (.ref CE7) (.ref CE7) = some true)
    (nE0GRefused : CE0 ≠ CGRefused) (nE0E1 : CE0 ≠ CE1) (nE0E2 : CE0 ≠ CE2) (nE0E3 : CE0 ≠ CE3) (nE0E4 : CE0 ≠ CE4) (nE0E5 : CE0 ≠ CE5) (nE0E6 : CE0 ≠ CE6) (nE0E7 : CE0 ≠ CE7) (nE1GRefused : CE1 ≠ CGRefused) (nE1E2 : CE1 ≠ CE2) (nE1E3 : CE1 ≠ CE3) (nE1E4 : CE1 ≠ CE4) (nE1E5 : CE1 ≠ CE5) (nE1E6 : CE1 ≠ CE6) (nE1E7 : CE1 ≠ CE7) (nE2GRefused : CE2 ≠ CGRefused) (nE2E3 : CE2 ≠ CE3) (nE2E4 : CE2 ≠ CE4) (nE2E5 : CE2 ≠ CE5) (nE2E6 : CE2 ≠ CE6) (nE2E7 : CE2 ≠ CE7) (nE3GRefused : CE3 ≠ CGRefused) (nE3E4 : CE3 ≠ CE4) (nE3E5 : CE3 ≠ CE5) (nE3E6 : CE3 ≠ CE6) (nE3E7 : CE3 ≠ CE7) (nE4GRefused : CE4 ≠ CGRefused) (nE4E5 : CE4 ≠ CE5) (nE4E6 : CE4 ≠ CE6) (nE4E7 : CE4 ≠ CE7) (nE5GRefused : CE5 ≠ CGRefused) (nE5E6 : CE5 ≠ CE6) (nE5E7 : CE5 ≠ CE7) (nE6GRefused : CE6 ≠ CGRefused) (nE6E7 : CE6 ≠ CE7) (nE7GRefused : CE7 ≠ CGRefused)
    (kSIGNS : PySem.W.nsIn K mainGlobals "SIGNS" = some (some (.str " !\"#$&'()*+,-./0123456789:;<=>?@ABCDEFGHIJKLMNOPQRSTUVWXYZ[\\]^_`abcdefghijklmnopqrstuvwxyz{|}~" uSIGNS)))
    (kMOST_ROW : PySem.W.nsIn K mainGlobals "MOST_ROW" = some (some (.int 9999 uMOST_ROW)))
    (kPLAIN : LitF K "PLAIN" (.tuple [.str "", .tuple [.str "Plain", .int 10, .bool false, .bool false], .none, .tuple [.int 0, .int 0, .int 0, .int 0], .tuple [.str "general", .bool false]]))
    (kMOST_FORMAT : PySem.W.nsIn K mainGlobals "MOST_FORMAT" = some (some (.int 40 uMOST_FORMAT)))
    (kMOST_FONT_NAME : PySem.W.nsIn K mainGlobals "MOST_FONT_NAME" = some (some (.int 31 uMOST_FONT_NAME)))
    (kMOST_FONT_SIZE : PySem.W.nsIn K mainGlobals "MOST_FONT_SIZE" = some (some (.int 400 uMOST_FONT_SIZE)))
    (kMOST_COLOR : PySem.W.nsIn K mainGlobals "MOST_COLOR" = some (some (.int 16777215 uMOST_COLOR)))
    (kMOST_BORDER : PySem.W.nsIn K mainGlobals "MOST_BORDER" = some (some (.int 3 uMOST_BORDER)))
    (kALIGN_WORDS : LitF K "ALIGN_WORDS" (.tuple [.str "general", .str "left", .str "center", .str "right"]))
    (kMOST_SIZE : PySem.W.nsIn K mainGlobals "MOST_SIZE" = some (some (.int 1000 uMOST_SIZE)))
    (bl : ∀ x ∈ bltNames, PySem.W.nsIn K mainGlobals x = some none)
    (hT : ∀ P ∈ [tb36, tb57], h.get? P = some { cls := .none, data := .fields #[] }) : LawG l w K 60 63 "script" mg fa h := by
  have eF : mg "law" = some (.ref f57) := PySem.W.mg_of X G d57.a
  rw [hfa] at eF
  cases eF
  have sI10 : FnScope ["self", "given"] ["self", "given"] (defScope (initOf (top 10))) := ⟨rfl, rfl, rfl, by decide +kernel, rfl, by decide +kernel, by decide +kernel⟩
  have sI11 : FnScope ["self", "given"] ["self", "given"] (defScope (initOf (top 11))) := ⟨rfl, rfl, rfl, by decide +kernel, rfl, by decide +kernel, by decide +kernel⟩
  have sI12 : FnScope ["self", "given"] ["self", "given"] (defScope (initOf (top 12))) := ⟨rfl, rfl, rfl, by decide +kernel, rfl, by decide +kernel, by decide +kernel⟩
  have sI13 : FnScope ["self", "given"] ["self", "given"] (defScope (initOf (top 13))) := ⟨rfl, rfl, rfl, by decide +kernel, rfl, by decide +kernel, by decide +kernel⟩
  have sI14 : FnScope ["self", "at"] ["self", "at"] (defScope (initOf (top 14))) := ⟨rfl, rfl, rfl, by decide +kernel, rfl, by decide +kernel, by decide +kernel⟩
  have sI15 : FnScope ["self", "at"] ["self", "at"] (defScope (initOf (top 15))) := ⟨rfl, rfl, rfl, by decide +kernel, rfl, by decide +kernel, by decide +kernel⟩
  have sI16 : FnScope ["self", "at"] ["self", "at"] (defScope (initOf (top 16))) := ⟨rfl, rfl, rfl, by decide +kernel, rfl, by decide +kernel, by decide +kernel⟩
  have sI17 : FnScope ["self", "at"] ["self", "at"] (defScope (initOf (top 17))) := ⟨rfl, rfl, rfl, by decide +kernel, rfl, by decide +kernel, by decide +kernel⟩
  have ec : Ecl (PP K CE0 CE1 CE2 CE3 CE4 CE5 CE6 CE7 tb36 tb57).kc subE eclE mg := (ecl1 X G aGridError tGridError aRefused tRefused eE0 eE1 eE2 eE3 eE4 eE5 eE6 eE7 sE0GGridError sE0GRefused sE0E0 sE0E1 sE0E2 sE0E3 sE0E4 sE0E5 sE0E6 sE0E7 sE1GGridError sE1GRefused sE1E0 sE1E1 sE1E2 sE1E3 sE1E4 sE1E5 sE1E6 sE1E7 sE2GGridError sE2GRefused sE2E0 sE2E1 sE2E2 sE2E3 sE2E4 sE2E5 sE2E6 sE2E7 sE3GGridError sE3GRefused sE3E0 sE3E1 sE3E2 sE3E3 sE3E4 sE3E5 sE3E6 sE3E7 sE4GGridError sE4GRefused sE4E0 sE4E1 sE4E2 sE4E3 sE4E4 sE4E5 sE4E6 sE4E7 sE5GGridError sE5GRefused sE5E0 sE5E1 sE5E2 sE5E3 sE5E4 sE5E5 sE5E6 sE5E7 sE6GGridError sE6GRefused sE6E0 sE6E1 sE6E2 sE6E3 sE6E4 sE6E5 sE6E6 sE6E7 sE7GGridError sE7GRefused sE7E0 sE7E1 sE7E2 sE7E3 sE7E4 sE7E5 sE7E6 sE7E7 nE0GRefused nE0E1 nE0E2 nE0E3 nE0E4 nE0E5 nE0E6 nE0E7 nE1GRefused nE1E2 nE1E3 nE1E4 nE1E5 nE1E6 nE1E7 nE2GRefused nE2E3 nE2E4 nE2E5 nE2E6 nE2E7 nE3GRefused nE3E4 nE3E5 nE3E6 nE3E7 nE4GRefused nE4E5 nE4E6 nE4E7 nE5GRefused nE5E6 nE5E7 nE6GRefused nE6E7 nE7GRefused)
  have pg0 : ∀ base : Heap, Pg (PP K CE0 CE1 CE2 CE3 CE4 CE5 CE6 CE7 tb36 tb57) l.prog w mg base 2 F0 con1 errs1 := fun base => {
    nf := rfl
    con := fun x d hx => by
      have hx' := lookup_mem hx
      simp only [con1, List.mem_cons, List.not_mem_nil, or_false, Prod.mk.injEq] at hx'
      rcases hx' with ⟨rfl, rfl⟩ | ⟨rfl, rfl⟩ | ⟨rfl, rfl⟩ | ⟨rfl, rfl⟩ | ⟨rfl, rfl⟩ | ⟨rfl, rfl⟩ | ⟨rfl, rfl⟩ | ⟨rfl, rfl⟩ | ⟨rfl, rfl⟩ | ⟨rfl, rfl⟩
      · exact .inl ⟨.str _, _, PySem.W.mg_of X G kSIGNS, ⟨_, rfl⟩, fun H => .str _⟩
      · exact .inl ⟨.int _, _, PySem.W.mg_of X G kMOST_ROW, ⟨_, rfl⟩, fun H => .int _⟩
      · exact .inl (kPLAIN.con (Z := (PP K CE0 CE1 CE2 CE3 CE4 CE5 CE6 CE7 tb36 tb57).kc) rfl X G)
      · exact .inl ⟨.int _, _, PySem.W.mg_of X G kMOST_FORMAT, ⟨_, rfl⟩, fun H => .int _⟩
      · exact .inl ⟨.int _, _, PySem.W.mg_of X G kMOST_FONT_NAME, ⟨_, rfl⟩, fun H => .int _⟩
      · exact .inl ⟨.int _, _, PySem.W.mg_of X G kMOST_FONT_SIZE, ⟨_, rfl⟩, fun H => .int _⟩
      · exact .inl ⟨.int _, _, PySem.W.mg_of X G kMOST_COLOR, ⟨_, rfl⟩, fun H => .int _⟩
      · exact .inl ⟨.int _, _, PySem.W.mg_of X G kMOST_BORDER, ⟨_, rfl⟩, fun H => .int _⟩
      · exact .inl (kALIGN_WORDS.con (Z := (PP K CE0 CE1 CE2 CE3 CE4 CE5 CE6 CE7 tb36 tb57).kc) rfl X G)
      · exact .inl ⟨.int _, _, PySem.W.mg_of X G kMOST_SIZE, ⟨_, rfl⟩, fun H => .int _⟩
    fns := fun x i hi => nomatch hi
    blt := fun x hx => PySem.W.mg_none_of X G (bl x hx)
    errs := fun c fs hc => by
      have hc' := lookup_mem hc
      simp only [errs1, List.mem_cons, List.not_mem_nil, or_false, Prod.mk.injEq] at hc'
      rcases hc' with ⟨rfl, rfl⟩ | ⟨rfl, rfl⟩ | ⟨rfl, rfl⟩ | ⟨rfl, rfl⟩ | ⟨rfl, rfl⟩ | ⟨rfl, rfl⟩ | ⟨rfl, rfl⟩ | ⟨rfl, rfl⟩
      · exact ⟨"given", CE0, rfl, rfl, eE0.er X G (by decide) rfl sI10 (.inl rfl) (.inl rfl) (by decide +kernel) (by decide +kernel) (fun kV doc pm an cdv ct us hl => match us, hl with | [_, _], _ => rfl) (by decide +kernel)⟩
      · exact ⟨"given", CE1, rfl, rfl, eE1.er X G (by decide) rfl sI11 (.inl rfl) (.inl rfl) (by decide +kernel) (by decide +kernel) (fun kV doc pm an cdv ct us hl => match us, hl with | [_, _], _ => rfl) (by decide +kernel)⟩
      · exact ⟨"given", CE2, rfl, rfl, eE2.er X G (by decide) rfl sI12 (.inl rfl) (.inl rfl) (by decide +kernel) (by decide +kernel) (fun kV doc pm an cdv ct us hl => match us, hl with | [_, _], _ => rfl) (by decide +kernel)⟩
      · exact ⟨"given", CE3, rfl, rfl, eE3.er X G (by decide) rfl sI13 (.inl rfl) (.inl rfl) (by decide +kernel) (by decide +kernel) (fun kV doc pm an cdv ct us hl => match us, hl with | [_, _], _ => rfl) (by decide +kernel)⟩
      · exact ⟨"at", CE4, rfl, rfl, eE4.er X G (by decide) rfl sI14 (.inl rfl) (.inl rfl) (by decide +kernel) (by decide +kernel) (fun kV doc pm an cdv ct us hl => match us, hl with | [_, _], _ => rfl) (by decide +kernel)⟩
      · exact ⟨"at", CE5, rfl, rfl, eE5.er X G (by decide) rfl sI15 (.inl rfl) (.inl rfl) (by decide +kernel) (by decide +kernel) (fun kV doc pm an cdv ct us hl => match us, hl with | [_, _], _ => rfl) (by decide +kernel)⟩
      · exact ⟨"at", CE6, rfl, rfl, eE6.er X G (by decide) rfl sI16 (.inl rfl) (.inl rfl) (by decide +kernel) (by decide +kernel) (fun kV doc pm an cdv ct us hl => match us, hl with | [_, _], _ => rfl) (by decide +kernel)⟩
      · exact ⟨"at", CE7, rfl, rfl, eE7.er X G (by decide) rfl sI17 (.inl rfl) (.inl rfl) (by decide +kernel) (by decide +kernel) (fun kV doc pm an cdv ct us hl => match us, hl with | [_, _], _ => rfl) (by decide +kernel)⟩ }
  have la36 : ∀ base : Heap, LamX.TabB base mg co36 tb36 → LamAt (PP K CE0 CE1 CE2 CE3 CE4 CE5 CE6 CE7 tb36 tb57) mg base "wrong_setting" (.ref co36) := fun base T => ⟨co36, tb36, rfl, T, by simp [PP], fun q hq e => by
    have hq' : q = (tb36, hl36) ∨ q = (tb57, hl57) := by simpa [PP] using hq
    rcases hq' with rfl | rfl
    · rfl
    · exact absurd e.symm tn36_57⟩
  have la57 : ∀ base : Heap, LamX.TabB base mg co57 tb57 → LamAt (PP K CE0 CE1 CE2 CE3 CE4 CE5 CE6 CE7 tb36 tb57) mg base "law" (.ref co57) := fun base T => ⟨co57, tb57, rfl, T, by simp [PP], fun q hq e => by
    have hq' : q = (tb36, hl36) ∨ q = (tb57, hl57) := by simpa [PP] using hq
    rcases hq' with rfl | rfl
    · exact absurd e tn36_57
    · rfl⟩
  have pgA : ∀ base : Heap, LamX.TabB base mg co36 tb36 → Pg (PP K CE0 CE1 CE2 CE3 CE4 CE5 CE6 CE7 tb36 tb57) l.prog w mg base 22 F42 con1 errs1 := fun base T36 => by
    have p0 := pg0 base
    have p2 : Pg _ l.prog w mg base 3 F2 con1 errs1 := p0.cons (pls := []) nd1 (by decide) X G d2 sc2 bp2 cl2.2 (nN := (NN 2).length) (np := 3) rfl rfl
    have p3 : Pg _ l.prog w mg base 4 F3 con1 errs1 := p2.cons (pls := []) nd1 (by decide) X G d3 sc3 bp3 cl3.2 (nN := (NN 3).length) (np := 2) rfl rfl
    have p4 : Pg _ l.prog w mg base 5 F4 con1 errs1 := p3.cons (pls := []) nd1 (by decide) X G d4 sc4 bp4 cl4.2 (nN := (NN 4).length) (np := 4) rfl rfl
    have p5 : Pg _ l.prog w mg base 6 F5 con1 errs1 := p4.cons (pls := []) nd1 (by decide) X G d5 sc5 bp5 cl5.2 (nN := (NN 5).length) (np := 2) rfl rfl
    have p6 : Pg _ l.prog w mg base 7 F6 con1 errs1 := p5.cons (pls := []) nd1 (by decide) X G d6 sc6 bp6 cl6.2 (nN := (NN 6).length) (np := 1) rfl rfl
    have p7 : Pg _ l.prog w mg base 8 F7 con1 errs1 := p6.cons (pls := []) nd1 (by decide) X G d7 sc7 bp7 cl7.2 (nN := (NN 7).length) (np := 2) rfl rfl
    have p29 : Pg _ l.prog w mg base 9 F29 con1 errs1 := p7.cons (pls := []) nd1 (by decide) X G d29 sc29 bp29 cl29.2 (nN := (NN 29).length) (np := 1) rfl rfl
    have p30 : Pg _ l.prog w mg base 10 F30 con1 errs1 := p29.cons (pls := []) nd1 (by decide) X G d30 sc30 bp30 cl30.2 (nN := (NN 30).length) (np := 1) rfl rfl
    have p31 : Pg _ l.prog w mg base 11 F31 con1 errs1 := p30.cons (pls := []) nd1 (by decide) X G d31 sc31 bp31 cl31.2 (nN := (NN 31).length) (np := 1) rfl rfl
    have p32 : Pg _ l.prog w mg base 12 F32 con1 errs1 := p31.cons (pls := []) nd1 (by decide) X G d32 sc32 bp32 cl32.2 (nN := (NN 32).length) (np := 1) rfl rfl
    have p33 : Pg _ l.prog w mg base 13 F33 con1 errs1 := p32.cons (pls := []) nd1 (by decide) X G d33 sc33 bp33 cl33.2 (nN := (NN 33).length) (np := 1) rfl rfl
    have p28 : Pg _ l.prog w mg base 14 F28 con1 errs1 := p33.cons (pls := []) nd1 (by decide) X G d28 sc28 bp28 cl28.2 (nN := (NN 28).length) (np := 1) rfl rfl
    have p38 : Pg _ l.prog w mg base 15 F38 con1 errs1 := p28.cons (pls := []) nd1 (by decide) X G d38 sc38 bp38 cl38.2 (nN := (NN 38).length) (np := 1) rfl rfl
    have p37 : Pg _ l.prog w mg base 16 F37 con1 errs1 := p38.cons (pls := []) nd1 (by decide) X G d37 sc37 bp37 cl37.2 (nN := (NN 37).length) (np := 2) rfl rfl
    have tks : ∀ x tf, ([("_wrong_item", tk39)] : List (Str × (FnD → PyData → PyData → T PyData))).lookup x = some tf → TakI (PP K CE0 CE1 CE2 CE3 CE4 CE5 CE6 CE7 tb36 tb57) l.prog w mg base 16 con1 x tf := fun x tf hx => by
      have hx' := lookup_mem hx
      simp only [List.mem_cons, List.not_mem_nil, or_false, Prod.mk.injEq] at hx'
      obtain ⟨rfl, rfl⟩ := hx'
      obtain ⟨oc, od, an, kV, doc, pm, ct, osl, lk⟩ := d39.l
      exact ⟨_, _, _, f39, 60, defArgs (top 39), defBody (top 39), defScope (top 39), .none, kV, doc, pm, c39, ct, oc, an, od, osl, NN 39, tfs39, rfl, PySem.W.mg_of X G d39.a, d39.k, lk, d39.c,
        (fun_mk lk d39.c d39.k).binds bp39, sc39, rfl, by decide +kernel, .inl rfl, by decide +kernel, by decide +kernel, fun y i hy => by
          have hy' := lookup_mem hy
          simp only [tfs39, List.mem_cons, List.not_mem_nil, or_false, Prod.mk.injEq] at hy'
          obtain ⟨rfl, rfl⟩ := hy'
          · exact p37.fns "is_row" _ rfl⟩
    have p36 : Pg _ l.prog w mg base 19 F36 con1 errs1 := p37.consK nd1 (by decide) (fun x tf hx => by
      have t := tks x tf hx
      exact t.mono (by decide)) X G d36 sc36 bp36 (la36 base T36) cl36.2 (nN := (NN 36).length) (np := 2) rfl rfl
    have p41 : Pg _ l.prog w mg base 20 F41 con1 errs1 := p36.cons (pls := ["runs"]) nd1 (by decide) X G d41 sc41 bp41 cl41.2 (nN := (NN 41).length + (plOf (NN 41) ["runs"]).length) (np := 1) rfl rfl
    have p43 : Pg _ l.prog w mg base 21 F43 con1 errs1 := p41.cons (pls := []) nd1 (by decide) X G d43 sc43 bp43 cl43.2 (nN := (NN 43).length) (np := 1) rfl rfl
    have p42 : Pg _ l.prog w mg base 22 F42 con1 errs1 := p43.cons (pls := ["settings"]) nd1 (by decide) X G d42 sc42 bp42 cl42.2 (nN := (NN 42).length + (plOf (NN 42) ["settings"]).length) (np := 1) rfl rfl
    exact p42
  have lamI : ∀ base : Heap, ∀ x tf, lam1.lookup x = some tf → LamI (PP K CE0 CE1 CE2 CE3 CE4 CE5 CE6 CE7 tb36 tb57) l.prog w mg base 22 con1 x tf := fun base x tf hx => by
    have hx' := lookup_mem hx
    simp only [lam1, List.mem_cons, List.not_mem_nil, or_false, Prod.mk.injEq] at hx'
    obtain ⟨rfl, rfl⟩ := hx'
    have p0 := pg0 base
    have p49 : Pg _ l.prog w mg base 3 [("_law_places", ⟨1, m49⟩)] con1 errs1 := p0.consT nd1 (by decide) ec X G d49 sc49 bp49 cl49.2 (nN := (NN 49).length) (np := 1) rfl rfl
    have p50 : Pg _ l.prog w mg base 3 [("_law_givens", ⟨1, m50⟩)] con1 errs1 := p0.consT nd1 (by decide) ec X G d50 sc50 bp50 cl50.2 (nN := (NN 50).length) (np := 1) rfl rfl
    obtain ⟨oc, od, an, kV, doc, pm, ct, osl, lk⟩ := d48.l
    exact ⟨"ask", f48, 60, defArgs (top 48), defBody (top 48), defScope (top 48), .none, kV, doc, pm, c48, ct, oc, an, od, osl, NN 48, subE, eclE, tfsT, rfl, ec, PySem.W.mg_of X G d48.a, d48.k, lk, d48.c,
      (fun_mk lk d48.c d48.k).binds bp48, sc48, rfl, .inl rfl, by decide +kernel, by decide +kernel, fun y i hy => by
        have hy' := lookup_mem hy
        simp only [tfsT, List.mem_cons, List.not_mem_nil, or_false, Prod.mk.injEq] at hy'
        rcases hy' with ⟨rfl, rfl⟩ | ⟨rfl, rfl⟩
        · obtain ⟨f, fd, qs, m1, m2, m3, m4⟩ := p49.fns "_law_places" _ rfl
          exact ⟨f, fd, qs, m1, m2, m3, (FnOk.g m4).mono (by decide)⟩
        · obtain ⟨f, fd, qs, m1, m2, m3, m4⟩ := p50.fns "_law_givens" _ rfl
          exact ⟨f, fd, qs, m1, m2, m3, (FnOk.g m4).mono (by decide)⟩⟩
  have pgD : ∀ base : Heap, LamX.TabB base mg co36 tb36 → PgL (PP K CE0 CE1 CE2 CE3 CE4 CE5 CE6 CE7 tb36 tb57) l.prog w mg base 24 G0 F42 con1 lam1 := fun base T36 => by
    obtain ⟨fdm, Bm⟩ := d45.fn
    obtain ⟨fdr, Br⟩ := d46.fn
    obtain ⟨fdg, Bg⟩ := d47.fn
    have mx : FnOk l.prog w K mg base (L2.CX l.prog w) 22 f45 fdm ["cell", "k"] spMix := mix_okS Bm rfl rfl
    have dr : FnOk l.prog w K mg base (L2.CX l.prog w) 22 f46 fdr ["cell", "k"] (spT (PP K CE0 CE1 CE2 CE3 CE4 CE5 CE6 CE7 tb36 tb57) ⟨2, drawM⟩) := draw_ok rfl Br rfl rfl
    have dg : FnOk l.prog w K mg base (L2.CX l.prog w) 23 f47 fdg ["state", "size"] (spT (PP K CE0 CE1 CE2 CE3 CE4 CE5 CE6 CE7 tb36 tb57) ⟨2, digM⟩) := digit_okS rfl Bg rfl (PySem.W.mg_none_of X G (bl "range" (by decide))) (PySem.W.mg_of X G d45.a) d45.k (Bm.binds bp45) mx rfl
    exact (((((pgA base T36).toL (lamI base)).mono (by decide)).add (PySem.W.mg_of X G d46.a) d46.k (Br.binds bp46) ((FnOk.g dr).mono (by decide))).add (PySem.W.mg_of X G d47.a) d47.k (Bg.binds bp47) ((FnOk.g dg).mono (by decide)))
  have pgE : ∀ base : Heap, LamX.TabB base mg co36 tb36 → LamX.TabB base mg co57 tb57 → PgL (PP K CE0 CE1 CE2 CE3 CE4 CE5 CE6 CE7 tb36 tb57) l.prog w mg base 39 G56 F42 con1 lam1 := fun base T36 T57 => by
    have p0 := pgD base T36
    have p52 : PgL _ l.prog w mg base 27 G52 F42 con1 lam1 := PgL.cons (k := 23) (pls := []) p0 KwL.none X G (ls := []) d52 sc52 (.inl rfl) (.inl rfl) bp52 cl52.2 (nN := (NN 52).length) (np := 0) rfl rfl
    have p53 : PgL _ l.prog w mg base 30 G53 F42 con1 lam1 := PgL.cons (k := 26) (pls := ["found"]) p52 KwL.none X G (ls := []) d53 sc53 (.inl rfl) (.inl rfl) bp53 cl53.2 (nN := (NN 53).length + (plOf (NN 53) ["found"]).length) (np := 1) rfl rfl
    have p54 : PgL _ l.prog w mg base 33 G54 F42 con1 lam1 := PgL.cons (k := 29) (pls := ["found"]) p53 KwL.none X G (ls := []) d54 sc54 (.inl rfl) (.inl rfl) bp54 cl54.2 (nN := (NN 54).length + (plOf (NN 54) ["found"]).length) (np := 1) rfl rfl
    have p55 : PgL _ l.prog w mg base 36 G55 F42 con1 lam1 := PgL.cons (k := 32) (pls := ["parts"]) p54 KwL.none X G (ls := []) d55 sc55 (.inl rfl) (.inl rfl) bp55 cl55.2 (nN := (NN 55).length + (plOf (NN 55) ["parts"]).length) (np := 2) rfl rfl
    have p56 : PgL _ l.prog w mg base 39 G56 F42 con1 lam1 := PgL.cons (k := 35) (pls := []) p55 KwL.none X G (ls := []) d56 sc56 (.inl rfl) (.inl rfl) bp56 cl56.2 (nN := (NN 56).length) (np := 2) rfl rfl
    exact p56
  obtain ⟨oc, od, an, kV, doc, pm, ct, osl, lk⟩ := d57.l
  refine ⟨PySem.W.fnOf "law" "law" (defArgs (top 57)) (defBody (top 57)) (defScope (top 57)) .none kV doc pm an (.ref co57) ct, [(co36, tb36), (co57, tb57)], spT (PP K CE0 CE1 CE2 CE3 CE4 CE5 CE6 CE7 tb36 tb57) ⟨1, m57⟩, fun p hp => ?_, fun s u => .of_eq (bp57 kV doc pm an (.ref co57) ct [u] rfl), fun H a ns hl hb hc hn hs => ?_, fun base Xb Gb TB => ?_⟩
  · have hp' : p = (co36, tb36) ∨ p = (co57, tb57) := by simpa using hp
    rcases hp' with rfl | rfl
    · exact ⟨hT tb36 (by simp), t36.no, t36.hd X⟩
    · exact ⟨hT tb57 (by simp), t57.no, t57.hd X⟩
  · refine ⟨rfl, [.list (ns.map .int)], 2 ^ 20, ⟨⟨by decide, fun b l c t e => absurd ⟨l, c, t, rfl⟩ (hn b _ e)⟩, fun q hq => ?_, (fun q hq => nomatch hq), (fun B hB => nomatch hB)⟩, .cons (.lst hs ?_) .nil, T.wp_mono (main_ok ns hl) (fun d c _ e => ?_) fun _ _ _ z => z.elim⟩
    · have hq' : q = (tb36, hl36) ∨ q = (tb57, hl57) := by simpa [PP] using hq
      rcases hq' with rfl | rfl
      · exact ⟨#[], hc (co36, tb36) (by simp), by simp [TriplesOk], fun pos cv z => by simp [codeAmong] at z⟩
      · exact ⟨#[], hc (co57, tb57) (by simp), by simp [TriplesOk], fun pos cv z => by simp [codeAmong] at z⟩
    · clear hl hb hs
      induction ns with
      | nil => exact .nil
      | cons n ns ih => exact .cons (.int n) ih
    · cases e
      intro v H' _ _ r
      cases r
      rfl
  · have TA36 := TB (co36, tb36) (by simp)
    have TA57 := TB (co57, tb57) (by simp)
    exact (defG_ok (k := 38) (pls := []) (pgE base TA36 TA57) KwL.none lk d57.c sc57 (.inr (la57 base TA57)) cl57.2).mono (by decide)
end
end K44

-- F44body
namespace K44
open PySem PySem.Spec L2 Pv
theorem fld8 {K : PySem.W.Frag} {C : Addr} (h0 : PySem.W.findIn K (.ref C) "given" = some none) (h1 : PySem.W.findIn K (.ref C) "at" = some none) (h2 : PySem.W.findIn K (.ref C) "place" = some none) (h3 : PySem.W.findIn K (.ref C) "most" = some none) (h4 : PySem.W.findIn K (.ref C) "ring" = some none) (h5 : PySem.W.findIn K (.ref C) "path" = some none) (h6 : PySem.W.findIn K (.ref C) "done" = some none) (h7 : PySem.W.findIn K (.ref C) "word" = some none) : ∀ g ∈ fldNames, PySem.W.findIn K (.ref C) g = some none := by
  intro g hg
  simp only [fldNames, List.mem_cons, List.not_mem_nil, or_false] at hg
  rcases hg with rfl | rfl | rfl | rfl | rfl | rfl | rfl | rfl <;> assumption
theorem blt21 {K : PySem.W.Frag} (h0 : PySem.W.nsIn K mainGlobals "len" = some none) (h1 : PySem.W.nsIn K mainGlobals "ord" = some none) (h2 : PySem.W.nsIn K mainGlobals "divmod" = some none) (h3 : PySem.W.nsIn K mainGlobals "min" = some none) (h4 : PySem.W.nsIn K mainGlobals "max" = some none) (h5 : PySem.W.nsIn K mainGlobals "sum" = some none) (h6 : PySem.W.nsIn K mainGlobals "str" = some none) (h7 : PySem.W.nsIn K mainGlobals "int" = some none) (h8 : PySem.W.nsIn K mainGlobals "list" = some none) (h9 : PySem.W.nsIn K mainGlobals "tuple" = some none) (h10 : PySem.W.nsIn K mainGlobals "repr" = some none) (h11 : PySem.W.nsIn K mainGlobals "isinstance" = some none) (h12 : PySem.W.nsIn K mainGlobals "bool" = some none) (h13 : PySem.W.nsIn K mainGlobals "dict" = some none) (h14 : PySem.W.nsIn K mainGlobals "range" = some none) (h15 : PySem.W.nsIn K mainGlobals "enumerate" = some none) (h16 : PySem.W.nsIn K mainGlobals "sorted" = some none) (h17 : PySem.W.nsIn K mainGlobals "set" = some none) (h18 : PySem.W.nsIn K mainGlobals "all" = some none) (h19 : PySem.W.nsIn K mainGlobals "any" = some none) (h20 : PySem.W.nsIn K mainGlobals "zip" = some none) : ∀ x ∈ bltNames, PySem.W.nsIn K mainGlobals x = some none := by
  intro x hx
  simp only [bltNames, List.mem_cons, List.not_mem_nil, or_false] at hx
  rcases hx with rfl | rfl | rfl | rfl | rfl | rfl | rfl | rfl | rfl | rfl | rfl | rfl | rfl | rfl | rfl | rfl | rfl | rfl | rfl | rfl | rfl <;> assumption
end K44
open PySem PySem.W PyProof.Rows
set_option Elab.async false
set_option maxRecDepth 100000 in
set_option maxHeartbeats 0 in
theorem PySem.Challenge.cw_gridfile_k44_runs_of_settings_holds : PySem.Challenge.rw_gridfile_k44_runs_of_settings.Holds := by
  w_on; o_law; k_head; (case hw => w_witness2)
  k_fill
  refine Pv.walk_G (l := PySem.Challenge.rw_gridfile_k44_runs_of_settings) (n := 63) (k := 60) (x := "script") rfl (by rw [PySem.sizeLine_eq]; decide) rfl ⟨rfl, by decide, by decide⟩ (fun w h Y => PySem.W.km_in_of Y) ?F
  intro w mg fa h Y KX G hmg
  refine' K44.all_mk KX G hmg ?d2 ?d3 ?d4 ?d5 ?d6 ?d7 ?d29 ?d30 ?d31 ?d32 ?d33 ?d28 ?d38 ?d37 ?d39 ?d36 ?d41 ?d43 ?d42 ?d49 ?d50 ?d45 ?d46 ?d47 ?d52 ?d53 ?d54 ?d55 ?d56 ?d48 ?d57 ?t36 ?t57 ?tn36_57 ?aGridError ?tGridError ?aRefused ?tRefused ?eE0 ?eE1 ?eE2 ?eE3 ?eE4 ?eE5 ?eE6 ?eE7 ?sE0GGridError ?sE0GRefused ?sE0E0 ?sE0E1 ?sE0E2 ?sE0E3 ?sE0E4 ?sE0E5 ?sE0E6 ?sE0E7 ?sE1GGridError ?sE1GRefused ?sE1E0 ?sE1E1 ?sE1E2 ?sE1E3 ?sE1E4 ?sE1E5 ?sE1E6 ?sE1E7 ?sE2GGridError ?sE2GRefused ?sE2E0 ?sE2E1 ?sE2E2 ?sE2E3 ?sE2E4 ?sE2E5 ?sE2E6 ?sE2E7 ?sE3GGridError ?sE3GRefused ?sE3E0 ?sE3E1 ?sE3E2 ?sE3E3 ?sE3E4 ?sE3E5 ?sE3E6 ?sE3E7 ?sE4GGridError ?sE4GRefused ?sE4E0 ?sE4E1 ?sE4E2 ?sE4E3 ?sE4E4 ?sE4E5 ?sE4E6 ?sE4E7 ?sE5GGridError ?sE5GRefused ?sE5E0 ?sE5E1 ?sE5E2 ?sE5E3 ?sE5E4 ?sE5E5 ?sE5E6 ?sE5E7 ?sE6GGridError ?sE6GRefused ?sE6E0 ?sE6E1 ?sE6E2 ?sE6E3 ?sE6E4 ?sE6E5 ?sE6E6 ?sE6E7 ?sE7GGridError ?sE7GRefused ?sE7E0 ?sE7E1 ?sE7E2 ?sE7E3 ?sE7E4 ?sE7E5 ?sE7E6 ?sE7E7 ?nE0GRefused ?nE0E1 ?nE0E2 ?nE0E3 ?nE0E4 ?nE0E5 ?nE0E6 ?nE0E7 ?nE1GRefused ?nE1E2 ?nE1E3 ?nE1E4 ?nE1E5 ?nE1E6 ?nE1E7 ?nE2GRefused ?nE2E3 ?nE2E4 ?nE2E5 ?nE2E6 ?nE2E7 ?nE3GRefused ?nE3E4 ?nE3E5 ?nE3E6 ?nE3E7 ?nE4GRefused ?nE4E5 ?nE4E6 ?nE4E7 ?nE5GRefused ?nE5E6 ?nE5E7 ?nE6GRefused ?nE6E7 ?nE7GRefused ?kSIGNS ?kMOST_ROW ?kPLAIN ?kMOST_FORMAT ?kMOST_FONT_NAME ?kMOST_FONT_SIZE ?kMOST_COLOR ?kMOST_BORDER ?kALIGN_WORDS ?kMOST_SIZE ?bl ?hT
  case d2 => refine' Pv.defA_mk ?a ?l ?c ?k; (case a => k_is); (case l => k_is); (case c => k_is); (case k => k_is)
  case d3 => refine' Pv.defA_mk ?a ?l ?c ?k; (case a => k_is); (case l => k_is); (case c => k_is); (case k => k_is)
  case d4 => refine' Pv.defA_mk ?a ?l ?c ?k; (case a => k_is); (case l => k_is); (case c => k_is); (case k => k_is)
  case d5 => refine' Pv.defA_mk ?a ?l ?c ?k; (case a => k_is); (case l => k_is); (case c => k_is); (case k => k_is)
  case d6 => refine' Pv.defA_mk ?a ?l ?c ?k; (case a => k_is); (case l => k_is); (case c => k_is); (case k => k_is)
  case d7 => refine' Pv.defA_mk ?a ?l ?c ?k; (case a => k_is); (case l => k_is); (case c => k_is); (case k => k_is)
  case d29 => refine' Pv.defA_mk ?a ?l ?c ?k; (case a => k_is); (case l => k_is); (case c => k_is); (case k => k_is)
  case d30 => refine' Pv.defA_mk ?a ?l ?c ?k; (case a => k_is); (case l => k_is); (case c => k_is); (case k => k_is)
  case d31 => refine' Pv.defA_mk ?a ?l ?c ?k; (case a => k_is); (case l => k_is); (case c => k_is); (case k => k_is)
  case d32 => refine' Pv.defA_mk ?a ?l ?c ?k; (case a => k_is); (case l => k_is); (case c => k_is); (case k => k_is)
  case d33 => refine' Pv.defA_mk ?a ?l ?c ?k; (case a => k_is); (case l => k_is); (case c => k_is); (case k => k_is)
  case d28 => refine' Pv.defA_mk ?a ?l ?c ?k; (case a => k_is); (case l => k_is); (case c => k_is); (case k => k_is)
  case d38 => refine' Pv.defA_mk ?a ?l ?c ?k; (case a => k_is); (case l => k_is); (case c => k_is); (case k => k_is)
  case d37 => refine' Pv.defA_mk ?a ?l ?c ?k; (case a => k_is); (case l => k_is); (case c => k_is); (case k => k_is)
  case d39 => refine' Pv.defA_mk ?a ?l ?c ?k; (case a => k_is); (case l => k_is); (case c => k_is); (case k => k_is)
  case d36 => refine' Pv.defA_mk ?a ?l ?c ?k; (case a => k_is); (case l => k_is); (case c => k_is); (case k => k_is)
  case d41 => refine' Pv.defA_mk ?a ?l ?c ?k; (case a => k_is); (case l => k_is); (case c => k_is); (case k => k_is)
  case d43 => refine' Pv.defA_mk ?a ?l ?c ?k; (case a => k_is); (case l => k_is); (case c => k_is); (case k => k_is)
  case d42 => refine' Pv.defA_mk ?a ?l ?c ?k; (case a => k_is); (case l => k_is); (case c => k_is); (case k => k_is)
  case d49 => refine' Pv.defA_mk ?a ?l ?c ?k; (case a => k_is); (case l => k_is); (case c => k_is); (case k => k_is)
  case d50 => refine' Pv.defA_mk ?a ?l ?c ?k; (case a => k_is); (case l => k_is); (case c => k_is); (case k => k_is)
  case d45 => refine' Pv.defA_mk ?a ?l ?c ?k; (case a => k_is); (case l => k_is); (case c => k_is); (case k => k_is)
  case d46 => refine' Pv.defA_mk ?a ?l ?c ?k; (case a => k_is); (case l => k_is); (case c => k_is); (case k => k_is)
  case d47 => refine' Pv.defA_mk ?a ?l ?c ?k; (case a => k_is); (case l => k_is); (case c => k_is); (case k => k_is)
  case d52 => refine' Pv.defA_mk ?a ?l ?c ?k; (case a => k_is); (case l => k_is); (case c => k_is); (case k => k_is)
  case d53 => refine' Pv.defA_mk ?a ?l ?c ?k; (case a => k_is); (case l => k_is); (case c => k_is); (case k => k_is)
  case d54 => refine' Pv.defA_mk ?a ?l ?c ?k; (case a => k_is); (case l => k_is); (case c => k_is); (case k => k_is)
  case d55 => refine' Pv.defA_mk ?a ?l ?c ?k; (case a => k_is); (case l => k_is); (case c => k_is); (case k => k_is)
  case d56 => refine' Pv.defA_mk ?a ?l ?c ?k; (case a => k_is); (case l => k_is); (case c => k_is); (case k => k_is)
  case d48 => refine' Pv.defA_mk ?a ?l ?c ?k; (case a => k_is); (case l => k_is); (case c => k_is); (case k => k_is)
  case d57 => refine' Pv.defA_mk ?a ?l ?c ?k; (case a => k_is); (case l => k_is); (case c => k_is); (case k => k_is)
  case t36 => refine' Pv.tabF_mk ?l ?h11 ?h18 ?h7 ?h9 ?h10 ?ne ?no; (case l => k_is); (case h11 => exact rfl); (case h18 => exact rfl); (case h7 => exact rfl); (case h9 => exact rfl); (case h10 => exact rfl); (case ne => decide); (case no => first | rfl | decide +kernel)
  case t57 => refine' Pv.tabF_mk ?l ?h11 ?h18 ?h7 ?h9 ?h10 ?ne ?no; (case l => k_is); (case h11 => exact rfl); (case h18 => exact rfl); (case h7 => exact rfl); (case h9 => exact rfl); (case h10 => exact rfl); (case ne => decide); (case no => first | rfl | decide +kernel)
  case tn36_57 => decide
  case aGridError => k_is
  case tGridError => refine' Pv.clsF_mk ?x1 ?x2 ?x3; (case x1 => k_is); (case x2 => k_is); (case x3 => k_is)
  case aRefused => k_is
  case tRefused => refine' Pv.clsF_mk ?x1 ?x2 ?x3; (case x1 => k_is); (case x2 => k_is); (case x3 => k_is)
  case eE0 => refine' Pv.erF_mk ?a ?l ?r ?sa ?ga ?gg ?ac ?hn ?ht ?hm ?hd ?kC ?cl ?i1 ?t1 ?lI ?cI ?kI ?fl; (case a => k_is); (case l => k_is); (case r => decide +kernel); (case sa => k_is); (case ga => k_is); (case gg => k_is); (case ac => k_is); (case hn => k_is); (case ht => k_is); (case hm => k_is); (case hd => k_is); (case kC => k_is); (case cl => refine' Pv.clsF_mk ?x1 ?x2 ?x3; (case x1 => k_is); (case x2 => k_is); (case x3 => k_is)); (case i1 => k_is); (case t1 => k_is); (case lI => k_is); (case cI => k_is); (case kI => k_is); (case fl => refine' K44.fld8 ?f0 ?f1 ?f2 ?f3 ?f4 ?f5 ?f6 ?f7; (case f0 => k_is); (case f1 => k_is); (case f2 => k_is); (case f3 => k_is); (case f4 => k_is); (case f5 => k_is); (case f6 => k_is); (case f7 => k_is))
  case eE1 => refine' Pv.erF_mk ?a ?l ?r ?sa ?ga ?gg ?ac ?hn ?ht ?hm ?hd ?kC ?cl ?i1 ?t1 ?lI ?cI ?kI ?fl; (case a => k_is); (case l => k_is); (case r => decide +kernel); (case sa => k_is); (case ga => k_is); (case gg => k_is); (case ac => k_is); (case hn => k_is); (case ht => k_is); (case hm => k_is); (case hd => k_is); (case kC => k_is); (case cl => refine' Pv.clsF_mk ?x1 ?x2 ?x3; (case x1 => k_is); (case x2 => k_is); (case x3 => k_is)); (case i1 => k_is); (case t1 => k_is); (case lI => k_is); (case cI => k_is); (case kI => k_is); (case fl => refine' K44.fld8 ?f0 ?f1 ?f2 ?f3 ?f4 ?f5 ?f6 ?f7; (case f0 => k_is); (case f1 => k_is); (case f2 => k_is); (case f3 => k_is); (case f4 => k_is); (case f5 => k_is); (case f6 => k_is); (case f7 => k_is))
  case eE2 => refine' Pv.erF_mk ?a ?l ?r ?sa ?ga ?gg ?ac ?hn ?ht ?hm ?hd ?kC ?cl ?i1 ?t1 ?lI ?cI ?kI ?fl; (case a => k_is); (case l => k_is); (case r => decide +kernel); (case sa => k_is); (case ga => k_is); (case gg => k_is); (case ac => k_is); (case hn => k_is); (case ht => k_is); (case hm => k_is); (case hd => k_is); (case kC => k_is); (case cl => refine' Pv.clsF_mk ?x1 ?x2 ?x3; (case x1 => k_is); (case x2 => k_is); (case x3 => k_is)); (case i1 => k_is); (case t1 => k_is); (case lI => k_is); (case cI => k_is); (case kI => k_is); (case fl => refine' K44.fld8 ?f0 ?f1 ?f2 ?f3 ?f4 ?f5 ?f6 ?f7; (case f0 => k_is); (case f1 => k_is); (case f2 => k_is); (case f3 => k_is); (case f4 => k_is); (case f5 => k_is); (case f6 => k_is); (case f7 => k_is))
  case eE3 => refine' Pv.erF_mk ?a ?l ?r ?sa ?ga ?gg ?ac ?hn ?ht ?hm ?hd ?kC ?cl ?i1 ?t1 ?lI ?cI ?kI ?fl; (case a => k_is); (case l => k_is); (case r => decide +kernel); (case sa => k_is); (case ga => k_is); (case gg => k_is); (case ac => k_is); (case hn => k_is); (case ht => k_is); (case hm => k_is); (case hd => k_is); (case kC => k_is); (case cl => refine' Pv.clsF_mk ?x1 ?x2 ?x3; (case x1 => k_is); (case x2 => k_is); (case x3 => k_is)); (case i1 => k_is); (case t1 => k_is); (case lI => k_is); (case cI => k_is); (case kI => k_is); (case fl => refine' K44.fld8 ?f0 ?f1 ?f2 ?f3 ?f4 ?f5 ?f6 ?f7; (case f0 => k_is); (case f1 => k_is); (case f2 => k_is); (case f3 => k_is); (case f4 => k_is); (case f5 => k_is); (case f6 => k_is); (case f7 => k_is))
  case eE4 => refine' Pv.erF_mk ?a ?l ?r ?sa ?ga ?gg ?ac ?hn ?ht ?hm ?hd ?kC ?cl ?i1 ?t1 ?lI ?cI ?kI ?fl; (case a => k_is); (case l => k_is); (case r => decide +kernel); (case sa => k_is); (case ga => k_is); (case gg => k_is); (case ac => k_is); (case hn => k_is); (case ht => k_is); (case hm => k_is); (case hd => k_is); (case kC => k_is); (case cl => refine' Pv.clsF_mk ?x1 ?x2 ?x3; (case x1 => k_is); (case x2 => k_is); (case x3 => k_is)); (case i1 => k_is); (case t1 => k_is); (case lI => k_is); (case cI => k_is); (case kI => k_is); (case fl => refine' K44.fld8 ?f0 ?f1 ?f2 ?f3 ?f4 ?f5 ?f6 ?f7; (case f0 => k_is); (case f1 => k_is); (case f2 => k_is); (case f3 => k_is); (case f4 => k_is); (case f5 => k_is); (case f6 => k_is); (case f7 => k_is))
  case eE5 => refine' Pv.erF_mk ?a ?l ?r ?sa ?ga ?gg ?ac ?hn ?ht ?hm ?hd ?kC ?cl ?i1 ?t1 ?lI ?cI ?kI ?fl; (case a => k_is); (case l => k_is); (case r => decide +kernel); (case sa => k_is); (case ga => k_is); (case gg => k_is); (case ac => k_is); (case hn => k_is); (case ht => k_is); (case hm => k_is); (case hd => k_is); (case kC => k_is); (case cl => refine' Pv.clsF_mk ?x1 ?x2 ?x3; (case x1 => k_is); (case x2 => k_is); (case x3 => k_is)); (case i1 => k_is); (case t1 => k_is); (case lI => k_is); (case cI => k_is); (case kI => k_is); (case fl => refine' K44.fld8 ?f0 ?f1 ?f2 ?f3 ?f4 ?f5 ?f6 ?f7; (case f0 => k_is); (case f1 => k_is); (case f2 => k_is); (case f3 => k_is); (case f4 => k_is); (case f5 => k_is); (case f6 => k_is); (case f7 => k_is))
  case eE6 => refine' Pv.erF_mk ?a ?l ?r ?sa ?ga ?gg ?ac ?hn ?ht ?hm ?hd ?kC ?cl ?i1 ?t1 ?lI ?cI ?kI ?fl; (case a => k_is); (case l => k_is); (case r => decide +kernel); (case sa => k_is); (case ga => k_is); (case gg => k_is); (case ac => k_is); (case hn => k_is); (case ht => k_is); (case hm => k_is); (case hd => k_is); (case kC => k_is); (case cl => refine' Pv.clsF_mk ?x1 ?x2 ?x3; (case x1 => k_is); (case x2 => k_is); (case x3 => k_is)); (case i1 => k_is); (case t1 => k_is); (case lI => k_is); (case cI => k_is); (case kI => k_is); (case fl => refine' K44.fld8 ?f0 ?f1 ?f2 ?f3 ?f4 ?f5 ?f6 ?f7; (case f0 => k_is); (case f1 => k_is); (case f2 => k_is); (case f3 => k_is); (case f4 => k_is); (case f5 => k_is); (case f6 => k_is); (case f7 => k_is))
  case eE7 => refine' Pv.erF_mk ?a ?l ?r ?sa ?ga ?gg ?ac ?hn ?ht ?hm ?hd ?kC ?cl ?i1 ?t1 ?lI ?cI ?kI ?fl; (case a => k_is); (case l => k_is); (case r => decide +kernel); (case sa => k_is); (case ga => k_is); (case gg => k_is); (case ac => k_is); (case hn => k_is); (case ht => k_is); (case hm => k_is); (case hd => k_is); (case kC => k_is); (case cl => refine' Pv.clsF_mk ?x1 ?x2 ?x3; (case x1 => k_is); (case x2 => k_is); (case x3 => k_is)); (case i1 => k_is); (case t1 => k_is); (case lI => k_is); (case cI => k_is); (case kI => k_is); (case fl => refine' K44.fld8 ?f0 ?f1 ?f2 ?f3 ?f4 ?f5 ?f6 ?f7; (case f0 => k_is); (case f1 => k_is); (case f2 => k_is); (case f3 => k_is); (case f4 => k_is); (case f5 => k_is); (case f6 => k_is); (case f7 => k_is))
  case sE0GGridError => first | k_is | rfl
  case sE0GRefused => first | k_is | rfl
  case sE0E0 => first | k_is | rfl
  case sE0E1 => first | k_is | rfl
  case sE0E2 => first | k_is | rfl
  case sE0E3 => first | k_is | rfl
  case sE0E4 => first | k_is | rfl
  case sE0E5 => first | k_is | rfl
  case sE0E6 => first | k_is | rfl
  case sE0E7 => first | k_is | rfl
  case sE1GGridError => first | k_is | rfl
  case sE1GRefused => first | k_is | rfl
  case sE1E0 => first | k_is | rfl
  case sE1E1 => first | k_is | rfl
  case sE1E2 => first | k_is | rfl
  case sE1E3 => first | k_is | rfl
  case sE1E4 => first | k_is | rfl
  case sE1E5 => first | k_is | rfl
  case sE1E6 => first | k_is | rfl
  case sE1E7 => first | k_is | rfl
  case sE2GGridError => first | k_is | rfl
  case sE2GRefused => first | k_is | rfl
  case sE2E0 => first | k_is | rfl
  case sE2E1 => first | k_is | rfl
  case sE2E2 => first | k_is | rfl
  case sE2E3 => first | k_is | rfl
  case sE2E4 => first | k_is | rfl
  case sE2E5 => first | k_is | rfl
  case sE2E6 => first | k_is | rfl
  case sE2E7 => first | k_is | rfl
  case sE3GGridError => first | k_is | rfl
  case sE3GRefused => first | k_is | rfl
  case sE3E0 => first | k_is | rfl
  case sE3E1 => first | k_is | rfl
  case sE3E2 => first | k_is | rfl
  case sE3E3 => first | k_is | rfl
  case sE3E4 => first | k_is | rfl
  case sE3E5 => first | k_is | rfl
  case sE3E6 => first | k_is | rfl
  case sE3E7 => first | k_is | rfl
  case sE4GGridError => first | k_is | rfl
  case sE4GRefused => first | k_is | rfl
  case sE4E0 => first | k_is | rfl
  case sE4E1 => first | k_is | rfl
  case sE4E2 => first | k_is | rfl
  case sE4E3 => first | k_is | rfl
  case sE4E4 => first | k_is | rfl
  case sE4E5 => first | k_is | rfl
  case sE4E6 => first | k_is | rfl
  case sE4E7 => first | k_is | rfl
  case sE5GGridError => first | k_is | rfl
  case sE5GRefused => first | k_is | rfl
  case sE5E0 => first | k_is | rfl
  case sE5E1 => first | k_is | rfl
  case sE5E2 => first | k_is | rfl
  case sE5E3 => first | k_is | rfl
  case sE5E4 => first | k_is | rfl
  case sE5E5 => first | k_is | rfl
  case sE5E6 => first | k_is | rfl
  case sE5E7 => first | k_is | rfl
  case sE6GGridError => first | k_is | rfl
  case sE6GRefused => first | k_is | rfl
  case sE6E0 => first | k_is | rfl
  case sE6E1 => first | k_is | rfl
  case sE6E2 => first | k_is | rfl
  case sE6E3 => first | k_is | rfl
  case sE6E4 => first | k_is | rfl
  case sE6E5 => first | k_is | rfl
  case sE6E6 => first | k_is | rfl
  case sE6E7 => first | k_is | rfl
  case sE7GGridError => first | k_is | rfl
  case sE7GRefused => first | k_is | rfl
  case sE7E0 => first | k_is | rfl
  case sE7E1 => first | k_is | rfl
  case sE7E2 => first | k_is | rfl
  case sE7E3 => first | k_is | rfl
  case sE7E4 => first | k_is | rfl
  case sE7E5 => first | k_is | rfl
  case sE7E6 => first | k_is | rfl
  case sE7E7 => first | k_is | rfl
  case nE0GRefused => decide
  case nE0E1 => decide
  case nE0E2 => decide
  case nE0E3 => decide
  case nE0E4 => decide
  case nE0E5 => decide
  case nE0E6 => decide
  case nE0E7 => decide
  case nE1GRefused => decide
  case nE1E2 => decide
  case nE1E3 => decide
  case nE1E4 => decide
  case nE1E5 => decide
  case nE1E6 => decide
  case nE1E7 => decide
  case nE2GRefused => decide
  case nE2E3 => decide
  case nE2E4 => decide
  case nE2E5 => decide
  case nE2E6 => decide
  case nE2E7 => decide
  case nE3GRefused => decide
  case nE3E4 => decide
  case nE3E5 => decide
  case nE3E6 => decide
  case nE3E7 => decide
  case nE4GRefused => decide
  case nE4E5 => decide
  case nE4E6 => decide
  case nE4E7 => decide
  case nE5GRefused => decide
  case nE5E6 => decide
  case nE5E7 => decide
  case nE6GRefused => decide
  case nE6E7 => decide
  case nE7GRefused => decide
  case kSIGNS => k_is
  case kMOST_ROW => k_is
  case kPLAIN => refine' Pv.litF_mk ?g (Pv.litK_tup ?l0 ?s0 ?r0); (case g => k_is); (case l0 => k_is); (case s0 => rw [PySem.sizeLine_eq]; decide); (case r0 => refine' .cons Pv.litK_str (.cons (Pv.litK_tup ?l1 ?s1 ?r1) (.cons Pv.litK_non (.cons (Pv.litK_tup ?l2 ?s2 ?r2) (.cons (Pv.litK_tup ?l3 ?s3 ?r3) (.nil))))); (case l1 => k_is); (case s1 => rw [PySem.sizeLine_eq]; decide); (case r1 => refine' .cons Pv.litK_str (.cons Pv.litK_int (.cons Pv.litK_bl (.cons Pv.litK_bl (.nil))))); (case l2 => k_is); (case s2 => rw [PySem.sizeLine_eq]; decide); (case r2 => refine' .cons Pv.litK_int (.cons Pv.litK_int (.cons Pv.litK_int (.cons Pv.litK_int (.nil))))); (case l3 => k_is); (case s3 => rw [PySem.sizeLine_eq]; decide); (case r3 => refine' .cons Pv.litK_str (.cons Pv.litK_bl (.nil))))
  case kMOST_FORMAT => k_is
  case kMOST_FONT_NAME => k_is
  case kMOST_FONT_SIZE => k_is
  case kMOST_COLOR => k_is
  case kMOST_BORDER => k_is
  case kALIGN_WORDS => refine' Pv.litF_mk ?g (Pv.litK_tup ?l0 ?s0 ?r0); (case g => k_is); (case l0 => k_is); (case s0 => rw [PySem.sizeLine_eq]; decide); (case r0 => refine' .cons Pv.litK_str (.cons Pv.litK_str (.cons Pv.litK_str (.cons Pv.litK_str (.nil)))))
  case kMOST_SIZE => k_is
  case bl => refine' K44.blt21 ?b0 ?b1 ?b2 ?b3 ?b4 ?b5 ?b6 ?b7 ?b8 ?b9 ?b10 ?b11 ?b12 ?b13 ?b14 ?b15 ?b16 ?b17 ?b18 ?b19 ?b20; (case b0 => k_is); (case b1 => k_is); (case b2 => k_is); (case b3 => k_is); (case b4 => k_is); (case b5 => k_is); (case b6 => k_is); (case b7 => k_is); (case b8 => k_is); (case b9 => k_is); (case b10 => k_is); (case b11 => k_is); (case b12 => k_is); (case b13 => k_is); (case b14 => k_is); (case b15 => k_is); (case b16 => k_is); (case b17 => k_is); (case b18 => k_is); (case b19 => k_is); (case b20 => k_is)
  case hT => exact fun P hP => PySem.W.km_tabs_of Y P hP
