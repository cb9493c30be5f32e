import PyProof.Rows.All
import Wide.All
import OpenK.AllK
import Wide.FinOn
import HandS.ForMost
import HandS.Exc
import HandS.TryOnly
import HandS.ExcOwn
import HandS.WordsExc
import HandS.CallSlots
import HandS.SortInts
import HandS.TupAny
import HandS.SetFor
import HandS.More
import HandS.Property
import HandS.IsInst
import HandS.RaiseMore
import HandS.Conv
import HandS.ClsMeth
import HandS.Iter
import HandS.TupMul
import HandS.Wide
import HandS.Defaults
import HandS.Style
import HandS.GenList
import HandS.GenYield
import HandS.Star
import HandS.MakeKwOnly
import HandS.Ends
import PySem.Challenge.RW_handsweeps_k04_whole_hands_by_own_hand
import KE.KStateDown
set_option Elab.async false
set_option linter.all false
set_option maxRecDepth 100000
/-! The layer DL: values as trees (D), what is made once and never changed (F) apart from what is changed (M). -/
namespace DL
open PySem PySem.Spec L2
open PyProof.Rows hiding St

inductive D where
  | non | bl (b : Bool) | int (i : Int) | str (x : Str)
  | tup (ds : List D) | lst (ds : List D) | frl (ds : List D) | dct (kvs : List (Key × D))
  | ins (c : Nat) (fs : List D)
  | raw (v : V)

/-- a thing that changes -/
inductive MO where
  | lst (ds : List D) | dct (kvs : List (Key × D)) | ins (c : Nat) (fs : List D)

/-- the classes of the text: where they stand, their attributes in the order in which __init__ makes them -/
structure Cfg where
  cl : Nat → Addr
  nm : Nat → List Str

mutual
inductive Rep (G : Cfg) (K : PySem.W.Frag) (F : Hp) : V → D → Prop
  | non : Rep G K F .non .non
  | bl (b : Bool) : Rep G K F (.bl b) (.bl b)
  | int (i : Int) : Rep G K F (.int i) (.int i)
  | str (x : Str) : Rep G K F (.str x) (.str x)
  | raw (v : V) : Rep G K F v (.raw v)
  | tup {a : Addr} {vs : List V} {ds : List D} : SqT K F a vs → RepL G K F vs ds → Rep G K F (.ref a) (.tup ds)
  | lst {a : Addr} {vs : List V} {ds : List D} : F a = some (.lst vs) → RepL G K F vs ds → Rep G K F (.ref a) (.lst ds)
  | frl {a : Addr} {vs : List V} {ds : List D} : SqL K F a vs → RepL G K F vs ds → Rep G K F (.ref a) (.frl ds)
  | dct {a : Addr} {kvs : List (Key × V)} {ds : List (Key × D)} : F a = some (.dK kvs) → RepK G K F kvs ds → Rep G K F (.ref a) (.dct ds)
  | ins {a dx : Addr} {c : Nat} {vs : List V} {ds : List D} : F a = some (.ins (G.cl c) dx ((G.nm c).zip vs)) → vs.length = (G.nm c).length → RepL G K F vs ds → Rep G K F (.ref a) (.ins c ds)
inductive RepL (G : Cfg) (K : PySem.W.Frag) (F : Hp) : List V → List D → Prop
  | nil : RepL G K F [] []
  | cons {v : V} {d : D} {vs : List V} {ds : List D} : Rep G K F v d → RepL G K F vs ds → RepL G K F (v :: vs) (d :: ds)
inductive RepK (G : Cfg) (K : PySem.W.Frag) (F : Hp) : List (Key × V) → List (Key × D) → Prop
  | nil : RepK G K F [] []
  | cons {k : Key} {v : V} {d : D} {vs : List (Key × V)} {ds : List (Key × D)} : Rep G K F v d → RepK G K F vs ds → RepK G K F ((k, v) :: vs) ((k, d) :: ds)
end

abbrev MM := Addr → Option MO
def updM (M : MM) (a : Addr) (o : MO) : MM := fun b => if b = a then some o else M b
theorem updM_same {M : MM} {a : Addr} {o : MO} : updM M a o a = some o := by unfold updM; rw [if_pos rfl]
theorem updM_ne {M : MM} {a b : Addr} {o : MO} (h : b ≠ a) : updM M a o b = M b := by unfold updM; rw [if_neg h]
def delM (M : MM) (a : Addr) : MM := fun b => if b = a then none else M b

section
variable {G : Cfg} {K : PySem.W.Frag} {F F' F1 F2 : Hp} {M M' M1 M2 : MM} {H H' H1 H2 : Hp}
theorem sqT_mono {a : Addr} {xs : List V} (e : Same F F') (h : SqT K F a xs) : SqT K F' a xs := by
  rcases h with (h | ⟨o, h⟩) | h
  · exact .inl (.inl (e _ _ h))
  · exact .inl (.inr ⟨o, e _ _ h⟩)
  · exact .inr h
mutual
theorem Rep.mono (e : Same F F') : ∀ {v : V} {d : D}, Rep G K F v d → Rep G K F' v d
  | _, _, .non => .non
  | _, _, .bl b => .bl b
  | _, _, .int i => .int i
  | _, _, .str x => .str x
  | _, _, .raw v => .raw v
  | _, _, .tup h r => .tup (sqT_mono e h) (RepL.mono e r)
  | _, _, .lst h r => .lst (e _ _ h) (RepL.mono e r)
  | _, _, .frl h r => .frl (e.seq h) (RepL.mono e r)
  | _, _, .dct h r => .dct (e _ _ h) (RepK.mono e r)
  | _, _, .ins h l r => .ins (e _ _ h) l (RepL.mono e r)
theorem RepL.mono (e : Same F F') : ∀ {vs : List V} {ds : List D}, RepL G K F vs ds → RepL G K F' vs ds
  | _, _, .nil => .nil
  | _, _, .cons h t => .cons (Rep.mono e h) (RepL.mono e t)
theorem RepK.mono (e : Same F F') : ∀ {vs : List (Key × V)} {ds : List (Key × D)}, RepK G K F vs ds → RepK G K F' vs ds
  | _, _, .nil => .nil
  | _, _, .cons h t => .cons (Rep.mono e h) (RepK.mono e t)
end
theorem RepL.len : ∀ {vs : List V} {ds : List D}, RepL G K F vs ds → vs.length = ds.length
  | _, _, .nil => rfl
  | _, _, .cons _ t => congrArg Nat.succ (RepL.len t)
theorem RepL.app : ∀ {vs ws : List V} {ds es : List D}, RepL G K F vs ds → RepL G K F ws es → RepL G K F (vs ++ ws) (ds ++ es)
  | _, _, _, _, .nil, s => s
  | _, _, _, _, .cons h t, s => .cons h (RepL.app t s)
theorem RepL.get : ∀ {vs : List V} {ds : List D} {i : Nat} {d : D}, RepL G K F vs ds → ds[i]? = some d → ∃ v, vs[i]? = some v ∧ Rep G K F v d
  | _, _, _, _, .nil, e => by simp at e
  | _, _, 0, _, .cons h _, e => by simp at e; subst e; exact ⟨_, rfl, h⟩
  | _, _, i + 1, d, .cons _ t, e => by
    obtain ⟨v, e1, r⟩ := RepL.get (i := i) (d := d) t (by simpa using e)
    exact ⟨v, by simpa using e1, r⟩
theorem RepL.get' : ∀ {vs : List V} {ds : List D} {i : Nat} {v : V}, RepL G K F vs ds → vs[i]? = some v → ∃ d, ds[i]? = some d ∧ Rep G K F v d
  | _, _, _, _, .nil, e => by simp at e
  | _, _, 0, _, .cons h _, e => by simp at e; subst e; exact ⟨_, rfl, h⟩
  | _, _, i + 1, v, .cons _ t, e => by
    obtain ⟨d, e1, r⟩ := RepL.get' (i := i) (v := v) t (by simpa using e)
    exact ⟨d, by simpa using e1, r⟩
theorem RepL.set {v : V} {d : D} (r : Rep G K F v d) : ∀ {vs : List V} {ds : List D} (i : Nat), RepL G K F vs ds → RepL G K F (vs.set i v) (ds.set i d)
  | _, _, _, .nil => .nil
  | _, _, 0, .cons _ t => .cons r t
  | _, _, i + 1, .cons q t => .cons q (RepL.set r i t)
theorem RepL.take : ∀ {vs : List V} {ds : List D} (n : Nat), RepL G K F vs ds → RepL G K F (vs.take n) (ds.take n)
  | _, _, 0, _ => .nil
  | _, _, _ + 1, .nil => .nil
  | _, _, n + 1, .cons r t => .cons r (RepL.take n t)
theorem RepL.drop : ∀ {vs : List V} {ds : List D} (n : Nat), RepL G K F vs ds → RepL G K F (vs.drop n) (ds.drop n)
  | _, _, 0, r => r
  | _, _, _ + 1, .nil => .nil
  | _, _, n + 1, .cons _ t => RepL.drop n t
theorem RepL.rev : ∀ {vs : List V} {ds : List D}, RepL G K F vs ds → RepL G K F vs.reverse ds.reverse
  | _, _, .nil => .nil
  | _, _, .cons r t => by rw [List.reverse_cons, List.reverse_cons]; exact (RepL.rev t).app (.cons r .nil)
/-- ints alone -/
theorem RepL.ints : ∀ {vs : List V} {ns : List Int}, RepL G K F vs (ns.map D.int) → vs = ns.map V.int
  | _, [], .nil => rfl
  | _, n :: ns, .cons h t => by
    cases h
    rw [RepL.ints t]
    rfl
theorem RepL.of_ints : ∀ (ns : List Int), RepL G K F (ns.map V.int) (ns.map D.int)
  | [] => .nil
  | n :: ns => .cons (.int n) (RepL.of_ints ns)

/-- what a changing thing looks like -/
def RepM (G : Cfg) (K : PySem.W.Frag) (F H : Hp) (b : Addr) : MO → Prop
  | .lst ds => ∃ vs, H b = some (.lst vs) ∧ RepL G K F vs ds
  | .dct ds => ∃ vs, H b = some (.dK vs) ∧ RepK G K F vs ds
  | .ins c fs => ∃ dx vs, H b = some (.ins (G.cl c) dx ((G.nm c).zip vs)) ∧ vs.length ≤ (G.nm c).length ∧ RepL G K F vs fs
theorem RepM.mono {b : Addr} {m : MO} (e : Same F F') (eb : H' b = H b) (h : RepM G K F H b m) : RepM G K F' H' b m := by
  cases m with
  | lst ds => obtain ⟨vs, h1, r⟩ := h; exact ⟨vs, eb.trans h1, r.mono e⟩
  | dct ds => obtain ⟨vs, h1, r⟩ := h; exact ⟨vs, eb.trans h1, r.mono e⟩
  | ins c fs => obtain ⟨dx, vs, h1, l, r⟩ := h; exact ⟨dx, vs, eb.trans h1, l, r.mono e⟩
theorem RepM.some {b : Addr} {m : MO} (h : RepM G K F H b m) : ∃ o, H b = some o := by
  cases m with
  | lst ds => obtain ⟨vs, h1, _⟩ := h; exact ⟨_, h1⟩
  | dct ds => obtain ⟨vs, h1, _⟩ := h; exact ⟨_, h1⟩
  | ins c fs => obtain ⟨dx, vs, h1, _⟩ := h; exact ⟨_, h1⟩
structure HM (G : Cfg) (K : PySem.W.Frag) (F : Hp) (M : MM) (H : Hp) : Prop where
  sub : Same F H
  dis : ∀ b m, M b = some m → F b = none
  mo : ∀ b m, M b = some m → RepM G K F H b m
structure Grow (G : Cfg) (K : PySem.W.Frag) (F : Hp) (M : MM) (H : Hp) (F' : Hp) (M' : MM) (H' : Hp) : Prop where
  hm : HM G K F' M' H'
  ext : Same F F'
  keep : ∀ b o, H b = some o → F b = none → M b = none → H' b = some o ∧ F' b = none ∧ M' b = none
theorem Grow.refl (h : HM G K F M H) : Grow G K F M H F M H := ⟨h, Same.refl _, fun _ _ a b c => ⟨a, b, c⟩⟩
theorem Grow.trans (a : Grow G K F M H F1 M1 H1) (b : Grow G K F1 M1 H1 F2 M2 H2) : Grow G K F M H F2 M2 H2 :=
  ⟨b.hm, a.ext.trans b.ext, fun c o h f m => let ⟨h1, f1, m1⟩ := a.keep c o h f m; b.keep c o h1 f1 m1⟩
theorem HM.free {b : Addr} (h : HM G K F M H) (n : H b = none) : F b = none ∧ M b = none := by
  constructor
  · cases q : F b with
    | none => rfl
    | some o => rw [h.sub b o q] at n; cases n
  · cases q : M b with
    | none => rfl
    | some m =>
      obtain ⟨o, e⟩ := (h.mo b m q).some
      rw [e] at n; cases n
/-- a new object that never changes -/
theorem HM.new {p : Addr} {o : HO} (h : HM G K F M H) (n : H p = none) : Grow G K F M H (upd F p o) M (upd H p o) := by
  have ne : ∀ b o, F b = some o → b ≠ p := fun b o e q => by subst q; rw [(h.free n).1] at e; cases e
  have ne2 : ∀ b m, M b = some m → b ≠ p := fun b o e q => by subst q; rw [(h.free n).2] at e; cases e
  have s1 : Same F (upd F p o) := fun b u e => by rw [upd_ne (ne b u e)]; exact e
  refine ⟨⟨fun b u e => ?_, fun b m e => ?_, fun b m e => ?_⟩, s1, fun b u e f m => ?_⟩
  · by_cases q : b = p
    · subst q; rw [upd_same] at e ⊢; exact e
    · rw [upd_ne q] at e ⊢; exact h.sub b u e
  · rw [upd_ne (ne2 b m e)]; exact h.dis b m e
  · exact (h.mo b m e).mono s1 (upd_ne (ne2 b m e))
  · have q : b ≠ p := fun q => by subst q; rw [n] at e; cases e
    exact ⟨by rw [upd_ne q]; exact e, by rw [upd_ne q]; exact f, m⟩
/-- a new object that may change -/
theorem HM.newM {p : Addr} {o : HO} {m : MO} (h : HM G K F M H) (n : H p = none) (r : RepM G K F (upd H p o) p m) : Grow G K F M H F (updM M p m) (upd H p o) := by
  have ne2 : ∀ b m, M b = some m → b ≠ p := fun b o e q => by subst q; rw [(h.free n).2] at e; cases e
  refine ⟨⟨fun b u e => ?_, fun b u e => ?_, fun b u e => ?_⟩, Same.refl _, fun b u e f g => ?_⟩
  · have q : b ≠ p := fun q => by subst q; rw [(h.free n).1] at e; cases e
    rw [upd_ne q]; exact h.sub b u e
  · by_cases q : b = p
    · subst q; exact (h.free n).1
    · rw [updM_ne q] at e; exact h.dis b u e
  · by_cases q : b = p
    · subst q; rw [updM_same] at e; cases e; exact r
    · rw [updM_ne q] at e; exact (h.mo b u e).mono (Same.refl _) (upd_ne q)
  · have q : b ≠ p := fun q => by subst q; rw [n] at e; cases e
    exact ⟨by rw [upd_ne q]; exact e, f, by rw [updM_ne q]; exact g⟩
/-- a changing object is changed -/
theorem HM.put {p : Addr} {o : HO} {m m' : MO} (h : HM G K F M H) (e : M p = some m) (r : RepM G K F (upd H p o) p m') : Grow G K F M H F (updM M p m') (upd H p o) := by
  have fp : F p = none := h.dis p m e
  refine ⟨⟨fun b u q => ?_, fun b u q => ?_, fun b u q => ?_⟩, Same.refl _, fun b u q f g => ?_⟩
  · have z : b ≠ p := fun z => by subst z; rw [fp] at q; cases q
    rw [upd_ne z]; exact h.sub b u q
  · by_cases z : b = p
    · subst z; exact fp
    · rw [updM_ne z] at q; exact h.dis b u q
  · by_cases z : b = p
    · subst z; rw [updM_same] at q; cases q; exact r
    · rw [updM_ne z] at q; exact (h.mo b u q).mono (Same.refl _) (upd_ne z)
  · have z : b ≠ p := fun z => by subst z; rw [e] at g; cases g
    exact ⟨by rw [upd_ne z]; exact q, f, by rw [updM_ne z]; exact g⟩
/-- what changed is settled: it changes no more -/
def frzD : MO → D
  | .lst ds => .lst ds
  | .dct ds => .dct ds
  | .ins c fs => .ins c fs
theorem HM.settle {p : Addr} {m : MO} (h : HM G K F M H) (e : M p = some m) (hl : ∀ c fs, m = .ins c fs → fs.length = (G.nm c).length) : ∃ F', Grow G K F M H F' (delM M p) H ∧ Rep G K F' (.ref p) (frzD m) := by
  have fp : F p = none := h.dis p m e
  have r := h.mo p m e
  obtain ⟨o, ho⟩ := r.some
  have s1 : Same F (upd F p o) := fun b u q => by
    have z : b ≠ p := fun z => by subst z; rw [fp] at q; cases q
    rw [upd_ne z]; exact q
  refine ⟨upd F p o, ⟨⟨fun b u q => ?_, fun b u q => ?_, fun b u q => ?_⟩, s1, fun b u q f g => ?_⟩, ?_⟩
  · by_cases z : b = p
    · subst z; rw [upd_same] at q; cases q; exact ho
    · rw [upd_ne z] at q; exact h.sub b u q
  · unfold delM at q
    by_cases z : b = p
    · rw [if_pos z] at q; cases q
    · rw [if_neg z] at q; rw [upd_ne z]; exact h.dis b u q
  · unfold delM at q
    by_cases z : b = p
    · rw [if_pos z] at q; cases q
    · rw [if_neg z] at q; exact (h.mo b u q).mono s1 rfl
  · have z : b ≠ p := fun z => by subst z; rw [e] at g; cases g
    exact ⟨q, by rw [upd_ne z]; exact f, by unfold delM; rw [if_neg z]; exact g⟩
  · cases m with
    | lst ds =>
      obtain ⟨vs, h1, r⟩ := r
      rw [ho] at h1; cases h1
      exact .lst upd_same (r.mono s1)
    | dct ds =>
      obtain ⟨vs, h1, r⟩ := r
      rw [ho] at h1; cases h1
      exact .dct upd_same (r.mono s1)
    | ins c fs =>
      obtain ⟨dx, vs, h1, l, r⟩ := r
      rw [ho] at h1; cases h1
      exact .ins (dx := dx) upd_same (by rw [r.len]; exact hl c fs rfl) (r.mono s1)
end
end DL

set_option Elab.async false
set_option linter.all false
set_option maxRecDepth 100000
namespace DL
open PySem PySem.Spec L2
open PyProof.Rows hiding St

/-- an exception: of a class of the text, with its fields; of a built-in class -/
inductive XD where
  | own (c : Nat) (fs : List D) | blt (n : String)
abbrev DS := List (Option D)
abbrev XK' := XD → DS → MM → Prop
abbrev WE := DS → MM → (D → MM → Prop) → XK' → Prop
abbrev WT := DS → MM → (Bool → MM → Prop) → XK' → Prop
abbrev WA := DS → MM → (List D → MM → Prop) → XK' → Prop
structure ED where
  nx : DS → MM → Prop
  rt : D → MM → Prop
  bk : DS → MM → Prop := fun _ _ => False
  ct : DS → MM → Prop := fun _ _ => False
abbrev WS := ED → XK' → DS → MM → Prop
abbrev SpD := List D → MM → (D → MM → Prop) → (XD → MM → Prop) → Prop

section
variable {G : Cfg} {K : PySem.W.Frag}
def RS (G : Cfg) (K : PySem.W.Frag) (F : Hp) (σ : St) (δ : DS) : Prop := σ.length = δ.length ∧ ∀ (i : Nat) (d : D), δ[i]? = some (some d) → ∃ v, σ[i]? = some (some v) ∧ Rep G K F v d
theorem RS.mono {F F' : Hp} {σ : St} {δ : DS} (e : Same F F') (h : RS G K F σ δ) : RS G K F' σ δ := ⟨h.1, fun i d q => let ⟨v, a, r⟩ := h.2 i d q; ⟨v, a, r.mono e⟩⟩
theorem RS.set {F : Hp} {σ : St} {δ : DS} {v : V} {d : D} (i : Nat) (h : RS G K F σ δ) (r : Rep G K F v d) : RS G K F (σ.set i (some v)) (δ.set i (some d)) := by
  refine ⟨by rw [List.length_set, List.length_set]; exact h.1, fun j e q => ?_⟩
  by_cases z : i = j
  · subst z
    by_cases l : i < δ.length
    · rw [List.getElem?_set_self l] at q
      cases q
      exact ⟨v, List.getElem?_set_self (by rw [h.1]; exact l), r⟩
    · rw [List.getElem?_eq_none_iff.mpr (by rw [List.length_set]; omega)] at q; cases q
  · rw [List.getElem?_set_ne z] at q ⊢
    exact h.2 j e q
def RX (G : Cfg) (K : PySem.W.Frag) (F H : Hp) (cls : Value) (dop : Option Addr) : XD → Prop
  | .own c fs => cls = .ref (G.cl c) ∧ (fs = [] ∨ ∃ d vs, dop = some d ∧ F d = none ∧ H d = some (.xd ((G.nm c).zip vs)) ∧ vs.length = (G.nm c).length ∧ RepL G K F vs fs)
  | .blt n => cls = .type n ∧ dop = none
def wX (G : Cfg) (K : PySem.W.Frag) (F : Hp) (M : MM) (H : Hp) (EX : XK') : WX := fun cls dop σ H' =>
  ∃ xd δ F' M', Grow G K F M H F' M' H' ∧ RS G K F' σ δ ∧ RX G K F' H' cls dop xd ∧ EX xd δ M'
theorem wX_mono {F F1 : Hp} {M M1 : MM} {H H1 : Hp} {EX : XK'} (g : Grow G K F M H F1 M1 H1) (c : Value) (d : Option Addr) (σ : St) (H' : Hp) (h : wX G K F1 M1 H1 EX c d σ H') : wX G K F M H EX c d σ H' := by
  obtain ⟨xd, δ, F', M', g', a, b, e⟩ := h
  exact ⟨xd, δ, F', M', g.trans g', a, b, e⟩
/-- what is wanted, lifted -/
def Fin (G : Cfg) (K : PySem.W.Frag) (F : Hp) (M : MM) (H : Hp) (Q : D → MM → Prop) (P : VK) : Prop := ∀ v d F' M' H', Grow G K F M H F' M' H' → Rep G K F' v d → Q d M' → P v H'
end

section
variable (G : Cfg) (X : Cx)
def up (w : WE) : TE := fun σ H P => ∃ F M δ Q EX, HM G X.K F M H ∧ RS G X.K F σ δ ∧ w δ M Q EX ∧ Takes X (wX G X.K F M H EX) ∧ Fin G X.K F M H Q P
def upT (w : WT) : TT := fun σ H P => ∃ F M δ Q EX, HM G X.K F M H ∧ RS G X.K F σ δ ∧ w δ M Q EX ∧ Takes X (wX G X.K F M H EX) ∧ ∀ b F' M' H', Grow G X.K F M H F' M' H' → Q b M' → P b H'
def upA (w : WA) : TA := fun σ H P => ∃ F M δ Q EX, HM G X.K F M H ∧ RS G X.K F σ δ ∧ w δ M Q EX ∧ Takes X (wX G X.K F M H EX) ∧ ∀ vs ds F' M' H', Grow G X.K F M H F' M' H' → RepL G X.K F' vs ds → Q ds M' → P vs H'
def upS (w : WS) : TS := fun D σ H => ∃ F M δ E EX, HM G X.K F M H ∧ RS G X.K F σ δ ∧ w E EX δ M ∧ Takes X (wX G X.K F M H EX) ∧
  (∀ σ' δ' F' M' H', Grow G X.K F M H F' M' H' → RS G X.K F' σ' δ' → E.nx δ' M' → D.nx σ' H') ∧
  (∀ v d F' M' H', Grow G X.K F M H F' M' H' → Rep G X.K F' v d → E.rt d M' → D.rt v H') ∧
  (∀ σ' δ' F' M' H', Grow G X.K F M H F' M' H' → RS G X.K F' σ' δ' → E.bk δ' M' → D.bk σ' H') ∧
  (∀ σ' δ' F' M' H', Grow G X.K F M H F' M' H' → RS G X.K F' σ' δ' → E.ct δ' M' → D.ct σ' H')
abbrev DE (e : Expr) (w : WE) : Prop := PE X e (up G X w)
abbrev DT (e : Expr) (w : WT) : Prop := PT X e (upT G X w)
abbrev DW (e : Expr) (w : WT) : Prop := PW X e (upT G X w)
abbrev DA (es : List Expr) (w : WA) : Prop := PA X es (upA G X w)
abbrev DSt (st : Stmt) (w : WS) : Prop := PS X st (upS G X w)
abbrev DSs (st : List Stmt) (w : WS) : Prop := PSs X st (upS G X w)
end

section
variable {G : Cfg} {X : Cx} {e a b : Expr}
theorem pe_imp {t t' : TE} (h : PE X e t) (i : ∀ σ H P, t' σ H P → t σ H P) : PE X e t' := ⟨fun pins s σ H Q I q => h.run pins s σ H Q I (i σ H Q q)⟩
theorem pt_imp {t t' : TT} (h : PT X e t) (i : ∀ σ H P, t' σ H P → t σ H P) : PT X e t' := ⟨fun pins s σ H Q I q => h.run pins s σ H Q I (i σ H Q q)⟩
theorem pw_imp {t t' : TT} (h : PW X e t) (i : ∀ σ H P, t' σ H P → t σ H P) : PW X e t' := ⟨fun wh pins s σ H Q I q => h.run wh pins s σ H Q I (i σ H Q q)⟩
theorem pa_imp {es : List Expr} {t t' : TA} (h : PA X es t) (i : ∀ σ H P, t' σ H P → t σ H P) : PA X es t' := ⟨fun pos pins s σ H Q I q => h.run pos pins s σ H Q I (i σ H Q q)⟩
theorem ps_imp {st : Stmt} {t t' : TS} (h : PS X st t) (i : ∀ D σ H, t' D σ H → t D σ H) : PS X st t' := ⟨fun pins s σ H D I q => h.run pins s σ H D I (i D σ H q)⟩
theorem pss_imp {st : List Stmt} {t t' : TS} (h : PSs X st t) (i : ∀ D σ H, t' D σ H → t D σ H) : PSs X st t' := ⟨fun pins s σ H D I q => h.run pins s σ H D I (i D σ H q)⟩

/-! ### names, constants -/
def wV (i : Nat) : WE := fun δ M Q _ => match δ[i]? with
  | some (some d) => Q d M
  | _ => False
theorem wV_elim {i : Nat} {δ : DS} {M : MM} {Q : D → MM → Prop} {EX : XK'} (h : wV i δ M Q EX) : ∃ d, δ[i]? = some (some d) ∧ Q d M := by
  unfold wV at h
  split at h
  · exact ⟨_, by assumption, h⟩
  · exact h.elim
theorem de_v (i : Nat) {x : Str} {pos : Pos} (hN : X.N[i]? = some x := by rfl) (hv : Vis X.env.scope x := by first | exact Or.inl rfl | exact Or.inr (Or.inl rfl) | exact Or.inr (Or.inr rfl)) (hd : (x == ("__debug__" : Str)) = false := by decide)
    (hcd : (x == ("__classdict__" : Str)) = false := by decide) : DE G X (.Name x pos) (wV i) := by
  refine pe_imp (pe_var (i := i) hN hv hd hcd) fun σ H P ⟨F, M, δ, Q, EX, hm, rs, w, tk, f⟩ => ?_
  obtain ⟨d, e, q⟩ := wV_elim w
  obtain ⟨v, e', r⟩ := rs.2 i d e
  exact ⟨v, e', f v d F M H (.refl hm) r q⟩
def wC (d : D) : WE := fun _ M Q _ => Q d M
theorem up_c {v : V} {d : D} (r : ∀ K F, Rep G K F v d) (σ : St) (H : Hp) (P : VK) (h : up G X (wC d) σ H P) : tC v σ H P := by
  obtain ⟨F, M, δ, Q, EX, hm, rs, w, tk, f⟩ := h
  exact f v d F M H (.refl hm) (r _ _) w
theorem de_int {i j pos} : DE G X (.Constant (.int i) j pos) (wC (.int i)) := pe_imp pe_int (up_c fun _ _ => .int i)
theorem de_bl {b j pos} : DE G X (.Constant (.bool b) j pos) (wC (.bl b)) := pe_imp pe_bl (up_c fun _ _ => .bl b)
theorem de_non {j pos} : DE G X (.Constant .none j pos) (wC .non) := pe_imp pe_non (up_c fun _ _ => .non)
theorem de_str {x j pos} : DE G X (.Constant (.str x) j pos) (wC (.str x)) := pe_imp pe_str (up_c fun _ _ => .str x)

/-! ### two in a row, operators -/
abbrev WR2 := D → D → MM → (D → MM → Prop) → Prop
/-- an operator's reading by trees -/
def Sim2 (G : Cfg) (K : PySem.W.Frag) (r : R2) (w : WR2) : Prop := ∀ F M H x y dx dy Q P, HM G K F M H → Rep G K F x dx → Rep G K F y dy → w dx dy M Q → Fin G K F M H Q P → r x y H P
def wOp (w : WR2) (wa wb : WE) : WE := fun δ M Q EX => wa δ M (fun x M1 => wb δ M1 (fun y M2 => w x y M2 Q) EX) EX
theorem up_op {r : R2} {w : WR2} {wa wb : WE} (s : Sim2 G X.K r w) (σ : St) (H : Hp) (P : VK) (h : up G X (wOp w wa wb) σ H P) : tOp r (up G X wa) (up G X wb) σ H P := by
  obtain ⟨F, M, δ, Q, EX, hm, rs, h, tk, f⟩ := h
  refine ⟨F, M, δ, _, EX, hm, rs, h, tk, fun x dx F1 M1 H1 g1 r1 h1 => ?_⟩
  refine ⟨F1, M1, δ, _, EX, g1.hm, rs.mono g1.ext, h1, tk.imp (wX_mono g1), fun y dy F2 M2 H2 g2 r2 h2 => ?_⟩
  exact s F2 M2 H2 x y dx dy Q P g2.hm (r1.mono g2.ext) r2 h2 fun v d F3 M3 H3 g3 r3 q => f v d F3 M3 H3 ((g1.trans g2).trans g3) r3 q
theorem de_op {op : Operator} {r : R2} {w : WR2} {wa wb : WE} {pos : Pos} (ho : OpR X (binaryOp op) r) (s : Sim2 G X.K r w) (ha : DE G X a wa) (hb : DE G X b wb) : DE G X (.BinOp a op b pos) (wOp w wa wb) := pe_imp (pe_op ho ha hb) (up_op s)
theorem de_cmp {op : CmpOp} {r : R2} {w : WR2} {wa wb : WE} {pos : Pos} (ho : OpR X (compareOp op) r) (s : Sim2 G X.K r w) (ha : DE G X a wa) (hb : DE G X b wb) (hm : behindInMarks op b = false) : DE G X (.Compare a [op] [b] pos) (wOp w wa wb) := pe_imp (pe_cmpR ho ha hb hm) (up_op s)
theorem de_ix {r : R2} {w : WR2} {wa wb : WE} {pos : Pos} (hr : IxR X r) (s : Sim2 G X.K r w) (ha : DE G X a wa) (hb : DE G X b wb) (hs : PlainIx b) : DE G X (.Subscript a b pos) (wOp w wa wb) := pe_imp (pe_ix hr ha hb hs) (up_op s)

/-- a bool's value as a test -/
def wTst (w : WE) : WT := fun δ M Q EX => w δ M (fun d M1 => ∃ c, d = .bl c ∧ Q c M1) EX
theorem dt_val {w : WE} (h : DE G X e w) (he : ∀ whole, isTrue e X.env whole = (do let v ← whole; standAt e.pos; holding [v] (truthy v)) := by intro _; rfl) : DT G X e (wTst w) := by
  refine pt_imp (pt_val h he) fun σ H P ⟨F, M, δ, Q, EX, hm, rs, h, tk, f⟩ => ?_
  refine ⟨F, M, δ, _, EX, hm, rs, h, tk, fun v d F' M' H' g r ⟨c, e, q⟩ => ?_⟩
  subst e
  cases r
  exact ⟨c, rfl, f c F' M' H' g q⟩
theorem dt_cmp {op : CmpOp} {r : R2} {w : WR2} {wa wb : WE} {pos : Pos} (ho : OpR X (compareOp op) r) (s : Sim2 G X.K r w) (ha : DE G X a wa) (hb : DE G X b wb) (hm : behindInMarks op b = false) : DT G X (.Compare a [op] [b] pos) (wTst (wOp w wa wb)) := by
  refine pt_imp (pt_cmpR ho ha hb hm) fun σ H P ⟨F, M, δ, Q, EX, hm, rs, h, tk, f⟩ => ?_
  refine up_op s σ H _ ⟨F, M, δ, _, EX, hm, rs, h, tk, fun v d F' M' H' g r ⟨c, e, q⟩ => ?_⟩
  subst e
  cases r
  exact ⟨c, rfl, f c F' M' H' g q⟩
/-! ### and, or, not -/
def wAndT (p q : WT) : WT := fun δ M Q EX => p δ M (fun c M1 => if c = true then q δ M1 Q EX else Q false M1) EX
def wOrT (p q : WT) : WT := fun δ M Q EX => p δ M (fun c M1 => if c = true then Q true M1 else q δ M1 Q EX) EX
def wNotT (p : WT) : WT := fun δ M Q EX => p δ M (fun c M1 => Q (!c) M1) EX
theorem dw_and1 {w : WT} {pos} (h : DT G X a w) : DW G X (.BoolOp .And [a] pos) w := pw_and1 h
theorem dw_or1 {w : WT} {pos} (h : DT G X a w) : DW G X (.BoolOp .Or [a] pos) w := pw_or1 h
theorem up_and {p q : WT} (σ : St) (H : Hp) (P : Bool → Hp → Prop) (h : upT G X (wAndT p q) σ H P) : tAnd (upT G X p) (upT G X q) σ H P := by
  obtain ⟨F, M, δ, Q, EX, hm, rs, h, tk, f⟩ := h
  refine ⟨F, M, δ, _, EX, hm, rs, h, tk, fun c F1 M1 H1 g1 h1 => ?_⟩
  cases c with
  | true => exact ⟨F1, M1, δ, Q, EX, g1.hm, rs.mono g1.ext, h1, tk.imp (wX_mono g1), fun b F2 M2 H2 g2 q => f b F2 M2 H2 (g1.trans g2) q⟩
  | false => exact f false F1 M1 H1 g1 h1
theorem up_or {p q : WT} (σ : St) (H : Hp) (P : Bool → Hp → Prop) (h : upT G X (wOrT p q) σ H P) : tOr (upT G X p) (upT G X q) σ H P := by
  obtain ⟨F, M, δ, Q, EX, hm, rs, h, tk, f⟩ := h
  refine ⟨F, M, δ, _, EX, hm, rs, h, tk, fun c F1 M1 H1 g1 h1 => ?_⟩
  cases c with
  | true => exact f true F1 M1 H1 g1 h1
  | false => exact ⟨F1, M1, δ, Q, EX, g1.hm, rs.mono g1.ext, h1, tk.imp (wX_mono g1), fun b F2 M2 H2 g2 q => f b F2 M2 H2 (g1.trans g2) q⟩
theorem dw_and {p q : WT} {rest : List Expr} {pos} (ha : DT G X a p) (hb : DW G X (.BoolOp .And (b :: rest) pos) q) : DW G X (.BoolOp .And (a :: b :: rest) pos) (wAndT p q) := pw_imp (pw_and ha hb) up_and
theorem dw_or {p q : WT} {rest : List Expr} {pos} (ha : DT G X a p) (hb : DW G X (.BoolOp .Or (b :: rest) pos) q) : DW G X (.BoolOp .Or (a :: b :: rest) pos) (wOrT p q) := pw_imp (pw_or ha hb) up_or
theorem dt_w {w : WT} (h : DW G X e w) : DT G X e w := h.pt
theorem dt_not {p : WT} {pos} (h : DT G X a p) : DT G X (.UnaryOp .Not a pos) (wNotT p) := by
  refine pt_imp (pt_not h) fun σ H P ⟨F, M, δ, Q, EX, hm, rs, h, tk, f⟩ => ?_
  exact ⟨F, M, δ, _, EX, hm, rs, h, tk, fun c F1 M1 H1 g1 q => f (!c) F1 M1 H1 g1 q⟩
/-- .. as values, bools all -/
def wAndV (wa wb : WE) : WE := fun δ M Q EX => wa δ M (fun x M1 => ∃ c, x = .bl c ∧ if c = true then wb δ M1 Q EX else Q (.bl false) M1) EX
def wOrV (wa wb : WE) : WE := fun δ M Q EX => wa δ M (fun x M1 => ∃ c, x = .bl c ∧ if c = true then Q (.bl true) M1 else wb δ M1 Q EX) EX
def wNotV (wa : WE) : WE := fun δ M Q EX => wa δ M (fun x M1 => ∃ c, x = .bl c ∧ Q (.bl (!c)) M1) EX
theorem de_one {op} {w : WE} {pos} (h : DE G X a w) : DE G X (.BoolOp op [a] pos) w := pe_one h
theorem de_and {wa wb : WE} {rest : List Expr} {pos} (ha : DE G X a wa) (hb : DE G X (.BoolOp .And (b :: rest) pos) wb) : DE G X (.BoolOp .And (a :: b :: rest) pos) (wAndV wa wb) := by
  refine pe_imp (pe_and ha hb) fun σ H P ⟨F, M, δ, Q, EX, hm, rs, h, tk, f⟩ => ?_
  refine ⟨F, M, δ, _, EX, hm, rs, h, tk, fun v d F1 M1 H1 g1 r1 ⟨c, e, h1⟩ => ?_⟩
  subst e
  cases r1
  refine ⟨c, rfl, ?_⟩
  cases c with
  | true => exact ⟨F1, M1, δ, Q, EX, g1.hm, rs.mono g1.ext, h1, tk.imp (wX_mono g1), fun v b F2 M2 H2 g2 r q => f v b F2 M2 H2 (g1.trans g2) r q⟩
  | false => exact f _ _ F1 M1 H1 g1 (.bl false) h1
theorem de_or {wa wb : WE} {rest : List Expr} {pos} (ha : DE G X a wa) (hb : DE G X (.BoolOp .Or (b :: rest) pos) wb) : DE G X (.BoolOp .Or (a :: b :: rest) pos) (wOrV wa wb) := by
  refine pe_imp (pe_or ha hb) fun σ H P ⟨F, M, δ, Q, EX, hm, rs, h, tk, f⟩ => ?_
  refine ⟨F, M, δ, _, EX, hm, rs, h, tk, fun v d F1 M1 H1 g1 r1 ⟨c, e, h1⟩ => ?_⟩
  subst e
  cases r1
  refine ⟨c, rfl, ?_⟩
  cases c with
  | true => exact f _ _ F1 M1 H1 g1 (.bl true) h1
  | false => exact ⟨F1, M1, δ, Q, EX, g1.hm, rs.mono g1.ext, h1, tk.imp (wX_mono g1), fun v b F2 M2 H2 g2 r q => f v b F2 M2 H2 (g1.trans g2) r q⟩
theorem de_not {wa : WE} {pos} (h : DE G X a wa) : DE G X (.UnaryOp .Not a pos) (wNotV wa) := by
  refine pe_imp (pe_not h) fun σ H P ⟨F, M, δ, Q, EX, hm, rs, h, tk, f⟩ => ?_
  refine ⟨F, M, δ, _, EX, hm, rs, h, tk, fun v d F1 M1 H1 g1 r1 ⟨c, e, q⟩ => ?_⟩
  subst e
  cases r1
  exact ⟨c, rfl, f _ _ F1 M1 H1 g1 (.bl _) q⟩
def wIf (p : WT) (wa wb : WE) : WE := fun δ M Q EX => p δ M (fun c M1 => if c = true then wa δ M1 Q EX else wb δ M1 Q EX) EX
theorem de_if {c : Expr} {p : WT} {wa wb : WE} {pos} (hc : DT G X c p) (ha : DE G X a wa) (hb : DE G X b wb) : DE G X (.IfExp c a b pos) (wIf p wa wb) := by
  refine pe_imp (pe_ifExp hc ha hb) fun σ H P ⟨F, M, δ, Q, EX, hm, rs, h, tk, f⟩ => ?_
  refine ⟨F, M, δ, _, EX, hm, rs, h, tk, fun c F1 M1 H1 g1 h1 => ?_⟩
  cases c <;> exact ⟨F1, M1, δ, Q, EX, g1.hm, rs.mono g1.ext, h1, tk.imp (wX_mono g1), fun v b F2 M2 H2 g2 r q => f v b F2 M2 H2 (g1.trans g2) r q⟩

/-! ### arguments -/
def wNil : WA := fun _ M Q _ => Q [] M
def wCons (we : WE) (wr : WA) : WA := fun δ M Q EX => we δ M (fun d M1 => wr δ M1 (fun ds M2 => Q (d :: ds) M2) EX) EX
theorem da_nil : DA G X [] wNil := pa_imp pa_nil fun σ H P ⟨F, M, δ, Q, EX, hm, rs, h, tk, f⟩ => f [] [] F M H (.refl hm) .nil h
theorem da_cons {es : List Expr} {we : WE} {wr : WA} (he : DE G X e we) (hr : DA G X es wr) (hst : starEach (e :: es) X.env = (false, eval e X.env) :: starEach es X.env := by rfl) : DA G X (e :: es) (wCons we wr) := by
  refine pa_imp (pa_cons he hr hst) fun σ H P ⟨F, M, δ, Q, EX, hm, rs, h, tk, f⟩ => ?_
  refine ⟨F, M, δ, _, EX, hm, rs, h, tk, fun v d F1 M1 H1 g1 r1 h1 => ?_⟩
  exact ⟨F1, M1, δ, _, EX, g1.hm, rs.mono g1.ext, h1, tk.imp (wX_mono g1), fun vs ds F2 M2 H2 g2 r2 q => f (v :: vs) (d :: ds) F2 M2 H2 (g1.trans g2) (.cons (r1.mono g2.ext) r2) q⟩
end
end DL

set_option Elab.async false
set_option linter.all false
set_option maxRecDepth 100000
namespace DL
open PySem PySem.Spec L2
open PyProof.Rows hiding St

section
variable {G : Cfg} {K : PySem.W.Frag}
/-! ### ints -/
def wI0 (g : Int → Int → D) : WR2 := fun x y M Q => match x, y with
  | .int i, .int j => Q (g i j) M
  | _, _ => False
def wI (C : Int → Int → Prop) (g : Int → Int → D) : WR2 := fun x y M Q => match x, y with
  | .int i, .int j => C i j ∧ Q (g i j) M
  | _, _ => False
theorem sim_I0 {gv : Int → Int → V} {g : Int → Int → D} (hg : ∀ F i j, Rep G K F (gv i j) (g i j)) : Sim2 G K (rI0 gv) (wI0 g) := by
  intro F M H x y dx dy Q P hm rx ry w f
  unfold wI0 at w
  split at w
  · cases rx; cases ry
    exact ⟨_, _, rfl, rfl, f _ _ F M H (.refl hm) (hg _ _ _) w⟩
  · exact w.elim
theorem sim_I {C : Int → Int → Prop} {gv : Int → Int → V} {g : Int → Int → D} (hg : ∀ F i j, Rep G K F (gv i j) (g i j)) : Sim2 G K (rI C gv) (wI C g) := by
  intro F M H x y dx dy Q P hm rx ry w f
  unfold wI at w
  split at w
  · cases rx; cases ry
    exact ⟨_, _, rfl, rfl, w.1, f _ _ F M H (.refl hm) (hg _ _ _) w.2⟩
  · exact w.elim
abbrev wAdd : WR2 := wI0 fun i j => .int (i + j)
abbrev wSub : WR2 := wI0 fun i j => .int (i - j)
abbrev wMul : WR2 := wI CMul fun i j => .int (i * j)
abbrev wDiv : WR2 := wI CDiv fun i j => .int (i / j)
abbrev wMod : WR2 := wI (fun _ j => 0 < j) fun i j => .int (i % j)
abbrev wPow : WR2 := wI CPow fun i j => .int (i ^ j.toNat)
abbrev wLt : WR2 := wI0 fun i j => .bl (decide (i < j))
abbrev wLe : WR2 := wI0 fun i j => .bl (decide (i ≤ j))
abbrev wGt : WR2 := wI0 fun i j => .bl (decide (j < i))
abbrev wGe : WR2 := wI0 fun i j => .bl (decide (j ≤ i))
theorem int_rep {g : Int → Int → Int} : ∀ F i j, Rep G K F (.int (g i j)) (.int (g i j)) := fun _ _ _ => .int _
theorem bl_rep {g : Int → Int → Bool} : ∀ F i j, Rep G K F (.bl (g i j)) (.bl (g i j)) := fun _ _ _ => .bl _

/-! ### data -/
mutual
def toPy : D → Option PyData
  | .non => some .none
  | .bl b => some (.bool b)
  | .int i => some (.int i)
  | .str x => some (.str x)
  | .tup ds => (toPys ds).map .tuple
  | .lst ds => (toPys ds).map .list
  | .frl ds => (toPys ds).map .list
  | _ => none
def toPys : List D → Option (List PyData)
  | [] => some []
  | d :: ds => match toPy d, toPys ds with
    | some p, some ps => some (p :: ps)
    | _, _ => none
end
mutual
theorem toPy_dp {F : Hp} : ∀ {v : V} {d : D} {p : PyData}, Rep G K F v d → toPy d = some p → Dp K F v p
  | _, _, _, .non, e => by simp only [toPy, Option.some.injEq] at e; subst e; exact .non
  | _, _, _, .bl b, e => by simp only [toPy, Option.some.injEq] at e; subst e; exact .bl b
  | _, _, _, .int i, e => by simp only [toPy, Option.some.injEq] at e; subst e; exact .int i
  | _, _, _, .str x, e => by simp only [toPy, Option.some.injEq] at e; subst e; exact .str x
  | _, _, _, .raw v, e => by simp only [toPy] at e; cases e
  | _, _, _, .dct _ _, e => by simp only [toPy] at e; cases e
  | _, _, _, .ins _ _ _, e => by simp only [toPy] at e; cases e
  | _, .tup ds, _, .tup h r, e => by
    simp only [toPy] at e
    cases q : toPys ds with
    | none => rw [q] at e; cases e
    | some ps => rw [q] at e; cases e; exact .tup h (toPys_dp r q)
  | _, .lst ds, _, .lst h r, e => by
    simp only [toPy] at e
    cases q : toPys ds with
    | none => rw [q] at e; cases e
    | some ps => rw [q] at e; cases e; exact .lst (SqL.of h) (toPys_dp r q)
  | _, .frl ds, _, .frl h r, e => by
    simp only [toPy] at e
    cases q : toPys ds with
    | none => rw [q] at e; cases e
    | some ps => rw [q] at e; cases e; exact .lst h (toPys_dp r q)
theorem toPys_dp {F : Hp} : ∀ {vs : List V} {ds : List D} {ps : List PyData}, RepL G K F vs ds → toPys ds = some ps → DpAll K F vs ps
  | _, _, _, .nil, e => by simp only [toPys, Option.some.injEq] at e; subst e; exact .nil
  | _, d :: ds, _, .cons r t, e => by
    simp only [toPys] at e
    split at e
    · rename_i p ps q1 q2
      cases e
      exact .cons (toPy_dp r q1) (toPys_dp t q2)
    · cases e
end
mutual
theorem Dp.up {F H : Hp} (e : Same F H) : ∀ {v : V} {p : PyData}, Dp K F v p → Dp K H v p
  | _, _, .non => .non
  | _, _, .bl b => .bl b
  | _, _, .int i => .int i
  | _, _, .str x => .str x
  | _, _, .lst h r => .lst (e.seq h) (DpAll.up e r)
  | _, _, .tup h r => .tup (sqT_mono e h) (DpAll.up e r)
theorem DpAll.up {F H : Hp} (e : Same F H) : ∀ {vs : List V} {ps : List PyData}, DpAll K F vs ps → DpAll K H vs ps
  | _, _, .nil => .nil
  | _, _, .cons r t => .cons (Dp.up e r) (DpAll.up e t)
end
/-- data as it now is, a changing list too -/
def py (M : MM) : D → Option PyData
  | .raw (.ref a) => match M a with
    | some (.lst ds) => toPy (.lst ds)
    | _ => none
  | d => toPy d
theorem py_dp {F : Hp} {M : MM} {H : Hp} {v : V} {d : D} {p : PyData} (hm : HM G K F M H) (r : Rep G K F v d) (e : py M d = some p) : Dp K H v p := by
  unfold py at e
  split at e
  · rename_i a
    cases r
    split at e
    · rename_i ds q
      obtain ⟨vs, h1, r1⟩ := hm.mo a _ q
      simp only [toPy] at e
      cases q2 : toPys ds with
      | none => rw [q2] at e; cases e
      | some ps => rw [q2] at e; cases e; exact .lst (SqL.of h1) (DpAll.up hm.sub (toPys_dp r1 q2))
    · cases e
  · exact Dp.up hm.sub (toPy_dp r e)
@[irreducible] def wEq : WR2 := fun x y M Q => ∃ p q, py M x = some p ∧ py M y = some q ∧ SeqAt.shaped p = true ∧ SeqAt.shaped q = true ∧ Q (.bl (PyData.eqv p q)) M
@[irreducible] def wNe : WR2 := fun x y M Q => ∃ p q, py M x = some p ∧ py M y = some q ∧ SeqAt.shaped p = true ∧ SeqAt.shaped q = true ∧ Q (.bl (!PyData.eqv p q)) M
theorem sim_eq : Sim2 G K (rEqD K) wEq := fun F M H x y dx dy Q P hm rx ry hw f => by
  unfold wEq at hw
  obtain ⟨p, q, h1, h2, h3, h4, h⟩ := hw
  exact ⟨p, q, py_dp hm rx h1, py_dp hm ry h2, h3, h4, f _ _ F M H (.refl hm) (.bl _) h⟩
theorem sim_ne : Sim2 G K (rNeD K) wNe := fun F M H x y dx dy Q P hm rx ry hw f => by
  unfold wNe at hw
  obtain ⟨p, q, h1, h2, h3, h4, h⟩ := hw
  exact ⟨p, q, py_dp hm rx h1, py_dp hm ry h2, h3, h4, f _ _ F M H (.refl hm) (.bl _) h⟩
/-- is None, is not None -/
def isN : D → Option Bool
  | .non => some true
  | .raw _ => none
  | _ => some false
def wIsN : WR2 := fun x y M Q => match y, isN x with
  | .non, some b => Q (.bl b) M
  | _, _ => False
def wNotN : WR2 := fun x y M Q => match y, isN x with
  | .non, some b => Q (.bl (!b)) M
  | _, _ => False
theorem isN_rep {F : Hp} {v : V} {d : D} {b : Bool} (r : Rep G K F v d) (e : isN d = some b) : decide (v = .non) = b := by
  cases r <;> simp only [isN, Option.some.injEq, reduceCtorEq] at e <;> subst e <;> simp
theorem sim_isN : Sim2 G K (fun x y H Q => y = .non ∧ Q (.bl (decide (x = .non))) H) wIsN := by
  intro F M H x y dx dy Q P hm rx ry w f
  unfold wIsN at w
  split at w
  · rename_i b e
    cases ry
    exact ⟨rfl, by rw [isN_rep rx e]; exact f _ _ F M H (.refl hm) (.bl _) w⟩
  · exact w.elim
theorem sim_notN : Sim2 G K (fun x y H Q => y = .non ∧ Q (.bl (!decide (x = .non))) H) wNotN := by
  intro F M H x y dx dy Q P hm rx ry w f
  unfold wNotN at w
  split at w
  · rename_i b e
    cases ry
    exact ⟨rfl, by rw [isN_rep rx e]; exact f _ _ F M H (.refl hm) (.bl _) w⟩
  · exact w.elim

/-! ### lists as they are now -/
def lstOf (M : MM) : D → Option (List D)
  | .lst ds => some ds
  | .raw (.ref a) => match M a with
    | some (.lst ds) => some ds
    | _ => none
  | _ => none
theorem lstOf_rep {F : Hp} {M : MM} {H : Hp} {v : V} {d : D} {ds : List D} (hm : HM G K F M H) (r : Rep G K F v d) (e : lstOf M d = some ds) : ∃ a vs, v = .ref a ∧ H a = some (.lst vs) ∧ RepL G K F vs ds := by
  unfold lstOf at e
  split at e
  · cases e
    cases r with
    | lst h r => exact ⟨_, _, rfl, hm.sub _ _ h, r⟩
  · rename_i a
    split at e
    · rename_i q
      cases e
      cases r
      obtain ⟨vs, h1, r1⟩ := hm.mo a _ q
      exact ⟨a, vs, rfl, h1, r1⟩
    · cases e
  · cases e
/-- a list or a tuple, as it is now -/
def seqOf (M : MM) : D → Option (List D)
  | .tup ds => some ds
  | .frl ds => some ds
  | d => lstOf M d
theorem seqOf_rep {F : Hp} {M : MM} {H : Hp} {v : V} {d : D} {ds : List D} (hm : HM G K F M H) (r : Rep G K F v d) (e : seqOf M d = some ds) : ∃ a vs, v = .ref a ∧ (SqL K H a vs ∨ SqT K H a vs) ∧ RepL G K F vs ds := by
  unfold seqOf at e
  split at e
  · cases e
    cases r with
    | tup h r => exact ⟨_, _, rfl, .inr (sqT_mono hm.sub h), r⟩
  · cases e
    cases r with
    | frl h r => exact ⟨_, _, rfl, .inl (hm.sub.seq h), r⟩
  · obtain ⟨a, vs, e1, h1, r1⟩ := lstOf_rep hm r e
    exact ⟨a, vs, e1, .inl (SqL.of h1), r1⟩
/-- xs + ys, a new list -/
@[irreducible] def wCat : WR2 := fun x y M Q => match lstOf M x, lstOf M y with
  | some xs, some ys => xs.length + ys.length ≤ sizeLine ∧ Q (.lst (xs ++ ys)) M
  | _, _ => False
theorem sim_cat : Sim2 G K rCat wCat := by
  intro F M H x y dx dy Q P hm rx ry w f
  unfold wCat at w
  split at w
  · rename_i xs ys e1 e2
    obtain ⟨a, vs, rfl, h1, r1⟩ := lstOf_rep hm rx e1
    obtain ⟨b, ws, rfl, h2, r2⟩ := lstOf_rep hm ry e2
    refine ⟨a, b, vs, ws, rfl, rfl, h1, h2, by rw [r1.len, r2.len]; exact w.1, fun p hp => ?_⟩
    have g := hm.new (o := .lst (vs ++ ws)) hp
    exact f _ _ _ _ _ g (.lst upd_same ((r1.app r2).mono g.ext)) w.2
  · exact w.elim
def repL {α : Type} (k : Int) (xs : List α) : List α := (List.replicate k.toNat xs).flatten
theorem RepL.repL {F : Hp} {vs : List V} {ds : List D} (r : RepL G K F vs ds) (k : Int) : RepL G K F (repL k vs) (repL k ds) := by
  unfold DL.repL
  generalize k.toNat = n
  induction n with
  | zero => exact .nil
  | succ n ih => rw [List.replicate_succ, List.replicate_succ, List.flatten_cons, List.flatten_cons]; exact r.app ih
def wRep : WR2 := fun x y M Q => match lstOf M x, y with
  | some xs, .int k => (-(2 ^ 63) ≤ k ∧ k < 2 ^ 63) ∧ xs.length * k.toNat ≤ sizeLine ∧ Q (.lst (repL k xs)) M
  | _, _ => False
theorem sim_rep : Sim2 G K rRep wRep := by
  intro F M H x y dx dy Q P hm rx ry w f
  unfold wRep at w
  split at w
  · rename_i xs k e1
    obtain ⟨a, vs, rfl, h1, r1⟩ := lstOf_rep hm rx e1
    cases ry
    refine ⟨a, k, vs, rfl, rfl, h1, w.1.1, w.1.2, by rw [r1.len]; exact w.2.1, fun p hp => ?_⟩
    have g := hm.new (o := .lst (List.replicate k.toNat vs).flatten) hp
    exact f _ _ _ _ _ g (.lst upd_same ((r1.repL k).mono g.ext)) w.2.2
  · exact w.elim
/-- t + u -/
def wCatT : WR2 := fun x y M Q => match x, y with
  | .tup xs, .tup ys => xs.length + ys.length ≤ sizeLine ∧ Q (.tup (xs ++ ys)) M
  | _, _ => False
theorem RepL.nil_iff {F : Hp} {vs : List V} {ds : List D} (r : RepL G K F vs ds) : vs = [] ↔ ds = [] := by
  cases r with
  | nil => simp
  | cons _ _ => simp
theorem sim_catT : Sim2 G K (rCatA K) wCatT := by
  intro F M H x y dx dy Q P hm rx ry w f
  unfold wCatT at w
  split at w
  · rename_i xs ys
    cases rx with
    | tup h1 r1 =>
      cases ry with
      | tup h2 r2 =>
        rename_i a vs b ws
        refine ⟨a, b, vs, ws, rfl, rfl, sqT_mono hm.sub h1, sqT_mono hm.sub h2, by rw [r1.len, r2.len]; exact w.1, fun e => ?_, fun _ e => ?_, fun _ _ p hp => ?_⟩
        · have e' := r1.nil_iff.mp e
          subst e'
          exact f _ _ F M H (.refl hm) (.tup h2 r2) w.2
        · have e' := r2.nil_iff.mp e
          subst e'
          exact f _ _ F M H (.refl hm) (.tup h1 r1) (by have z := w.2; rw [List.append_nil] at z; exact z)
        · have g := hm.new (o := .tup (vs ++ ws)) hp
          exact f _ _ _ _ _ g (.tup (SqT.of upd_same) ((r1.app r2).mono g.ext)) w.2
  · exact w.elim
/-! ### items -/
def atD (xs : List D) (i : Int) : Option D := (ixN xs.length i).bind fun j => xs[j]?
theorem atD_rep {F : Hp} {vs : List V} {ds : List D} {i : Int} {d : D} (r : RepL G K F vs ds) (e : atD ds i = some d) : ∃ v, atI vs i = some v ∧ Rep G K F v d := by
  unfold atD at e
  unfold atI
  rw [r.len]
  cases q : ixN ds.length i with
  | none => rw [q] at e; cases e
  | some j =>
    rw [q] at e
    exact r.get e
@[irreducible] def wIxL : WR2 := fun x y M Q => match lstOf M x, y with
  | some xs, .int i => match atD xs i with
    | some d => Q d M
    | none => False
  | _, _ => False
theorem sim_ixL : Sim2 G K (rIxL K) wIxL := by
  intro F M H x y dx dy Q P hm rx ry w f
  unfold wIxL at w
  split at w
  · rename_i xs i e1
    split at w
    · rename_i d e2
      obtain ⟨a, vs, rfl, h1, r1⟩ := lstOf_rep hm rx e1
      cases ry
      obtain ⟨v, e3, r3⟩ := atD_rep r1 e2
      exact ⟨a, vs, i, v, rfl, rfl, SqL.of h1, e3, f _ _ F M H (.refl hm) r3 w⟩
    · exact w.elim
  · exact w.elim
@[irreducible] def wIxT : WR2 := fun x y M Q => match x, y with
  | .tup xs, .int i => match atD xs i with
    | some d => Q d M
    | none => False
  | _, _ => False
theorem sim_ixT : Sim2 G K (rIxT K) wIxT := by
  intro F M H x y dx dy Q P hm rx ry w f
  unfold wIxT at w
  split at w
  · rename_i xs i
    split at w
    · rename_i d e2
      cases rx with
      | tup h1 r1 =>
        cases ry
        obtain ⟨v, e3, r3⟩ := atD_rep r1 e2
        exact ⟨_, _, i, v, rfl, rfl, sqT_mono hm.sub h1, e3, f _ _ F M H (.refl hm) r3 w⟩
    · exact w.elim
  · exact w.elim
/-- an item of a list or a tuple -/
@[irreducible] def wIx : WR2 := fun x y M Q => match seqOf M x, y with
  | some xs, .int i => match atD xs i with
    | some d => Q d M
    | none => False
  | _, _ => False
end

section
variable {G : Cfg} {X : Cx} {e o : Expr} {es : List Expr}
/-! ### what is made -/
def wTup (wa : WA) : WE := fun δ M Q EX => wa δ M (fun ds M1 => ds.length ≤ sizeLine ∧ Q (.tup ds) M1) EX
def wLst (wa : WA) : WE := fun δ M Q EX => wa δ M (fun ds M1 => ds.length ≤ sizeLine ∧ Q (.lst ds) M1) EX
/-- a list that will change -/
def wLstM (wa : WA) : WE := fun δ M Q EX => wa δ M (fun ds M1 => ds.length ≤ sizeLine ∧ ∀ p, M1 p = none → Q (.raw (.ref p)) (updM M1 p (.lst ds))) EX
theorem de_tup {wa : WA} {x1} {pos} (h : DA G X es wa) : DE G X (.Tuple es x1 pos) (wTup wa) := by
  refine pe_imp (pe_tup h) fun σ H P ⟨F, M, δ, Q, EX, hm, rs, h, tk, f⟩ => ?_
  refine ⟨F, M, δ, _, EX, hm, rs, h, tk, fun vs ds F1 M1 H1 g1 r1 h1 => ⟨by rw [r1.len]; exact h1.1, fun p hp => ?_⟩⟩
  have g := g1.hm.new (o := .tup vs) hp
  exact f _ _ _ _ _ (g1.trans g) (.tup (SqT.of upd_same) (r1.mono g.ext)) h1.2
theorem de_lst {wa : WA} {pos} (h : DA G X es wa) : DE G X (.List es pos) (wLst wa) := by
  refine pe_imp (pe_lst h) fun σ H P ⟨F, M, δ, Q, EX, hm, rs, h, tk, f⟩ => ?_
  refine ⟨F, M, δ, _, EX, hm, rs, h, tk, fun vs ds F1 M1 H1 g1 r1 h1 => ⟨by rw [r1.len]; exact h1.1, fun p hp => ?_⟩⟩
  have g := g1.hm.new (o := .lst vs) hp
  exact f _ _ _ _ _ (g1.trans g) (.lst upd_same (r1.mono g.ext)) h1.2
theorem de_lstM {wa : WA} {pos} (h : DA G X es wa) : DE G X (.List es pos) (wLstM wa) := by
  refine pe_imp (pe_lst h) fun σ H P ⟨F, M, δ, Q, EX, hm, rs, h, tk, f⟩ => ?_
  refine ⟨F, M, δ, _, EX, hm, rs, h, tk, fun vs ds F1 M1 H1 g1 r1 h1 => ⟨by rw [r1.len]; exact h1.1, fun p hp => ?_⟩⟩
  have g := g1.hm.newM (o := .lst vs) (m := .lst ds) hp ⟨vs, upd_same, r1⟩
  exact f _ _ _ _ _ (g1.trans g) (.raw _) (h1.2 p (g1.hm.free hp).2)
/-- from now on it changes no more -/
@[irreducible] def kFrz (Q : D → MM → Prop) (d : D) (M1 : MM) : Prop := match d with
  | .raw (.ref p) => match M1 p with
    | some (.lst ds) => Q (.lst ds) (delM M1 p)
    | some (.dct ds) => Q (.dct ds) (delM M1 p)
    | some (.ins _ _) => False
    | none => False
  | d => Q d M1
def wFrz (we : WE) : WE := fun δ M Q EX => we δ M (kFrz Q) EX
theorem de_frz {we : WE} (h : DE G X e we) : DE G X e (wFrz we) := by
  refine pe_imp h fun σ H P ⟨F, M, δ, Q, EX, hm, rs, h, tk, f⟩ => ?_
  refine ⟨F, M, δ, _, EX, hm, rs, h, tk, fun v d F1 M1 H1 g1 r1 h1 => ?_⟩
  unfold kFrz at h1
  split at h1
  · rename_i p
    cases r1
    split at h1
    · rename_i ds q
      obtain ⟨F2, g2, r2⟩ := g1.hm.settle q (fun _ _ z => nomatch z)
      exact f _ _ _ _ _ (g1.trans g2) r2 h1
    · rename_i ds q
      obtain ⟨F2, g2, r2⟩ := g1.hm.settle q (fun _ _ z => nomatch z)
      exact f _ _ _ _ _ (g1.trans g2) r2 h1
    · exact h1.elim
    · exact h1.elim
  · exact f _ _ _ _ _ g1 r1 h1

/-! ### built-in calls -/
abbrev WR1 := List D → MM → (D → MM → Prop) → Prop
def SimC (G : Cfg) (K : PySem.W.Frag) (r : List V → Hp → VK → Prop) (w : WR1) : Prop := ∀ F M H vs ds Q P, HM G K F M H → RepL G K F vs ds → w ds M Q → Fin G K F M H Q P → r vs H P
def wB (w : WR1) (wa : WA) : WE := fun δ M Q EX => wa δ M (fun ds M1 => w ds M1 Q) EX
theorem up_b {r : List V → Hp → VK → Prop} {w : WR1} {wa : WA} (s : SimC G X.K r w) (σ : St) (H : Hp) (P : VK) (h : up G X (wB w wa) σ H P) : tCB r (upA G X wa) σ H P := by
  obtain ⟨F, M, δ, Q, EX, hm, rs, h, tk, f⟩ := h
  refine ⟨F, M, δ, _, EX, hm, rs, h, tk, fun vs ds F1 M1 H1 g1 r1 h1 => ?_⟩
  exact s F1 M1 H1 vs ds Q P g1.hm r1 h1 fun v d F2 M2 H2 g2 r2 q => f v d F2 M2 H2 (g1.trans g2) r2 q
theorem de_callB {r : List V → Hp → VK → Prop} {w : WR1} {wa : WA} {x : Str} {id : String} {p pos : Pos} (s : SimC G X.K r w) (hc : CallR X (.builtin id) r) (hm : X.mg x = none) (hv : bootBuiltins x = some (.builtin id)) (ha : DA G X (e :: es) wa) (hg : Gl X x := by rfl) (hn : x ≠ "__name__" := by decide) (hdb : (x == ("__debug__" : Str)) = false := by decide)
    (he : starEach (e :: es) X.env = (false, eval e X.env) :: starEach es X.env := by rfl) (hpl : (backTo pos (starEach es X.env)).any (·.1) = false := by rfl) : DE G X (.Call (.Name x p) (e :: es) [] pos) (wB w wa) := pe_imp (pe_callB hc hg hm hv ha hn hdb he hpl) (up_b s)
theorem de_callT {r : List V → Hp → VK → Prop} {w : WR1} {wa : WA} {x : Str} {T : String} {p pos : Pos} (s : SimC G X.K r w) (hc : CallR X (.type T) r) (hm : X.mg x = none) (hv : bootBuiltins x = some (.type T)) (ha : DA G X (e :: es) wa) (hg : Gl X x := by rfl) (hn : x ≠ "__name__" := by decide) (hdb : (x == ("__debug__" : Str)) = false := by decide)
    (he : starEach (e :: es) X.env = (false, eval e X.env) :: starEach es X.env := by rfl) (hpl : (backTo pos (starEach es X.env)).any (·.1) = false := by rfl) : DE G X (.Call (.Name x p) (e :: es) [] pos) (wB w wa) := pe_imp (pe_callTy hc hg hm hv ha hn hdb he hpl) (up_b s)
@[irreducible] def wLen : WR1 := fun ds M Q => match ds with
  | [d] => match seqOf M d with
    | some xs => Q (.int xs.length) M
    | none => False
  | _ => False
theorem one_rep {F : Hp} {K : PySem.W.Frag} {vs : List V} {d : D} (r : RepL G K F vs [d]) : ∃ v, vs = [v] ∧ Rep G K F v d := by
  cases r with
  | cons r t => cases t; exact ⟨_, rfl, r⟩
theorem sim_len : SimC G X.K (fun xs H Q => ∃ p ys, xs = [.ref p] ∧ (SqL X.K H p ys ∨ SqT X.K H p ys) ∧ Q (.int ys.length) H) wLen := by
  intro F M H vs ds Q P hm r w f
  unfold wLen at w
  split at w
  · split at w
    · rename_i d xs e
      obtain ⟨v, rfl, r1⟩ := one_rep r
      obtain ⟨a, ws, rfl, h1, r2⟩ := seqOf_rep hm r1 e
      exact ⟨a, ws, rfl, h1, by rw [r2.len]; exact f _ _ F M H (.refl hm) (.int _) w⟩
    · exact w.elim
  · exact w.elim
/-- list(xs): a new list, frozen, or a changing one -/
@[irreducible] def wListOf : WR1 := fun ds M Q => match ds with
  | [d] => match seqOf M d with
    | some xs => Q (.lst xs) M
    | none => False
  | _ => False
@[irreducible] def wListOfM : WR1 := fun ds M Q => match ds with
  | [d] => match seqOf M d with
    | some xs => ∀ p, M p = none → Q (.raw (.ref p)) (updM M p (.lst xs))
    | none => False
  | _ => False
abbrev rListOf (K : PySem.W.Frag) : List V → Hp → VK → Prop := fun xs H Q => ∃ p ys, xs = [.ref p] ∧ (SqL K H p ys ∨ SqT K H p ys) ∧ ∀ l, H l = none → Q (.ref l) (upd H l (.lst ys))
theorem sim_listOf {K : PySem.W.Frag} : SimC G K (rListOf K) wListOf := by
  intro F M H vs ds Q P hm r w f
  unfold wListOf at w
  split at w
  · split at w
    · rename_i d xs e
      obtain ⟨v, rfl, r1⟩ := one_rep r
      obtain ⟨a, ws, rfl, h1, r2⟩ := seqOf_rep hm r1 e
      refine ⟨a, ws, rfl, h1, fun l hl => ?_⟩
      have g := hm.new (o := .lst ws) hl
      exact f _ _ _ _ _ g (.lst upd_same (r2.mono g.ext)) w
    · exact w.elim
  · exact w.elim
theorem sim_listOfM {K : PySem.W.Frag} : SimC G K (rListOf K) wListOfM := by
  intro F M H vs ds Q P hm r w f
  unfold wListOfM at w
  split at w
  · split at w
    · rename_i d xs e
      obtain ⟨v, rfl, r1⟩ := one_rep r
      obtain ⟨a, ws, rfl, h1, r2⟩ := seqOf_rep hm r1 e
      refine ⟨a, ws, rfl, h1, fun l hl => ?_⟩
      have g := hm.newM (o := .lst ws) (m := .lst xs) hl ⟨ws, upd_same, r2⟩
      exact f _ _ _ _ _ g (.raw _) (w l (hm.free hl).2)
    · exact w.elim
  · exact w.elim
@[irreducible] def wTupOf : WR1 := fun ds M Q => match ds with
  | [d] => match seqOf M d with
    | some xs => Q (.tup xs) M
    | none => False
  | _ => False
theorem sim_tupOf {K : PySem.W.Frag} : SimC G K (fun xs H Q => ∃ p ys, xs = [.ref p] ∧ ((SqL K H p ys ∧ ∀ l, H l = none → Q (.ref l) (upd H l (.tup ys))) ∨ (SqT K H p ys ∧ Q (.ref p) H))) wTupOf := by
  intro F M H vs ds Q P hm r w f
  unfold wTupOf at w
  split at w
  · split at w
    · rename_i d xs e
      obtain ⟨v, rfl, r1⟩ := one_rep r
      unfold seqOf at e
      split at e
      · cases e
        cases r1 with
        | tup h r => exact ⟨_, _, rfl, .inr ⟨sqT_mono hm.sub h, f _ _ F M H (.refl hm) (.tup h r) w⟩⟩
      · cases e
        cases r1 with
        | @frl a ws _ h r =>
          refine ⟨_, _, rfl, .inl ⟨hm.sub.seq h, fun l hl => ?_⟩⟩
          have g := hm.new (o := .tup ws) hl
          exact f _ _ _ _ _ g (.tup (SqT.of upd_same) (r.mono g.ext)) w
      · obtain ⟨a, ws, rfl, h1, r2⟩ := lstOf_rep hm r1 e
        refine ⟨a, ws, rfl, .inl ⟨SqL.of h1, fun l hl => ?_⟩⟩
        have g := hm.new (o := .tup ws) hl
        exact f _ _ _ _ _ g (.tup (SqT.of upd_same) (r2.mono g.ext)) w
    · exact w.elim
  · exact w.elim
/-- ints of a list -/
def intsOf : List D → Option (List Int)
  | [] => some []
  | .int i :: r => (intsOf r).map (i :: ·)
  | _ :: _ => none
theorem intsOf_map : ∀ {ds : List D} {ns : List Int}, intsOf ds = some ns → ds = ns.map D.int
  | [], _, e => by cases e; rfl
  | .int i :: r, _, e => by
    simp only [intsOf] at e
    cases q : intsOf r with
    | none => rw [q] at e; cases e
    | some ns => rw [q] at e; cases e; rw [intsOf_map q]; rfl
  | .non :: r, _, e => by simp [intsOf] at e
  | .bl _ :: r, _, e => by simp [intsOf] at e
  | .str _ :: r, _, e => by simp [intsOf] at e
  | .tup _ :: r, _, e => by simp [intsOf] at e
  | .lst _ :: r, _, e => by simp [intsOf] at e
  | .frl _ :: r, _, e => by simp [intsOf] at e
  | .dct _ :: r, _, e => by simp [intsOf] at e
  | .ins _ _ :: r, _, e => by simp [intsOf] at e
  | .raw _ :: r, _, e => by simp [intsOf] at e
theorem intsOf_ints : ∀ (ns : List Int), intsOf (ns.map D.int) = some ns
  | [] => rfl
  | n :: ns => by simp [intsOf, intsOf_ints ns]
def lintsOf (M : MM) (d : D) : Option (List Int) := (lstOf M d).bind intsOf
theorem lints_rep {F : Hp} {K : PySem.W.Frag} {M : MM} {H : Hp} {v : V} {d : D} {ns : List Int} (hm : HM G K F M H) (r : Rep G K F v d) (e : lintsOf M d = some ns) : ∃ a, v = .ref a ∧ H a = some (.lst (ns.map V.int)) := by
  unfold lintsOf at e
  cases q : lstOf M d with
  | none => rw [q] at e; cases e
  | some ds =>
    rw [q] at e
    have e2 : ds = ns.map D.int := intsOf_map e
    subst e2
    obtain ⟨a, vs, rfl, h1, r1⟩ := lstOf_rep hm r q
    rw [r1.ints] at h1
    exact ⟨a, rfl, h1⟩
/-- sorted(xs) of ints: some list in order with the same items -/
@[irreducible] def wSorted : WR1 := fun ds M Q => match ds with
  | [d] => match lintsOf M d with
    | some ns => ∀ ns' : List Int, ns'.Perm ns → ns'.Pairwise (· ≤ ·) → Q (.lst (ns'.map D.int)) M
    | none => False
  | _ => False
@[irreducible] def wSortedM : WR1 := fun ds M Q => match ds with
  | [d] => match lintsOf M d with
    | some ns => ∀ ns' : List Int, ns'.Perm ns → ns'.Pairwise (· ≤ ·) → ∀ p, M p = none → Q (.raw (.ref p)) (updM M p (.lst (ns'.map D.int)))
    | none => False
  | _ => False
theorem sim_sorted {K : PySem.W.Frag} : SimC G K (rSortedI K) wSorted := by
  intro F M H vs ds Q P hm r w f
  unfold wSorted at w
  split at w
  · split at w
    · rename_i d ns e
      obtain ⟨v, rfl, r1⟩ := one_rep r
      obtain ⟨a, rfl, h1⟩ := lints_rep hm r1 e
      refine ⟨a, ns, rfl, SqL.of h1, fun ns' p h2 h3 hp => ?_⟩
      have g := hm.new (o := .lst (ns'.map V.int)) hp
      exact f _ _ _ _ _ g (.lst upd_same (.of_ints _)) (w ns' h2 h3)
    · exact w.elim
  · exact w.elim
theorem sim_sortedM {K : PySem.W.Frag} : SimC G K (rSortedI K) wSortedM := by
  intro F M H vs ds Q P hm r w f
  unfold wSortedM at w
  split at w
  · split at w
    · rename_i d ns e
      obtain ⟨v, rfl, r1⟩ := one_rep r
      obtain ⟨a, rfl, h1⟩ := lints_rep hm r1 e
      refine ⟨a, ns, rfl, SqL.of h1, fun ns' p h2 h3 hp => ?_⟩
      have g := hm.newM (o := .lst (ns'.map V.int)) (m := .lst (ns'.map D.int)) hp ⟨_, upd_same, .of_ints _⟩
      exact f _ _ _ _ _ g (.raw _) (w ns' h2 h3 p (hm.free hp).2)
    · exact w.elim
  · exact w.elim
@[irreducible] def wMax : WR1 := fun ds M Q => match ds with
  | [d] => match lintsOf M d with
    | some ns => 0 < ns.length ∧ ∀ m, m ∈ ns → (∀ y, y ∈ ns → y ≤ m) → Q (.int m) M
    | none => False
  | _ => False
@[irreducible] def wMin : WR1 := fun ds M Q => match ds with
  | [d] => match lintsOf M d with
    | some ns => 0 < ns.length ∧ ∀ m, m ∈ ns → (∀ y, y ∈ ns → m ≤ y) → Q (.int m) M
    | none => False
  | _ => False
@[irreducible] def wSum : WR1 := fun ds M Q => match ds with
  | [d] => match lintsOf M d with
    | some ns => Q (.int ns.sum) M
    | none => False
  | _ => False
theorem sim_max {K : PySem.W.Frag} : SimC G K (rMax K) wMax := by
  intro F M H vs ds Q P hm r w f
  unfold wMax at w
  split at w
  · split at w
    · rename_i d ns e
      obtain ⟨v, rfl, r1⟩ := one_rep r
      obtain ⟨a, rfl, h1⟩ := lints_rep hm r1 e
      exact ⟨a, ns, rfl, SqL.of h1, w.1, fun m h2 h3 => f _ _ F M H (.refl hm) (.int _) (w.2 m h2 h3)⟩
    · exact w.elim
  · exact w.elim
theorem sim_min {K : PySem.W.Frag} : SimC G K (rMin K) wMin := by
  intro F M H vs ds Q P hm r w f
  unfold wMin at w
  split at w
  · split at w
    · rename_i d ns e
      obtain ⟨v, rfl, r1⟩ := one_rep r
      obtain ⟨a, rfl, h1⟩ := lints_rep hm r1 e
      exact ⟨a, ns, rfl, SqL.of h1, w.1, fun m h2 h3 => f _ _ F M H (.refl hm) (.int _) (w.2 m h2 h3)⟩
    · exact w.elim
  · exact w.elim
theorem sim_sum {K : PySem.W.Frag} : SimC G K (rSum K) wSum := by
  intro F M H vs ds Q P hm r w f
  unfold wSum at w
  split at w
  · split at w
    · rename_i d ns e
      obtain ⟨v, rfl, r1⟩ := one_rep r
      obtain ⟨a, rfl, h1⟩ := lints_rep hm r1 e
      exact ⟨a, ns, rfl, SqL.of h1, f _ _ F M H (.refl hm) (.int _) w⟩
    · exact w.elim
  · exact w.elim
def wInt1 : WR1 := fun ds M Q => match ds with
  | [.int i] => Q (.int i) M
  | [.bl k] => Q (.int (if k then 1 else 0)) M
  | _ => False
theorem sim_int1 {K : PySem.W.Frag} : SimC G K (fun xs H Q => (∃ i, xs = [.int i] ∧ Q (.int i) H) ∨ ∃ k, xs = [.bl k] ∧ Q (.int (if k then 1 else 0)) H) wInt1 := by
  intro F M H vs ds Q P hm r w f
  unfold wInt1 at w
  split at w
  · obtain ⟨v, rfl, r1⟩ := one_rep r
    cases r1
    exact .inl ⟨_, rfl, f _ _ F M H (.refl hm) (.int _) w⟩
  · obtain ⟨v, rfl, r1⟩ := one_rep r
    cases r1
    exact .inr ⟨_, rfl, f _ _ F M H (.refl hm) (.int _) w⟩
  · exact w.elim

/-! ### methods of changing lists -/
abbrev WRm := D → List D → MM → (D → MM → Prop) → Prop
/-- by a changing list's address -/
@[irreducible] def onL (w : Addr → List D → List D → MM → (D → MM → Prop) → Prop) : WRm := fun x ds M Q => match x with
  | .raw (.ref a) => match M a with
    | some (.lst xs) => w a xs ds M Q
    | _ => False
  | _ => False
def SimL (G : Cfg) (K : PySem.W.Frag) (r : V → List V → Hp → VK → Prop) (w : Addr → List D → List D → MM → (D → MM → Prop) → Prop) : Prop :=
  ∀ F M H a xs zs vs ds Q P, HM G K F M H → M a = some (.lst xs) → H a = some (.lst zs) → RepL G K F zs xs → RepL G K F vs ds → w a xs ds M Q → Fin G K F M H Q P → r (.ref a) vs H P
def wM (w : Addr → List D → List D → MM → (D → MM → Prop) → Prop) (wo : WE) (wa : WA) : WE := fun δ M Q EX => wo δ M (fun x M1 => (∃ a xs, x = .raw (.ref a) ∧ M1 a = some (.lst xs)) ∧ wa δ M1 (fun ds M2 => onL w x ds M2 Q) EX) EX
theorem Grow.lst {K : PySem.W.Frag} {F F' : Hp} {M M' : MM} {H H' : Hp} {a : Addr} {xs : List D} (g : Grow G K F M H F' M' H') (e : M' a = some (.lst xs)) : ∃ zs, H' a = some (.lst zs) ∧ RepL G K F' zs xs := g.hm.mo a _ e
theorem up_m {r : V → List V → Hp → VK → Prop} {w : Addr → List D → List D → MM → (D → MM → Prop) → Prop} {wo : WE} {wa : WA} (s : SimL G X.K r w) (σ : St) (H : Hp) (P : VK) (h : up G X (wM w wo wa) σ H P) : tBM X.K "list" r (up G X wo) (upA G X wa) σ H P := by
  obtain ⟨F, M, δ, Q, EX, hm, rs, h, tk, f⟩ := h
  refine ⟨F, M, δ, _, EX, hm, rs, h, tk, fun v d F1 M1 H1 g1 r1 h1 => ?_⟩
  obtain ⟨⟨a, xs, e, ea⟩, h1⟩ := h1
  subst e
  cases r1
  obtain ⟨zs, hz, rz⟩ := g1.hm.mo a _ ea
  refine ⟨.inl ⟨rfl, zs, SqL.of hz⟩, ?_⟩
  refine ⟨F1, M1, δ, _, EX, g1.hm, rs.mono g1.ext, h1, tk.imp (wX_mono g1), fun vs ds F2 M2 H2 g2 r2 h2 => ?_⟩
  unfold onL at h2
  dsimp only at h2
  split at h2
  · rename_i xs' e2
    obtain ⟨zs2, hz2, rz2⟩ := g2.hm.mo a _ e2
    exact s F2 M2 H2 a xs' zs2 vs ds Q P g2.hm e2 hz2 rz2 r2 h2 fun v d F3 M3 H3 g3 r3 q => f v d F3 M3 H3 ((g1.trans g2).trans g3) r3 q
  · exact h2.elim
theorem de_m {r : V → List V → Hp → VK → Prop} {w : Addr → List D → List D → MM → (D → MM → Prop) → Prop} {wo : WE} {wa : WA} {name : Str} {id : String} {apos cpos : Pos} (s : SimL G X.K r w) (pa : PlainAttrs "list") (slot : Slot "list" name id) (hty : typeOf (.builtin id) = pure (.type "method_descriptor")) (hm : MtR X id r) (ho : DE G X o wo) (ha : DA G X (e :: es) wa)
    (hbase : attributeBase o name X.env (eval o X.env) = eval o X.env := by rfl)
    (hfew : ((backTo cpos (starEach (e :: es) X.env)).all (fun x => !x.1) && (backToKw cpos (keywordEach [] X.env)).all (fun x => x.1.isSome)
      && decide ((e :: es).length + ([] : List Keyword).length + (if ([] : List Keyword).isEmpty then 0 else 1) < 30)) = true := by rfl)
    (hline : (apos.endLine == cpos.line) = true := by rfl) (hs : starEach (e :: es) X.env = (false, eval e X.env) :: starEach es X.env := by rfl) (hplain : (backTo cpos (starEach es X.env)).any (·.1) = false := by rfl) :
    DE G X (.Call (.Attribute o name apos) (e :: es) [] cpos) (wM w wo wa) := pe_imp (pe_bm pa slot hty hm ho ha hbase hfew hline hs hplain) (up_m s)
theorem de_m0 {r : V → List V → Hp → VK → Prop} {w : Addr → List D → List D → MM → (D → MM → Prop) → Prop} {wo : WE} {name : Str} {id : String} {apos cpos : Pos} (s : SimL G X.K r w) (pa : PlainAttrs "list") (slot : Slot "list" name id) (hty : typeOf (.builtin id) = pure (.type "method_descriptor")) (hm : MtR X id r) (ho : DE G X o wo)
    (hbase : attributeBase o name X.env (eval o X.env) = eval o X.env := by rfl) (hline : (apos.endLine == cpos.line) = true := by rfl) :
    DE G X (.Call (.Attribute o name apos) [] [] cpos) (wM w wo wNil) := by
  refine pe_imp (pe_bm0 pa slot hty hm ho hbase hline) fun σ H P h => ?_
  obtain ⟨F, M, δ, Q, EX, hm, rs, h, tk, f⟩ := h
  refine ⟨F, M, δ, _, EX, hm, rs, h, tk, fun v d F1 M1 H1 g1 r1 h1 => ?_⟩
  obtain ⟨⟨a, xs, e, ea⟩, h1⟩ := h1
  subst e
  cases r1
  obtain ⟨zs, hz, rz⟩ := g1.hm.mo a _ ea
  refine ⟨.inl ⟨rfl, zs, SqL.of hz⟩, ?_⟩
  unfold wNil onL at h1
  dsimp only at h1
  rw [ea] at h1
  exact s F1 M1 H1 a xs zs [] [] Q P g1.hm ea hz rz .nil h1 fun v d F3 M3 H3 g3 r3 q => f v d F3 M3 H3 (g1.trans g3) r3 q
def wAppend : Addr → List D → List D → MM → (D → MM → Prop) → Prop := fun a xs ds M Q => match ds with
  | [d] => xs.length < sizeLine ∧ Q .non (updM M a (.lst (xs ++ [d])))
  | _ => False
theorem sim_append {K : PySem.W.Frag} : SimL G K rAppend wAppend := by
  intro F M H a xs zs vs ds Q P hm ea ha rz r w f
  unfold wAppend at w
  split at w
  · obtain ⟨v, rfl, r1⟩ := one_rep r
    refine ⟨a, zs, v, rfl, rfl, ha, by rw [rz.len]; exact w.1, ?_⟩
    exact f _ _ _ _ _ (hm.put (o := .lst (zs ++ [v])) (m' := .lst (xs ++ [_])) ea ⟨_, upd_same, rz.app (.cons r1 .nil)⟩) .non w.2
  · exact w.elim
theorem RepL.dropLast {K : PySem.W.Frag} {F : Hp} {vs : List V} {ds : List D} (r : RepL G K F vs ds) : RepL G K F vs.dropLast ds.dropLast := by
  rw [List.dropLast_eq_take, List.dropLast_eq_take, r.len]
  exact r.take _
theorem RepL.eraseIdx {K : PySem.W.Frag} {F : Hp} : ∀ {vs : List V} {ds : List D} (k : Nat), RepL G K F vs ds → RepL G K F (vs.eraseIdx k) (ds.eraseIdx k)
  | _, _, _, .nil => .nil
  | _, _, 0, .cons _ t => t
  | _, _, k + 1, .cons r t => .cons r (RepL.eraseIdx k t)
def wPop : Addr → List D → List D → MM → (D → MM → Prop) → Prop := fun a xs ds M Q => match ds with
  | [] => match xs[xs.length - 1]? with
    | some d => Q d (updM M a (.lst xs.dropLast))
    | none => False
  | _ => False
theorem sim_pop {K : PySem.W.Frag} : SimL G K rPop wPop := by
  intro F M H a xs zs vs ds Q P hm ea ha rz r w f
  unfold wPop at w
  split at w
  · split at w
    · rename_i d e
      cases r
      obtain ⟨v, e2, r2⟩ := rz.get e
      refine ⟨a, zs, v, rfl, rfl, ha, by rw [rz.len]; exact e2, ?_⟩
      exact f _ _ _ _ _ (hm.put (o := .lst zs.dropLast) (m' := .lst xs.dropLast) ea ⟨_, upd_same, rz.dropLast⟩) r2 w
    · exact w.elim
  · exact w.elim
def wPopAt : Addr → List D → List D → MM → (D → MM → Prop) → Prop := fun a xs ds M Q => match ds with
  | [.int i] => (-(2 ^ 63) ≤ i ∧ i < 2 ^ 63) ∧ match seqIndex? i xs.length with
    | some k => match xs[k]? with
      | some d => Q d (updM M a (.lst (xs.eraseIdx k)))
      | none => False
    | none => False
  | _ => False
theorem sim_popAt {K : PySem.W.Frag} : SimL G K rPopAt wPopAt := by
  intro F M H a xs zs vs ds Q P hm ea ha rz r w f
  unfold wPopAt at w
  split at w
  · obtain ⟨⟨b1, b2⟩, w⟩ := w
    split at w
    · rename_i k ek
      split at w
      · rename_i d e
        obtain ⟨v, rfl, r1⟩ := one_rep r
        cases r1
        obtain ⟨v, e2, r2⟩ := rz.get e
        refine ⟨a, zs, _, k, v, rfl, rfl, ha, b1, b2, by rw [rz.len]; exact ek, e2, ?_⟩
        exact f _ _ _ _ _ (hm.put (o := .lst (zs.eraseIdx k)) (m' := .lst (xs.eraseIdx k)) ea ⟨_, upd_same, rz.eraseIdx k⟩) r2 w
      · exact w.elim
    · exact w.elim
  · exact w.elim
def wInsert : Addr → List D → List D → MM → (D → MM → Prop) → Prop := fun a xs ds M Q => match ds with
  | [.int i, d] => xs.length < sizeLine ∧ (0 ≤ i ∧ i < 2 ^ 63) ∧ Q .non (updM M a (.lst (xs.take i.toNat ++ [d] ++ xs.drop i.toNat)))
  | _ => False
abbrev rInsert : V → List V → Hp → VK → Prop := fun x vs H Q => ∃ (l : Addr) (xs : List V) (i : Int) (y : V), x = .ref l ∧ vs = [.int i, y] ∧ H l = some (.lst xs) ∧ xs.length < sizeLine ∧ 0 ≤ i ∧ i < 2 ^ 63 ∧ Q .non (upd H l (.lst (xs.take i.toNat ++ [y] ++ xs.drop i.toNat)))
theorem sim_insert {K : PySem.W.Frag} : SimL G K rInsert wInsert := by
  intro F M H a xs zs vs ds Q P hm ea ha rz r w f
  unfold wInsert at w
  split at w
  · cases r with
    | cons r1 t =>
      obtain ⟨v, rfl, r2⟩ := one_rep t
      cases r1
      refine ⟨a, zs, _, v, rfl, rfl, ha, by rw [rz.len]; exact w.1, w.2.1.1, w.2.1.2, ?_⟩
      exact f _ _ _ _ _ (hm.put (o := .lst _) (m' := .lst _) ea ⟨_, upd_same, ((rz.take _).app (.cons r2 .nil)).app (rz.drop _)⟩) .non w.2.2
  · exact w.elim
/-- the first one that is equal goes -/
def wRemove : Addr → List D → List D → MM → (D → MM → Prop) → Prop := fun a xs ds M Q => match ds with
  | [.int k] => ∃ (ns : List Int) (j : Nat), xs = ns.map D.int ∧ ns[j]? = some k ∧ (∀ m : Nat, m < j → ns[m]? ≠ some k) ∧ Q .non (updM M a (.lst ((ns.eraseIdx j).map D.int)))
  | _ => False
theorem sim_remove {K : PySem.W.Frag} : SimL G K rRemI wRemove := by
  intro F M H a xs zs vs ds Q P hm ea ha rz r w f
  unfold wRemove at w
  split at w
  · obtain ⟨ns, j, rfl, h1, h2, w⟩ := w
    obtain ⟨v, rfl, r1⟩ := one_rep r
    cases r1
    refine ⟨a, ns, _, j, rfl, rfl, by rw [rz.ints] at ha; exact ha, h1, h2, ?_⟩
    exact f _ _ _ _ _ (hm.put (o := .lst _) (m' := .lst _) ea ⟨_, upd_same, .of_ints _⟩) .non w
  · exact w.elim
end
end DL

set_option Elab.async false
set_option linter.all false
set_option maxRecDepth 100000
namespace DL
open PySem PySem.Spec L2
open PyProof.Rows hiding St

section
variable {G : Cfg} {X : Cx} {e : Expr}
/-! ### statements -/
def wNext : WS := fun E _ δ M => E.nx δ M
def wSeq (w u : WS) : WS := fun E EX δ M => w { E with nx := fun δ' M' => u E EX δ' M' } EX δ M
theorem dss_nil : DSs G X [] wNext := pss_imp pss_nil fun D σ H ⟨F, M, δ, E, EX, hm, rs, h, tk, n, r, b, c⟩ => n σ δ F M H (.refl hm) rs h
theorem up_seq {w u : WS} (D : Ends) (σ : St) (H : Hp) (h : upS G X (wSeq w u) D σ H) : tSeq (upS G X w) (upS G X u) D σ H := by
  obtain ⟨F, M, δ, E, EX, hm, rs, h, tk, n, r, b, c⟩ := h
  refine ⟨F, M, δ, _, EX, hm, rs, h, tk, fun σ' δ' F' M' H' g rs' h' => ?_, r, b, c⟩
  exact ⟨F', M', δ', E, EX, g.hm, rs', h', tk.imp (wX_mono g), fun s2 d2 F2 M2 H2 g2 r2 q => n s2 d2 F2 M2 H2 (g.trans g2) r2 q, fun v d F2 M2 H2 g2 r2 q => r v d F2 M2 H2 (g.trans g2) r2 q,
    fun s2 d2 F2 M2 H2 g2 r2 q => b s2 d2 F2 M2 H2 (g.trans g2) r2 q, fun s2 d2 F2 M2 H2 g2 r2 q => c s2 d2 F2 M2 H2 (g.trans g2) r2 q⟩
theorem dss_cons {st : Stmt} {rest : List Stmt} {w u : WS} (h1 : DSt G X st w) (h2 : DSs G X rest u) : DSs G X (st :: rest) (wSeq w u) := pss_imp (pss_cons h1 h2) up_seq
theorem dss_one {st : Stmt} {w : WS} (h1 : DSt G X st w) : DSs G X [st] w := pss_one h1
theorem ds_pass {pos} : DSt G X (.Pass pos) wNext := ps_imp ps_pass fun D σ H ⟨F, M, δ, E, EX, hm, rs, h, tk, n, r, b, c⟩ => n σ δ F M H (.refl hm) rs h
def wBreak : WS := fun E _ δ M => E.bk δ M
def wCont : WS := fun E _ δ M => E.ct δ M
theorem ds_break {pos} : DSt G X (.Break pos) wBreak := ps_imp ps_break fun D σ H ⟨F, M, δ, E, EX, hm, rs, h, tk, n, r, b, c⟩ => b σ δ F M H (.refl hm) rs h
theorem ds_cont {pos} : DSt G X (.Continue pos) wCont := ps_imp ps_continue fun D σ H ⟨F, M, δ, E, EX, hm, rs, h, tk, n, r, b, c⟩ => c σ δ F M H (.refl hm) rs h
def wNever : WS := fun _ _ _ _ => False
theorem ds_never {st : Stmt} : DSt G X st wNever := ps_imp ps_never fun D σ H ⟨F, M, δ, E, EX, hm, rs, h, tk, n, r, b, c⟩ => h
theorem de_never : DE G X e (fun _ _ _ _ => False) := ⟨fun pins s σ H Q I ⟨F, M, δ, Q', EX, hm, rs, h, _⟩ => h.elim⟩
/-- an expression, then a statement's end: helper -/
theorem up_then {we : WE} {k : D → ED → XK' → DS → MM → Prop} {σ : St} {H : Hp} {P : VK} {F : Hp} {M : MM} {δ : DS} {E : ED} {EX : XK'} (hm : HM G X.K F M H) (rs : RS G X.K F σ δ) (h : we δ M (fun d M1 => k d E EX δ M1) EX) (tk : Takes X (wX G X.K F M H EX))
    (f : ∀ v d F1 M1 H1, Grow G X.K F M H F1 M1 H1 → Rep G X.K F1 v d → k d E EX δ M1 → P v H1) : up G X we σ H P := ⟨F, M, δ, _, EX, hm, rs, h, tk, f⟩
def wDrop (we : WE) : WS := fun E EX δ M => we δ M (fun _ M1 => E.nx δ M1) EX
theorem ds_expr {we : WE} {pos} (h : DE G X e we) (hs : swapsWith e none pos.line X.env = pure false := by rfl) : DSt G X (.Expr e pos) (wDrop we) := by
  refine ps_imp (ps_expr h hs) fun D σ H ⟨F, M, δ, E, EX, hm, rs, h, tk, n, r, b, c⟩ => ?_
  exact ⟨F, M, δ, _, EX, hm, rs, h, tk, fun v d F1 M1 H1 g1 r1 q => n σ δ F1 M1 H1 g1 (rs.mono g1.ext) q⟩
theorem ds_doc {x j pos pos'} : DSt G X (.Expr (.Constant (.str x) j pos) pos') wNext := ps_imp ps_doc fun D σ H ⟨F, M, δ, E, EX, hm, rs, h, tk, n, r, b, c⟩ => n σ δ F M H (.refl hm) rs h
def wRet (we : WE) : WS := fun E EX δ M => we δ M (fun d M1 => E.rt d M1) EX
theorem ds_ret {we : WE} {pos} (h : DE G X e we) : DSt G X (.Return (some e) pos) (wRet we) := by
  refine ps_imp (ps_ret h) fun D σ H ⟨F, M, δ, E, EX, hm, rs, h, tk, n, r, b, c⟩ => ?_
  exact ⟨F, M, δ, _, EX, hm, rs, h, tk, fun v d F1 M1 H1 g1 r1 q => r v d F1 M1 H1 g1 r1 q⟩
def wRetN : WS := fun E _ _ M => E.rt .non M
theorem ds_retN {pos} : DSt G X (.Return none pos) wRetN := ps_imp ps_retN fun D σ H ⟨F, M, δ, E, EX, hm, rs, h, tk, n, r, b, c⟩ => r .non .non F M H (.refl hm) .non h
def wIfS (p : WT) (w u : WS) : WS := fun E EX δ M => p δ M (fun c M1 => if c = true then w E EX δ M1 else u E EX δ M1) EX
theorem ds_if {c : Expr} {a b : List Stmt} {p : WT} {w u : WS} {pos} (hc : DT G X c p) (ha : DSs G X a w) (hb : DSs G X b u) : DSt G X (.If c a b pos) (wIfS p w u) := by
  refine ps_imp (ps_if hc ha hb) fun D σ H ⟨F, M, δ, E, EX, hm, rs, h, tk, n, r, b, c⟩ => ?_
  refine ⟨F, M, δ, _, EX, hm, rs, h, tk, fun k F1 M1 H1 g h' => ?_⟩
  cases k <;> exact ⟨F1, M1, δ, E, EX, g.hm, rs.mono g.ext, h', tk.imp (wX_mono g), fun s2 d2 F2 M2 H2 g2 r2 q => n s2 d2 F2 M2 H2 (g.trans g2) r2 q, fun v d F2 M2 H2 g2 r2 q => r v d F2 M2 H2 (g.trans g2) r2 q,
    fun s2 d2 F2 M2 H2 g2 r2 q => b s2 d2 F2 M2 H2 (g.trans g2) r2 q, fun s2 d2 F2 M2 H2 g2 r2 q => c s2 d2 F2 M2 H2 (g.trans g2) r2 q⟩

/-! ### targets -/
abbrev BD := D → DS → Option DS
def SimG (G : Cfg) (K : PySem.W.Frag) (g : TG) (b : BD) : Prop := ∀ F M H σ δ δ' v d (Q : St → Hp → Prop), HM G K F M H → RS G K F σ δ → Rep G K F v d → b d δ = some δ' → (∀ σ', RS G K F σ' δ' → Q σ' H) → g v σ H Q
def bNm (i : Nat) : BD := fun d δ => some (δ.set i (some d))
theorem simG_nm {K : PySem.W.Frag} (i : Nat) : SimG G K (gName i) (bNm i) := by
  intro F M H σ δ δ' v d Q hm rs r e q
  unfold bNm at e
  cases e
  exact q _ (rs.set i r)
def bSets : List Nat → List D → DS → Option DS
  | [], [], δ => some δ
  | i :: is, d :: ds, δ => bSets is ds (δ.set i (some d))
  | _, _, _ => none
def bTup (is : List Nat) : BD := fun d δ => match d with
  | .tup ds => bSets is ds δ
  | _ => none
def gsOf : List Nat → TGs
  | [] => gNil
  | i :: is => gCons (gName i) (gsOf is)
theorem simG_sets {K : PySem.W.Frag} {F : Hp} {H : Hp} {Q : St → Hp → Prop} : ∀ (is : List Nat) (vs : List V) (ds : List D) (σ : St) (δ δ' : DS), RS G K F σ δ → RepL G K F vs ds → bSets is ds δ = some δ' → (∀ σ', RS G K F σ' δ' → Q σ' H) → gsOf is vs σ H Q
  | [], _, _, σ, δ, δ', rs, .nil, e, q => by
    unfold bSets at e
    cases e
    exact ⟨rfl, q _ rs⟩
  | [], _, _, σ, δ, δ', rs, .cons _ _, e, q => by unfold bSets at e; cases e
  | i :: is, _, _, σ, δ, δ', rs, .nil, e, q => by unfold bSets at e; cases e
  | i :: is, _, _, σ, δ, δ', rs, .cons r t, e, q => by
    unfold bSets at e
    exact ⟨_, _, rfl, simG_sets is _ _ _ _ _ (rs.set i r) t e q⟩
theorem bSets_len : ∀ (is : List Nat) (ds : List D) (δ δ' : DS), bSets is ds δ = some δ' → ds.length = is.length
  | [], [], _, _, _ => rfl
  | [], _ :: _, _, _, e => by unfold bSets at e; cases e
  | _ :: _, [], _, _, e => by unfold bSets at e; cases e
  | i :: is, d :: ds, δ, δ', e => by
    unfold bSets at e
    rw [List.length_cons, List.length_cons, bSets_len is ds _ _ e]
theorem simG_tup {K : PySem.W.Frag} (is : List Nat) : SimG G K (gTup K is.length (gsOf is)) (bTup is) := by
  intro F M H σ δ δ' v d Q hm rs r e q
  unfold bTup at e
  split at e
  · cases r with
    | tup h r => exact ⟨_, _, rfl, sqT_mono hm.sub h, by rw [r.len]; exact bSets_len _ _ _ _ e, simG_sets is _ _ _ _ _ rs r e q⟩
  · cases e
/-- x = e, a, b = e -/
def kAsg (b : BD) (nx : DS → MM → Prop) (δ : DS) (d : D) (M1 : MM) : Prop := match b d δ with
  | some δ' => nx δ' M1
  | none => False
def wAsg (b : BD) (we : WE) : WS := fun E EX δ M => we δ M (kAsg b E.nx δ) EX
theorem ds_asg {tg : Expr} {we : WE} {g : TG} {b : BD} {pos} (he : DE G X e we) (hg : PG X tg g) (sg : SimG G X.K g b) (hs : swapsWithSole [tg] e pos.line X.env = pure false := by rfl) (hw : swappedStores [tg] e X.env = pure none := by rfl) (h1 : List.map (fun x => x.snd) (assignEach [tg] X.env) = [assign tg X.env] := by rfl) :
    DSt G X (.Assign [tg] e pos) (wAsg b we) := by
  refine ps_imp (ps_asg he hg hs hw h1) fun D σ H ⟨F, M, δ, E, EX, hm, rs, h, tk, n, r, b, c⟩ => ?_
  refine ⟨F, M, δ, _, EX, hm, rs, h, tk, fun v d F1 M1 H1 g1 r1 q => ?_⟩
  unfold kAsg at q
  split at q
  · rename_i δ' e
    exact sg F1 M1 H1 σ δ δ' v d D.nx g1.hm (rs.mono g1.ext) r1 e fun σ' rs' => n σ' δ' F1 M1 H1 g1 rs' q
  · exact q.elim
def wSet (i : Nat) (we : WE) : WS := fun E EX δ M => we δ M (fun d M1 => E.nx (δ.set i (some d)) M1) EX
theorem ds_set (i : Nat) {x : Str} {we : WE} {pos pos' : Pos} (hN : X.N.Nodup) (he : DE G X e we) (hi : X.N[i]? = some x := by rfl) (hx : Loc X.env.scope x := by first | exact Or.inl rfl | exact Or.inr rfl) (hs : swapsWith e (some (.Name x pos')) pos.line X.env = pure false := by rfl)
    (hf : X.fn x = true ∨ X.env.scope.names.lookup x = some .local := by first | exact .inl rfl | exact .inr rfl) : DSt G X (.Assign [.Name x pos'] e pos) (wSet i we) := by
  refine ps_imp (ps_set hN hi hx he hs hf) fun D σ H ⟨F, M, δ, E, EX, hm, rs, h, tk, n, r, b, c⟩ => ?_
  exact ⟨F, M, δ, _, EX, hm, rs, h, tk, fun v d F1 M1 H1 g1 r1 q => n _ _ F1 M1 H1 g1 ((rs.mono g1.ext).set i r1) q⟩
def kPar (i j : Nat) (nx : DS → MM → Prop) (δ : DS) (ds : List D) (M1 : MM) : Prop := match ds with
  | [a, b] => nx ((δ.set i (some a)).set j (some b)) M1
  | _ => False
def wPar (i j : Nat) (wa : WA) : WS := fun E EX δ M => wa δ M (kPar i j E.nx δ) EX
theorem up_par {i j : Nat} {wa : WA} (D : Ends) (σ : St) (H : Hp) (h : upS G X (wPar i j wa) D σ H) : tPar i j (upA G X wa) D σ H := by
  obtain ⟨F, M, δ, E, EX, hm, rs, h, tk, n, r, b, c⟩ := h
  refine ⟨F, M, δ, _, EX, hm, rs, h, tk, fun vs ds F1 M1 H1 g1 r1 q => ?_⟩
  unfold kPar at q
  split at q
  · cases r1 with
    | cons ra t =>
      obtain ⟨v, rfl, rb⟩ := one_rep t
      exact ⟨_, _, rfl, n _ _ F1 M1 H1 g1 (((rs.mono g1.ext).set i ra).set j rb) q⟩
  · exact q.elim

/-! ### what a for walks -/
structure IT where
  items : List D
  src : Option (Addr × List D) := none
def stay (src : Option (Addr × List D)) (M : MM) : Prop := match src with
  | none => True
  | some (a, all) => M a = some (.lst all)
abbrev WI := DS → MM → (IT → MM → Prop) → XK' → Prop
structure Walks (G : Cfg) (K : PySem.W.Frag) (F : Hp) (M : MM) (H : Hp) (J : It) (it : IT) : Prop where
  step : ∀ F' M' H' i d, Grow G K F M H F' M' H' → stay it.src M' → it.items[i]? = some d → J.go i H' ∧ ∀ x H'', J.yld i H' x H'' → ∃ F'', Grow G K F' M' H' F'' M' H'' ∧ Rep G K F'' x d
  stop : ∀ F' M' H', Grow G K F M H F' M' H' → stay it.src M' → J.stop it.items.length H'
def upI (G : Cfg) (X : Cx) (w : WI) : TI := fun σ H R => ∃ F M δ Q EX, HM G X.K F M H ∧ RS G X.K F σ δ ∧ w δ M Q EX ∧ Takes X (wX G X.K F M H EX) ∧
  ∀ J it F' M' H', Grow G X.K F M H F' M' H' → Walks G X.K F' M' H' J it → Q it M' → R J H'
abbrev DI (G : Cfg) (X : Cx) (tg iter : Expr) (w : WI) : Prop := PI X tg iter (upI G X w)
theorem pi_imp {tg : Expr} {t t' : TI} (h : PI X tg e t) (i : ∀ σ H R, t' σ H R → t σ H R) : PI X tg e t' := ⟨fun pins s σ H R I q => h.run pins s σ H R I (i σ H R q)⟩
/-- a list, or a changing list that stays -/
@[irreducible] def kiL (Q : IT → MM → Prop) (d : D) (M1 : MM) : Prop := match d with
  | .lst ds => Q { items := ds } M1
  | .frl ds => Q { items := ds } M1
  | .raw (.ref a) => match M1 a with
    | some (.lst ds) => Q { items := ds, src := some (a, ds) } M1
    | _ => False
  | _ => False
def wiL (we : WE) : WI := fun δ M Q EX => we δ M (kiL Q) EX
theorem SqL.uniq {K : PySem.W.Frag} {H : Hp} {a : Addr} {xs : List V} (h : H a = some (.lst xs)) : SqL K H a xs := SqL.of h
theorem walks_frz {K : PySem.W.Frag} {F : Hp} {M : MM} {H : Hp} {a : Addr} {vs : List V} {ds : List D} (hm : HM G K F M H) (h : SqL K F a vs) (r : RepL G K F vs ds) : Walks G K F M H (Itl K a) { items := ds } := by
  refine ⟨fun F' M' H' i d g st e => ?_, fun F' M' H' g st => ?_⟩
  · obtain ⟨v, e1, r1⟩ := r.get e
    have hs : SqL K H' a vs := g.hm.sub.seq (g.ext.seq h)
    refine ⟨⟨vs, v, hs, e1⟩, fun x H'' y => ?_⟩
    obtain ⟨e2, y⟩ := y
    subst e2
    have e3 := y vs hs
    rw [e1] at e3
    cases e3
    exact ⟨F', .refl g.hm, r1.mono g.ext⟩
  · exact ⟨vs, g.hm.sub.seq (g.ext.seq h), by rw [r.len]; exact Nat.le_refl _⟩
theorem walks_mut {K : PySem.W.Frag} {F : Hp} {M : MM} {H : Hp} {a : Addr} {ds : List D} : Walks G K F M H (Itl K a) { items := ds, src := some (a, ds) } := by
  refine ⟨fun F' M' H' i d g st e => ?_, fun F' M' H' g st => ?_⟩
  · obtain ⟨vs, h1, r⟩ := g.hm.mo a _ st
    obtain ⟨v, e1, r1⟩ := r.get e
    refine ⟨⟨vs, v, SqL.of h1, e1⟩, fun x H'' y => ?_⟩
    obtain ⟨e2, y⟩ := y
    subst e2
    have e3 := y vs (SqL.of h1)
    rw [e1] at e3
    cases e3
    exact ⟨F', .refl g.hm, r1⟩
  · obtain ⟨vs, h1, r⟩ := g.hm.mo a _ st
    exact ⟨vs, SqL.of h1, by rw [r.len]; exact Nat.le_refl _⟩
theorem di_list {tg : Expr} {we : WE} (h : DE G X e we) : DI G X tg e (wiL we) := by
  refine pi_imp (pi_list h) fun σ H R ⟨F, M, δ, Q, EX, hm, rs, h, tk, f⟩ => ?_
  refine ⟨F, M, δ, _, EX, hm, rs, h, tk, fun v d F1 M1 H1 g1 r1 q => ?_⟩
  unfold kiL at q
  split at q
  · cases r1 with
    | lst h r => exact ⟨_, rfl, ⟨_, SqL.of (g1.hm.sub _ _ h)⟩, f _ _ F1 M1 H1 g1 (walks_frz g1.hm (SqL.of h) r) q⟩
  · cases r1 with
    | frl h r => exact ⟨_, rfl, ⟨_, g1.hm.sub.seq h⟩, f _ _ F1 M1 H1 g1 (walks_frz g1.hm h r) q⟩
  · cases r1
    split at q
    · rename_i ds e
      obtain ⟨vs, h1, r⟩ := g1.hm.mo _ _ e
      exact ⟨_, rfl, ⟨_, SqL.of h1⟩, f _ _ F1 M1 H1 g1 walks_mut q⟩
    · exact q.elim
  · exact q.elim
def wiT (we : WE) : WI := fun δ M Q EX => we δ M (fun d M1 => match d with
  | .tup ds => Q { items := ds } M1
  | _ => False) EX
theorem walks_tup {K : PySem.W.Frag} {F : Hp} {M : MM} {H : Hp} {a : Addr} {vs : List V} {ds : List D} (hm : HM G K F M H) (h : SqT K F a vs) (r : RepL G K F vs ds) : Walks G K F M H (Itt K a) { items := ds } := by
  refine ⟨fun F' M' H' i d g st e => ?_, fun F' M' H' g st => ?_⟩
  · obtain ⟨v, e1, r1⟩ := r.get e
    have hs : SqT K H' a vs := sqT_mono g.hm.sub (sqT_mono g.ext h)
    refine ⟨⟨vs, v, hs, e1⟩, fun x H'' y => ?_⟩
    obtain ⟨e2, y⟩ := y
    subst e2
    have e3 := y vs hs
    rw [e1] at e3
    cases e3
    exact ⟨F', .refl g.hm, r1.mono g.ext⟩
  · exact ⟨vs, sqT_mono g.hm.sub (sqT_mono g.ext h), by rw [r.len]; exact Nat.le_refl _⟩
theorem di_tup {tg : Expr} {we : WE} (h : DE G X e we) : DI G X tg e (wiT we) := by
  refine pi_imp (pi_tup h) fun σ H R ⟨F, M, δ, Q, EX, hm, rs, h, tk, f⟩ => ?_
  refine ⟨F, M, δ, _, EX, hm, rs, h, tk, fun v d F1 M1 H1 g1 r1 q => ?_⟩
  dsimp only at q
  split at q
  · cases r1 with
    | tup h r => exact ⟨_, rfl, ⟨_, sqT_mono g1.hm.sub h⟩, f _ _ F1 M1 H1 g1 (walks_tup g1.hm h r) q⟩
  · exact q.elim
def rngL (lo : Int) (n : Nat) : List D := (List.range n).map fun k => D.int (lo + (k : Nat))
theorem rngL_len (lo : Int) (n : Nat) : (rngL lo n).length = n := by unfold rngL; rw [List.length_map, List.length_range]
theorem walks_rng {K : PySem.W.Frag} {F : Hp} {M : MM} {H : Hp} (lo : Int) (n : Nat) : Walks G K F M H (Itr lo n) { items := rngL lo n } := by
  refine ⟨fun F' M' H' i d g st e => ?_, fun F' M' H' g st => ?_⟩
  · have l : i < n := by
      have z := (List.getElem?_eq_some_iff.mp e).1
      rw [show ({ items := rngL lo n } : IT).items.length = n from rngL_len lo n] at z
      exact z
    have ed : d = .int (lo + (i : Nat)) := by
      have z : (rngL lo n)[i]? = some d := e
      unfold rngL at z
      rw [List.getElem?_map, List.getElem?_range l] at z
      exact (Option.some.inj z).symm
    subst ed
    refine ⟨l, fun x H'' y => ?_⟩
    obtain ⟨e2, y⟩ := y
    subst e2 y
    exact ⟨F', .refl g.hm, .int _⟩
  · show n ≤ (rngL lo n).length
    rw [rngL_len]
    exact Nat.le_refl _
def kiR1 (Q : IT → MM → Prop) (ds : List D) (M1 : MM) : Prop := match ds with
  | [.int j] => (-(2 ^ 62) ≤ j ∧ j < 2 ^ 62) ∧ Q { items := rngL 0 j.toNat } M1
  | _ => False
def wiR1 (wa : WA) : WI := fun δ M Q EX => wa δ M (kiR1 Q) EX
def kiR2 (Q : IT → MM → Prop) (ds : List D) (M1 : MM) : Prop := match ds with
  | [.int i, .int j] => (-(2 ^ 62) ≤ i ∧ i < 2 ^ 62 ∧ -(2 ^ 62) ≤ j ∧ j < 2 ^ 62) ∧ Q { items := rngL i (j - i).toNat } M1
  | _ => False
def wiR2 (wa : WA) : WI := fun δ M Q EX => wa δ M (kiR2 Q) EX
theorem di_range1 {tg a : Expr} {wa : WA} {p pos : Pos} (hm : X.mg "range" = none) (ha : DA G X [a] wa) (hg : Gl X "range" := by rfl) (hs : starEach [a] X.env = [(false, eval a X.env)] := by rfl) : DI G X tg (.Call (.Name "range" p) [a] [] pos) (wiR1 wa) := by
  refine pi_imp (pi_range1 hg hm ha hs) fun σ H R ⟨F, M, δ, Q, EX, hm, rs, h, tk, f⟩ => ?_
  refine ⟨F, M, δ, _, EX, hm, rs, h, tk, fun vs ds F1 M1 H1 g1 r1 q => ?_⟩
  unfold kiR1 at q
  split at q
  · obtain ⟨v, rfl, r2⟩ := one_rep r1
    cases r2
    exact ⟨_, rfl, q.1.1, q.1.2, f _ _ F1 M1 H1 g1 (walks_rng _ _) q.2⟩
  · exact q.elim
theorem di_range2 {tg a b : Expr} {wa : WA} {p pos : Pos} (hm : X.mg "range" = none) (ha : DA G X [a, b] wa) (hg : Gl X "range" := by rfl) (hs : starEach [a, b] X.env = [(false, eval a X.env), (false, eval b X.env)] := by rfl) (hs2 : starEach [b] X.env = [(false, eval b X.env)] := by rfl) :
    DI G X tg (.Call (.Name "range" p) [a, b] [] pos) (wiR2 wa) := by
  refine pi_imp (pi_range2 hg hm ha hs hs2) fun σ H R ⟨F, M, δ, Q, EX, hm, rs, h, tk, f⟩ => ?_
  refine ⟨F, M, δ, _, EX, hm, rs, h, tk, fun vs ds F1 M1 H1 g1 r1 q => ?_⟩
  unfold kiR2 at q
  split at q
  · cases r1 with
    | cons ra t =>
      obtain ⟨v, rfl, r2⟩ := one_rep t
      cases ra
      cases r2
      exact ⟨_, _, rfl, q.1, f _ _ F1 M1 H1 g1 (walks_rng _ _) q.2⟩
  · exact q.elim

/-! ### for -/
def wLoop (src : Option (Addr × List D)) (b : BD) (wb : WS) : List D → ED → XK' → DS → MM → Prop
  | [], E, _, δ, M => stay src M ∧ E.nx δ M
  | d :: ds, E, EX, δ, M => stay src M ∧ match b d δ with
    | some δ' => wb { nx := wLoop src b wb ds E EX, rt := E.rt, bk := E.nx, ct := wLoop src b wb ds E EX } EX δ' M
    | none => False
def wFor (wi : WI) (b : BD) (wb : WS) : WS := fun E EX δ M => wi δ M (fun it M1 => wLoop it.src b wb it.items E EX δ M1) EX
theorem ds_for {tg iter : Expr} {body : List Stmt} {wi : WI} {g : TG} {b : BD} {wb : WS} {pos} (hp : PassesOwn (model X.prog X.w) X.A X.env X.xe) (hc : X.calm = true) (hi : DI G X tg iter wi) (hg : PG X tg g) (sg : SimG G X.K g b) (hb : DSs G X body wb)
    (hs : ∀ x, foldedSetIterable iter X.env x = pure x := by intro _; rfl) : DSt G X (.For tg iter body [] pos) (wFor wi b wb) := by
  refine ps_imp (ps_for hp hc hi hg hb hs) fun D σ H ⟨F, M, δ, E, EX, hm, rs, h, tk, n, r, bk, c⟩ => ?_
  refine ⟨F, M, δ, _, EX, hm, rs, h, tk, fun J it F1 M1 H1 g1 wk h1 => ?_⟩
  refine ⟨fun i m σ' H' => m = it.items.length - i ∧ i ≤ it.items.length ∧ ∃ F' M' δ', Grow G X.K F1 M1 H1 F' M' H' ∧ RS G X.K F' σ' δ' ∧ wLoop it.src b wb (it.items.drop i) E EX δ' M',
    ⟨it.items.length, by simp, Nat.zero_le _, F1, M1, δ, .refl g1.hm, rs.mono g1.ext, h1⟩, ?_⟩
  rintro i m σ' H' ⟨em, hi, F', M', δ', g', rs', h'⟩
  subst em
  by_cases hlt : i < it.items.length
  · rw [List.drop_eq_getElem_cons hlt] at h'
    unfold wLoop at h'
    obtain ⟨st, h'⟩ := h'
    split at h'
    · rename_i δ2 eb
      obtain ⟨go, yl⟩ := wk.step F' M' H' i it.items[i] g' st (List.getElem?_eq_getElem hlt)
      refine .inr ⟨go, fun σ2 H2 => ∃ F2 M2 δ2, Grow G X.K F1 M1 H1 F2 M2 H2 ∧ RS G X.K F2 σ2 δ2 ∧ wLoop it.src b wb (it.items.drop (i + 1)) E EX δ2 M2, fun σ2 H2 w2 => ⟨it.items.length - (i + 1), by omega, rfl, hlt, w2⟩, fun x H'' y => ?_⟩
      obtain ⟨F3, g3, r3⟩ := yl x H'' y
      refine sg F3 M' H'' σ' δ' δ2 x _ _ g3.hm (rs'.mono g3.ext) r3 eb fun σ4 rs4 => ?_
      have gt := (g1.trans g').trans g3
      refine ⟨F3, M', δ2, _, EX, g3.hm, rs4, h', tk.imp (wX_mono gt), fun s2 d2 F2 M2 H2 g2 r2 q => ⟨F2, M2, d2, (g'.trans g3).trans g2, r2, q⟩, fun v d F2 M2 H2 g2 r2 q => r v d F2 M2 H2 (gt.trans g2) r2 q,
        fun s2 d2 F2 M2 H2 g2 r2 q => n s2 d2 F2 M2 H2 (gt.trans g2) r2 q, fun s2 d2 F2 M2 H2 g2 r2 q => ⟨F2, M2, d2, (g'.trans g3).trans g2, r2, q⟩⟩
    · exact h'.elim
  · have e : i = it.items.length := by omega
    subst e
    rw [List.drop_length] at h'
    unfold wLoop at h'
    exact .inl ⟨wk.stop F' M' H' g' h'.1, n σ' δ' F' M' H' (g1.trans g') rs' h'.2⟩
/-! ### while -/
def wWh (p : WT) (wb : WS) : Nat → ED → XK' → DS → MM → Prop
  | 0, _, _, _, _ => False
  | n + 1, E, EX, δ, M => p δ M (fun k M1 => if k = true then wb { nx := wWh p wb n E EX, rt := E.rt, bk := E.nx, ct := wWh p wb n E EX } EX δ M1 else E.nx δ M1) EX
def wWhile (p : WT) (wb : WS) : WS := fun E EX δ M => ∃ n, wWh p wb n E EX δ M
theorem ds_while {c : Expr} {body : List Stmt} {p : WT} {wb : WS} {pos} (hp : PassesOwn (model X.prog X.w) X.A X.env X.xe) (hc : DT G X c p) (hb : DSs G X body wb) : DSt G X (.While c body [] pos) (wWhile p wb) := by
  refine ps_imp (ps_while hp hc hb) fun D σ H ⟨F, M, δ, E, EX, hm, rs, ⟨n0, h⟩, tk, n, r, bk, c⟩ => ?_
  refine ⟨fun m σ' H' => ∃ F' M' δ', Grow G X.K F M H F' M' H' ∧ RS G X.K F' σ' δ' ∧ wWh p wb m E EX δ' M', ⟨n0, F, M, δ, .refl hm, rs, h⟩, ?_⟩
  rintro m σ' H' ⟨F', M', δ', g', rs', h'⟩
  cases m with
  | zero => exact h'.elim
  | succ m =>
    unfold wWh at h'
    refine ⟨F', M', δ', _, EX, g'.hm, rs', h', tk.imp (wX_mono g'), fun k F2 M2 H2 g2 q => ?_⟩
    have gt := g'.trans g2
    cases k with
    | true =>
      refine ⟨fun σ3 H3 => ∃ F3 M3 δ3, Grow G X.K F M H F3 M3 H3 ∧ RS G X.K F3 σ3 δ3 ∧ wWh p wb m E EX δ3 M3, fun σ3 H3 w3 => ⟨m, Nat.lt_succ_self _, w3⟩, ?_⟩
      exact ⟨F2, M2, δ', _, EX, g2.hm, rs'.mono g2.ext, q, tk.imp (wX_mono gt), fun s2 d2 F3 M3 H3 g3 r2 q => ⟨F3, M3, d2, gt.trans g3, r2, q⟩, fun v d F3 M3 H3 g3 r2 q => r v d F3 M3 H3 (gt.trans g3) r2 q,
        fun s2 d2 F3 M3 H3 g3 r2 q => n s2 d2 F3 M3 H3 (gt.trans g3) r2 q, fun s2 d2 F3 M3 H3 g3 r2 q => ⟨F3, M3, d2, gt.trans g3, r2, q⟩⟩
    | false => exact n σ' δ' F2 M2 H2 gt (rs'.mono g2.ext) q

/-! ### xs[i] = e -/
/-- of a changing list -/
@[irreducible] def kPutL (nx : MM → Prop) (v o i : D) (M3 : MM) : Prop := match o, i with
  | .raw (.ref a), .int j => match M3 a with
    | some (.lst xs) => match ixN xs.length j with
      | some k => nx (updM M3 a (.lst (xs.set k v)))
      | none => False
    | _ => False
  | _, _ => False
def wPutL (wv wo wi : WE) : WS := fun E EX δ M => wv δ M (fun v M1 => wo δ M1 (fun o M2 => wi δ M2 (fun i M3 => kPutL (E.nx δ) v o i M3) EX) EX) EX
end
end DL

set_option Elab.async false
set_option linter.all false
set_option maxRecDepth 100000
namespace DL
open PySem PySem.Spec L2
open PyProof.Rows hiding St

section
variable {G : Cfg} {X : Cx} {e o i value : Expr}
/-! ### stores into lists and dicts -/
theorem ds_putL {wv wo wi : WE} {pos spos} (he : DE G X value wv) (ho : DE G X o wo) (hi : DE G X i wi) (hs : swapsWithSole [.Subscript o i spos] value pos.line X.env = pure false := by rfl) (hw : swappedStores [.Subscript o i spos] value X.env = pure none := by rfl)
    (h1 : List.map (fun x => x.snd) (assignEach [.Subscript o i spos] X.env) = [assign (.Subscript o i spos) X.env] := by rfl)
    (h2 : ∀ v, assign (.Subscript o i spos) X.env v = (do
      let ov ← holding [v] (eval o X.env)
      let iv ← holding [v, ov] (eval i X.env)
      standAt spos
      holding [v, ov, iv] (setItem ov iv v)
      release [v, ov, iv] []) := by intro _; rfl) : DSt G X (.Assign [.Subscript o i spos] value pos) (wPutL wv wo wi) := by
  refine ps_imp (ps_asg he (pg_sub ho hi set_list h2) hs hw h1) fun D σ H ⟨F, M, δ, E, EX, hm, rs, h, tk, n, r, b, c⟩ => ?_
  refine ⟨F, M, δ, _, EX, hm, rs, h, tk, fun v d F1 M1 H1 g1 r1 h1 => ?_⟩
  refine ⟨F1, M1, δ, _, EX, g1.hm, rs.mono g1.ext, h1, tk.imp (wX_mono g1), fun v2 d2 F2 M2 H2 g2 r2 h2 => ?_⟩
  have g12 := g1.trans g2
  refine ⟨F2, M2, δ, _, EX, g2.hm, rs.mono g12.ext, h2, tk.imp (wX_mono g12), fun v3 d3 F3 M3 H3 g3 r3 h3 => ?_⟩
  have g123 := g12.trans g3
  try dsimp only at h3
  unfold kPutL at h3
  split at h3
  · rename_i a j
    cases r2
    cases r3
    split at h3
    · rename_i xs ea
      split at h3
      · rename_i k ek
        obtain ⟨zs, hz, rz⟩ := g3.hm.mo a _ ea
        refine ⟨a, zs, j, k, rfl, rfl, hz, by rw [rz.len]; exact ek, ?_⟩
        have g4 := g3.hm.put (o := .lst (zs.set k v)) (m' := .lst (xs.set k d)) ea ⟨_, upd_same, rz.set (r1.mono ((g2.trans g3).ext)) k⟩
        exact n σ δ _ _ _ (g123.trans g4) (rs.mono g123.ext) h3
      · exact h3.elim
    · exact h3.elim
  · exact h3.elim
/-- keys -/
def keyD : D → Option Key
  | .int i => some (.inl i)
  | .str x => some (.inr x)
  | _ => none
theorem keyD_rep {K : PySem.W.Frag} {F : Hp} {v : V} {d : D} {k : Key} (r : Rep G K F v d) (e : keyD d = some k) : v = kV k := by
  cases r <;> simp only [keyD, Option.some.injEq, reduceCtorEq] at e <;> subst e <;> rfl
def valD (kvs : List (Key × D)) (k : Key) : Option D := (kvs.find? fun kv => decide (kv.1 = k)).map (·.2)
def putD (kvs : List (Key × D)) (k : Key) (v : D) : List (Key × D) := if (kvs.any fun kv => decide (kv.1 = k)) = true then kvs.map (fun kv => if kv.1 = k then (kv.1, v) else kv) else kvs ++ [(k, v)]
theorem RepK.val {K : PySem.W.Frag} {F : Hp} {k : Key} : ∀ {vs : List (Key × V)} {ds : List (Key × D)} {d : D}, RepK G K F vs ds → valD ds k = some d → ∃ v, valV vs k = some v ∧ Rep G K F v d
  | _, _, _, .nil, e => by cases e
  | (k', v) :: vs, (_, d') :: ds, d, .cons r t, e => by
    unfold valD at e
    unfold valV
    by_cases h : k' = k
    · rw [List.find?_cons_of_pos (by simpa using h)] at e ⊢
      cases e
      exact ⟨v, rfl, r⟩
    · rw [List.find?_cons_of_neg (by simpa using h)] at e ⊢
      exact RepK.val t e
theorem RepK.none {K : PySem.W.Frag} {F : Hp} {k : Key} : ∀ {vs : List (Key × V)} {ds : List (Key × D)}, RepK G K F vs ds → valD ds k = none → valV vs k = none
  | _, _, .nil, e => rfl
  | (k', v) :: vs, (_, d') :: ds, .cons r t, e => by
    unfold valD at e
    unfold valV
    by_cases h : k' = k
    · rw [List.find?_cons_of_pos (by simpa using h)] at e; cases e
    · rw [List.find?_cons_of_neg (by simpa using h)] at e ⊢
      exact RepK.none t e
theorem RepK.len {K : PySem.W.Frag} {F : Hp} : ∀ {vs : List (Key × V)} {ds : List (Key × D)}, RepK G K F vs ds → vs.length = ds.length
  | _, _, .nil => rfl
  | _, _, .cons _ t => congrArg Nat.succ (RepK.len t)
theorem RepK.app {K : PySem.W.Frag} {F : Hp} : ∀ {vs ws : List (Key × V)} {ds es : List (Key × D)}, RepK G K F vs ds → RepK G K F ws es → RepK G K F (vs ++ ws) (ds ++ es)
  | _, _, _, _, .nil, s => s
  | _, _, _, _, .cons r t, s => .cons r (RepK.app t s)
theorem RepK.any {K : PySem.W.Frag} {F : Hp} {k : Key} : ∀ {vs : List (Key × V)} {ds : List (Key × D)}, RepK G K F vs ds → (vs.any fun kv => decide (kv.1 = k)) = ds.any fun kv => decide (kv.1 = k)
  | _, _, .nil => rfl
  | _, _, .cons _ t => by rw [List.any_cons, List.any_cons, RepK.any t]
theorem RepK.map {K : PySem.W.Frag} {F : Hp} {k : Key} {v : V} {d : D} (rv : Rep G K F v d) : ∀ {vs : List (Key × V)} {ds : List (Key × D)}, RepK G K F vs ds → RepK G K F (vs.map fun kv => if kv.1 = k then (kv.1, v) else kv) (ds.map fun kv => if kv.1 = k then (kv.1, d) else kv)
  | _, _, .nil => .nil
  | (k', v') :: vs, (_, d') :: ds, .cons r t => by
    rw [List.map_cons, List.map_cons]
    by_cases h : k' = k
    · rw [if_pos h, if_pos h]; exact .cons rv (RepK.map rv t)
    · rw [if_neg h, if_neg h]; exact .cons r (RepK.map rv t)
theorem RepK.put {K : PySem.W.Frag} {F : Hp} {k : Key} {v : V} {d : D} {vs : List (Key × V)} {ds : List (Key × D)} (r : RepK G K F vs ds) (rv : Rep G K F v d) : RepK G K F (putK vs k v) (putD ds k d) := by
  unfold putK putD
  rw [r.any]
  split
  · exact r.map rv
  · exact r.app (.cons rv .nil)
def dctOf (M : MM) : D → Option (List (Key × D))
  | .dct kvs => some kvs
  | .raw (.ref a) => match M a with
    | some (.dct kvs) => some kvs
    | _ => none
  | _ => none
theorem dctOf_rep {K : PySem.W.Frag} {F : Hp} {M : MM} {H : Hp} {v : V} {d : D} {ds : List (Key × D)} (hm : HM G K F M H) (r : Rep G K F v d) (e : dctOf M d = some ds) : ∃ a vs, v = .ref a ∧ H a = some (.dK vs) ∧ RepK G K F vs ds := by
  unfold dctOf at e
  split at e
  · cases e
    cases r with
    | dct h r => exact ⟨_, _, rfl, hm.sub _ _ h, r⟩
  · rename_i a
    split at e
    · rename_i q
      cases e
      cases r
      obtain ⟨vs, h1, r1⟩ := hm.mo a _ q
      exact ⟨a, vs, rfl, h1, r1⟩
    · cases e
  · cases e
@[irreducible] def kDGet (Q : D → MM → Prop) (o i : D) (M2 : MM) : Prop := match dctOf M2 o, keyD i with
  | some kvs, some k => match valD kvs k with
    | some d => Q d M2
    | none => False
  | _, _ => False
def wDGet (wo wi : WE) : WE := fun δ M Q EX => wo δ M (fun o M1 => wi δ M1 (fun i M2 => kDGet Q o i M2) EX) EX
theorem de_dget {wo wi : WE} {pos} (hu : X.A.units + 1 < cLine) (ho : DE G X o wo) (hi : DE G X i wi) (hs : NoSl i) : DE G X (.Subscript o i pos) (wDGet wo wi) := by
  refine pe_imp (pe_dget hu ho hi hs) fun σ H P ⟨F, M, δ, Q, EX, hm, rs, h, tk, f⟩ => ?_
  refine ⟨F, M, δ, _, EX, hm, rs, h, tk, fun v d F1 M1 H1 g1 r1 h1 => ?_⟩
  refine ⟨F1, M1, δ, _, EX, g1.hm, rs.mono g1.ext, h1, tk.imp (wX_mono g1), fun v2 d2 F2 M2 H2 g2 r2 h2 => ?_⟩
  try dsimp only at h2
  unfold kDGet at h2
  split at h2
  · rename_i kvs k e1 e2
    split at h2
    · rename_i d3 e3
      obtain ⟨a, vs, rfl, hz, rk⟩ := dctOf_rep g2.hm (r1.mono g2.ext) e1
      have e4 := keyD_rep r2 e2
      subst e4
      obtain ⟨v3, e5, r3⟩ := rk.val e3
      refine ⟨a, v3, rfl, ?_, f _ _ _ _ _ (g1.trans g2) r3 h2⟩
      rw [← e5]
      exact DGet.k hz
    · exact h2.elim
  · exact h2.elim
@[irreducible] def kDPut (nx : MM → Prop) (v o i : D) (M3 : MM) : Prop := match o, keyD i with
  | .raw (.ref a), some k => match M3 a with
    | some (.dct kvs) => kvs.length < sizeLine ∧ nx (updM M3 a (.dct (putD kvs k v)))
    | _ => False
  | _, _ => False
def wDPut (wv wo wi : WE) : WS := fun E EX δ M => wv δ M (fun v M1 => wo δ M1 (fun o M2 => wi δ M2 (fun i M3 => kDPut (E.nx δ) v o i M3) EX) EX) EX
theorem ds_dput {wv wo wi : WE} {pos pos'} (hu : X.A.units + 1 < cLine) (he : DE G X value wv) (ho : DE G X o wo) (hi : DE G X i wi) (hs : swapsWith value (some (.Subscript o i pos')) pos.line X.env = pure false := by rfl) : DSt G X (.Assign [.Subscript o i pos'] value pos) (wDPut wv wo wi) := by
  refine ps_imp (ps_dput hu ho hi he hs) fun D σ H ⟨F, M, δ, E, EX, hm, rs, h, tk, n, r, b, c⟩ => ?_
  refine ⟨F, M, δ, _, EX, hm, rs, h, tk, fun v d F1 M1 H1 g1 r1 h1 => ?_⟩
  refine ⟨F1, M1, δ, _, EX, g1.hm, rs.mono g1.ext, h1, tk.imp (wX_mono g1), fun v2 d2 F2 M2 H2 g2 r2 h2 => ?_⟩
  have g12 := g1.trans g2
  refine ⟨F2, M2, δ, _, EX, g2.hm, rs.mono g12.ext, h2, tk.imp (wX_mono g12), fun v3 d3 F3 M3 H3 g3 r3 h3 => ?_⟩
  have g123 := g12.trans g3
  try dsimp only at h3
  unfold kDPut at h3
  split at h3
  · rename_i a k ek
    cases r2
    split at h3
    · rename_i kvs ea
      have e4 := keyD_rep r3 ek
      subst e4
      obtain ⟨zs, hz, rz⟩ := g3.hm.mo a _ ea
      refine ⟨a, _, rfl, .inl ⟨zs, k, hz, rfl, by rw [rz.len]; exact h3.1, rfl⟩, ?_⟩
      have g4 := g3.hm.put (o := .dK (putK zs k v)) (m' := .dct (putD kvs k d)) ea ⟨_, upd_same, rz.put (r1.mono ((g2.trans g3).ext))⟩
      exact n σ δ _ _ _ (g123.trans g4) (rs.mono g123.ext) h3.2
    · exact h3.elim
  · exact h3.elim

/-! ### instances and their attributes -/
def insOf (M : MM) : D → Option (Nat × List D)
  | .ins c fs => some (c, fs)
  | .raw (.ref a) => match M a with
    | some (.ins c fs) => some (c, fs)
    | _ => none
  | _ => none
theorem insOf_rep {K : PySem.W.Frag} {F : Hp} {M : MM} {H : Hp} {v : V} {d : D} {c : Nat} {fs : List D} (hm : HM G K F M H) (r : Rep G K F v d) (e : insOf M d = some (c, fs)) :
    ∃ a dx vs, v = .ref a ∧ H a = some (.ins (G.cl c) dx ((G.nm c).zip vs)) ∧ vs.length ≤ (G.nm c).length ∧ RepL G K F vs fs := by
  unfold insOf at e
  split at e
  · cases e
    cases r with
    | ins h l r => exact ⟨_, _, _, rfl, hm.sub _ _ h, by rw [l]; exact Nat.le_refl _, r⟩
  · rename_i a
    split at e
    · rename_i q
      cases e
      cases r
      obtain ⟨dx, vs, h1, l, r1⟩ := hm.mo a _ q
      exact ⟨a, dx, vs, rfl, h1, l, r1⟩
    · cases e
  · cases e
/-- the class c has the attribute f as its i-th -/
structure FldAt (G : Cfg) (K : PySem.W.Frag) (c i : Nat) (f : Str) : Prop where
  cls : Cls K (G.cl c)
  no : NoAttr K (G.cl c) f
  nd : (G.nm c).Nodup
  at_ : (G.nm c)[i]? = some f
theorem zip_lookup : ∀ {ns : List Str} {vs : List V} {i : Nat} {f : Str} {v : V}, ns.Nodup → ns[i]? = some f → vs[i]? = some v → (ns.zip vs).lookup f = some v
  | [], _, _, _, _, _, h, _ => by simp at h
  | n :: ns, [], _, _, _, _, _, h => by simp at h
  | n :: ns, w :: vs, 0, f, v, nd, h1, h2 => by
    simp only [List.getElem?_cons_zero, Option.some.injEq] at h1 h2
    subst h1 h2
    simp [List.zip_cons_cons, List.lookup]
  | n :: ns, w :: vs, i + 1, f, v, nd, h1, h2 => by
    rw [List.getElem?_cons_succ] at h1 h2
    obtain ⟨h3, h4⟩ := List.nodup_cons.mp nd
    have ne : (f == n) = false := by
      have z : f ≠ n := fun q => h3 (by rw [← q]; exact List.mem_of_getElem? h1)
      simpa using z
    rw [List.zip_cons_cons, List.lookup_cons, ne]
    exact zip_lookup h4 h1 h2
theorem zip_lookup_none : ∀ {ns : List Str} {vs : List V} {f : Str}, f ∉ ns → (ns.zip vs).lookup f = none
  | [], _, _, _ => rfl
  | n :: ns, [], _, _ => rfl
  | n :: ns, w :: vs, f, h => by
    have ne : (f == n) = false := by
      have z : f ≠ n := fun q => h (by rw [q]; exact List.mem_cons_self)
      simpa using z
    rw [List.zip_cons_cons, List.lookup_cons, ne]
    exact zip_lookup_none (fun q => h (List.mem_cons_of_mem _ q))
theorem zip_put : ∀ {ns : List Str} {vs : List V} {i : Nat} {f : Str} {v : V}, ns.Nodup → ns[i]? = some f → i < vs.length → putF f v (ns.zip vs) = ns.zip (vs.set i v)
  | [], _, _, _, _, _, h, _ => by simp at h
  | n :: ns, [], _, _, _, _, _, h => absurd h (Nat.not_lt_zero _)
  | n :: ns, w :: vs, 0, f, v, nd, h1, h2 => by
    simp only [List.getElem?_cons_zero, Option.some.injEq] at h1
    subst h1
    simp [List.zip_cons_cons, putF]
  | n :: ns, w :: vs, i + 1, f, v, nd, h1, h2 => by
    rw [List.getElem?_cons_succ] at h1
    obtain ⟨h3, h4⟩ := List.nodup_cons.mp nd
    have z : ¬ n = f := fun q => h3 (by rw [q]; exact List.mem_of_getElem? h1)
    rw [List.zip_cons_cons, List.set_cons_succ, List.zip_cons_cons]
    show (if n = f then _ else _) = _
    rw [if_neg z, zip_put h4 h1 (Nat.lt_of_succ_lt_succ h2)]
theorem zip_push : ∀ {ns : List Str} {vs : List V} {f : Str} {v : V}, ns.Nodup → ns[vs.length]? = some f → putF f v (ns.zip vs) = ns.zip (vs ++ [v])
  | [], _, _, _, _, h => by simp at h
  | n :: ns, [], f, v, nd, h1 => by
    simp only [List.length_nil, List.getElem?_cons_zero, Option.some.injEq] at h1
    subst h1
    simp [putF]
  | n :: ns, w :: vs, f, v, nd, h1 => by
    rw [List.length_cons, List.getElem?_cons_succ] at h1
    obtain ⟨h3, h4⟩ := List.nodup_cons.mp nd
    have z : ¬ n = f := fun q => h3 (by rw [q]; exact List.mem_of_getElem? h1)
    rw [List.cons_append, List.zip_cons_cons, List.zip_cons_cons]
    show (if n = f then _ else _) = _
    rw [if_neg z, zip_push h4 h1]
/-- e.f: cs tells for each class at which place the attribute stands -/
@[irreducible] def kFld (cs : List (Nat × Nat)) (Q : D → MM → Prop) (d : D) (M1 : MM) : Prop := match insOf M1 d with
  | some (c, fs) => match cs.lookup c with
    | some i => match fs[i]? with
      | some x => Q x M1
      | none => False
    | none => False
  | none => False
def wFld (cs : List (Nat × Nat)) (we : WE) : WE := fun δ M Q EX => we δ M (kFld cs Q) EX
theorem lookup_mem {α : Type} : ∀ {cs : List (Nat × α)} {c : Nat} {i : α}, cs.lookup c = some i → (c, i) ∈ cs
  | [], _, _, e => by cases e
  | (k, j) :: cs, c, i, e => by
    rw [List.lookup_cons] at e
    cases h : c == k with
    | true => rw [h] at e; cases e; rw [eq_of_beq h]; exact List.mem_cons_self
    | false => rw [h] at e; exact List.mem_cons_of_mem _ (lookup_mem e)
theorem de_fld {we : WE} {f : Str} {pos} (cs : List (Nat × Nat)) (hc : ∀ p ∈ cs, FldAt G X.K p.1 p.2 f) (h : DE G X e we) (hb : attributeBase e f X.env (eval e X.env) = eval e X.env := by rfl) : DE G X (.Attribute e f pos) (wFld cs we) := by
  refine pe_imp (pe_fld h hb) fun σ H P ⟨F, M, δ, Q, EX, hm, rs, h, tk, fi⟩ => ?_
  refine ⟨F, M, δ, _, EX, hm, rs, h, tk, fun v d F1 M1 H1 g1 r1 h1 => ?_⟩
  try dsimp only at h1
  unfold kFld at h1
  split at h1
  · rename_i c fs e1
    split at h1
    · rename_i i e2
      split at h1
      · rename_i x e3
        obtain ⟨a, dx, vs, rfl, hz, l, r⟩ := insOf_rep g1.hm r1 e1
        have fa := hc _ (lookup_mem e2)
        obtain ⟨w, e4, r4⟩ := r.get e3
        exact ⟨a, _, dx, _, w, rfl, hz, fa.cls, fa.no, zip_lookup fa.nd fa.at_ e4, fi _ _ _ _ _ g1 r4 h1⟩
      · exact h1.elim
    · exact h1.elim
  · exact h1.elim
/-- e.f = v, e a changing instance: set, or made as the next one -/
@[irreducible] def kFldPut (cs : List (Nat × Nat)) (nx : MM → Prop) (v o : D) (M2 : MM) : Prop := match o with
  | .raw (.ref a) => match M2 a with
    | some (.ins c fs) => match cs.lookup c with
      | some i => (i < fs.length ∧ nx (updM M2 a (.ins c (fs.set i v)))) ∨ (i = fs.length ∧ nx (updM M2 a (.ins c (fs ++ [v]))))
      | none => False
    | _ => False
  | _ => False
def wFldPut (cs : List (Nat × Nat)) (wo wv : WE) : WS := fun E EX δ M => wv δ M (fun v M1 => wo δ M1 (fun o M2 => kFldPut cs (E.nx δ) v o M2) EX) EX
theorem ds_fld {wo wv : WE} {f : Str} {pos pos'} (cs : List (Nat × Nat)) (hc : ∀ p ∈ cs, FldAt G X.K p.1 p.2 f ∧ (G.nm p.1).length < 1000) (ho : DE G X o wo) (hv : DE G X value wv) (hs : swapsWith value (some (.Attribute o f pos')) pos.line X.env = pure false := by rfl) :
    DSt G X (.Assign [.Attribute o f pos'] value pos) (wFldPut cs wo wv) := by
  refine ps_imp (ps_fld ho hv hs) fun D σ H ⟨F, M, δ, E, EX, hm, rs, h, tk, n, r, b, c⟩ => ?_
  refine ⟨F, M, δ, _, EX, hm, rs, h, tk, fun v d F1 M1 H1 g1 r1 h1 => ?_⟩
  refine ⟨F1, M1, δ, _, EX, g1.hm, rs.mono g1.ext, h1, tk.imp (wX_mono g1), fun v2 d2 F2 M2 H2 g2 r2 h2 => ?_⟩
  have g12 := g1.trans g2
  try dsimp only at h2
  unfold kFldPut at h2
  split at h2
  · rename_i a
    cases r2
    split at h2
    · rename_i c fs ea
      split at h2
      · rename_i i e2
        obtain ⟨fa, fl⟩ := hc _ (lookup_mem e2)
        obtain ⟨dx, vs, hz, l, rz⟩ := g2.hm.mo a _ ea
        have lz : ((G.nm c).zip vs).length < 1000 := by
          rw [List.length_zip]
          exact Nat.lt_of_le_of_lt (Nat.min_le_left _ _) fl
        refine ⟨a, _, dx, _, rfl, hz, fa.cls, fa.no, lz, ?_⟩
        have il : i < (G.nm c).length := (List.getElem?_eq_some_iff.mp fa.at_).1
        rcases h2 with ⟨hi, h2⟩ | ⟨hi, h2⟩
        · rw [zip_put fa.nd fa.at_ (by rw [rz.len]; exact hi)]
          have g4 := g2.hm.put (o := .ins (G.cl c) dx ((G.nm c).zip (vs.set i v))) (m' := .ins c (fs.set i d)) ea ⟨dx, vs.set i v, upd_same, by rw [List.length_set]; exact l, rz.set (r1.mono g2.ext) i⟩
          exact n σ δ _ _ _ (g12.trans g4) (rs.mono g12.ext) h2
        · rw [zip_push fa.nd (by rw [rz.len, ← hi]; exact fa.at_)]
          have g4 := g2.hm.put (o := .ins (G.cl c) dx ((G.nm c).zip (vs ++ [v]))) (m' := .ins c (fs ++ [d])) ea ⟨dx, vs ++ [v], upd_same, by rw [List.length_append, List.length_singleton, rz.len, ← hi]; exact il, rz.app (.cons (r1.mono g2.ext) .nil)⟩
          exact n σ δ _ _ _ (g12.trans g4) (rs.mono g12.ext) h2
      · exact h2.elim
    · exact h2.elim
  · exact h2.elim

/-! ### a chain a op b op c -/
def wChain (w w' : WR2) (wa wb wc : WE) : WE := fun δ M Q EX => wa δ M (fun x M1 => wb δ M1 (fun y M2 => w x y M2 (fun z M3 => ∃ k, z = .bl k ∧ if k = true then wc δ M3 (fun u M4 => w' y u M4 Q) EX else Q (.bl false) M3)) EX) EX
theorem up_chain {r r' : R2} {w w' : WR2} {wa wb wc : WE} (s : Sim2 G X.K r w) (s' : Sim2 G X.K r' w') (σ : St) (H : Hp) (P : VK) (h : up G X (wChain w w' wa wb wc) σ H P) : tChain r r' (up G X wa) (up G X wb) (up G X wc) σ H P := by
  obtain ⟨F, M, δ, Q, EX, hm, rs, h, tk, f⟩ := h
  refine ⟨F, M, δ, _, EX, hm, rs, h, tk, fun x dx F1 M1 H1 g1 r1 h1 => ?_⟩
  refine ⟨F1, M1, δ, _, EX, g1.hm, rs.mono g1.ext, h1, tk.imp (wX_mono g1), fun y dy F2 M2 H2 g2 r2 h2 => ?_⟩
  have g12 := g1.trans g2
  refine s F2 M2 H2 x y dx dy _ _ g2.hm (r1.mono g2.ext) r2 h2 fun v d F3 M3 H3 g3 r3 ⟨k, e, h3⟩ => ?_
  subst e
  cases r3
  refine ⟨k, rfl, ?_⟩
  have g123 := g12.trans g3
  cases k with
  | true =>
    refine ⟨F3, M3, δ, _, EX, g3.hm, rs.mono g123.ext, h3, tk.imp (wX_mono g123), fun u du F4 M4 H4 g4 r4 h4 => ?_⟩
    exact s' F4 M4 H4 y u dy du Q P g4.hm (r2.mono (g3.trans g4).ext) r4 h4 fun v d F5 M5 H5 g5 r5 q => f v d F5 M5 H5 ((g123.trans g4).trans g5) r5 q
  | false => exact f _ _ F3 M3 H3 g123 (.bl false) h3
theorem de_chain {a b c : Expr} {op op' : CmpOp} {r r' : R2} {w w' : WR2} {wa wb wc : WE} {pos} (ho : OpR X (compareOp op) r) (s : Sim2 G X.K r w) (ho' : OpR X (compareOp op') r') (s' : Sim2 G X.K r' w') (ha : DE G X a wa) (hb : DE G X b wb) (hc : DE G X c wc)
    (hm : lastMarks [op, op'] [b, c] = false := by with_unfolding_all rfl) : DE G X (.Compare a [op, op'] [b, c] pos) (wChain w w' wa wb wc) := pe_imp (pe_chain ho ho' ha hb hc hm) (up_chain s s')
theorem dt_chain {a b c : Expr} {op op' : CmpOp} {r r' : R2} {w w' : WR2} {wa wb wc : WE} {pos} (ho : OpR X (compareOp op) r) (s : Sim2 G X.K r w) (ho' : OpR X (compareOp op') r') (s' : Sim2 G X.K r' w') (ha : DE G X a wa) (hb : DE G X b wb) (hc : DE G X c wc)
    (hm : lastMarks [op, op'] [b, c] = false := by with_unfolding_all rfl) : DT G X (.Compare a [op, op'] [b, c] pos) (wTst (wChain w w' wa wb wc)) := by
  refine pt_imp (pt_chain ho ho' ha hb hc hm) fun σ H P ⟨F, M, δ, Q, EX, hm, rs, h, tk, f⟩ => ?_
  refine up_chain s s' σ H _ ⟨F, M, δ, _, EX, hm, rs, h, tk, fun v d F' M' H' g r ⟨c, e, q⟩ => ?_⟩
  subst e
  cases r
  exact ⟨c, rfl, f c F' M' H' g q⟩

/-! ### a def's promise by trees -/
def lift (G : Cfg) (K : PySem.W.Frag) (sp : SpD) : Sp := fun vs H P E => ∃ F M ds Q EX, HM G K F M H ∧ RepL G K F vs ds ∧ sp ds M Q EX ∧ Fin G K F M H Q P ∧
  ∀ cls dop xd F' M' H', Grow G K F M H F' M' H' → RX G K F' H' cls dop xd → EX xd M' → E cls dop H'
def startD (n : Nat) (ds : List D) : DS := ds.map some ++ List.replicate (n - ds.length) none
/-- the promise that a body is: n parameters, m names in all -/
def spOf (n m : Nat) (w : WS) : SpD := fun ds M Q EX => ds.length = n ∧ w { nx := fun _ M' => Q .non M', rt := Q } (fun xd _ M' => EX xd M') (startD m ds) M
theorem rs_start {K : PySem.W.Frag} {F : Hp} {N : List Str} {vs : List V} {ds : List D} (r : RepL G K F vs ds) : RS G K F (L2.start N vs) (startD N.length ds) := by
  unfold L2.start startD
  refine ⟨by simp [r.len], fun i d e => ?_⟩
  by_cases h : i < ds.length
  · rw [List.getElem?_append_left (by simpa using h), List.getElem?_map] at e
    cases q : ds[i]? with
    | none => rw [q] at e; cases e
    | some d' =>
      rw [q] at e
      cases e
      obtain ⟨v, e1, r1⟩ := r.get q
      refine ⟨v, ?_, r1⟩
      rw [List.getElem?_append_left (by simp [r.len]; exact h), List.getElem?_map, e1]
      rfl
  · rw [List.getElem?_append_right (by simpa using h), List.getElem?_replicate] at e
    split at e <;> cases e
/-- a def keeps its promise where no repr is under way around it -/
structure FnG (P : Program) (w : World) (K : PySem.W.Frag) (mg : Str → Option Value) (base : Heap) (gd : Bool) (k : Nat) (f : Addr) (fd : FuncData) (ps : List Str) (sp : Sp) : Prop where
  len : ∀ vs H Q E, sp vs H Q E → vs.length = ps.length
  run : ∀ (A : Around) (out : List Env) (s : Shared) (H : Hp) (args : Args) (us : List Value) (vs : List V) (Q : VK) (E : XK), Room k A → (gd = true → A.guards = some []) → Env0 P w K mg base A out s H → BindsTo s fd args (ps.zip us) → Vals vs us → sp vs H Q E →
    codeAny (PySem.model P w) A (.call (.ref f) args) (CR (L2.CX P w) out P w H s Q E) s
theorem FnG.up {P : Program} {w : World} {K : PySem.W.Frag} {mg : Str → Option Value} {base : Heap} {gd : Bool} {j k : Nat} {f : Addr} {fd : FuncData} {ps : List Str} {sp : Sp} (F : FnG P w K mg base gd j f fd ps sp) (h : j ≤ k) : FnG P w K mg base gd k f fd ps sp :=
  ⟨F.len, fun A out s H args us vs Q E hr => F.run A out s H args us vs Q E (hr.mono h)⟩
theorem guards_deeper {A : Around} {env : Env} (h : A.guards = some []) : (A.deeper env).guards = some [] := by
  first | exact h | (show (Around.deeper A env).guards = some []; simp [Around.deeper, h])
theorem ce_of {Y : Cx} {out : List Env} {P : Program} {w : World} {H H' : Hp} {s s' : Shared} {Q : VK} {σ : St} {v : V} {u : Value} (eo : Y.s_0 = s) (eh : Y.H_0 = H) (ep : Y.prog = P) (ew : Y.w = w) (ef : Y.fs = frs out) (ex : Y.ex = []) (J : Inv Y [] σ H' s') (rv : RelV v u) (q : Q v H') : CE out P w H s Q u s' := by
  subst eo eh ep ew
  refine ⟨v, H', J.os, J.bare, ?_, J.hok, rv, q⟩
  have z := J.base
  rw [ef, ex] at z
  exact z
theorem fn_g {P : Program} {w : World} {K : PySem.W.Frag} {mg : Str → Option Value} {base : Heap} {gd : Bool} {x qual : Str} {st : Stmt} {f : Addr} {fd : FuncData} {N ps : List Str} {k : Nat} {sp : Sp} (F : Fun K x qual st f fd) (S : FnScope N ps (defScope st)) (len : ∀ vs H Q E, sp vs H Q E → vs.length = ps.length)
    (hb : ∀ (cdv : Value) (A : Around) (out : List Env) (s : Shared) (H : Hp) (vs : List V) (Q : VK) (E : XK), Room k (A.deeper (envOfC qual (defScope st) s.heap.objs.size f cdv)) → (gd = true → A.guards = some []) → sp vs H Q E →
      ∃ t, PSs (cxOf (L2.CX P w) P w K mg base N qual (defScope st) f cdv A out s H E) (defBody st) t ∧ t { nx := fun _ H' => Q .non H', rt := Q } (L2.start N vs) H) : FnG P w K mg base gd (k + 1) f fd ps sp := by
  obtain ⟨oc, od, kV, doc, pm, an, cdv, ct, osl, efd, lk, hcd⟩ := F.ex
  rw [efd] at lk
  subst efd
  refine ⟨len, fun A out s H args us vs Q E hr hg e0 hbi rv hsp => ?_⟩
  have hl := len _ _ _ _ hsp
  have inK : K.In s.heap := e0.mod.kin.keeps (fun b o z => (e0.bs b o z).left)
  have nolim : s.heap.NoLimit := e0.mod.nolimit.keeps (fun b o z => (e0.bs b o z).left)
  have kinds : ∀ y ∈ ps.zip us, (defScope st).names.lookup y.1 = some .local ∨ ((defScope st).names.lookup y.1 = some .cell ∧ ((cellsFrom (s.heap.objs.size + 1) (defScope st).names []).lookup y.1).isSome = true) := by
    intro y hy
    cases S.par y.1 (List.of_mem_zip (a := y.1) (b := y.2) hy).1 with
    | inl z => exact Or.inl z
    | inr z => exact Or.inr ⟨z, PySem.W.cellsFrom_some _ _ _ (Or.inl z)⟩
  refine codeAny_call_function hr.depth (inK _ _ lk) rfl S.co S.gen rfl (PySem.W.codeRec_of inK hcd) (hbi _ _ _ _ ?_)
  refine wpAny_newFunctionEnv_cells S.kind kinds (fun env heq s1 ic => ?_)
  subst heq
  refine ⟨nolim.keeps ic.toInCall.keep, codeAny_func ?_⟩
  obtain ⟨t, ht, hq⟩ := hb cdv A out s H vs Q E (hr.deeper _) hg hsp
  refine wpAny_mono (ht.run [] s1 (L2.start N vs) H _ (inv_start S hr.hd e0 hl rv ic) hq) (fun fl s' hs => ?_) (fun _ _ hs => hs)
  cases fl with
  | ret u =>
    obtain ⟨v, σ', H', J, r1, q⟩ := hs
    exact ce_of rfl rfl rfl rfl rfl rfl J r1 q
  | next =>
    obtain ⟨σ', H', J, q⟩ := hs
    exact ce_of (v := V.non) (u := Value.none) rfl rfl rfl rfl rfl rfl J rfl q
  | brk => exact hs.elim fun _ z => z.elim fun _ z => z.2.elim
  | cont => exact hs.elim fun _ z => z.elim fun _ z => z.2.elim
theorem okD {P : Program} {w : World} {K : PySem.W.Frag} {mg : Str → Option Value} {base : Heap} {gd : Bool} {x qual : Str} {st : Stmt} {f : Addr} {fd : FuncData} {N ps : List Str} {k : Nat} {wb : WS} (F : Fun K x qual st f fd) (S : FnScope N ps (defScope st))
    (hb : ∀ (cdv : Value) (A : Around) (out : List Env) (s : Shared) (H : Hp) (E : XK), Room k (A.deeper (envOfC qual (defScope st) s.heap.objs.size f cdv)) → (gd = true → (A.deeper (envOfC qual (defScope st) s.heap.objs.size f cdv)).guards = some []) → DSs G (cxOf (L2.CX P w) P w K mg base N qual (defScope st) f cdv A out s H E) (defBody st) wb) :
    FnG P w K mg base gd (k + 1) f fd ps (lift G K (spOf ps.length N.length wb)) := by
  refine fn_g F S (fun vs H Q E h => ?_) (fun cdv A out s H vs Q E hr hg h => ⟨_, hb cdv A out s H E hr (fun z => guards_deeper (hg z)), ?_⟩)
  · obtain ⟨F', M, ds, Q', EX, hm, r, ⟨h1, _⟩, _⟩ := h
    rw [r.len]; exact h1
  · obtain ⟨F', M, ds, Q', EX, hm, r, ⟨h1, h2⟩, fin, hx⟩ := h
    refine ⟨F', M, _, _, _, hm, rs_start r, h2, ?_, fun σ' δ' F1 M1 H1 g1 r1 q => fin _ _ F1 M1 H1 g1 .non q, fun v d F1 M1 H1 g1 r1 q => fin v d F1 M1 H1 g1 r1 q, fun _ _ _ _ _ _ _ q => q.elim, fun _ _ _ _ _ _ _ q => q.elim⟩
    have t : Takes (cxOf (L2.CX P w) P w K mg base N qual (defScope st) f cdv A out s H E) (fun cls d _ H => E cls d H) := takes_of rfl rfl rfl rfl
    exact t.imp fun c d σ' H' ⟨xd, δ', F1, M1, g1, r1, rx, q⟩ => hx c d xd F1 M1 H' g1 rx q

/-! ### calls of defs -/
theorem lift_at {sp : SpD} {σ : St} {H : Hp} {P : VK} {F : Hp} {M : MM} {δ : DS} {vs : List V} {ds : List D} {Q : D → MM → Prop} {EX : XK'} (hm : HM G X.K F M H) (rs : RS G X.K F σ δ) (r : RepL G X.K F vs ds) (h : sp ds M Q (fun xd M' => EX xd δ M')) (f : Fin G X.K F M H Q P) :
    lift G X.K sp vs H P (L2.WE (wX G X.K F M H EX) σ) :=
  ⟨F, M, ds, Q, _, hm, r, h, f, fun cls dop xd F' M' H' g rx q => ⟨xd, δ, F', M', g, rs.mono g.ext, rx, q⟩⟩
def wCall (sp : SpD) (dds : List D) (wa : WA) : WE := fun δ M Q EX => wa δ M (fun ds M1 => sp (ds ++ dds) M1 Q (fun xd M2 => EX xd δ M2)) EX
/-- values that stand for their trees in any heap: defaults -/
def Flat (G : Cfg) (K : PySem.W.Frag) (vs : List V) (ds : List D) : Prop := ∀ F, RepL G K F vs ds
theorem Flat.nil {K : PySem.W.Frag} : Flat G K [] [] := fun _ => .nil
variable {gd : Bool} {k : Nat} {f : Addr} {fd : FuncData} {ps : List Str} {sp : SpD} {dvs : List V} {dus : List Value} {dds : List D} {x m : Str} {p pos apos : Pos} {es : List Expr} {wa : WA} {wo : WE}
theorem da_run {F1 : Hp} {M1 : MM} {δ : DS} {QA : List D → MM → Prop} {EX : XK'} {pins : List (Addr × Obj)} {s : Shared} {σ : St} {H : Hp} (ha : DA G X es wa) (pos : Pos) (I : Inv X pins σ H s) (hm : HM G X.K F1 M1 H) (rs : RS G X.K F1 σ δ) (h : wa δ M1 QA EX) (tk : Takes X (wX G X.K F1 M1 H EX)) :
    wpAny (model X.prog X.w) X.A (spliced (backTo pos (starEach es X.env))) (AP X pins σ (fun vs H2 => ∃ ds F2 M2, Grow G X.K F1 M1 H F2 M2 H2 ∧ RepL G X.K F2 vs ds ∧ QA ds M2)) X.xe s :=
  ha.run pos pins s σ H _ I ⟨F1, M1, δ, QA, EX, hm, rs, h, tk, fun vs ds F2 M2 H2 g r q => ⟨ds, F2, M2, g, r, q⟩⟩
theorem de_run {we : WE} {F1 : Hp} {M1 : MM} {δ : DS} {Q : D → MM → Prop} {EX : XK'} {pins : List (Addr × Obj)} {s : Shared} {σ : St} {H : Hp} (ha : DE G X e we) (I : Inv X pins σ H s) (hm : HM G X.K F1 M1 H) (rs : RS G X.K F1 σ δ) (h : we δ M1 Q EX) (tk : Takes X (wX G X.K F1 M1 H EX)) :
    wpAny (model X.prog X.w) X.A (eval e X.env) (EP X pins σ (fun v H2 => ∃ d F2 M2, Grow G X.K F1 M1 H F2 M2 H2 ∧ Rep G X.K F2 v d ∧ Q d M2)) X.xe s :=
  ha.run pins s σ H _ I ⟨F1, M1, δ, Q, EX, hm, rs, h, tk, fun v d F2 M2 H2 g r q => ⟨d, F2, M2, g, r, q⟩⟩
theorem run_at (F : FnG X.prog X.w X.K X.mg X.base gd k f fd ps (lift G X.K sp)) (hr : Room k X.A) (hgd : gd = true → X.A.guards = some []) (hb : Binds X.K fd ps dus) (hd : Vals dvs dus) (hf : Flat G X.K dvs dds) {pins : List (Addr × Obj)} {σ : St} {H : Hp} {s : Shared} {us : List Value} {vs : List V} {ds : List D} {F1 : Hp} {M1 : MM} {δ : DS} {Q : D → MM → Prop} {EX : XK'} {P : VK}
    (I : Inv X pins σ H s) (r : Vals vs us) (hm : HM G X.K F1 M1 H) (rs : RS G X.K F1 σ δ) (rl : RepL G X.K F1 vs ds) (h : sp (ds ++ dds) M1 Q (fun xd M' => EX xd δ M')) (tk : Takes X (wX G X.K F1 M1 H EX)) (f' : Fin G X.K F1 M1 H Q P) :
    wpAny (model X.prog X.w) X.A (call (.ref f) us) (EP X pins σ P) X.xe s := by
  have hl' := lift_at (P := P) hm rs (rl.app (hf F1)) h f'
  have r2 : Vals (vs ++ dvs) (us ++ dus) := r.append hd
  have hn : (us ++ dus).length = ps.length := r2.length.symm.trans (F.len _ _ _ _ hl')
  refine wpAny_call (codeAny_mono (F.run X.A X.stack s H ⟨us, []⟩ _ _ P _ hr hgd I.env0 (hb s us I.kIn hn) r2 hl') (fun res s' hq => ?_))
  match res, hq with
  | .error z, hq => exact passAt tk σ pins H s z s' I hq
  | .ok (.ret u), hq => exact I.after hq
theorem de_call (F : FnG X.prog X.w X.K X.mg X.base gd k f fd ps (lift G X.K sp)) (hr : Room k X.A) (hgd : gd = true → X.A.guards = some []) (hm : X.mg x = some (.ref f)) (hk : PySem.W.keepIn X.K (.ref f) = true) (hb : Binds X.K fd ps dus) (hd : Vals dvs dus) (hf : Flat G X.K dvs dds)
    (ha : DA G X (e :: es) wa) (hg : Gl X x := by rfl) (hdb : (x == ("__debug__" : Str)) = false := by decide) (he : starEach (e :: es) X.env = (false, eval e X.env) :: starEach es X.env := by rfl) (hpl : (backTo pos (starEach es X.env)).any (·.1) = false := by rfl) :
    DE G X (.Call (.Name x p) (e :: es) [] pos) (wCall sp dds wa) := by
  refine ⟨fun pins s σ H Q I ⟨F1, M1, δ, Q', EX, hm1, rs, h, tk, fin⟩ => ?_⟩
  refine wpAny_Call_Name_kw (ld_glob I hg hm ?_ hdb)
  refine PySem.W.callWith_K (h₀ := X.base) I.ok.mod.kin hk (thn (da_run ha pos I hm1 rs h tk) fun us s1 ⟨vs, H2, I2, r, ds, F2, M2, g, rl, q⟩ => ⟨I2.kIn, ?_⟩) he hpl
  exact run_at F hr hgd hb hd hf I2 r g.hm (rs.mono g.ext) rl q (tk.imp (wX_mono g)) fun v d F3 M3 H3 g3 r3 q3 => fin v d F3 M3 H3 (g.trans g3) r3 q3
theorem de_call0 (F : FnG X.prog X.w X.K X.mg X.base gd k f fd ps (lift G X.K sp)) (hr : Room k X.A) (hgd : gd = true → X.A.guards = some []) (hm : X.mg x = some (.ref f)) (hk : PySem.W.keepIn X.K (.ref f) = true) (hb : Binds X.K fd ps dus) (hd : Vals dvs dus) (hf : Flat G X.K dvs dds)
    (hg : Gl X x := by rfl) (hdb : (x == ("__debug__" : Str)) = false := by decide) : DE G X (.Call (.Name x p) [] [] pos) (wCall sp dds wNil) := by
  refine ⟨fun pins s σ H Q I ⟨F1, M1, δ, Q', EX, hm1, rs, h, tk, fin⟩ => ?_⟩
  refine wpAny_Call_Name_kw (ld_glob I hg hm ?_ hdb)
  exact PySem.W.callWith_K0 I.kIn hk (run_at (us := []) (ds := []) F hr hgd hb hd hf I .nil hm1 rs .nil h tk fin)
/-- how a def is called as the method m of an instance of c -/
structure MethD (G : Cfg) (X : Cx) (c : Nat) (m : Str) (dds : List D) (sp : SpD) : Prop where
  cls : Cls X.K (G.cl c)
  noat : m ∉ G.nm c
  ex : ∃ (gd : Bool) (k : Nat) (f : Addr) (fd : FuncData) (ps : List Str) (dvs : List V) (dus : List Value), Meth X.K (G.cl c) m f ∧ FnG X.prog X.w X.K X.mg X.base gd k f fd ps (lift G X.K sp) ∧ Room k X.A ∧ (gd = true → X.A.guards = some []) ∧ Binds X.K fd ps dus ∧ Vals dvs dus ∧ Flat G X.K dvs dds
def wMeth (tb : List (Nat × SpD)) (dds : List D) (wo : WE) (wa : WA) : WE := fun δ M Q EX => wo δ M (fun d M1 => ∃ c fs sp, insOf M1 d = some (c, fs) ∧ tb.lookup c = some sp ∧ wa δ M1 (fun ds M2 => sp (d :: (ds ++ dds)) M2 Q (fun xd M3 => EX xd δ M3)) EX) EX
theorem de_meth {pl : Sem Bool} (tb : List (Nat × SpD)) (ht : ∀ q ∈ tb, MethD G X q.1 m dds q.2) (ho : DE G X o wo) (ha : DA G X (e :: es) wa)
    (hst : starEach (e :: es) X.env = (false, eval e X.env) :: starEach es X.env := by rfl) (hpl : (backTo pos (starEach es X.env)).any (·.1) = false := by rfl)
    (hv : eval (.Call (.Attribute o m apos) (e :: es) [] pos) X.env = (do
      let ov ← eval o X.env
      standAt apos.atName
      let (f, first) ← holding [ov] (getMethod ov m pl)
      callWith pos f first (backTo pos (starEach (e :: es) X.env)) (backToKw pos (keywordEach [] X.env))) := by rfl) :
    DE G X (.Call (.Attribute o m apos) (e :: es) [] pos) (wMeth tb dds wo wa) := by
  refine ⟨fun pins s σ H Q I ⟨F1, M1, δ, Q', EX, hm1, rs, h, tk, fin⟩ => ?_⟩
  refine PySem.W.methodCall_KW (pl := pl) (thn (de_run ho I hm1 rs h tk) fun u s1 ⟨v, H2, I2, rv, d, F2, M2, g, rd, c, fs, sp, e1, e2, q⟩ => ?_) hv
  obtain ⟨a, dx, ws, rfl, hz, l, rz⟩ := insOf_rep g.hm rd e1
  obtain ⟨cls, noat, gd, k, f, fd, ps, dvs, dus, hmt, F, hr, hgd, hb, hd, hf⟩ := ht _ (lookup_mem e2)
  obtain rfl : u = Value.ref a := rv
  refine getmeth_ok I2 hz cls hmt (zip_lookup_none noat) ?_
  refine PySem.W.callWith_K (first := [.ref a]) (h₀ := X.base) I.ok.mod.kin hmt.kp (thn (da_run ha pos I2 g.hm (rs.mono g.ext) q (tk.imp (wX_mono g))) fun us s2 ⟨vs, H3, I3, r, ds, F3, M3, g3, rl, q3⟩ => ⟨I3.kIn, ?_⟩) hst hpl
  have gt := g.trans g3
  exact run_at (us := .ref a :: us) (vs := .ref a :: vs) (ds := d :: ds) F hr hgd hb hd hf I3 (.cons rfl r) g3.hm (rs.mono gt.ext) (.cons (rd.mono g3.ext) rl) q3 (tk.imp (wX_mono gt)) fun v d F4 M4 H4 g4 r4 q4 => fin v d F4 M4 H4 (gt.trans g4) r4 q4
theorem de_meth0 {pl : Sem Bool} (tb : List (Nat × SpD)) (ht : ∀ q ∈ tb, MethD G X q.1 m dds q.2) (ho : DE G X o wo)
    (hv : eval (.Call (.Attribute o m apos) [] [] pos) X.env = (do
      let ov ← eval o X.env
      standAt apos.atName
      let (f, first) ← holding [ov] (getMethod ov m pl)
      callWith pos f first (backTo pos (starEach [] X.env)) (backToKw pos (keywordEach [] X.env))) := by rfl) :
    DE G X (.Call (.Attribute o m apos) [] [] pos) (wMeth tb dds wo wNil) := by
  refine ⟨fun pins s σ H Q I ⟨F1, M1, δ, Q', EX, hm1, rs, h, tk, fin⟩ => ?_⟩
  refine PySem.W.methodCall_KW (pl := pl) (thn (de_run ho I hm1 rs h tk) fun u s1 ⟨v, H2, I2, rv, d, F2, M2, g, rd, c, fs, sp, e1, e2, q⟩ => ?_) hv
  obtain ⟨a, dx, ws, rfl, hz, l, rz⟩ := insOf_rep g.hm rd e1
  obtain ⟨cls, noat, gd, k, f, fd, ps, dvs, dus, hmt, F, hr, hgd, hb, hd, hf⟩ := ht _ (lookup_mem e2)
  obtain rfl : u = Value.ref a := rv
  refine getmeth_ok I2 hz cls hmt (zip_lookup_none noat) ?_
  exact PySem.W.callWith_K0 (first := [.ref a]) I2.kIn hmt.kp (run_at (us := [.ref a]) (vs := [.ref a]) (ds := [d]) F hr hgd hb hd hf I2 (.cons rfl .nil) g.hm (rs.mono g.ext) (.cons rd .nil) q (tk.imp (wX_mono g)) fun v d F4 M4 H4 g4 r4 q4 => fin v d F4 M4 H4 (g.trans g4) r4 q4)
/-! ### C(..): a new instance, its __init__ -/
theorem HM.own {K : PySem.W.Frag} {F : Hp} {M : MM} {H : Hp} {dx : Addr} {u : HO} (h : HM G K F M H) (n : H dx = none) : Grow G K F M H F M (upd H dx u) := by
  have ne : ∀ b o, H b = some o → b ≠ dx := fun b o e q => by subst q; rw [n] at e; cases e
  refine ⟨⟨fun b o e => ?_, h.dis, fun b m e => ?_⟩, Same.refl _, fun b o e f m => ⟨by rw [upd_ne (ne b o e)]; exact e, f, m⟩⟩
  · have z := h.sub b o e
    rw [upd_ne (ne b o z)]; exact z
  · obtain ⟨o, z⟩ := (h.mo b m e).some
    exact (h.mo b m e).mono (Same.refl _) (upd_ne (ne b o z))
/-- the new instance may change -/
def wMake (c : Nat) (sp : SpD) (dds : List D) (wa : WA) : WE := fun δ M Q EX => wa δ M (fun ds M1 => ∀ p, M1 p = none → sp (.raw (.ref p) :: (ds ++ dds)) (updM M1 p (.ins c [])) (fun d M2 => d = .non ∧ Q (.raw (.ref p)) M2) (fun xd M2 => EX xd δ M2)) EX
theorem guards_make {A : Around} {C : Addr} {us : List Value} {kw : List (Str × Value)} (h : A.guards = some []) : (A.under (.builtin "type.__call__" ⟨.ref C :: us, kw⟩)).guards = some [] := by
  simp [Around.under, h, Code.guards, Code.isGuard, guardIds, pushGuards]
theorem run_makeD {C : Nat} (Mk' : Mk X.K (G.cl C) f) (F : FnG X.prog X.w X.K X.mg X.base gd k f fd ps (lift G X.K sp)) (hr : Room (k + 1) X.A) (hgd : gd = true → X.A.guards = some []) (hb : Binds X.K fd ps dus) (hd : Vals dvs dus) (hf : Flat G X.K dvs dds) {pins : List (Addr × Obj)} {σ : St} {H : Hp} {s : Shared} {us : List Value} {vs : List V} {ds : List D} {F1 : Hp} {M1 : MM} {δ : DS} {Q : D → MM → Prop} {EX : XK'} {P : VK}
    (I : Inv X pins σ H s) (r : Vals vs us) (hm : HM G X.K F1 M1 H) (rs : RS G X.K F1 σ δ) (rl : RepL G X.K F1 vs ds)
    (h : ∀ p, M1 p = none → sp (.raw (.ref p) :: (ds ++ dds)) (updM M1 p (.ins C [])) (fun d M2 => d = .non ∧ Q (.raw (.ref p)) M2) (fun xd M2 => EX xd δ M2)) (tk : Takes X (wX G X.K F1 M1 H EX)) (f' : Fin G X.K F1 M1 H Q P) :
    wpAny (model X.prog X.w) X.A (call (.ref (G.cl C)) us) (EP X pins σ P) X.xe s := by
  have n1 : H s.heap.objs.size = none := I.hok.fresh (Nat.le_refl _)
  have n2 : H (s.heap.objs.size + 1) = none := I.hok.fresh (Nat.le_succ _)
  have ne : s.heap.objs.size + 1 ≠ s.heap.objs.size := Nat.succ_ne_self _
  have I2 := Inv.made (C := G.cl C) I
  have g1 : Grow G X.K F1 M1 H F1 M1 (upd H s.heap.objs.size (.own (s.heap.objs.size + 1))) := hm.own n1
  have n3 : upd H s.heap.objs.size (.own (s.heap.objs.size + 1)) (s.heap.objs.size + 1) = none := by rw [upd_ne ne]; exact n2
  have g2 := g1.hm.newM (p := s.heap.objs.size + 1) (o := .ins (G.cl C) s.heap.objs.size []) (m := .ins C []) n3 ⟨s.heap.objs.size, [], by rw [upd_same]; simp, by simp, .nil⟩
  have g := g1.trans g2
  have hq := h (s.heap.objs.size + 1) (hm.free n2).2
  have r2 : Vals (V.ref (s.heap.objs.size + 1) :: (vs ++ dvs)) (Value.ref (s.heap.objs.size + 1) :: (us ++ dus)) := .cons rfl (r.append hd)
  have rl2 : RepL G X.K F1 (V.ref (s.heap.objs.size + 1) :: (vs ++ dvs)) (D.raw (.ref (s.heap.objs.size + 1)) :: (ds ++ dds)) := .cons (.raw _) (rl.app (hf F1))
  have hl' := lift_at (P := fun v H' => v = .non ∧ P (.ref (s.heap.objs.size + 1)) H') g.hm rs rl2 hq (fun v d F3 M3 H3 g3 r3 q3 => by
    obtain ⟨e, q3⟩ := q3
    subst e
    cases r3
    exact ⟨rfl, f' _ _ F3 M3 H3 (g.trans g3) (.raw _) q3⟩)
  have hl : (Value.ref (s.heap.objs.size + 1) :: us ++ dus).length = ps.length := by
    have e := r2.length
    rw [F.len _ _ _ _ hl'] at e
    exact e.symm
  have tk2 : Takes X (wX G X.K F1 (updM M1 (s.heap.objs.size + 1) (.ins C [])) (upd (upd H s.heap.objs.size (.own (s.heap.objs.size + 1))) (s.heap.objs.size + 1) (.ins (G.cl C) s.heap.objs.size [])) EX) := tk.imp (wX_mono g)
  refine wpAny_call (make_map (f := f) I.kIn Mk'.makes Mk'.init (beq_iff_eq.mp Mk'.fn) (codeAny_mono (F.run _ X.stack _ _ ⟨Value.ref (s.heap.objs.size + 1) :: us, []⟩ (Value.ref (s.heap.objs.size + 1) :: (us ++ dus)) _ _ _ (hr.make _ us []) (fun z => guards_make (hgd z))
    (I2.env0.make _ us []) (hb _ (Value.ref (s.heap.objs.size + 1) :: us) I2.kIn hl) r2 hl') fun r s' hq' => ?_))
  cases r with
  | error e => exact passAt tk2 σ pins _ _ e s' I2 hq'
  | ok fl =>
    cases fl with
    | ret u =>
      obtain ⟨v, H', I3, rv, ev, q3⟩ := I2.after hq'
      subst ev
      exact ⟨rv, ⟨V.ref (s.heap.objs.size + 1), H', I3, rfl, q3⟩⟩
    | next => exact False.elim hq'
    | brk => exact False.elim hq'
    | cont => exact False.elim hq'
theorem de_make {C : Nat} (Mk' : Mk X.K (G.cl C) f) (F : FnG X.prog X.w X.K X.mg X.base gd k f fd ps (lift G X.K sp)) (hr : Room (k + 1) X.A) (hgd : gd = true → X.A.guards = some []) (hm : X.mg x = some (.ref (G.cl C))) (hb : Binds X.K fd ps dus) (hd : Vals dvs dus) (hf : Flat G X.K dvs dds)
    (ha : DA G X (e :: es) wa) (hg : Gl X x := by rfl) (hdb : (x == ("__debug__" : Str)) = false := by decide) (he : starEach (e :: es) X.env = (false, eval e X.env) :: starEach es X.env := by rfl) (hpl : (backTo pos (starEach es X.env)).any (·.1) = false := by rfl) :
    DE G X (.Call (.Name x p) (e :: es) [] pos) (wMake C sp dds wa) := by
  refine ⟨fun pins s σ H Q I ⟨F1, M1, δ, Q', EX, hm1, rs, h, tk, fin⟩ => ?_⟩
  refine wpAny_Call_Name_kw (ld_glob I hg hm ?_ hdb)
  refine PySem.W.callWith_K (h₀ := X.base) I.ok.mod.kin Mk'.kp (thn (da_run ha pos I hm1 rs h tk) fun us s1 ⟨vs, H2, I2, r, ds, F2, M2, g, rl, q⟩ => ⟨I2.kIn, ?_⟩) he hpl
  exact run_makeD Mk' F hr hgd hb hd hf I2 r g.hm (rs.mono g.ext) rl q (tk.imp (wX_mono g)) fun v d F3 M3 H3 g3 r3 q3 => fin v d F3 M3 H3 (g.trans g3) r3 q3
theorem de_make0 {C : Nat} (Mk' : Mk X.K (G.cl C) f) (F : FnG X.prog X.w X.K X.mg X.base gd k f fd ps (lift G X.K sp)) (hr : Room (k + 1) X.A) (hgd : gd = true → X.A.guards = some []) (hm : X.mg x = some (.ref (G.cl C))) (hb : Binds X.K fd ps dus) (hd : Vals dvs dus) (hf : Flat G X.K dvs dds)
    (hg : Gl X x := by rfl) (hdb : (x == ("__debug__" : Str)) = false := by decide) : DE G X (.Call (.Name x p) [] [] pos) (wMake C sp dds wNil) := by
  refine ⟨fun pins s σ H Q I ⟨F1, M1, δ, Q', EX, hm1, rs, h, tk, fin⟩ => ?_⟩
  refine wpAny_Call_Name_kw (ld_glob I hg hm ?_ hdb)
  exact PySem.W.callWith_K0 I.kIn Mk'.kp (run_makeD (us := []) (ds := []) Mk' F hr hgd hb hd hf I .nil hm1 rs .nil h tk fin)
/-- the instance changes no more -/
def wFrzI (c n : Nat) (we : WE) : WE := fun δ M Q EX => we δ M (fun d M1 => ∃ p fs, d = .raw (.ref p) ∧ M1 p = some (.ins c fs) ∧ fs.length = n ∧ Q (.ins c fs) (delM M1 p)) EX
theorem de_frzI {c n : Nat} {we : WE} (hn : (G.nm c).length = n) (h : DE G X e we) : DE G X e (wFrzI c n we) := by
  refine pe_imp h fun σ H P ⟨F, M, δ, Q, EX, hm, rs, h, tk, f⟩ => ?_
  refine ⟨F, M, δ, _, EX, hm, rs, h, tk, fun v d F1 M1 H1 g1 r1 h1 => ?_⟩
  obtain ⟨p, fs, rfl, ep, hl, q⟩ := h1
  cases r1
  obtain ⟨F2, g2, r2⟩ := g1.hm.settle ep (fun c' fs' z => by cases z; rw [hl, hn])
  exact f _ _ _ _ _ (g1.trans g2) r2 q
end
end DL

set_option Elab.async false
set_option linter.all false
set_option maxRecDepth 100000
namespace DL
open PySem PySem.Spec L2
open PyProof.Rows hiding St

section
variable {G : Cfg} {X : Cx} {e o i value : Expr}
theorem HM.other {K : PySem.W.Frag} {F : Hp} {M : MM} {H : Hp} {p : Addr} {u : HO} (h : HM G K F M H) (nf : F p = none) (nm : M p = none) : HM G K F M (upd H p u) := by
  refine ⟨fun b o e => ?_, h.dis, fun b m e => ?_⟩
  · have z : b ≠ p := fun z => by subst z; rw [nf] at e; cases e
    rw [upd_ne z]; exact h.sub b o e
  · have z : b ≠ p := fun z => by subst z; rw [nm] at e; cases e
    exact (h.mo b m e).mono (Same.refl _) (upd_ne z)
theorem Grow.side {K : PySem.W.Frag} {F F' : Hp} {M M' : MM} {H H' : Hp} {p : Addr} {u : HO} (g : Grow G K F M H F' M' H') (n : H p = none) (nf : F' p = none) (nm : M' p = none) : Grow G K F M H F' M' (upd H' p u) :=
  ⟨g.hm.other nf nm, g.ext, fun b o e f m => by
    have z : b ≠ p := fun z => by subst z; rw [n] at e; cases e
    obtain ⟨h1, h2, h3⟩ := g.keep b o e f m
    exact ⟨by rw [upd_ne z]; exact h1, h2, h3⟩⟩
theorem HM.adopt {K : PySem.W.Frag} {F : Hp} {M : MM} {H : Hp} {p : Addr} {u : HO} (h : HM G K F M H) (e : H p = some u) (nf : F p = none) (nm : M p = none) : HM G K (upd F p u) M H ∧ Same F (upd F p u) := by
  have s1 : Same F (upd F p u) := fun b o q => by
    have z : b ≠ p := fun z => by subst z; rw [nf] at q; cases q
    rw [upd_ne z]; exact q
  refine ⟨⟨fun b o q => ?_, fun b m q => ?_, fun b m q => (h.mo b m q).mono s1 rfl⟩, s1⟩
  · by_cases z : b = p
    · subst z; rw [upd_same] at q; cases q; exact e
    · rw [upd_ne z] at q; exact h.sub b o q
  · have z : b ≠ p := fun z => by subst z; rw [nm] at q; cases q
    rw [upd_ne z]; exact h.dis b m q
theorem HM.adoptM {K : PySem.W.Frag} {F : Hp} {M : MM} {H : Hp} {p : Addr} {m : MO} (h : HM G K F M H) (r : RepM G K F H p m) (nf : F p = none) (nm : M p = none) : HM G K F (updM M p m) H := by
  refine ⟨h.sub, fun b m' q => ?_, fun b m' q => ?_⟩
  · by_cases z : b = p
    · subst z; exact nf
    · rw [updM_ne z] at q; exact h.dis b m' q
  · by_cases z : b = p
    · subst z; rw [updM_same] at q; cases q; exact r
    · rw [updM_ne z] at q; exact h.mo b m' q
/-! ### comprehensions -/
def wipeD (δ : DS) : List Nat → DS
  | [] => δ
  | v :: vs => (wipeD δ vs).set v none
theorem rs_wipe {K : PySem.W.Frag} {F : Hp} {σ : St} {δ : DS} (h : RS G K F σ δ) : ∀ vs, RS G K F (wipe σ vs) (wipeD δ vs)
  | [] => h
  | v :: vs => by
    have ih := rs_wipe h vs
    unfold wipe wipeD
    refine ⟨by rw [List.length_set, List.length_set]; exact ih.1, fun j d q => ?_⟩
    by_cases z : v = j
    · subst z
      by_cases l : v < (wipeD δ vs).length
      · rw [List.getElem?_set_self l] at q; cases q
      · rw [List.getElem?_eq_none_iff.mpr (by rw [List.length_set]; omega)] at q; cases q
    · rw [List.getElem?_set_ne z] at q ⊢
      exact ih.2 j d q
def wYes : WT := fun _ M Q _ => Q true M
abbrev noX : XK' := fun _ _ _ => False
def wLcL (src : Option (Addr × List D)) (b : BD) (wt : WT) (we : WE) (δ : DS) (fin : List D → MM → Prop) : List D → List D → MM → Prop
  | [], acc, M => stay src M ∧ fin acc M
  | d :: ds, acc, M => stay src M ∧ match b d δ with
    | some δ' => wt δ' M (fun c M1 => if c = true then we δ' M1 (fun y M2 => acc.length < sizeLine ∧ wLcL src b wt we δ fin ds (acc ++ [y]) M2) noX else wLcL src b wt we δ fin ds acc M1) noX
    | none => False
def wLc (wi : WI) (b : BD) (wt : WT) (we : WE) (vs : List Nat) : WE := fun δ M Q EX => wi δ M (fun it M1 => wLcL it.src b wt we (wipeD δ vs) (fun acc M2 => Q (.lst acc) M2) it.items [] M1) EX
def wLcM (wi : WI) (b : BD) (wt : WT) (we : WE) (vs : List Nat) : WE := fun δ M Q EX => wi δ M (fun it M1 => wLcL it.src b wt we (wipeD δ vs) (fun acc M2 => ∀ p, M2 p = none → Q (.raw (.ref p)) (updM M2 p (.lst acc))) it.items [] M1) EX
/-- the target's places are the block's own -/
def InOwn (b : BD) (vs : List Nat) : Prop := ∀ d δ δ', b d δ = some δ' → ∀ σ : St, ∀ (x : DS → St → Prop), True
def SimGw (G : Cfg) (K : PySem.W.Frag) (g : TG) (b : BD) (vs : List Nat) : Prop := ∀ F M H σ δ δ' v d (Q : St → Hp → Prop), HM G K F M H → RS G K F σ δ → Rep G K F v d → b d δ = some δ' → (∀ σ', RS G K F σ' δ' → wipe σ' vs = wipe σ vs → Q σ' H) → g v σ H Q
theorem set_set_none {σ : St} : ∀ {vs : List Nat} {i : Nat} {x : Option V}, i ∈ vs → wipe (σ.set i x) vs = wipe σ vs
  | [], _, _, h => by simp at h
  | v :: vs, i, x, h => by
    unfold wipe
    by_cases hi : i ∈ vs
    · rw [set_set_none hi]
    · have e : i = v := by
        rcases List.mem_cons.mp h with z | z
        · exact z
        · exact absurd z hi
      subst e
      have z : ∀ (ws : List Nat), i ∉ ws → wipe (σ.set i x) ws = (wipe σ ws).set i x := by
        intro ws
        induction ws with
        | nil => intro _; rfl
        | cons w ws ih =>
          intro hw
          simp only [List.mem_cons, not_or] at hw
          unfold wipe
          rw [ih hw.2, List.set_comm _ _ hw.1]
      rw [z vs hi, List.set_set]
theorem simGw_nm {K : PySem.W.Frag} {i : Nat} {vs : List Nat} (h : i ∈ vs) : SimGw G K (gName i) (bNm i) vs := by
  intro F M H σ δ δ' v d Q hm rs r e q
  unfold bNm at e
  cases e
  exact q _ (rs.set i r) (set_set_none h)
theorem simGw_sets {K : PySem.W.Frag} {F : Hp} {H : Hp} {vs : List Nat} {Q : St → Hp → Prop} : ∀ (is : List Nat) (ws : List V) (ds : List D) (σ : St) (δ δ' : DS), (∀ i ∈ is, i ∈ vs) → RS G K F σ δ → RepL G K F ws ds → bSets is ds δ = some δ' → (∀ σ', RS G K F σ' δ' → wipe σ' vs = wipe σ vs → Q σ' H) → gsOf is ws σ H Q
  | [], _, _, σ, δ, δ', hi, rs, .nil, e, q => by
    unfold bSets at e
    cases e
    exact ⟨rfl, q _ rs rfl⟩
  | [], _, _, σ, δ, δ', hi, rs, .cons _ _, e, q => by unfold bSets at e; cases e
  | i :: is, _, _, σ, δ, δ', hi, rs, .nil, e, q => by unfold bSets at e; cases e
  | i :: is, _, _, σ, δ, δ', hi, rs, .cons r t, e, q => by
    unfold bSets at e
    exact ⟨_, _, rfl, simGw_sets is _ _ _ _ _ (fun j hj => hi j (List.mem_cons_of_mem _ hj)) (rs.set i r) t e fun σ' h1 h2 => q σ' h1 (h2.trans (set_set_none (hi i List.mem_cons_self)))⟩
theorem simGw_tup {K : PySem.W.Frag} {vs : List Nat} (is : List Nat) (hi : ∀ i ∈ is, i ∈ vs) : SimGw G K (gTup K is.length (gsOf is)) (bTup is) vs := by
  intro F M H σ δ δ' v d Q hm rs r e q
  unfold bTup at e
  split at e
  · cases r with
    | tup h r => exact ⟨_, _, rfl, sqT_mono hm.sub h, by rw [r.len]; exact bSets_len _ _ _ _ e, simGw_sets is _ _ _ _ _ hi rs r e q⟩
  · cases e
abbrev DPTs (G : Cfg) (X : Cx) (ifs : List Expr) (w : WT) : Prop := PTs X ifs (upT G X w)
theorem pts_imp {ifs : List Expr} {t t' : TT} (h : PTs X ifs t) (i : ∀ σ H P, t' σ H P → t σ H P) : PTs X ifs t' := ⟨fun pins s σ H Q I q => h.run pins s σ H Q I (i σ H Q q)⟩
theorem dpts_nil : DPTs G X [] wYes := pts_imp pts_nil fun σ H P ⟨F, M, δ, Q, EX, hm, rs, h, tk, f⟩ => f true F M H (.refl hm) h
theorem dpts_one {c : Expr} {w : WT} (h : DT G X c w) : DPTs G X [c] w := pts_one h
theorem takes_no {Y : Cx} {F : Hp} {M : MM} {H : Hp} : Takes Y (wX G Y.K F M H noX) := takes0.imp fun c d σ H ⟨xd, δ, F', M', g, a, b, z⟩ => z.elim
/-- where nothing is raised -/
def upN (G : Cfg) (K : PySem.W.Frag) (w : WE) : TE := fun σ H P => ∃ F M δ Q, HM G K F M H ∧ RS G K F σ δ ∧ w δ M Q noX ∧ Fin G K F M H Q P
def upTN (G : Cfg) (K : PySem.W.Frag) (w : WT) : TT := fun σ H P => ∃ F M δ Q, HM G K F M H ∧ RS G K F σ δ ∧ w δ M Q noX ∧ ∀ b F' M' H', Grow G K F M H F' M' H' → Q b M' → P b H'
theorem upN_up (Y : Cx) {K : PySem.W.Frag} (hY : Y.K = K) {w : WE} (σ : St) (H : Hp) (P : VK) (h : upN G K w σ H P) : up G Y w σ H P := by
  subst hY
  obtain ⟨F, M, δ, Q, hm, rs, h, f⟩ := h
  exact ⟨F, M, δ, Q, noX, hm, rs, h, takes_no, f⟩
theorem upTN_up (Y : Cx) {K : PySem.W.Frag} (hY : Y.K = K) {w : WT} (σ : St) (H : Hp) (P : Bool → Hp → Prop) (h : upTN G K w σ H P) : upT G Y w σ H P := by
  subst hY
  obtain ⟨F, M, δ, Q, hm, rs, h, f⟩ := h
  exact ⟨F, M, δ, Q, noX, hm, rs, h, takes_no, f⟩
theorem lc_up {wi : WI} {g : TG} {b : BD} {wt : WT} {we : WE} {vs : List Nat} {fin : (D → MM → Prop) → List D → MM → Prop} (sg : SimGw G X.K g b vs)
    (hfin : ∀ {F M H Q P F2 M2 H2 Dn acc ws}, Fin G X.K F M H Q P → Grow G X.K F M H F2 M2 H2 → (∀ o, H Dn = some o → F Dn = none → M Dn = none → False) → H2 Dn = some (.lst ws) → F2 Dn = none → M2 Dn = none → RepL G X.K F2 ws acc → fin Q acc M2 → P (.ref Dn) H2)
    (σ : St) (H : Hp) (P : VK) (h : up G X (fun δ M Q EX => wi δ M (fun it M1 => wLcL it.src b wt we (wipeD δ vs) (fin Q) it.items [] M1) EX) σ H P) : tLc (upI G X wi) g (upTN G X.K wt) (upN G X.K we) vs σ H P := by
  obtain ⟨F, M, δ, Q, EX, hm, rs, h, tk, f⟩ := h
  refine ⟨F, M, δ, _, EX, hm, rs, h, tk, fun J it F1 M1 H1 g1 wk h1 => ?_⟩
  intro Dn hDn
  refine ⟨fun i m H' => m = it.items.length - i ∧ i ≤ it.items.length ∧ ∃ F' M' acc ws, Grow G X.K F1 M1 H1 F' M' H' ∧ H' Dn = some (.lst ws) ∧ F' Dn = none ∧ M' Dn = none ∧ RepL G X.K F' ws acc ∧ wLcL it.src b wt we (wipeD δ vs) (fin Q) (it.items.drop i) acc M',
    ⟨it.items.length, by simp, Nat.zero_le _, F1, M1, [], [], (Grow.refl g1.hm).side hDn (g1.hm.free hDn).1 (g1.hm.free hDn).2, upd_same, (g1.hm.free hDn).1, (g1.hm.free hDn).2, .nil, h1⟩, ?_⟩
  rintro i m H' ⟨em, hi, F', M', acc, ws, g', hD, fD, mD, ra, h'⟩
  subst em
  by_cases hlt : i < it.items.length
  · rw [List.drop_eq_getElem_cons hlt] at h'
    unfold wLcL at h'
    obtain ⟨st, h'⟩ := h'
    split at h'
    · rename_i δ2 eb
      obtain ⟨go, yl⟩ := wk.step F' M' H' i it.items[i] g' st (List.getElem?_eq_getElem hlt)
      refine .inr ⟨go, fun H2 => ∃ F2 M2 acc2 ws2, Grow G X.K F1 M1 H1 F2 M2 H2 ∧ H2 Dn = some (.lst ws2) ∧ F2 Dn = none ∧ M2 Dn = none ∧ RepL G X.K F2 ws2 acc2 ∧ wLcL it.src b wt we (wipeD δ vs) (fin Q) (it.items.drop (i + 1)) acc2 M2, fun H2 w2 => ⟨it.items.length - (i + 1), by omega, rfl, hlt, w2⟩, fun x H'' y => ?_⟩
      obtain ⟨F3, g3, r3⟩ := yl x H'' y
      obtain ⟨hD3, fD3, mD3⟩ := g3.keep Dn _ hD fD mD
      have gt := g1.trans (g'.trans g3)
      refine sg F3 M' H'' (wipe σ vs) (wipeD δ vs) δ2 x _ _ g3.hm (rs_wipe (rs.mono gt.ext) vs) r3 eb fun σ4 rs4 ew => ⟨?_, ?_⟩
      · exact ew.trans (by
          have z : ∀ (ws : List Nat), (∀ w ∈ ws, w ∈ vs) → wipe (wipe σ vs) ws = wipe σ vs := by
            intro ws
            induction ws with
            | nil => intro _; rfl
            | cons w ws ih =>
              intro hw
              show (wipe (wipe σ vs) ws).set w none = wipe σ vs
              rw [ih fun v hv => hw v (List.mem_cons_of_mem _ hv)]
              have e1 : wipe (σ.set w none) vs = wipe σ vs := set_set_none (hw w List.mem_cons_self)
              have e2 : ∀ (us : List Nat), w ∈ us → (wipe σ us).set w none = wipe σ us := by
                intro us
                induction us with
                | nil => intro h; simp at h
                | cons u us ih2 =>
                  intro h
                  unfold wipe
                  by_cases q : w = u
                  · subst q; rw [List.set_set]
                  · have h' : w ∈ us := by
                      rcases List.mem_cons.mp h with z | z
                      · exact absurd z q
                      · exact z
                    rw [List.set_comm _ _ (fun z => q z.symm), ih2 h']
              exact e2 vs (hw w List.mem_cons_self)
          exact z vs fun _ h => h)
      · refine ⟨F3, M', δ2, _, g3.hm, rs4, h', fun k F4 M4 H4 g4 q4 => ?_⟩
        obtain ⟨hD4, fD4, mD4⟩ := g4.keep Dn _ hD3 fD3 mD3
        cases k with
        | true =>
          refine ⟨F4, M4, δ2, _, g4.hm, rs4.mono g4.ext, q4, fun v d F5 M5 H5 g5 r5 q5 => ?_⟩
          obtain ⟨hD5, fD5, mD5⟩ := g5.keep Dn _ hD4 fD4 mD4
          have g345 := (g3.trans g4).trans g5
          refine ⟨ws, hD5, by rw [ra.len]; exact q5.1, F5, M5, acc ++ [d], ws ++ [v], (g'.trans g345).side hDn fD5 mD5, upd_same, fD5, mD5, (ra.mono g345.ext).app (.cons r5 .nil), q5.2⟩
        | false => exact ⟨F4, M4, acc, ws, g'.trans (g3.trans g4), hD4, fD4, mD4, ra.mono (g3.trans g4).ext, q4⟩
    · exact h'.elim
  · have e : i = it.items.length := by omega
    subst e
    rw [List.drop_length] at h'
    unfold wLcL at h'
    have hH : ∀ o, H Dn = some o → F Dn = none → M Dn = none → False := fun o q qf qm => by
      have z := (g1.keep Dn o q qf qm).1
      rw [hDn] at z; cases z
    exact .inl ⟨wk.stop F' M' H' g' h'.1, hfin f (g1.trans g') hH hD fD mD ra h'.2⟩
theorem fin_frz {F : Hp} {M : MM} {H : Hp} {Q : D → MM → Prop} {P : VK} {F2 : Hp} {M2 : MM} {H2 : Hp} {Dn : Addr} {acc : List D} {ws : List V} {K : PySem.W.Frag} (f : Fin G K F M H Q P) (g : Grow G K F M H F2 M2 H2) (hH : ∀ o, H Dn = some o → F Dn = none → M Dn = none → False)
    (hD : H2 Dn = some (.lst ws)) (fD : F2 Dn = none) (mD : M2 Dn = none) (ra : RepL G K F2 ws acc) (q : Q (.lst acc) M2) : P (.ref Dn) H2 := by
  obtain ⟨hm, s1⟩ := g.hm.adopt hD fD mD
  refine f _ _ (upd F2 Dn (.lst ws)) M2 H2 ⟨hm, g.ext.trans s1, fun b o e fb mb => ?_⟩ (.lst upd_same (ra.mono s1)) q
  obtain ⟨h1, h2, h3⟩ := g.keep b o e fb mb
  have z : b ≠ Dn := fun z => by subst z; exact hH o e fb mb
  exact ⟨h1, by rw [upd_ne z]; exact h2, h3⟩
theorem fin_mut {F : Hp} {M : MM} {H : Hp} {Q : D → MM → Prop} {P : VK} {F2 : Hp} {M2 : MM} {H2 : Hp} {Dn : Addr} {acc : List D} {ws : List V} {K : PySem.W.Frag} (f : Fin G K F M H Q P) (g : Grow G K F M H F2 M2 H2) (hH : ∀ o, H Dn = some o → F Dn = none → M Dn = none → False)
    (hD : H2 Dn = some (.lst ws)) (fD : F2 Dn = none) (mD : M2 Dn = none) (ra : RepL G K F2 ws acc) (q : ∀ p, M2 p = none → Q (.raw (.ref p)) (updM M2 p (.lst acc))) : P (.ref Dn) H2 := by
  have hm := g.hm.adoptM (m := .lst acc) ⟨ws, hD, ra⟩ fD mD
  refine f _ _ F2 (updM M2 Dn (.lst acc)) H2 ⟨hm, g.ext, fun b o e fb mb => ?_⟩ (.raw _) (q Dn mD)
  obtain ⟨h1, h2, h3⟩ := g.keep b o e fb mb
  have z : b ≠ Dn := fun z => by subst z; exact hH o e fb mb
  exact ⟨h1, h2, by rw [updM_ne z]; exact h3⟩
abbrev Blk (X : Cx) (scope : Scope) (P : Cx → Prop) : Prop := ∀ (s : Shared) (H : Hp) (C : Addr) (cl : List (Str × Addr)) (fp : List Addr), P (X.blk s H scope (compEnvC scope cl C X.env) fp)
theorem de_lc {elt tg iter : Expr} {ifs : List Expr} {scope : Scope} {pos : Pos} {wi : WI} {g : TG} {b : BD} {wt : WT} {we : WE} (own : List (Str × Nat)) (hc : X.calm = true) (hN : X.N.Nodup) (ok : BlkOk X.N X.env.scope scope own) (hi : DI G X tg iter wi) (sg : SimGw G X.K g b (own.map (·.2)))
    (hg : Blk X scope fun Y => PG Y tg g) (ht : Blk X scope fun Y => DPTs G Y ifs wt) (he : Blk X scope fun Y => DE G Y elt we) (hs : ∀ x, foldedSetIterable iter X.env x = pure x := by intro _; rfl) :
    DE G X (.ListComp elt [⟨tg, iter, ifs, 0⟩] scope pos) (wLc wi b wt we (own.map (·.2))) := by
  refine pe_imp (pe_lc (te := upN G X.K we) (tt := upTN G X.K wt) hc hN hi ok hg (fun s H C cl fp => pts_imp (ht s H C cl fp) (upTN_up (X.blk s H scope (compEnvC scope cl C X.env) fp) rfl)) (fun s H C cl fp => pe_imp (he s H C cl fp) (upN_up (X.blk s H scope (compEnvC scope cl C X.env) fp) rfl)) hs) fun σ H P h => ?_
  exact lc_up (fin := fun Q acc M2 => Q (.lst acc) M2) sg (fun f g hH hD fD mD ra q => fin_frz f g hH hD fD mD ra q) σ H P h
theorem de_lcM {elt tg iter : Expr} {ifs : List Expr} {scope : Scope} {pos : Pos} {wi : WI} {g : TG} {b : BD} {wt : WT} {we : WE} (own : List (Str × Nat)) (hc : X.calm = true) (hN : X.N.Nodup) (ok : BlkOk X.N X.env.scope scope own) (hi : DI G X tg iter wi) (sg : SimGw G X.K g b (own.map (·.2)))
    (hg : Blk X scope fun Y => PG Y tg g) (ht : Blk X scope fun Y => DPTs G Y ifs wt) (he : Blk X scope fun Y => DE G Y elt we) (hs : ∀ x, foldedSetIterable iter X.env x = pure x := by intro _; rfl) :
    DE G X (.ListComp elt [⟨tg, iter, ifs, 0⟩] scope pos) (wLcM wi b wt we (own.map (·.2))) := by
  refine pe_imp (pe_lc (te := upN G X.K we) (tt := upTN G X.K wt) hc hN hi ok hg (fun s H C cl fp => pts_imp (ht s H C cl fp) (upTN_up (X.blk s H scope (compEnvC scope cl C X.env) fp) rfl)) (fun s H C cl fp => pe_imp (he s H C cl fp) (upN_up (X.blk s H scope (compEnvC scope cl C X.env) fp) rfl)) hs) fun σ H P h => ?_
  exact lc_up (fin := fun Q acc M2 => ∀ p, M2 p = none → Q (.raw (.ref p)) (updM M2 p (.lst acc))) sg (fun f g hH hD fD mD ra q => fin_mut f g hH hD fD mD ra q) σ H P h
/-- name = [..] on one line -/
theorem ds_setLc {elt tg iter : Expr} {ifs : List Expr} {scope : Scope} {pos spos py : Pos} {wi : WI} {g : TG} {b : BD} {wt : WT} {we : WE} (i : Nat) {y : Str} (own : List (Str × Nat)) (hc : X.calm = true) (hN : X.N.Nodup) (ok : BlkOk X.N X.env.scope scope own) (hi : DI G X tg iter wi) (sg : SimGw G X.K g b (own.map (·.2)))
    (hg : Blk X scope fun Y => PG Y tg g) (ht : Blk X scope fun Y => DPTs G Y ifs wt) (he : Blk X scope fun Y => DE G Y elt we) (hsw : swapsWith (.ListComp elt [⟨tg, iter, ifs, 0⟩] scope pos) (some (.Name y py)) spos.line X.env = pure true)
    (hy : X.N[i]? = some y := by rfl) (hyl : X.env.scope.names.lookup y = some .local := by rfl) (hs : ∀ x, foldedSetIterable iter X.env x = pure x := by intro _; rfl) :
    DSt G X (.Assign [.Name y py] (.ListComp elt [⟨tg, iter, ifs, 0⟩] scope pos) spos) (wSet i (wLc wi b wt we (own.map (·.2)))) := by
  refine ps_imp (ps_setLc (te := upN G X.K we) (tt := upTN G X.K wt) hc hN hy hyl hsw hi ok hg (fun s H C cl fp => pts_imp (ht s H C cl fp) (upTN_up (X.blk s H scope (compEnvC scope cl C X.env) fp) rfl)) (fun s H C cl fp => pe_imp (he s H C cl fp) (upN_up (X.blk s H scope (compEnvC scope cl C X.env) fp) rfl)) hs) fun D σ H ⟨F, M, δ, E, EX, hm, rs, h, tk, n, r, bk, c⟩ => ?_
  refine lc_up (fin := fun Q acc M2 => Q (.lst acc) M2) sg (fun f g hH hD fD mD ra q => fin_frz f g hH hD fD mD ra q) σ H _ ⟨F, M, δ, fun d M1 => E.nx (δ.set i (some d)) M1, EX, hm, rs, h, tk, fun v d F1 M1 H1 g1 r1 q => ?_⟩
  exact n _ _ F1 M1 H1 g1 ((rs.mono g1.ext).set i r1) q
theorem ds_setLcM {elt tg iter : Expr} {ifs : List Expr} {scope : Scope} {pos spos py : Pos} {wi : WI} {g : TG} {b : BD} {wt : WT} {we : WE} (i : Nat) {y : Str} (own : List (Str × Nat)) (hc : X.calm = true) (hN : X.N.Nodup) (ok : BlkOk X.N X.env.scope scope own) (hi : DI G X tg iter wi) (sg : SimGw G X.K g b (own.map (·.2)))
    (hg : Blk X scope fun Y => PG Y tg g) (ht : Blk X scope fun Y => DPTs G Y ifs wt) (he : Blk X scope fun Y => DE G Y elt we) (hsw : swapsWith (.ListComp elt [⟨tg, iter, ifs, 0⟩] scope pos) (some (.Name y py)) spos.line X.env = pure true)
    (hy : X.N[i]? = some y := by rfl) (hyl : X.env.scope.names.lookup y = some .local := by rfl) (hs : ∀ x, foldedSetIterable iter X.env x = pure x := by intro _; rfl) :
    DSt G X (.Assign [.Name y py] (.ListComp elt [⟨tg, iter, ifs, 0⟩] scope pos) spos) (wSet i (wLcM wi b wt we (own.map (·.2)))) := by
  refine ps_imp (ps_setLc (te := upN G X.K we) (tt := upTN G X.K wt) hc hN hy hyl hsw hi ok hg (fun s H C cl fp => pts_imp (ht s H C cl fp) (upTN_up (X.blk s H scope (compEnvC scope cl C X.env) fp) rfl)) (fun s H C cl fp => pe_imp (he s H C cl fp) (upN_up (X.blk s H scope (compEnvC scope cl C X.env) fp) rfl)) hs) fun D σ H ⟨F, M, δ, E, EX, hm, rs, h, tk, n, r, bk, c⟩ => ?_
  refine lc_up (fin := fun Q acc M2 => ∀ p, M2 p = none → Q (.raw (.ref p)) (updM M2 p (.lst acc))) sg (fun f g hH hD fD mD ra q => fin_mut f g hH hD fD mD ra q) σ H _ ⟨F, M, δ, fun d M1 => E.nx (δ.set i (some d)) M1, EX, hm, rs, h, tk, fun v d F1 M1 H1 g1 r1 q => ?_⟩
  exact n _ _ F1 M1 H1 g1 ((rs.mono g1.ext).set i r1) q

/-! ### properties -/
structure PropD (G : Cfg) (X : Cx) (c : Nat) (f : Str) (sp : SpD) : Prop where
  cls : Cls X.K (G.cl c)
  ex : ∃ (gd : Bool) (p g k : Nat) (fd : FuncData) (ps : List Str), PropOf X.K (G.cl c) f p g ∧ FnG X.prog X.w X.K X.mg X.base gd k g fd ps (lift G X.K sp) ∧ Room (k + 1) X.A ∧ (gd = true → X.A.guards = some []) ∧ Binds X.K fd ps []
/-- e.f, a property whose def raises nothing -/
def wProp (tb : List (Nat × SpD)) (wo : WE) : WE := fun δ M Q EX => wo δ M (fun d M1 => ∃ c fs sp, insOf M1 d = some (c, fs) ∧ tb.lookup c = some sp ∧ sp [d] M1 Q (fun _ _ => False)) EX
theorem de_prop {f : Str} {wo : WE} {pos} (tb : List (Nat × SpD)) (ht : ∀ q ∈ tb, PropD G X q.1 f q.2) (ho : DE G X e wo) (hab : attributeBase e f X.env (eval e X.env) = eval e X.env := by rfl) : DE G X (.Attribute e f pos) (wProp tb wo) := by
  refine ⟨fun pins s σ H Q I ⟨F1, M1, δ, Q', EX, hm1, rs, h, tk, fin⟩ => ?_⟩
  refine attr_of hab (thn (de_run ho I hm1 rs h tk) fun u s1 ⟨v, H2, I2, rv, d, F2, M2, g, rd, c, fs, sp, e1, e2, q⟩ => ?_)
  obtain ⟨a, dx, ws, rfl, hz, l, rz⟩ := insOf_rep g.hm rd e1
  obtain ⟨cls, gd, p, ga, k, fd, ps, hp, F, hr, hgd, hb⟩ := ht _ (lookup_mem e2)
  obtain rfl : u = Value.ref a := rv
  obtain ⟨mA, O, _, _, _, _⟩ := ins_get I2.hok hz
  obtain ⟨od, J, _⟩ := O.look
  obtain ⟨more, hrec⟩ := hp.rec_
  have It := I2.tok (s1.toks + 1)
  have hl' : lift G X.K sp [V.ref a] H2 Q E0 := ⟨F2, M2, [d], Q', _, g.hm, .cons rd .nil, q, fun v d F3 M3 H3 g3 r3 q3 => fin v d F3 M3 H3 (g.trans g3) r3 q3, fun _ _ _ _ _ _ _ _ z => z⟩
  have isC : (PySem.W.clsIn X.K (G.cl c)).isSome = true := by
    obtain ⟨cd, ec, _⟩ := PySem.W.any_some cls.hd
    rw [ec]; rfl
  refine PySem.W.get_bind I2.kIn J (PySem.W.plainGet_of (cls.get f)).1 (PySem.W.findObj_data isC hp.at_ hp.get hp.tak) (PySem.W.plainGet_of (cls.get f)).2 (wpAny_call (PySem.W.prop_get (s := { s1 with toks := s1.toks + 1 }) I2.kIn hrec ?_))
  refine codeAny_mono (F.run X.A.in1 X.stack { s1 with toks := s1.toks + 1 } H2 ⟨[.ref a], []⟩ [.ref a] [.ref a] Q E0 hr.in1 hgd It.env0.in1 (hb _ [.ref a] It.kIn (F.len _ _ _ _ hl')) (.cons rfl .nil) hl') (fun res s' hq => ?_)
  match res, hq with
  | .error er, hq => exact False.elim (passL (X := X.nox) pins σ H2 { s1 with toks := s1.toks + 1 } er s' (It.wish _) hq)
  | .ok (.ret u), hq =>
    obtain ⟨v, H', I3, rv, q3⟩ := It.after hq
    show wpAny _ _ (handedOut u) _ _ _
    rw [PySem.W.handedOut_of (handed_of rv)]
    exact wpAny_pure ⟨v, H', I3, rv, q3⟩
end
end DL

set_option Elab.async false
set_option linter.all false
set_option maxRecDepth 100000
namespace DL
open PySem PySem.Spec L2
open PyProof.Rows hiding St

section
variable {G : Cfg} {X : Cx} {e o i value : Expr}
/-! ### repr -/
def rRepr (K : PySem.W.Frag) : List V → Hp → VK → Prop := fun xs H Q => ∃ x p, xs = [x] ∧ Dp K H x p ∧ p.showable = true ∧ p.hasDict = false ∧ p.depth ≤ 64 ∧ p.shown.length ≤ sizeLine ∧ Q (.str p.shown) H
theorem call_reprD (hg : X.A.guards = some []) (hu : X.A.units + 66 < cLine) : CallR X (.builtin "repr") (rRepr X.K) := by
  intro pins s σ H xs us Q I r h
  obtain ⟨x, p, rfl, hd, h1, h2, h3, h4, q⟩ := h
  cases r with
  | cons r t =>
    cases t
    rename_i u
    have big : ∀ {a : Addr}, u = .ref a → wpAny (PySem.model X.prog X.w) X.A (call (.builtin "repr") [u]) (EP X pins σ Q) X.xe s := fun {a} e => by
      subst e
      obtain ⟨as, rd⟩ := Dp.reads I p x (.ref a) hd r
      exact repr_of_reads' rd h1 (PyData.noDict_hsm h2) hg (by omega) (fun _ _ e => e) (fun h' u tk hk => ⟨.str p.shown, H, I.kept (t' := tk) hk, ⟨_, rfl⟩, q⟩) h4
    cases hd with
    | non =>
      cases (show u = Value.none from r)
      have e : (PyData.none).shown = ("None" : Str) := PyData.shown_none
      rw [e] at q
      exact PySem.P.repr_of_none ⟨.str _, H, I.tok _, ⟨_, rfl⟩, q⟩
    | bl b =>
      cases (show u = Value.bool b from r)
      rw [PyData.shown_bool] at q
      exact PySem.P.repr_of_bool ⟨.str _, H, I.tok _, ⟨_, rfl⟩, q⟩
    | int i =>
      obtain ⟨t, rfl⟩ := (show ∃ t, u = Value.int i t from r)
      rw [PyData.shown_int] at q
      have h5 : i.natAbs.log2 < 1920 := by simpa [PyData.showable] using h1
      exact PySem.P.repr_of_int h5 ⟨.str _, H, I.tok _, ⟨_, rfl⟩, q⟩
    | str z =>
      obtain ⟨t, rfl⟩ := (show ∃ t, u = Value.str z t from r)
      rw [PyData.shown_str] at q h4
      exact PySem.P.repr_of_str ⟨.str _, H, I.tok _, ⟨_, rfl⟩, q⟩ h4
    | lst hs ha => exact big (show u = Value.ref _ from r)
    | tup hs ha => exact big (show u = Value.ref _ from r)
@[irreducible] def wRepr : WR1 := fun ds M Q => match ds with
  | [d] => ∃ p, py M d = some p ∧ p.showable = true ∧ p.hasDict = false ∧ p.depth ≤ 64 ∧ p.shown.length ≤ sizeLine ∧ Q (.str p.shown) M
  | _ => False
theorem sim_repr {K : PySem.W.Frag} : SimC G K (rRepr K) wRepr := by
  intro F M H vs ds Q P hm r w f
  unfold wRepr at w
  split at w
  · obtain ⟨p, h1, h2, h3, h4, h5, w⟩ := w
    obtain ⟨v, rfl, r1⟩ := one_rep r
    exact ⟨v, p, rfl, py_dp hm r1 h1, h2, h3, h4, h5, f _ _ F M H (.refl hm) (.str _) w⟩
  · exact w.elim

/-! ### what is walked: a list or a tuple; enumerate -/
def iSeq (K : PySem.W.Frag) (tl : TE) : TI := fun σ H R => tl σ H fun x H1 => ∃ a, x = .ref a ∧ (((∃ xs, SqL K H1 a xs) ∧ R (Itl K a) H1) ∨ ((∃ xs, SqT K H1 a xs) ∧ R (Itt K a) H1))
theorem pi_seq {tg : Expr} {tl : TE} (hl : PE X e tl) : PI X tg e (iSeq X.K tl) := by
  refine ⟨fun pins s σ H R I h => ?_⟩
  have key : ∀ (v : Value) (s1 : Shared) (x : V) (H1 : Hp), Inv X pins σ H1 s1 → RelV x v → (∃ a, x = .ref a ∧ (((∃ xs, SqL X.K H1 a xs) ∧ R (Itl X.K a) H1) ∨ ((∃ xs, SqT X.K H1 a xs) ∧ R (Itt X.K a) H1))) →
      wpAny (PySem.model X.prog X.w) X.A (pyIter v) (PIE X pins σ tg R) X.xe s1 := by
    rintro v s1 x H1 I1 r1 ⟨a, rfl, q⟩
    cases r1
    have new : ∀ b ∈ [s1.heap.objs.size], FpOk X pins H1 b := fun b hb => by
      have eb : b = s1.heap.objs.size := by simpa using hb
      subst eb
      exact I1.fpOk (Nat.le_refl _) (I1.hok.fresh (Nat.le_refl _))
    rcases q with ⟨⟨xs, hq⟩, q⟩ | ⟨⟨xs, hq⟩, q⟩
    · obtain ⟨its, rv, p, hz⟩ := I1.list hq
      exact wpAny_pyIter_list p.isList ⟨_, _, _, _, H1, rfl, I1.kept (t' := s1.toks) (fun b o z => Heap.get?_push_of_some _ z), turn_list a _, ⟨_, Heap.get?_push_size _ rfl, rfl, rfl⟩, new, q⟩
    · obtain ⟨its, rv, p, hz⟩ := I1.tuple hq
      exact wpAny_pyIter_tuple (show s1.heap.IsTuple a its.toArray from p) ⟨_, _, _, _, H1, rfl, I1.kept (t' := s1.toks) (fun b o z => Heap.get?_push_of_some _ z), turn_tuple a _, ⟨_, Heap.get?_push_size _ rfl, rfl, rfl⟩, new, q⟩
  exact thn (hl.run pins s σ H _ I h) fun v s1 ⟨x, H1, I1, r1, q1⟩ => key v s1 x H1 I1 r1 q1
@[irreducible] def kiS (Q : IT → MM → Prop) (d : D) (M1 : MM) : Prop := match d with
  | .tup ds => Q { items := ds } M1
  | .lst ds => Q { items := ds } M1
  | .frl ds => Q { items := ds } M1
  | .raw (.ref a) => match M1 a with
    | some (.lst ds) => Q { items := ds, src := some (a, ds) } M1
    | _ => False
  | _ => False
def wiS (we : WE) : WI := fun δ M Q EX => we δ M (kiS Q) EX
theorem di_seq {tg : Expr} {we : WE} (h : DE G X e we) : DI G X tg e (wiS we) := by
  refine pi_imp (pi_seq h) fun σ H R ⟨F, M, δ, Q, EX, hm, rs, h, tk, f⟩ => ?_
  refine ⟨F, M, δ, _, EX, hm, rs, h, tk, fun v d F1 M1 H1 g1 r1 q => ?_⟩
  unfold kiS at q
  split at q
  · cases r1 with
    | tup h r => exact ⟨_, rfl, .inr ⟨⟨_, sqT_mono g1.hm.sub h⟩, f _ _ F1 M1 H1 g1 (walks_tup g1.hm h r) q⟩⟩
  · cases r1 with
    | lst h r => exact ⟨_, rfl, .inl ⟨⟨_, SqL.of (g1.hm.sub _ _ h)⟩, f _ _ F1 M1 H1 g1 (walks_frz g1.hm (SqL.of h) r) q⟩⟩
  · cases r1 with
    | frl h r => exact ⟨_, rfl, .inl ⟨⟨_, g1.hm.sub.seq h⟩, f _ _ F1 M1 H1 g1 (walks_frz g1.hm h r) q⟩⟩
  · cases r1
    split at q
    · rename_i ds e
      obtain ⟨vs, h1, r⟩ := g1.hm.mo _ _ e
      exact ⟨_, rfl, .inl ⟨⟨_, SqL.of h1⟩, f _ _ F1 M1 H1 g1 walks_mut q⟩⟩
    · exact q.elim
  · exact q.elim
def enumL : Nat → List D → List D
  | _, [] => []
  | n, d :: ds => .tup [.int (n : Nat), d] :: enumL (n + 1) ds
theorem enumL_get : ∀ {ds : List D} {n i : Nat} {x : D}, (enumL n ds)[i]? = some x → ∃ d, ds[i]? = some d ∧ x = .tup [.int ((n + i : Nat)), d]
  | [], _, _, _, h => by simp [enumL] at h
  | d :: ds, n, 0, x, h => by
    simp only [enumL, List.getElem?_cons_zero, Option.some.injEq] at h
    exact ⟨d, rfl, h.symm⟩
  | d :: ds, n, i + 1, x, h => by
    simp only [enumL, List.getElem?_cons_succ] at h
    obtain ⟨d', e1, e2⟩ := enumL_get h
    exact ⟨d', by simpa using e1, by rw [e2]; congr 4; omega⟩
theorem enumL_len : ∀ (ds : List D) (n : Nat), (enumL n ds).length = ds.length
  | [], _ => rfl
  | d :: ds, n => congrArg Nat.succ (enumL_len ds (n + 1))
@[irreducible] def kiE (Q : IT → MM → Prop) (as : List D) (M1 : MM) : Prop := match as with
  | [.lst ds] => Q { items := enumL 0 ds } M1
  | [.frl ds] => Q { items := enumL 0 ds } M1
  | [.raw (.ref a)] => match M1 a with
    | some (.lst ds) => Q { items := enumL 0 ds, src := some (a, ds) } M1
    | _ => False
  | _ => False
def wiE (wa : WA) : WI := fun δ M Q EX => wa δ M (kiE Q) EX
theorem enum_step {K : PySem.W.Frag} {F' : Hp} {M' : MM} {H' : Hp} {a : Addr} {vs : List V} {ds : List D} {i : Nat} {d : D} (hm : HM G K F' M' H') (hs : SqL K H' a vs) (r : RepL G K F' vs ds) (e : (enumL 0 ds)[i]? = some d) :
    (Ite K a).go i H' ∧ ∀ x H'', (Ite K a).yld i H' x H'' → ∃ F'', Grow G K F' M' H' F'' M' H'' ∧ Rep G K F'' x d := by
  obtain ⟨d1, e1, rfl⟩ := enumL_get e
  obtain ⟨v, e2, r1⟩ := r.get e1
  refine ⟨⟨vs, v, hs, e2⟩, fun x H'' ⟨T, y, ex, nT, eH, yy⟩ => ?_⟩
  subst ex eH
  have e3 := yy vs hs
  rw [e2] at e3
  cases e3
  have g := hm.new (o := .tup [.int (i : Nat), v]) nT
  exact ⟨_, g, .tup (SqT.of upd_same) (.cons (by rw [Nat.zero_add]; exact .int _) (.cons (r1.mono g.ext) .nil))⟩
theorem walksE_frz {K : PySem.W.Frag} {F : Hp} {M : MM} {H : Hp} {a : Addr} {vs : List V} {ds : List D} (hm : HM G K F M H) (h : SqL K F a vs) (r : RepL G K F vs ds) : Walks G K F M H (Ite K a) { items := enumL 0 ds } :=
  ⟨fun F' M' H' i d g st e => enum_step g.hm (g.hm.sub.seq (g.ext.seq h)) (r.mono g.ext) e, fun F' M' H' g st => ⟨vs, g.hm.sub.seq (g.ext.seq h), by show _ ≤ (enumL 0 ds).length; rw [enumL_len, r.len]; exact Nat.le_refl _⟩⟩
theorem walksE_mut {K : PySem.W.Frag} {F : Hp} {M : MM} {H : Hp} {a : Addr} {ds : List D} : Walks G K F M H (Ite K a) { items := enumL 0 ds, src := some (a, ds) } := by
  refine ⟨fun F' M' H' i d g st e => ?_, fun F' M' H' g st => ?_⟩
  · obtain ⟨vs, h1, r⟩ := g.hm.mo a _ st
    exact enum_step g.hm (SqL.of h1) r e
  · obtain ⟨vs, h1, r⟩ := g.hm.mo a _ st
    exact ⟨vs, SqL.of h1, by show _ ≤ (enumL 0 ds).length; rw [enumL_len, r.len]; exact Nat.le_refl _⟩
theorem di_enum {wa : WA} {p pos tpos : Pos} {elts : List Expr} {kk : Nat} (hm : X.mg "enumerate" = none) (ha : DA G X [e] wa) (hg : Gl X "enumerate" := by rfl) (hs : starEach [e] X.env = [(false, eval e X.env)] := by rfl) :
    DI G X (.Tuple elts kk tpos) (.Call (.Name "enumerate" p) [e] [] pos) (wiE wa) := by
  refine pi_imp (pi_enum hg hm ha hs) fun σ H R ⟨F, M, δ, Q, EX, hm, rs, h, tk, f⟩ => ?_
  refine ⟨F, M, δ, _, EX, hm, rs, h, tk, fun vs ds F1 M1 H1 g1 r1 q => ?_⟩
  unfold kiE at q
  split at q
  · obtain ⟨v, rfl, r2⟩ := one_rep r1
    cases r2 with
    | lst h r => exact ⟨_, _, rfl, SqL.of (g1.hm.sub _ _ h), f _ _ F1 M1 H1 g1 (walksE_frz g1.hm (SqL.of h) r) q⟩
  · obtain ⟨v, rfl, r2⟩ := one_rep r1
    cases r2 with
    | frl h r => exact ⟨_, _, rfl, g1.hm.sub.seq h, f _ _ F1 M1 H1 g1 (walksE_frz g1.hm h r) q⟩
  · obtain ⟨v, rfl, r2⟩ := one_rep r1
    cases r2
    split at q
    · rename_i ds e
      obtain ⟨vs, h1, r⟩ := g1.hm.mo _ _ e
      exact ⟨_, _, rfl, SqL.of h1, f _ _ F1 M1 H1 g1 walksE_mut q⟩
    · exact q.elim
  · exact q.elim

/-! ### operators that look at what they are given -/
def orR (r r' : R2) : R2 := fun x y H Q => r x y H Q ∨ r' x y H Q
theorem op_or {f : Value → Value → Sem Value} {r r' : R2} (a : OpR X f r) (b : OpR X f r') : OpR X f (orR r r') := fun pins s σ H x y v u Q I rx ry h => h.elim (a pins s σ H x y v u Q I rx ry) (b pins s σ H x y v u Q I rx ry)
theorem ix_or {r r' : R2} (a : IxR X r) (b : IxR X r') : IxR X (orR r r') := by
  intro va sl pins s σ H x y v u Q I rx ry h hs
  rcases h with h | h
  · exact a va sl pins s σ H x y v u Q I rx ry h hs
  · exact b va sl pins s σ H x y v u Q I rx ry h hs
def orW (w w' : WR2) : WR2 := fun x y M Q => w x y M Q ∨ w' x y M Q
/-- + of ints, of texts, of tuples, of lists -/
def wStrCat : WR2 := fun x y M Q => match x, y with
  | .str a, .str b => a.length + b.length ≤ sizeLine ∧ Q (.str (a ++ b)) M
  | _, _ => False
def wPlus : WR2 := fun x y M Q => match x, y with
  | .int i, .int j => Q (.int (i + j)) M
  | .str a, .str b => a.length + b.length ≤ sizeLine ∧ Q (.str (a ++ b)) M
  | .tup xs, .tup ys => xs.length + ys.length ≤ sizeLine ∧ Q (.tup (xs ++ ys)) M
  | x, y => wCat x y M Q
theorem sim_plus {K : PySem.W.Frag} : Sim2 G K (orR (rI0 fun i j => .int (i + j)) (orR (fun x y H Q => ∃ a b, x = .str a ∧ y = .str b ∧ a.length + b.length ≤ sizeLine ∧ Q (.str (a ++ b)) H) (orR (rCatA K) rCat))) wPlus := by
  intro F M H x y dx dy Q P hm rx ry w f
  unfold wPlus at w
  split at w
  · exact .inl (sim_I0 (g := fun i j => D.int (i + j)) int_rep F M H x y _ _ Q P hm rx ry w f)
  · cases rx; cases ry
    exact .inr (.inl ⟨_, _, rfl, rfl, w.1, f _ _ F M H (.refl hm) (.str _) w.2⟩)
  · exact .inr (.inr (.inl (sim_catT F M H x y _ _ Q P hm rx ry w f)))
  · exact .inr (.inr (.inr (sim_cat F M H x y _ _ Q P hm rx ry w f)))
/-- * of ints, of a list and an int -/
def wTimes : WR2 := fun x y M Q => match x, y with
  | .int i, .int j => (CMul i j ∨ i.natAbs.log2 + j.natAbs.log2 < 1000000) ∧ Q (.int (i * j)) M
  | .tup xs, .int k => (xs ≠ [] ∧ (2 ≤ k ∧ k ≤ 1000) ∧ xs.length ≤ 1000) ∧ Q (.tup (repL k xs)) M
  | x, y => wRep x y M Q
theorem sim_times {K : PySem.W.Frag} : Sim2 G K (orR (orR (rI CMul fun i j => .int (i * j)) (rI CMulW fun i j => .int (i * j))) (orR (rRepT K) rRep)) wTimes := by
  intro F M H x y dx dy Q P hm rx ry w f
  unfold wTimes at w
  split at w
  · cases rx; cases ry
    rcases w with ⟨w1 | w1, w⟩
    · exact .inl (.inl ⟨_, _, rfl, rfl, w1, f _ _ F M H (.refl hm) (.int _) w⟩)
    · exact .inl (.inr ⟨_, _, rfl, rfl, w1, f _ _ F M H (.refl hm) (.int _) w⟩)
  · rename_i xs k
    cases rx with
    | tup h r =>
      rename_i a vs
      cases ry
      refine .inr (.inl ⟨a, k, vs, rfl, rfl, sqT_mono hm.sub h, fun e => w.1.1 (r.nil_iff.mp e), w.1.2.1.1, w.1.2.1.2, by rw [r.len]; exact w.1.2.2, fun p hp => ?_⟩)
      have g := hm.new (o := .tup (List.replicate k.toNat vs).flatten) hp
      exact f _ _ _ _ _ g (.tup (SqT.of upd_same) ((r.repL k).mono g.ext)) w.2
  · exact .inr (.inr (sim_rep F M H x y _ _ Q P hm rx ry w f))
/-- an item of a list or of a tuple -/
theorem sim_ix {K : PySem.W.Frag} : Sim2 G K (orR (rIxL K) (rIxT K)) wIx := by
  intro F M H x y dx dy Q P hm rx ry w f
  unfold wIx at w
  split at w
  · rename_i xs i e1
    split at w
    · rename_i d e2
      obtain ⟨a, vs, rfl, h1, r1⟩ := seqOf_rep hm rx e1
      cases ry
      obtain ⟨v, e3, r3⟩ := atD_rep r1 e2
      rcases h1 with h1 | h1
      · exact .inl ⟨a, vs, i, v, rfl, rfl, h1, e3, f _ _ F M H (.refl hm) r3 w⟩
      · exact .inr ⟨a, vs, i, v, rfl, rfl, h1, e3, f _ _ F M H (.refl hm) r3 w⟩
    · exact w.elim
  · exact w.elim
/-! ### slices -/
abbrev WO := DS → MM → (Option Int → MM → Prop) → XK' → Prop
def upO (G : Cfg) (X : Cx) (w : WO) : TO := fun σ H P => ∃ F M δ Q EX, HM G X.K F M H ∧ RS G X.K F σ δ ∧ w δ M Q EX ∧ Takes X (wX G X.K F M H EX) ∧ ∀ o F' M' H', Grow G X.K F M H F' M' H' → Q o M' → P o H'
abbrev DO (G : Cfg) (X : Cx) (e : Option Expr) (w : WO) : Prop := PO X e (upO G X w)
theorem po_imp {e : Option Expr} {t t' : TO} (h : PO X e t) (i : ∀ σ H P, t' σ H P → t σ H P) : PO X e t' := ⟨fun pins s σ H Q I q => h.run pins s σ H Q I (i σ H Q q)⟩
def woN : WO := fun _ M Q _ => Q none M
def woS (we : WE) : WO := fun δ M Q EX => we δ M (fun d M1 => match d with
  | .int i => Q (some i) M1
  | _ => False) EX
theorem do_none : DO G X none woN := po_imp po_none fun σ H P ⟨F, M, δ, Q, EX, hm, rs, h, tk, f⟩ => f none F M H (.refl hm) h
theorem do_some {we : WE} (h : DE G X e we) : DO G X (some e) (woS we) := by
  refine po_imp (po_some h) fun σ H P ⟨F, M, δ, Q, EX, hm, rs, h, tk, f⟩ => ?_
  refine ⟨F, M, δ, _, EX, hm, rs, h, tk, fun v d F1 M1 H1 g r q => ?_⟩
  try dsimp only at q
  split at q
  · cases r; exact ⟨_, rfl, f _ F1 M1 H1 g q⟩
  · exact q.elim
def cutD (xs : List D) (lo hi : Option Int) : List D := (xs.drop (HT.sIx xs.length 0 lo)).take (HT.sIx xs.length xs.length hi - HT.sIx xs.length 0 lo)
theorem cut_rep {K : PySem.W.Frag} {F : Hp} {vs : List V} {ds : List D} (r : RepL G K F vs ds) (lo hi : Option Int) : RepL G K F (cutV vs lo hi) (cutD ds lo hi) := by
  unfold cutV cutD
  rw [r.len]
  exact (r.drop _).take _
@[irreducible] def kCut (Q : D → MM → Prop) (d : D) (lo hi : Option Int) (M3 : MM) : Prop := match d with
  | .tup xs => Q (.tup (cutD xs lo hi)) M3
  | d => match lstOf M3 d with
    | some xs => Q (.lst (cutD xs lo hi)) M3
    | none => False
def wCut (wo : WE) (wl wh : WO) : WE := fun δ M Q EX => wo δ M (fun d M1 => wl δ M1 (fun lo M2 => wh δ M2 (fun hi M3 => kCut Q d lo hi M3) EX) EX) EX
abbrev rSlX (K : PySem.W.Frag) : V → Option Int → Option Int → Hp → VK → Prop := fun x lo hi H Q => rSlL K x lo hi H Q ∨ rSlA K x lo hi H Q
theorem sl_X : SlR X (rSlX X.K) := SlR.or sl_list sl_tupA
theorem de_cut {wo : WE} {wl wh : WO} {lo hi : Option Expr} {pos p2 : Pos} (he : DE G X e wo) (hl : DO G X lo wl) (hu : DO G X hi wh) : DE G X (.Subscript e (.Slice lo hi none p2) pos) (wCut wo wl wh) := by
  refine pe_imp (pe_slice sl_X he hl hu) fun σ H P ⟨F, M, δ, Q, EX, hm, rs, h, tk, f⟩ => ?_
  refine ⟨F, M, δ, _, EX, hm, rs, h, tk, fun v d F1 M1 H1 g1 r1 h1 => ?_⟩
  refine ⟨F1, M1, δ, _, EX, g1.hm, rs.mono g1.ext, h1, tk.imp (wX_mono g1), fun l F2 M2 H2 g2 h2 => ?_⟩
  have g12 := g1.trans g2
  refine ⟨F2, M2, δ, _, EX, g2.hm, rs.mono g12.ext, h2, tk.imp (wX_mono g12), fun u F3 M3 H3 g3 h3 => ?_⟩
  have g123 := g12.trans g3
  have r3 := r1.mono (g2.trans g3).ext
  try dsimp only at h3
  unfold kCut at h3
  split at h3
  · rename_i xs
    cases r3 with
    | tup ht r =>
      rename_i a vs
      refine .inr ⟨a, vs, rfl, sqT_mono g3.hm.sub ht, fun hw => ?_, fun _ p hp => ?_⟩
      · have e : cutD xs l u = xs := by
          unfold cutD
          rw [← r.len, hw.1, hw.2, List.drop_zero, Nat.sub_zero, r.len, List.take_length]
        rw [e] at h3
        exact f _ _ F3 M3 H3 g123 (.tup ht r) h3
      · have g := g3.hm.new (o := .tup (cutV vs l u)) hp
        exact f _ _ _ _ _ (g123.trans g) (.tup (SqT.of upd_same) ((cut_rep r l u).mono g.ext)) h3
  · rename_i d' _
    split at h3
    · rename_i xs ex
      obtain ⟨a, vs, rfl, hz, r⟩ := lstOf_rep g3.hm r3 ex
      refine .inl ⟨a, vs, rfl, SqL.of hz, fun p hp => ?_⟩
      have g := g3.hm.new (o := .lst (cutV vs l u)) hp
      exact f _ _ _ _ _ (g123.trans g) (.lst upd_same ((cut_rep r l u).mono g.ext)) h3
    · exact h3.elim
/-! ### constants of the module, of a class -/
theorem de_glob {x : Str} {i : Int} {pos} (hm : ∃ t, X.mg x = some (.int i t)) (hg : Gl X x := by rfl) (hd : (x == ("__debug__" : Str)) = false := by decide) : DE G X (.Name x pos) (wC (.int i)) := by
  obtain ⟨t, hm⟩ := hm
  exact pe_imp (pe_glob (v := .int i) hg hm ⟨t, rfl⟩ hd) (up_c fun _ _ => .int i)
def wNeg (we : WE) : WE := fun δ M Q EX => we δ M (fun d M1 => match d with
  | .int i => Q (.int (-i)) M1
  | _ => False) EX
theorem de_neg {we : WE} {pos} (h : DE G X e we) : DE G X (.UnaryOp .USub e pos) (wNeg we) := by
  refine pe_imp (pe_un un_neg h) fun σ H P ⟨F, M, δ, Q, EX, hm, rs, h, tk, f⟩ => ?_
  refine ⟨F, M, δ, _, EX, hm, rs, h, tk, fun v d F1 M1 H1 g r q => ?_⟩
  try dsimp only at q
  split at q
  · cases r; exact ⟨_, rfl, f _ _ F1 M1 H1 g (.int _) q⟩
  · exact q.elim
end
end DL

set_option Elab.async false
set_option linter.all false
set_option maxRecDepth 100000
namespace DL
open PySem PySem.Spec L2
open PyProof.Rows hiding St

section
variable {G : Cfg} {X : Cx} {e o i value : Expr}
/-! ### {k: v, ..}, the keys written -/
def wDct (ks : List Key) (wa : WA) : WE := fun δ M Q EX => wa δ M (fun ds M1 => ds.length = ks.length ∧ ds.length ≤ 15 ∧ Q (.dct (ks.zip ds)) M1) EX
def wDctM (ks : List Key) (wa : WA) : WE := fun δ M Q EX => wa δ M (fun ds M1 => ds.length = ks.length ∧ ds.length ≤ 15 ∧ ∀ p, M1 p = none → Q (.raw (.ref p)) (updM M1 p (.dct (ks.zip ds)))) EX
/-- the values of a display, its written keys beside them -/
structure DP (G : Cfg) (X : Cx) (pos : Pos) (keys : List (Option Expr)) (values : List Expr) (ks : List Key) (wa : WA) : Prop where
  ex : ∃ trs, PPs X pos keys values trs ∧ ∀ (σ : St) (H : Hp) (F : Hp) (M : MM) (δ : DS) (Q : List D → MM → Prop) (EX : XK') (P : List (V × V) → Hp → Prop), HM G X.K F M H → RS G X.K F σ δ → wa δ M Q EX → Takes X (wX G X.K F M H EX) →
    (∀ vs ds F' M' H', Grow G X.K F M H F' M' H' → vs.length = ks.length → RepL G X.K F' vs ds → Q ds M' → P ((ks.zip vs).map fun q => (kV q.1, q.2)) H') → tPairs trs σ H P
theorem dp_nil {pos : Pos} : DP G X pos [] [] [] wNil := ⟨[], pps_nil, fun σ H F M δ Q EX P hm rs h tk f => f [] [] F M H (.refl hm) rfl .nil h⟩
theorem dp_cons {pos kp : Pos} {v : Expr} {keys : List (Option Expr)} {values : List Expr} {ks : List Key} {wv : WE} {wr : WA} {k : Key} {c : Const} {j : Nat} (hk : PE X (.Constant c j kp) (tC (kV k))) (hv : DE G X v wv) (hr : DP G X pos keys values ks wr) :
    DP G X pos (some (.Constant c j kp) :: keys) (v :: values) (k :: ks) (wCons wv wr) := by
  obtain ⟨trs, hp, hs⟩ := hr
  refine ⟨_, pps_cons hk hv hp, fun σ H F M δ Q EX P hm rs h tk f => ?_⟩
  show up G X wv σ H _
  refine ⟨F, M, δ, _, EX, hm, rs, h, tk, fun x d F1 M1 H1 g1 r1 h1 => ?_⟩
  refine hs σ H1 F1 M1 δ _ EX _ g1.hm (rs.mono g1.ext) h1 (tk.imp (wX_mono g1)) fun vs ds F2 M2 H2 g2 l2 r2 q => ?_
  exact f (x :: vs) (d :: ds) F2 M2 H2 (g1.trans g2) (congrArg Nat.succ l2) (.cons (r1.mono g2.ext) r2) q
theorem zip_repK {K : PySem.W.Frag} {F : Hp} : ∀ {ks : List Key} {vs : List V} {ds : List D}, RepL G K F vs ds → RepK G K F (ks.zip vs) (ks.zip ds)
  | [], _, _, _ => .nil
  | k :: ks, _, _, .nil => .nil
  | k :: ks, _, _, .cons r t => .cons r (zip_repK t)
theorem putK_end {kvs : List (Key × V)} {k : Key} {v : V} (h : k ∉ kvs.map (·.1)) : putK kvs k v = kvs ++ [(k, v)] := by
  unfold putK
  rw [if_neg]
  intro h2
  obtain ⟨q, hq, e⟩ := List.any_eq_true.mp h2
  have e' : q.1 = k := by simpa using e
  exact h (by rw [← e']; exact List.mem_map_of_mem hq)
theorem merge_end : ∀ {more kvs : List (Key × V)}, (kvs.map (·.1) ++ more.map (·.1)).Nodup → mergeK kvs more = kvs ++ more
  | [], kvs, _ => by unfold mergeK; simp
  | (k, v) :: more, kvs, h => by
    have nk : k ∉ kvs.map (·.1) := by
      intro hm
      rw [List.map_cons, List.nodup_append] at h
      exact h.2.2 k hm k List.mem_cons_self rfl
    have ih := merge_end (more := more) (kvs := kvs ++ [(k, v)]) (by
      rw [List.map_append, List.append_assoc]
      exact h)
    unfold mergeK at ih ⊢
    rw [List.foldl_cons, putK_end nk, ih, List.append_assoc]
    rfl
theorem map_zip_fst : ∀ {ks : List Key} {vs : List V}, ks.length = vs.length → (ks.zip vs).map (·.1) = ks
  | [], [], _ => rfl
  | k :: ks, v :: vs, h => by
    rw [List.zip_cons_cons, List.map_cons, map_zip_fst (Nat.succ.inj h)]
  | [], _ :: _, h => by cases h
  | _ :: _, [], h => by cases h
theorem disp_up {ks : List Key} {wa : WA} {trs : List (TE × TE)} {fin : (D → MM → Prop) → List D → MM → Prop} (hnd : ks.Nodup)
    (hs : ∀ (σ : St) (H : Hp) (F : Hp) (M : MM) (δ : DS) (Q : List D → MM → Prop) (EX : XK') (P : List (V × V) → Hp → Prop), HM G X.K F M H → RS G X.K F σ δ → wa δ M Q EX → Takes X (wX G X.K F M H EX) →
      (∀ vs ds F' M' H', Grow G X.K F M H F' M' H' → vs.length = ks.length → RepL G X.K F' vs ds → Q ds M' → P ((ks.zip vs).map fun q => (kV q.1, q.2)) H') → tPairs trs σ H P)
    (hfin : ∀ {F M H Q P F2 M2 H2 p ds vs}, Fin G X.K F M H Q P → Grow G X.K F M H F2 M2 H2 → H p = none → F2 p = none → M2 p = none → RepK G X.K F2 (ks.zip vs) (ks.zip ds) → fin Q ds M2 → P (.ref p) (upd H2 p (.dK (ks.zip vs))))
    (σ : St) (H : Hp) (P : VK) (h : up G X (fun δ M Q EX => wa δ M (fun ds M1 => ds.length = ks.length ∧ ds.length ≤ 15 ∧ fin Q ds M1) EX) σ H P) : tDisp trs σ H P := by
  obtain ⟨F, M, δ, Q, EX, hm, rs, h, tk, f⟩ := h
  intro p hp
  have nf := (hm.free hp).1
  have nm := (hm.free hp).2
  have g0 : Grow G X.K F M H F M (upd H p (.dK [])) := (Grow.refl hm).side hp nf nm
  refine hs σ _ F M δ _ EX _ g0.hm rs h (tk.imp (wX_mono g0)) fun vs ds F2 M2 H2 g2 lv r2 q => ?_
  obtain ⟨l1, l2, q⟩ := q
  obtain ⟨hp2, nf2, nm2⟩ := g2.keep p _ upd_same nf nm
  refine ⟨hp2, ks.zip vs, rfl, ?_, ?_⟩
  · rw [List.length_zip, lv, Nat.min_self]
    omega
  · have e : mergeK [] (ks.zip vs) = ks.zip vs := by
      rw [merge_end (kvs := []) (by rw [List.map_nil, List.nil_append, map_zip_fst lv.symm]; exact hnd)]
      rfl
    rw [e]
    exact hfin f (g0.trans g2) hp nf2 nm2 (zip_repK r2) q
theorem de_dct {pos : Pos} {keys : List (Option Expr)} {values : List Expr} {ks : List Key} {wa : WA} (h : DP G X pos keys values ks wa) (hnd : ks.Nodup := by decide) (hall : keys.all (·.isSome) = true := by rfl) (hl : keys.length = values.length := by rfl) (h0 : keys ≠ [] := by (intro z; cases z)) (h15 : keys.length ≤ 15 := by decide) :
    DE G X (.Dict keys values pos) (wDct ks wa) := by
  obtain ⟨trs, hp, hs⟩ := h
  refine pe_imp (pe_disp hp hall hl h0 h15) (disp_up (fin := fun Q ds M1 => Q (.dct (ks.zip ds)) M1) hnd hs ?_)
  intro F M H Q P F2 M2 H2 p ds vs f g np nf nm r q
  have g2 := g.side (u := .dK (ks.zip vs)) np nf nm
  obtain ⟨hm, s1⟩ := g2.hm.adopt upd_same nf nm
  refine f _ _ (upd F2 p (.dK (ks.zip vs))) M2 _ ⟨hm, g2.ext.trans s1, fun b u e fb mb => ?_⟩ (.dct upd_same (r.mono s1)) q
  obtain ⟨h1, h2, h3⟩ := g2.keep b u e fb mb
  have z : b ≠ p := fun z => by subst z; rw [np] at e; cases e
  exact ⟨h1, by rw [upd_ne z]; exact h2, h3⟩
theorem de_dctM {pos : Pos} {keys : List (Option Expr)} {values : List Expr} {ks : List Key} {wa : WA} (h : DP G X pos keys values ks wa) (hnd : ks.Nodup := by decide) (hall : keys.all (·.isSome) = true := by rfl) (hl : keys.length = values.length := by rfl) (h0 : keys ≠ [] := by (intro z; cases z)) (h15 : keys.length ≤ 15 := by decide) :
    DE G X (.Dict keys values pos) (wDctM ks wa) := by
  obtain ⟨trs, hp, hs⟩ := h
  refine pe_imp (pe_disp hp hall hl h0 h15) (disp_up (fin := fun Q ds M1 => ∀ p, M1 p = none → Q (.raw (.ref p)) (updM M1 p (.dct (ks.zip ds)))) hnd hs ?_)
  intro F M H Q P F2 M2 H2 p ds vs f g np nf nm r q
  have g2 := g.side (u := .dK (ks.zip vs)) np nf nm
  have hm := g2.hm.adoptM (p := p) (m := .dct (ks.zip ds)) ⟨_, upd_same, r⟩ nf nm
  refine f _ _ F2 (updM M2 p (.dct (ks.zip ds))) _ ⟨hm, g2.ext, fun b u e fb mb => ?_⟩ (.raw _) (q p nm)
  obtain ⟨h1, h2, h3⟩ := g2.keep b u e fb mb
  have z : b ≠ p := fun z => by subst z; rw [np] at e; cases e
  exact ⟨h1, h2, by rw [updM_ne z]; exact h3⟩

/-! ### a def of the text, called by its name -/
/-- what the text has of the def x -/
structure Gd (K : PySem.W.Frag) (mg : Str → Option Value) (x : Str) (st : Stmt) (f : Addr) (ps : List Str) : Prop where
  gl : mg x = some (.ref f)
  ex : ∃ fd, Fun K x x st f fd ∧ Binds K fd ps []
/-- it keeps its promise -/
structure OkG (P : Program) (w : World) (K : PySem.W.Frag) (mg : Str → Option Value) (base : Heap) (gd : Bool) (k : Nat) (x : Str) (ps : List Str) (sp : Sp) : Prop where
  ex : ∃ f fd, mg x = some (.ref f) ∧ PySem.W.keepIn K (.ref f) = true ∧ Binds K fd ps [] ∧ FnG P w K mg base gd k f fd ps sp
theorem okG {P : Program} {w : World} {K : PySem.W.Frag} {mg : Str → Option Value} {base : Heap} {gd : Bool} {x : Str} {st : Stmt} {f : Addr} {N ps : List Str} {k : Nat} {wb : WS} (g : Gd K mg x st f ps) (S : FnScope N ps (defScope st))
    (hb : ∀ (cdv : Value) (A : Around) (out : List Env) (s : Shared) (H : Hp) (E : XK), Room k (A.deeper (envOfC x (defScope st) s.heap.objs.size f cdv)) → (gd = true → (A.deeper (envOfC x (defScope st) s.heap.objs.size f cdv)).guards = some []) → DSs G (cxOf (L2.CX P w) P w K mg base N x (defScope st) f cdv A out s H E) (defBody st) wb) :
    OkG P w K mg base gd (k + 1) x ps (lift G K (spOf ps.length N.length wb)) := by
  obtain ⟨gl, fd, F, b⟩ := g
  exact ⟨f, fd, gl, F.kp, b, okD F S hb⟩
theorem nog {p : Prop} (h : false = true) : p := nomatch h
variable {gd : Bool} {k : Nat} {sp : SpD} {x : Str} {p pos apos : Pos} {es : List Expr} {wa : WA} {ps : List Str}
theorem de_f (g : OkG X.prog X.w X.K X.mg X.base gd k x ps (lift G X.K sp)) (hr : Room k X.A) (hgd : gd = true → X.A.guards = some []) (ha : DA G X (e :: es) wa) (hg : Gl X x := by rfl) (hdb : (x == ("__debug__" : Str)) = false := by decide) (he : starEach (e :: es) X.env = (false, eval e X.env) :: starEach es X.env := by rfl) (hpl : (backTo pos (starEach es X.env)).any (·.1) = false := by rfl) :
    DE G X (.Call (.Name x p) (e :: es) [] pos) (wCall sp [] wa) := by
  obtain ⟨f, fd, gl, kp, b, F⟩ := g
  exact de_call F hr hgd gl kp b .nil Flat.nil ha hg hdb he hpl
theorem de_f0 (g : OkG X.prog X.w X.K X.mg X.base gd k x ps (lift G X.K sp)) (hr : Room k X.A) (hgd : gd = true → X.A.guards = some []) (hg : Gl X x := by rfl) (hdb : (x == ("__debug__" : Str)) = false := by decide) : DE G X (.Call (.Name x p) [] [] pos) (wCall sp [] wNil) := by
  obtain ⟨f, fd, gl, kp, b, F⟩ := g
  exact de_call0 F hr hgd gl kp b .nil Flat.nil hg hdb
end
end DL

set_option Elab.async false
set_option linter.all false
set_option maxRecDepth 100000
namespace DL
open PySem PySem.Spec L2
open PyProof.Rows hiding St

section
variable {G : Cfg} {X : Cx} {e o i value : Expr}
theorem ds_par (i j : Nat) {x y : Str} {a b : Expr} {wa : WA} {px py pt pos : Pos} {kt k2 pt2} (hN : X.N.Nodup) (ha : DA G X [a, b] wa) (hc : X.calm = true := by rfl) (hi : X.N[i]? = some x := by rfl) (hj : X.N[j]? = some y := by rfl) (hij : i ≠ j := by decide)
    (hx : X.env.scope.names.lookup x = some .local := by rfl) (hy : X.env.scope.names.lookup y = some .local := by rfl)
    (hw : swappedStores [.Tuple [.Name x px, .Name y py] kt pt] (.Tuple [a, b] k2 pt2) X.env = pure (some [x, y]) := by rfl)
    (hs : swapsWithSole [.Tuple [.Name x px, .Name y py] kt pt] (.Tuple [a, b] k2 pt2) pos.line X.env = pure false := by rfl) :
    DSt G X (.Assign [.Tuple [.Name x px, .Name y py] kt pt] (.Tuple [a, b] k2 pt2) pos) (wPar i j wa) := ps_imp (ps_par hc hN hi hj hij hx hy ha hw hs) up_par
/-- list(range(..)) -/
def rgD (a b : Int) : List D := (List.range (b - a).toNat).map fun i => D.int (a + (i : Nat))
theorem rg_rep {K : PySem.W.Frag} {F : Hp} (a b : Int) : RepL G K F (rgV a b) (rgD a b) := by
  unfold rgV rgD
  generalize List.range (b - a).toNat = l
  induction l with
  | nil => exact .nil
  | cons n l ih => exact .cons (.int _) ih
def wLRg (wa : WA) : WE := fun δ M Q EX => wa δ M (fun ds M1 => match ds with
  | [.int n] => RgOk 0 n ∧ Q (.lst (rgD 0 n)) M1
  | [.int a, .int b] => RgOk a b ∧ Q (.lst (rgD a b)) M1
  | _ => False) EX
def wLRgM (wa : WA) : WE := fun δ M Q EX => wa δ M (fun ds M1 => match ds with
  | [.int n] => RgOk 0 n ∧ ∀ p, M1 p = none → Q (.raw (.ref p)) (updM M1 p (.lst (rgD 0 n)))
  | [.int a, .int b] => RgOk a b ∧ ∀ p, M1 p = none → Q (.raw (.ref p)) (updM M1 p (.lst (rgD a b)))
  | _ => False) EX
variable {p pos p2 pos2 : Pos} {a b : Expr} {wa wb : WE}
theorem de_lrg1 (hl : X.mg "list" = none) (hr : X.mg "range" = none) (ha : DE G X a wa) (hc : X.calm = true := by rfl) (g1 : Gl X "list" := by rfl) (g2 : Gl X "range" := by rfl) (na : starEach [a] X.env = (false, eval a X.env) :: starEach [] X.env := by rfl)
    (nb : starEach [.Call (.Name "range" p) [a] [] pos] X.env = (false, eval (.Call (.Name "range" p) [a] [] pos) X.env) :: starEach [] X.env := by rfl) : DE G X (.Call (.Name "list" p2) [.Call (.Name "range" p) [a] [] pos] [] pos2) (wLRg (wCons wa wNil)) := by
  refine pe_imp (pe_listRg hc g1 hl (prg_1 g2 hr ha na) nb) fun σ H P ⟨F, M, δ, Q, EX, hm, rs, h, tk, f⟩ => ?_
  refine ⟨F, M, δ, _, EX, hm, rs, h, tk, fun v d F1 M1 H1 g1 r1 h1 => ?_⟩
  dsimp only [wNil] at h1
  split at h1
  · rename_i n e
    cases e
    cases r1
    refine ⟨n, rfl, h1.1, fun q hq => ?_⟩
    have g := g1.hm.new (o := .lst (rgV 0 n)) hq
    exact f _ _ _ _ _ (g1.trans g) (.lst upd_same (rg_rep _ _)) h1.2
  · rename_i e; cases e
  · exact h1.elim
theorem de_lrg1M (hl : X.mg "list" = none) (hr : X.mg "range" = none) (ha : DE G X a wa) (hc : X.calm = true := by rfl) (g1 : Gl X "list" := by rfl) (g2 : Gl X "range" := by rfl) (na : starEach [a] X.env = (false, eval a X.env) :: starEach [] X.env := by rfl)
    (nb : starEach [.Call (.Name "range" p) [a] [] pos] X.env = (false, eval (.Call (.Name "range" p) [a] [] pos) X.env) :: starEach [] X.env := by rfl) : DE G X (.Call (.Name "list" p2) [.Call (.Name "range" p) [a] [] pos] [] pos2) (wLRgM (wCons wa wNil)) := by
  refine pe_imp (pe_listRg hc g1 hl (prg_1 g2 hr ha na) nb) fun σ H P ⟨F, M, δ, Q, EX, hm, rs, h, tk, f⟩ => ?_
  refine ⟨F, M, δ, _, EX, hm, rs, h, tk, fun v d F1 M1 H1 g1 r1 h1 => ?_⟩
  dsimp only [wNil] at h1
  split at h1
  · rename_i n e
    cases e
    cases r1
    refine ⟨n, rfl, h1.1, fun q hq => ?_⟩
    have g := g1.hm.newM (o := .lst (rgV 0 n)) (m := .lst (rgD 0 n)) hq ⟨_, upd_same, rg_rep _ _⟩
    exact f _ _ _ _ _ (g1.trans g) (.raw _) (h1.2 q (g1.hm.free hq).2)
  · rename_i e; cases e
  · exact h1.elim
theorem de_lrg2 (hl : X.mg "list" = none) (hr : X.mg "range" = none) (ha : DE G X a wa) (hb : DE G X b wb) (hc : X.calm = true := by rfl) (g1 : Gl X "list" := by rfl) (g2 : Gl X "range" := by rfl) (n1 : starEach [a, b] X.env = (false, eval a X.env) :: starEach [b] X.env := by rfl)
    (n2 : starEach [b] X.env = (false, eval b X.env) :: starEach [] X.env := by rfl) (n3 : (backTo pos (starEach [b] X.env)).any (·.1) = false := by rfl) (nb : starEach [.Call (.Name "range" p) [a, b] [] pos] X.env = (false, eval (.Call (.Name "range" p) [a, b] [] pos) X.env) :: starEach [] X.env := by rfl) :
    DE G X (.Call (.Name "list" p2) [.Call (.Name "range" p) [a, b] [] pos] [] pos2) (wLRg (wCons wa (wCons wb wNil))) := by
  refine pe_imp (pe_listRg hc g1 hl (prg_2 g2 hr ha hb n1 n2 n3) nb) fun σ H P ⟨F, M, δ, Q, EX, hm, rs, h, tk, f⟩ => ?_
  refine ⟨F, M, δ, _, EX, hm, rs, h, tk, fun v d F1 M1 H1 g1 r1 h1 => ?_⟩
  refine ⟨F1, M1, δ, _, EX, g1.hm, rs.mono g1.ext, h1, tk.imp (wX_mono g1), fun v2 d2 F2 M2 H2 g2 r2 h2 => ?_⟩
  have g12 := g1.trans g2
  dsimp only [wNil] at h2
  split at h2
  · rename_i e; cases e
  · rename_i n m e
    cases e
    cases r1; cases r2
    refine ⟨n, m, rfl, rfl, h2.1, fun q hq => ?_⟩
    have g := g2.hm.new (o := .lst (rgV n m)) hq
    exact f _ _ _ _ _ (g12.trans g) (.lst upd_same (rg_rep _ _)) h2.2
  · exact h2.elim
/-- xs[::-1] -/
@[irreducible] def kRev (Q : D → MM → Prop) (d : D) (M1 : MM) : Prop := match lstOf M1 d with
  | some xs => Q (.lst xs.reverse) M1
  | none => False
def wRev (we : WE) : WE := fun δ M Q EX => we δ M (kRev Q) EX
theorem de_rev {we : WE} {k : Nat} {p1 p2 p3 pos : Pos} (h : DE G X e we) : DE G X (.Subscript e (.Slice none none (some (.UnaryOp .USub (.Constant (.int 1) k p1) p2)) p3) pos) (wRev we) := by
  refine pe_imp (pe_revL h) fun σ H P ⟨F, M, δ, Q, EX, hm, rs, h, tk, f⟩ => ?_
  refine ⟨F, M, δ, _, EX, hm, rs, h, tk, fun v d F1 M1 H1 g1 r1 h1 => ?_⟩
  unfold kRev at h1
  split at h1
  · rename_i xs ex
    obtain ⟨a, vs, rfl, hz, r⟩ := lstOf_rep g1.hm r1 ex
    refine ⟨a, vs, rfl, SqL.of hz, fun q hq => ?_⟩
    have g := g1.hm.new (o := .lst vs.reverse) hq
    exact f _ _ _ _ _ (g1.trans g) (.lst upd_same (r.rev.mono g.ext)) h1
  · exact h1.elim
end
end DL

set_option Elab.async false
set_option linter.all false
set_option maxRecDepth 100000
namespace DL
open PySem PySem.Spec L2
open PyProof.Rows hiding St
section
variable {M : MM} {Q : D → MM → Prop} {nx : MM → Prop} {o i v x y d : D} {a p : Addr} {xs ds : List D} {kvs : List (Key × D)} {k : Key} {j n : Nat} {z : Int}
theorem at_dget (h1 : dctOf M o = some kvs) (h2 : keyD i = some k) (h3 : valD kvs k = some d) (q : Q d M) : kDGet Q o i M := by
  unfold kDGet; rw [h1, h2]; dsimp only; rw [h3]; exact q
theorem at_dput (h1 : M a = some (.dct kvs)) (h2 : keyD i = some k) (hz : kvs.length < sizeLine) (q : nx (updM M a (.dct (putD kvs k v)))) : kDPut nx v (.raw (.ref a)) i M := by
  unfold kDPut; rw [h2]; dsimp only; rw [h1]; exact ⟨hz, q⟩
theorem at_putL (h1 : M a = some (.lst xs)) (h2 : ixN xs.length z = some j) (q : nx (updM M a (.lst (xs.set j v)))) : kPutL nx v (.raw (.ref a)) (.int z) M := by
  unfold kPutL; dsimp only; rw [h1]; dsimp only; rw [h2]; exact q
theorem at_ix (h1 : seqOf M x = some xs) (h2 : atD xs z = some d) (q : Q d M) : wIx x (.int z) M Q := by
  unfold wIx; rw [h1]; dsimp only; rw [h2]; exact q
theorem at_len (h1 : seqOf M d = some xs) (q : Q (.int xs.length) M) : wLen [d] M Q := by
  unfold wLen; dsimp only; rw [h1]; exact q
theorem at_frz (h1 : M p = some (.lst ds)) (q : Q (.lst ds) (delM M p)) : kFrz Q (.raw (.ref p)) M := by
  unfold kFrz; dsimp only; rw [h1]; exact q
theorem at_frzD (h1 : M p = some (.dct kvs)) (q : Q (.dct kvs) (delM M p)) : kFrz Q (.raw (.ref p)) M := by
  unfold kFrz; dsimp only; rw [h1]; exact q
theorem at_lst {w : Addr → List D → List D → MM → (D → MM → Prop) → Prop} (h1 : M a = some (.lst xs)) (q : w a xs ds M Q) : onL w (.raw (.ref a)) ds M Q := by
  unfold onL; dsimp only; rw [h1]; exact q
theorem at_enumF {Q : IT → MM → Prop} (q : Q { items := enumL 0 ds } M) : kiE Q [.frl ds] M := by
  unfold kiE; exact q
theorem at_iterM {Q : IT → MM → Prop} (h1 : M a = some (.lst ds)) (q : Q { items := ds, src := some (a, ds) } M) : kiS Q (.raw (.ref a)) M := by
  unfold kiS; dsimp only; rw [h1]; exact q
theorem at_enumM {Q : IT → MM → Prop} (h1 : M a = some (.lst ds)) (q : Q { items := enumL 0 ds, src := some (a, ds) } M) : kiE Q [.raw (.ref a)] M := by
  unfold kiE; dsimp only; rw [h1]; exact q
theorem seq_mut (h : M a = some (.lst xs)) : seqOf M (.raw (.ref a)) = some xs := by
  unfold seqOf lstOf; dsimp only; rw [h]
theorem lst_mut (h : M a = some (.lst xs)) : lstOf M (.raw (.ref a)) = some xs := by
  unfold lstOf; dsimp only; rw [h]
theorem dct_mut (h : M a = some (.dct kvs)) : dctOf M (.raw (.ref a)) = some kvs := by
  unfold dctOf; dsimp only; rw [h]
theorem py_mut (h : M a = some (.lst xs)) : py M (.raw (.ref a)) = toPy (.lst xs) := by
  unfold py; dsimp only; rw [h]
theorem toPys_ints : ∀ (ns : List Int), toPys (ns.map D.int) = some (ns.map PyData.int)
  | [] => rfl
  | n :: ns => by simp only [List.map_cons, toPys, toPy, toPys_ints ns]
theorem ixN_nat {n : Nat} {z : Int} (h : 0 ≤ z) (h2 : z < n) : ixN n z = some z.toNat := by
  unfold ixN
  rw [if_pos h, if_pos h2]
theorem atD_nat {z : Int} (h : 0 ≤ z) (h2 : z < xs.length) : atD xs z = xs[z.toNat]? := by
  unfold atD; rw [ixN_nat h h2]; rfl
/-- a for, by a word of the turn -/
theorem loop_inv {src : Option (Addr × List D)} {b : BD} {wb : WS} {E : ED} {EX : XK'} : ∀ {ds : List D} {δ : DS} {M : MM} (I : Nat → DS → MM → Prop), I 0 δ M → (∀ i δ M, I i δ M → stay src M) →
    (∀ i d δ M, ds[i]? = some d → I i δ M → ∃ δ', b d δ = some δ' ∧ ∀ nx : DS → MM → Prop, (∀ δ2 M2, I (i + 1) δ2 M2 → nx δ2 M2) → wb { nx := nx, rt := E.rt, bk := E.nx, ct := nx } EX δ' M) → (∀ δ M, I ds.length δ M → E.nx δ M) → wLoop src b wb ds E EX δ M
  | [], δ, M, I, h0, hst, hs, hd => by
    unfold wLoop
    exact ⟨hst _ _ _ h0, hd _ _ h0⟩
  | d :: ds, δ, M, I, h0, hst, hs, hd => by
    obtain ⟨δ', e, h⟩ := hs 0 d δ M rfl h0
    unfold wLoop
    refine ⟨hst _ _ _ h0, ?_⟩
    rw [e]
    refine h _ fun δ2 M2 h2 => ?_
    exact loop_inv (fun i => I (i + 1)) h2 (fun i δ M => hst (i + 1) δ M) (fun i d δ M hi => hs (i + 1) d δ M (by simpa using hi)) hd
/-- a comprehension, by a word of the turn and the list so far -/
theorem lc_inv {src : Option (Addr × List D)} {b : BD} {wt : WT} {we : WE} {δ : DS} {fin : List D → MM → Prop} : ∀ {ds acc : List D} {M : MM} (I : Nat → List D → MM → Prop), I 0 acc M → (∀ i acc M, I i acc M → stay src M) →
    (∀ i d acc M, ds[i]? = some d → I i acc M → ∃ δ', b d δ = some δ' ∧ ∀ nx : List D → MM → Prop, (∀ acc2 M2, I (i + 1) acc2 M2 → nx acc2 M2) → wt δ' M (fun c M1 => if c = true then we δ' M1 (fun y M2 => acc.length < sizeLine ∧ nx (acc ++ [y]) M2) noX else nx acc M1) noX) →
    (∀ acc M, I ds.length acc M → fin acc M) → wLcL src b wt we δ fin ds acc M
  | [], acc, M, I, h0, hst, hs, hd => by
    unfold wLcL
    exact ⟨hst _ _ _ h0, hd _ _ h0⟩
  | d :: ds, acc, M, I, h0, hst, hs, hd => by
    obtain ⟨δ', e, h⟩ := hs 0 d acc M rfl h0
    unfold wLcL
    refine ⟨hst _ _ _ h0, ?_⟩
    rw [e]
    refine h (fun acc M => wLcL src b wt we δ fin ds acc M) fun acc2 M2 h2 => ?_
    exact lc_inv (fun i => I (i + 1)) h2 (fun i acc M => hst (i + 1) acc M) (fun i d acc M hi => hs (i + 1) d acc M (by simpa using hi)) hd
theorem rngL_get {lo : Int} {n i : Nat} {d : D} (h : (rngL lo n)[i]? = some d) : i < n ∧ d = .int (lo + (i : Nat)) := by
  have l : i < n := by
    have z := (List.getElem?_eq_some_iff.mp h).1
    rwa [rngL_len] at z
  unfold rngL at h
  rw [List.getElem?_map, List.getElem?_range l] at h
  exact ⟨l, (Option.some.inj h).symm⟩
/-! ### data of ints -/
theorem canAll_ints : ∀ ns : List Int, PyData.canLayAll0 (ns.map PyData.int) = true
  | [] => by simp [PyData.canLayAll0]
  | n :: ns => by simp [PyData.canLayAll0, PyData.canLay0, canAll_ints ns]
theorem depth_ints : ∀ ns : List Int, PyData.depthAll (ns.map PyData.int) = 0
  | [] => by simp [PyData.depthAll]
  | n :: ns => by simp [PyData.depthAll, PyData.depth, depth_ints ns]
theorem shaped_ints (ns : List Int) : SeqAt.shaped (.list (ns.map .int)) = true := by
  simp [SeqAt.shaped, PyData.canLay0, canAll_ints, PyData.depth, depth_ints]
theorem shaped_intsT (ns : List Int) : SeqAt.shaped (.tuple (ns.map .int)) = true := by
  simp [SeqAt.shaped, PyData.canLay0, canAll_ints, PyData.depth, depth_ints]
theorem toPy_lst {xs : List D} {ps : List PyData} (h : toPys xs = some ps) : toPy (.lst xs) = some (.list ps) := by simp only [toPy, h, Option.map_some]
theorem toPy_tup {xs : List D} {ps : List PyData} (h : toPys xs = some ps) : toPy (.tup xs) = some (.tuple ps) := by simp only [toPy, h, Option.map_some]
theorem eqv_nil : ∀ (ps : List PyData), PyData.eqv (.list ps) (.list []) = ps.isEmpty
  | [] => by simp [PyData.eqv, PyData.eqvAll]
  | p :: ps => by simp [PyData.eqv, PyData.eqvAll]
theorem at_ne {p q : PyData} (h1 : py M x = some p) (h2 : py M y = some q) (h3 : SeqAt.shaped p = true) (h4 : SeqAt.shaped q = true) (k : Q (.bl (!PyData.eqv p q)) M) : wNe x y M Q := by
  unfold wNe; exact ⟨p, q, h1, h2, h3, h4, k⟩
theorem at_eq {p q : PyData} (h1 : py M x = some p) (h2 : py M y = some q) (h3 : SeqAt.shaped p = true) (h4 : SeqAt.shaped q = true) (k : Q (.bl (PyData.eqv p q)) M) : wEq x y M Q := by
  unfold wEq; exact ⟨p, q, h1, h2, h3, h4, k⟩
theorem ifT {c : Bool} {A B : Prop} (hc : c = true) (h : A) : if c = true then A else B := by rw [if_pos hc]; exact h
theorem ifF {c : Bool} {A B : Prop} (hc : c = false) (h : B) : if c = true then A else B := by rw [hc, if_neg Bool.false_ne_true]; exact h
theorem if2 {p : Prop} [Decidable p] {A B : Prop} (h1 : p → A) (h2 : ¬ p → B) : if decide p = true then A else B := by
  by_cases h : p
  · exact ifT (decide_eq_true h) (h1 h)
  · exact ifF (decide_eq_false h) (h2 h)
theorem ifB {c : Bool} {A B : Prop} (h1 : c = true → A) (h2 : c = false → B) : if c = true then A else B := by
  cases c
  · exact ifF rfl (h2 rfl)
  · exact ifT rfl (h1 rfl)
end
end DL

set_option Elab.async false
set_option linter.all false
set_option maxRecDepth 100000
namespace DL
open PySem PySem.Spec L2
open PyProof.Rows hiding St
section
variable {G : Cfg} {X : Cx} {e o i value : Expr}
/-! ### truth -/
def truD (M : MM) : D → Option Bool
  | .non => some false
  | .bl b => some b
  | .int i => some (i != 0)
  | .lst ds => some (!ds.isEmpty)
  | .tup ds => some (!ds.isEmpty)
  | .raw (.ref a) => match M a with
    | some (.lst ds) => some (!ds.isEmpty)
    | _ => none
  | _ => none
theorem RepL.empty {K : PySem.W.Frag} {F : Hp} {vs : List V} {ds : List D} (r : RepL G K F vs ds) : vs.isEmpty = ds.isEmpty := by
  cases r with
  | nil => rfl
  | cons _ _ => rfl
theorem truD_rep {K : PySem.W.Frag} {F : Hp} {M : MM} {H : Hp} {v : V} {d : D} {k : Bool} (hm : HM G K F M H) (r : Rep G K F v d) (e : truD M d = some k) : TruV K v H k := by
  unfold truD at e
  split at e
  · cases r; cases e; rfl
  · cases r; cases e; rfl
  · cases r; cases e; rfl
  · cases r with
    | lst h r => cases e; exact .inl ⟨_, SqL.of (hm.sub _ _ h), by rw [r.empty]⟩
  · cases r with
    | tup h r => cases e; exact .inr (.inl ⟨_, sqT_mono hm.sub h, by rw [r.empty]⟩)
  · cases r
    split at e
    · rename_i q
      cases e
      obtain ⟨vs, h1, r1⟩ := hm.mo _ _ q
      exact .inl ⟨vs, SqL.of h1, by rw [r1.empty]⟩
    · cases e
  · cases e
@[irreducible] def kTru (Q : Bool → MM → Prop) (d : D) (M1 : MM) : Prop := match truD M1 d with
  | some k => Q k M1
  | none => False
def wTru (we : WE) : WT := fun δ M Q EX => we δ M (kTru Q) EX
theorem at_tru {Q : Bool → MM → Prop} {d : D} {M1 : MM} {k : Bool} (h : truD M1 d = some k) (q : Q k M1) : kTru Q d M1 := by unfold kTru; rw [h]; exact q
theorem dt_tru {we : WE} (h : DE G X e we) (he : ∀ whole, isTrue e X.env whole = (do let v ← whole; standAt e.pos; holding [v] (truthy v)) := by intro _; rfl) : DT G X e (wTru we) := by
  refine pt_imp (pt_truth h he) fun σ H P ⟨F, M, δ, Q, EX, hm, rs, h, tk, f⟩ => ?_
  refine ⟨F, M, δ, _, EX, hm, rs, h, tk, fun v d F1 M1 H1 g r q => ?_⟩
  unfold kTru at q
  split at q
  · rename_i k ek
    exact ⟨k, truD_rep g.hm r ek, f _ _ _ _ g q⟩
  · exact q.elim
/-! ### generators: the list of what is handed out -/
structure GED where
  nx : List D → DS → MM → Prop
  rt : List D → D → MM → Prop
  bk : List D → DS → MM → Prop := fun _ _ _ => False
  ct : List D → DS → MM → Prop := fun _ _ _ => False
abbrev WG := GED → List D → DS → MM → Prop
def upG (G : Cfg) (X : Cx) (w : WG) : TGn := fun D ys σ H => ∃ F M δ E dys, HM G X.K F M H ∧ RS G X.K F σ δ ∧ RepL G X.K F ys dys ∧ w E dys δ M ∧
  (∀ ys' dys' σ' δ' F' M' H', Grow G X.K F M H F' M' H' → RS G X.K F' σ' δ' → RepL G X.K F' ys' dys' → E.nx dys' δ' M' → D.nx ys' σ' H') ∧
  (∀ ys' dys' v d F' M' H', Grow G X.K F M H F' M' H' → Rep G X.K F' v d → RepL G X.K F' ys' dys' → E.rt dys' d M' → D.rt ys' v H') ∧
  (∀ ys' dys' σ' δ' F' M' H', Grow G X.K F M H F' M' H' → RS G X.K F' σ' δ' → RepL G X.K F' ys' dys' → E.bk dys' δ' M' → D.bk ys' σ' H') ∧
  (∀ ys' dys' σ' δ' F' M' H', Grow G X.K F M H F' M' H' → RS G X.K F' σ' δ' → RepL G X.K F' ys' dys' → E.ct dys' δ' M' → D.ct ys' σ' H')
abbrev DG (G : Cfg) (X : Cx) (st : Stmt) (w : WG) : Prop := GS X st (upG G X w)
abbrev DGs (G : Cfg) (X : Cx) (st : List Stmt) (w : WG) : Prop := GSs X st (upG G X w)
theorem gs_imp {st : Stmt} {t t' : TGn} (h : GS X st t) (i : ∀ D ys σ H, t' D ys σ H → t D ys σ H) : GS X st t' := ⟨fun A S ip R n ys s₀ c fs K J gd lv s σ H D g hn k hI ht => h.run A S ip R n ys s₀ c fs K J gd lv s σ H D g hn k hI (i D ys σ H ht)⟩
theorem gss_imp {st : List Stmt} {t t' : TGn} (h : GSs X st t) (i : ∀ D ys σ H, t' D ys σ H → t D ys σ H) : GSs X st t' := ⟨fun A S ip R n ys s₀ c fs K J gd lv s σ H D g hn k hI ht => h.run A S ip R n ys s₀ c fs K J gd lv s σ H D g hn k hI (i D ys σ H ht)⟩
def wgNil : WG := fun E ys δ M => E.nx ys δ M
theorem dg_nil : DGs G X [] wgNil := gss_imp gss_nil fun D ys σ H ⟨F, M, δ, E, dys, hm, rs, ry, h, n, r, b, c⟩ => n ys dys σ δ F M H (.refl hm) rs ry h
def wgSeq (w u : WG) : WG := fun E ys δ M => w { E with nx := fun ys' δ' M' => u E ys' δ' M' } ys δ M
theorem dg_cons {st : Stmt} {rest : List Stmt} {w u : WG} (h1 : DG G X st w) (h2 : DGs G X rest u) : DGs G X (st :: rest) (wgSeq w u) := by
  refine gss_imp (gss_cons h1 h2) fun D ys σ H ⟨F, M, δ, E, dys, hm, rs, ry, h, n, r, b, c⟩ => ?_
  refine ⟨F, M, δ, _, dys, hm, rs, ry, h, fun ys' dys' σ' δ' F' M' H' g rs' ry' h' => ?_, r, b, c⟩
  exact ⟨F', M', δ', E, dys', g.hm, rs', ry', h', fun y2 d2 s2 e2 F2 M2 H2 g2 a2 b2 q => n y2 d2 s2 e2 F2 M2 H2 (g.trans g2) a2 b2 q, fun y2 d2 s2 e2 F2 M2 H2 g2 a2 b2 q => r y2 d2 s2 e2 F2 M2 H2 (g.trans g2) a2 b2 q,
    fun y2 d2 s2 e2 F2 M2 H2 g2 a2 b2 q => b y2 d2 s2 e2 F2 M2 H2 (g.trans g2) a2 b2 q, fun y2 d2 s2 e2 F2 M2 H2 g2 a2 b2 q => c y2 d2 s2 e2 F2 M2 H2 (g.trans g2) a2 b2 q⟩
/-- a statement that hands out nothing and raises nothing -/
def wgS (w : WS) : WG := fun E ys δ M => w { nx := E.nx ys, rt := E.rt ys, bk := E.bk ys, ct := E.ct ys } noX δ M
theorem dg_s {st : Stmt} {w : WS} (h : DSt G X st w) : DG G X st (wgS w) := by
  refine gs_imp (gs_ps h) fun D ys σ H ⟨F, M, δ, E, dys, hm, rs, ry, h, n, r, b, c⟩ => ?_
  exact ⟨F, M, δ, _, noX, hm, rs, h, takes_no, fun σ' δ' F' M' H' g rs' q => n ys dys σ' δ' F' M' H' g rs' (ry.mono g.ext) q, fun v d F' M' H' g r' q => r ys dys v d F' M' H' g r' (ry.mono g.ext) q,
    fun σ' δ' F' M' H' g rs' q => b ys dys σ' δ' F' M' H' g rs' (ry.mono g.ext) q, fun σ' δ' F' M' H' g rs' q => c ys dys σ' δ' F' M' H' g rs' (ry.mono g.ext) q⟩
def wgYield (we : WE) : WG := fun E ys δ M => ys.length < sizeLine ∧ we δ M (fun d M1 => E.nx (ys ++ [d]) δ M1) noX
theorem dg_yield {we : WE} {yp pos : Pos} (h : DE G X e we) (hco : X.env.scope.isCoroutine = false := by rfl) (hi : interactive X.env = false := by rfl) : DG G X (.Expr (.Yield (some e) yp) pos) (wgYield we) := by
  refine gs_imp (gs_yield h hco hi) fun D ys σ H ⟨F, M, δ, E, dys, hm, rs, ry, h, n, r, b, c⟩ => ?_
  refine ⟨by rw [ry.len]; exact h.1, F, M, δ, _, noX, hm, rs, h.2, takes_no, fun v d F1 M1 H1 g r1 q => ?_⟩
  exact n _ _ σ δ F1 M1 H1 g (rs.mono g.ext) ((ry.mono g.ext).app (.cons r1 .nil)) q
def wgWh (p : WT) (wb : WG) : Nat → GED → List D → DS → MM → Prop
  | 0, _, _, _, _ => False
  | n + 1, E, ys, δ, M => p δ M (fun k M1 => if k = true then wb { nx := wgWh p wb n E, rt := E.rt, bk := E.nx, ct := wgWh p wb n E } ys δ M1 else E.nx ys δ M1) noX
def wgWhile (p : WT) (wb : WG) : WG := fun E ys δ M => ∃ n, wgWh p wb n E ys δ M
theorem dg_while {c : Expr} {body : List Stmt} {p : WT} {wb : WG} {pos} (hp : PassesOwn (model X.prog X.w) X.A X.env X.xe) (hc : DT G X c p) (hb : DGs G X body wb) : DG G X (.While c body [] pos) (wgWhile p wb) := by
  refine gs_imp (gs_while hp hc hb) fun D ys σ H ⟨F, M, δ, E, dys, hm, rs, ry, ⟨n0, h⟩, n, r, bk, c⟩ => ?_
  refine ⟨fun m ys' σ' H' => ∃ F' M' δ' dys', Grow G X.K F M H F' M' H' ∧ RS G X.K F' σ' δ' ∧ RepL G X.K F' ys' dys' ∧ wgWh p wb m E dys' δ' M', ⟨n0, F, M, δ, dys, .refl hm, rs, ry, h⟩, ?_⟩
  rintro m ys' σ' H' ⟨F', M', δ', dys', g', rs', ry', h'⟩
  cases m with
  | zero => exact h'.elim
  | succ m =>
    unfold wgWh at h'
    refine ⟨F', M', δ', _, noX, g'.hm, rs', h', takes_no, fun k F2 M2 H2 g2 q => ?_⟩
    have gt := g'.trans g2
    cases k with
    | true =>
      refine ⟨fun y3 s3 H3 => ∃ F3 M3 d3 dy3, Grow G X.K F M H F3 M3 H3 ∧ RS G X.K F3 s3 d3 ∧ RepL G X.K F3 y3 dy3 ∧ wgWh p wb m E dy3 d3 M3, fun y3 s3 H3 w3 => ⟨m, Nat.lt_succ_self _, w3⟩, ?_⟩
      exact ⟨F2, M2, δ', _, dys', g2.hm, rs'.mono g2.ext, ry'.mono g2.ext, q, fun y3 d3 s3 e3 F3 M3 H3 g3 a3 b3 q3 => ⟨F3, M3, e3, d3, gt.trans g3, a3, b3, q3⟩, fun y3 d3 s3 e3 F3 M3 H3 g3 a3 b3 q3 => r y3 d3 s3 e3 F3 M3 H3 (gt.trans g3) a3 b3 q3,
        fun y3 d3 s3 e3 F3 M3 H3 g3 a3 b3 q3 => n y3 d3 s3 e3 F3 M3 H3 (gt.trans g3) a3 b3 q3, fun y3 d3 s3 e3 F3 M3 H3 g3 a3 b3 q3 => ⟨F3, M3, e3, d3, gt.trans g3, a3, b3, q3⟩⟩
    | false => exact n ys' dys' σ' δ' F2 M2 H2 gt (rs'.mono g2.ext) (ry'.mono g2.ext) q
/-- a generator def's promise by trees -/
abbrev SpGD := List D → MM → (List D → MM → Prop) → Prop
def liftG (G : Cfg) (K : PySem.W.Frag) (sp : SpGD) : SpG := fun vs H P E => ∃ F M ds Q, HM G K F M H ∧ RepL G K F vs ds ∧ sp ds M Q ∧ ∀ ws es F' M' H', Grow G K F M H F' M' H' → RepL G K F' ws es → Q es M' → P ws H'
def spGOf (n m : Nat) (w : WG) : SpGD := fun ds M Q => ds.length = n ∧ w { nx := fun ys _ M' => Q ys M', rt := fun ys d M' => d = .non ∧ Q ys M' } [] (startD m ds) M
theorem okGen {P : Program} {w : World} {K : PySem.W.Frag} {mg : Str → Option Value} {base : Heap} {x qual : Str} {st : Stmt} {f : Addr} {fd : FuncData} {N ps : List Str} {k : Nat} {wb : WG} (F : Fun K x qual st f fd) (S : GScope N ps (defScope st))
    (hb : ∀ (cdv : Value) (A : Around) (out : List Env) (s : Shared) (H : Hp) (E : XK) (pn : List (Addr × Obj)), Room k (A.deeper (envOfC qual (defScope st) s.heap.objs.size f cdv)) → DGs G (gcxOf P w K mg base N qual (defScope st) f cdv A out s H E pn) (defBody st) wb) :
    GFn P w K mg base (k + 1) f fd ps (liftG G K (spGOf ps.length N.length wb)) := by
  obtain ⟨oc, od, kV, doc, pm, an, cdv, ct, osl, efd, lk, hcd⟩ := F.ex
  subst efd
  refine gfn_of lk hcd S (fun vs H Q E h => ?_) (fun A out s H vs Q E pn hr h => ⟨_, hb cdv A out s H E pn hr, ?_⟩)
  · obtain ⟨F', M, ds, Q', hm, r, ⟨h1, _⟩, _⟩ := h
    rw [r.len]; exact h1
  · obtain ⟨F', M, ds, Q', hm, r, ⟨h1, h2⟩, fin⟩ := h
    refine ⟨F', M, _, _, [], hm, rs_start r, .nil, h2, fun ys' dys' σ' δ' F1 M1 H1 g1 _ ry q => fin ys' dys' F1 M1 H1 g1 ry q, fun ys' dys' v d F1 M1 H1 g1 rv ry q => ?_, fun _ _ _ _ _ _ _ _ _ _ q => q.elim, fun _ _ _ _ _ _ _ _ _ _ q => q.elim⟩
    obtain ⟨ed, q⟩ := q
    subst ed
    cases rv
    exact ⟨rfl, fin ys' dys' F1 M1 H1 g1 ry q⟩
/-- list(o.m()), m a generator method -/
structure MethG (G : Cfg) (X : Cx) (c : Nat) (m : Str) (sp : SpGD) : Prop where
  cls : Cls X.K (G.cl c)
  noat : m ∉ G.nm c
  ex : ∃ (k : Nat) (f : Addr) (fd : FuncData) (ps : List Str), Meth X.K (G.cl c) m f ∧ GFn X.prog X.w X.K X.mg X.base k f fd ps (liftG G X.K sp) ∧ Room (k + 3) X.A ∧ Binds X.K fd ps []
def wListG (c : Nat) (sp : SpGD) (wo : WE) : WE := fun δ M Q EX => wo δ M (fun d M1 => ∃ fs, insOf M1 d = some (c, fs) ∧ sp [d] M1 (fun ys M2 => Q (.lst ys) M2)) EX
def wListGM (c : Nat) (sp : SpGD) (wo : WE) : WE := fun δ M Q EX => wo δ M (fun d M1 => ∃ fs, insOf M1 d = some (c, fs) ∧ sp [d] M1 (fun ys M2 => ∀ p, M2 p = none → Q (.raw (.ref p)) (updM M2 p (.lst ys)))) EX
variable {c : Nat} {m : Str} {sp : SpGD} {wo : WE} {p pos apos : Pos} {pl : Sem Bool}
theorem noStop0 {K : PySem.W.Frag} : NoStop K E0 := fun _ _ _ h => h.elim
theorem de_listG (mt : MethG G X c m sp) (ho : DE G X o wo) (hmg : X.mg "list" = none) (hg : Gl X "list" := by rfl)
    (hv : eval (.Call (.Attribute o m apos) [] [] pos) X.env = (do
      let ov ← eval o X.env
      standAt apos.atName
      let (f, first) ← holding [ov] (getMethod ov m pl)
      callWith pos f first (backTo pos (starEach [] X.env)) (backToKw pos (keywordEach [] X.env))) := by rfl)
    (he : starEach [.Call (.Attribute o m apos) [] [] pos] X.env = (false, eval (.Call (.Attribute o m apos) [] [] pos) X.env) :: starEach [] X.env := by rfl) {p2 : Pos} :
    DE G X (.Call (.Name "list" p) [.Call (.Attribute o m apos) [] [] pos] [] p2) (wListG c sp wo) := by
  obtain ⟨cls, noat, k, f, fd, ps, hmt, F, hr, hb⟩ := mt
  refine pe_imp (pe_listG (E := E0) (pgen_meth0 (dvs := []) (ds := []) ho cls hmt F (hr.mono (by omega)) hb .nil hv) passL noStop0 hr hg hmg (by decide +kernel) (by decide) (by decide) he) fun σ H P ⟨F', M, δ, Q, EX, hm, rs, h, tk, f'⟩ => ?_
  refine ⟨F', M, δ, _, EX, hm, rs, h, tk, fun v d F1 M1 H1 g1 r1 h1 => ?_⟩
  obtain ⟨fs, e1, q⟩ := h1
  obtain ⟨a, dx, ws, rfl, hz, l, rz⟩ := insOf_rep g1.hm r1 e1
  refine ⟨a, dx, _, rfl, hz, zip_lookup_none noat, F1, M1, [d], _, g1.hm, .cons r1 .nil, q, fun ys dys F2 M2 H2 g2 ry q2 q3 hq => ?_⟩
  have g := g2.hm.new (o := .lst ys) hq
  exact f' _ _ _ _ _ ((g1.trans g2).trans g) (.lst upd_same (ry.mono g.ext)) q2
end
end DL

set_option Elab.async false
set_option linter.all false
set_option maxRecDepth 100000
namespace DL
open PySem PySem.Spec L2
open PyProof.Rows hiding St
section
variable {G : Cfg} {X : Cx} {e o i value : Expr}
/-! ### isinstance -/
inductive Ty where
  | non | bl | int | str | tup | lst | dct
  | own (k : Nat)
deriving DecidableEq
def Ty.nm : Ty → String
  | .non => "NoneType" | .bl => "bool" | .int => "int" | .str => "str" | .tup => "tuple" | .lst => "list" | .dct => "dict" | .own _ => "object"
def tyD (M : MM) : D → Option Ty
  | .non => some .non
  | .bl _ => some .bl
  | .int _ => some .int
  | .str _ => some .str
  | .tup _ => some .tup
  | .lst _ => some .lst
  | .dct _ => some .dct
  | .ins c _ => some (.own c)
  | .raw (.ref a) => match M a with
    | some (.lst _) => some .lst
    | some (.dct _) => some .dct
    | some (.ins c _) => some (.own c)
    | _ => none
  | _ => none
/-- what isinstance answers for the class value u -/
structure IsiT (G : Cfg) (K : PySem.W.Frag) (u : Value) (tb : Ty → Option Bool) : Prop where
  bt : ∀ t b, (∀ k, t ≠ .own k) → tb t = some b → PySem.W.kitOne K (.type t.nm) u = some b
  ow : ∀ k b, tb (.own k) = some b → PySem.W.kitOne K (.ref (G.cl k)) u = some b ∧ Cls K (G.cl k) ∧ PySem.W.findIn K (.ref (G.cl k)) "__class__" = some (some (.builtin "object.__class__")) ∧
    PySem.W.specialIn K (.builtin "object.__class__") "__get__" = some (some (.builtin "getset_descriptor.__get__")) ∧ PySem.W.takesIn K (.builtin "object.__class__") = some true ∧ PySem.W.mroIn K (G.cl k) (.type "object") = some true
def tbB (u : Ty) (own : Nat → Option Bool) : Ty → Option Bool
  | .own k => own k
  | t => some (decide (t = u) || (decide (u = .int) && decide (t = .bl)))
theorem isi_b {K : PySem.W.Frag} (u : Ty) (hu : ∀ k, u ≠ .own k) : IsiT G K (.type u.nm) (tbB u fun _ => none) := by
  refine ⟨fun t b ht h => ?_, fun k b h => by cases h⟩
  refine kit_ty ?_
  cases u <;> cases t <;> first
    | exact absurd rfl (ht _)
    | exact absurd rfl (hu _)
    | (cases h; decide +kernel)
theorem tyD_rep {K : PySem.W.Frag} {F : Hp} {M : MM} {H : Hp} {v : V} {d : D} {t : Ty} {tb : Ty → Option Bool} {b : Bool} {u : Value} (T : IsiT G K u tb) (hm : HM G K F M H) (r : Rep G K F v d) (e : tyD M d = some t) (q : tb t = some b) :
    ∃ tv, TyX K H v tv ∧ PySem.W.kitOne K tv u = some b := by
  unfold tyD at e
  split at e
  · cases r; cases e; exact ⟨_, .base .non, T.bt _ _ (fun _ z => Ty.noConfusion z) q⟩
  · cases r; cases e; exact ⟨_, .base (.bl _), T.bt _ _ (fun _ z => Ty.noConfusion z) q⟩
  · cases r; cases e; exact ⟨_, .base (.int _), T.bt _ _ (fun _ z => Ty.noConfusion z) q⟩
  · cases r; cases e; exact ⟨_, .base (.str _), T.bt _ _ (fun _ z => Ty.noConfusion z) q⟩
  · cases e
    cases r with
    | tup h r =>
      refine ⟨_, ?_, T.bt _ _ (fun _ z => Ty.noConfusion z) q⟩
      rcases sqT_mono hm.sub h with z | ⟨o, its, n, h1, h2, _⟩
      · rcases z with z | ⟨o, z⟩
        · exact .base (.tup z)
        · exact .fTuple z
      · exact .kTuple h1 h2
    
  · cases e
    cases r with
    | lst h r => exact ⟨_, .base (.lst (hm.sub _ _ h)), T.bt _ _ (fun _ z => Ty.noConfusion z) q⟩
  · cases e
    cases r with
    | dct h r => exact ⟨_, .base (.dK (hm.sub _ _ h)), T.bt _ _ (fun _ z => Ty.noConfusion z) q⟩
  · cases e
    cases r with
    | ins h l r =>
      obtain ⟨h1, h2, h3, h4, h5, h6⟩ := T.ow _ _ q
      exact ⟨_, .base (.ins (hm.sub _ _ h) h2 h3 h4 h5 h6), h1⟩
  · cases r
    split at e
    · rename_i z
      cases e
      obtain ⟨vs, h1, r1⟩ := hm.mo _ _ z
      exact ⟨_, .base (.lst h1), T.bt _ _ (fun _ z => Ty.noConfusion z) q⟩
    · rename_i z
      cases e
      obtain ⟨vs, h1, r1⟩ := hm.mo _ _ z
      exact ⟨_, .base (.dK h1), T.bt _ _ (fun _ z => Ty.noConfusion z) q⟩
    · rename_i z
      cases e
      obtain ⟨dx, vs, h1, l, r1⟩ := hm.mo _ _ z
      obtain ⟨h1', h2, h3, h4, h5, h6⟩ := T.ow _ _ q
      exact ⟨_, .base (.ins h1 h2 h3 h4 h5 h6), h1'⟩
    · cases e
  · cases e
@[irreducible] def kIsi (tb : Ty → Option Bool) (Q : D → MM → Prop) (d : D) (M1 : MM) : Prop := match tyD M1 d with
  | some t => match tb t with
    | some b => Q (.bl b) M1
    | none => False
  | none => False
theorem at_isi {tb : Ty → Option Bool} {Q : D → MM → Prop} {d : D} {M1 : MM} {t : Ty} {b : Bool} (h : tyD M1 d = some t) (h2 : tb t = some b) (q : Q (.bl b) M1) : kIsi tb Q d M1 := by unfold kIsi; rw [h]; dsimp only; rw [h2]; exact q
def wIsi (cv : V) (tb : Ty → Option Bool) : WR1 := fun ds M Q => match ds with
  | [d, .raw v] => v = cv ∧ kIsi tb Q d M
  | _ => False
theorem sim_isi {K : PySem.W.Frag} {cv : V} {u : Value} {tb : Ty → Option Bool} (k : ClsV cv u) (T : IsiT G K u tb) : SimC G K (rIsi K) (wIsi cv tb) := by
  intro F M H vs ds Q P hm r w f
  unfold wIsi at w
  split at w
  · rename_i d v
    obtain ⟨ev, w⟩ := w
    subst ev
    cases r with
    | cons r1 r2 =>
      cases r2 with
      | cons r2 r3 =>
        cases r3
        cases r2
        unfold kIsi at w
        split at w
        · rename_i t e1
          split at w
          · rename_i b e2
            obtain ⟨tv, ty, kk⟩ := tyD_rep T hm r1 e1 e2
            exact ⟨_, _, tv, u, b, rfl, k, ty, kk, f _ _ F M H (.refl hm) (.bl b) w⟩
          · exact w.elim
        · exact w.elim
  · exact w.elim
/-- a type, a class as a value -/
theorem de_cls {x : Str} {v : V} {u : Value} {pos : Pos} (hm : X.mg x = some u) (r : RelV v u) (hg : Gl X x := by rfl) (hd : (x == ("__debug__" : Str)) = false := by decide) : DE G X (.Name x pos) (wC (.raw v)) := pe_imp (pe_glob hg hm r hd) (up_c fun _ _ => .raw v)
theorem de_ty {x : Str} {T : String} {pos : Pos} (hm : X.mg x = none) (hv : bootBuiltins x = some (.type T)) (hg : Gl X x := by rfl) (hn : x ≠ "__name__" := by decide) (hd : (x == ("__debug__" : Str)) = false := by decide) : DE G X (.Name x pos) (wC (.raw (.ty T))) := pe_imp (pe_bltn hg hm hv (r := show RelV (.ty T) (.type T) from rfl) hn hd) (up_c fun _ _ => .raw _)
/-! ### C.f, a constant of the class -/
/-- the text has the constant: its tree -/
structure CK (G : Cfg) (K : PySem.W.Frag) (C : Addr) (f : Str) (d : D) : Prop where
  ex : ∃ mc v u, ClX.CRead K C mc ∧ ClX.CVal K C mc f v u ∧ ∀ F, Rep G K F v d
def wCv (v : V) (we : WE) (d : D) : WE := fun δ M Q EX => we δ M (fun x M1 => x = .raw v ∧ Q d M1) EX
theorem de_cval {C : Addr} {f : Str} {we : WE} {d : D} {pos : Pos} (k : CK G X.K C f d) (h : DE G X e we) (hb : attributeBase e f X.env (eval e X.env) = eval e X.env := by rfl) : DE G X (.Attribute e f pos) (wCv (.ref C) we d) := by
  obtain ⟨mc, v, u, h1, h2, h3⟩ := k
  refine pe_imp (ClX.pe_cval h hb) fun σ H P ⟨F, M, δ, Q, EX, hm, rs, h, tk, f⟩ => ?_
  refine ⟨F, M, δ, _, EX, hm, rs, h, tk, fun w x F1 M1 H1 g r q => ?_⟩
  obtain ⟨ex, q⟩ := q
  subst ex
  cases r
  exact ⟨C, mc, v, u, rfl, h1, h2, f v d F1 M1 H1 g (h3 F1) q⟩
/-! ### C(e, .., k = v, ..) -/
/-- what such a call binds, by trees -/
structure KBD (G : Cfg) (K : PySem.W.Frag) (fd : FuncData) (ps : List Str) (n : Nat) (ks : List Str) (gD : List D → List D → List D) : Prop where
  ex : ∃ g gV, KBn K fd ps n ks g gV ∧ (∀ F vs ds zs es, RepL G K F vs ds → RepL G K F zs es → RepL G K F (gV vs zs) (gD ds es))
abbrev DK (G : Cfg) (X : Cx) (kws : List Keyword) (w : WA) : Prop := PK X kws (upA G X w)
theorem pk_imp {kws : List Keyword} {t t' : TA} (h : PK X kws t) (i : ∀ σ H Q, t' σ H Q → t σ H Q) : PK X kws t' := ⟨fun pos pins s σ H Q I ht => h.run pos pins s σ H Q I (i σ H Q ht)⟩
theorem dk_nil : DK G X [] wNil := pk_imp pk_nil fun σ H P ⟨F, M, δ, Q, EX, hm, rs, h, tk, f⟩ => f [] [] F M H (.refl hm) .nil h
theorem dk_cons {nm : Option Str} {kpos : Pos} {kws : List Keyword} {we : WE} {wr : WA} (h : DE G X e we) (hr : DK G X kws wr) : DK G X (⟨nm, e, kpos⟩ :: kws) (wCons we wr) := by
  refine pk_imp (pk_cons h hr) fun σ H P ⟨F, M, δ, Q, EX, hm, rs, h, tk, f⟩ => ?_
  refine ⟨F, M, δ, _, EX, hm, rs, h, tk, fun x d F1 M1 H1 g1 r1 h1 => ?_⟩
  refine ⟨F1, M1, δ, _, EX, g1.hm, rs.mono g1.ext, h1, tk.imp (wX_mono g1), fun vs ds F2 M2 H2 g2 r2 q => ?_⟩
  exact f (x :: vs) (d :: ds) F2 M2 H2 (g1.trans g2) (.cons (r1.mono g2.ext) r2) q
def wMakeK (c n m : Nat) (gD : List D → List D → List D) (sp : SpD) (wa wk : WA) : WE := fun δ M Q EX => wa δ M (fun ds M1 => wk δ M1 (fun es M2 => ds.length = n ∧ es.length = m ∧ ∀ p, M2 p = none →
  sp (gD (.raw (.ref p) :: ds) es) (updM M2 p (.ins c [])) (fun d M3 => d = .non ∧ Q (.raw (.ref p)) M3) (fun xd M3 => EX xd δ M3)) EX) EX
variable {gd : Bool} {k : Nat} {f : Addr} {fd : FuncData} {ps ks : List Str} {sp : SpD} {x m : Str} {p pos apos : Pos} {es : List Expr} {wa wk : WA} {wo : WE} {kws : List Keyword} {gD : List D → List D → List D}
theorem run_makeKD {C n : Nat} (Mk' : Mk X.K (G.cl C) f) (F : FnG X.prog X.w X.K X.mg X.base gd k f fd ps (lift G X.K sp)) (hr : Room (k + 1) X.A) (hgd : gd = true → X.A.guards = some []) (hb : KBD G X.K fd ps (n + 1) ks gD) {pins : List (Addr × Obj)} {σ : St} {H : Hp} {s : Shared} {us ws : List Value} {vs zs : List V} {ds es : List D} {F1 : Hp} {M1 : MM} {δ : DS} {Q : D → MM → Prop} {EX : XK'} {P : VK}
    (I : Inv X pins σ H s) (r : Vals vs us) (rz : Vals zs ws) (hm : HM G X.K F1 M1 H) (rs : RS G X.K F1 σ δ) (rl : RepL G X.K F1 vs ds) (rk : RepL G X.K F1 zs es) (l1 : ds.length = n) (l2 : es.length = ks.length)
    (h : ∀ p, M1 p = none → sp (gD (.raw (.ref p) :: ds) es) (updM M1 p (.ins C [])) (fun d M2 => d = .non ∧ Q (.raw (.ref p)) M2) (fun xd M2 => EX xd δ M2)) (tk : Takes X (wX G X.K F1 M1 H EX)) (f' : Fin G X.K F1 M1 H Q P) :
    wpAny (model X.prog X.w) X.A (call (.ref (G.cl C)) us (ks.zip ws)) (EP X pins σ P) X.xe s := by
  obtain ⟨g0, gV, kb, hg⟩ := hb
  have n1 : H s.heap.objs.size = none := I.hok.fresh (Nat.le_refl _)
  have n2 : H (s.heap.objs.size + 1) = none := I.hok.fresh (Nat.le_succ _)
  have ne : s.heap.objs.size + 1 ≠ s.heap.objs.size := Nat.succ_ne_self _
  have I2 := Inv.made (C := G.cl C) I
  have g1 : Grow G X.K F1 M1 H F1 M1 (upd H s.heap.objs.size (.own (s.heap.objs.size + 1))) := hm.own n1
  have n3 : upd H s.heap.objs.size (.own (s.heap.objs.size + 1)) (s.heap.objs.size + 1) = none := by rw [upd_ne ne]; exact n2
  have g2 := g1.hm.newM (p := s.heap.objs.size + 1) (o := .ins (G.cl C) s.heap.objs.size []) (m := .ins C []) n3 ⟨s.heap.objs.size, [], by rw [upd_same]; simp, by simp, .nil⟩
  have g := g1.trans g2
  have hq := h (s.heap.objs.size + 1) (hm.free n2).2
  have r1 : Vals (V.ref (s.heap.objs.size + 1) :: vs) (Value.ref (s.heap.objs.size + 1) :: us) := .cons rfl r
  have r2 := kb.rel r1 rz
  have rl2 : RepL G X.K F1 (gV (V.ref (s.heap.objs.size + 1) :: vs) zs) (gD (D.raw (.ref (s.heap.objs.size + 1)) :: ds) es) := hg _ _ _ _ _ (.cons (.raw _) rl) rk
  have hl' := lift_at (P := fun v H' => v = .non ∧ P (.ref (s.heap.objs.size + 1)) H') g.hm rs rl2 hq (fun v d F3 M3 H3 g3 r3 q3 => by
    obtain ⟨e, q3⟩ := q3
    subst e
    cases r3
    exact ⟨rfl, f' _ _ F3 M3 H3 (g.trans g3) (.raw _) q3⟩)
  have nn : (Value.ref (s.heap.objs.size + 1) :: us).length = n + 1 := by
    rw [List.length_cons, ← r.length, rl.len, l1]
  have nk : ws.length = ks.length := by rw [← rz.length, rk.len, l2]
  have tk2 : Takes X (wX G X.K F1 (updM M1 (s.heap.objs.size + 1) (.ins C [])) (upd (upd H s.heap.objs.size (.own (s.heap.objs.size + 1))) (s.heap.objs.size + 1) (.ins (G.cl C) s.heap.objs.size [])) EX) := tk.imp (wX_mono g)
  refine wpAny_call (make_map (f := f) I.kIn Mk'.makes Mk'.init (beq_iff_eq.mp Mk'.fn) (codeAny_mono (F.run _ X.stack _ _ ⟨Value.ref (s.heap.objs.size + 1) :: us, ks.zip ws⟩ (g0 (Value.ref (s.heap.objs.size + 1) :: us) ws) _ _ _ (hr.make _ us (ks.zip ws)) (fun z => guards_make (hgd z))
    (I2.env0.make _ us (ks.zip ws)) (kb.to _ (Value.ref (s.heap.objs.size + 1) :: us) ws I2.kIn nn nk) r2 hl') fun r s' hq' => ?_))
  cases r with
  | error e => exact passAt tk2 σ pins _ _ e s' I2 hq'
  | ok fl =>
    cases fl with
    | ret u =>
      obtain ⟨v, H', I3, rv, ev, q3⟩ := I2.after hq'
      subst ev
      exact ⟨rv, ⟨V.ref (s.heap.objs.size + 1), H', I3, rfl, q3⟩⟩
    | next => exact False.elim hq'
    | brk => exact False.elim hq'
    | cont => exact False.elim hq'
theorem dk_run {F1 : Hp} {M1 : MM} {δ : DS} {QA : List D → MM → Prop} {EX : XK'} {pins : List (Addr × Obj)} {s : Shared} {σ : St} {H : Hp} (ha : DK G X kws wk) (pos : Pos) (I : Inv X pins σ H s) (hm : HM G X.K F1 M1 H) (rs : RS G X.K F1 σ δ) (h : wk δ M1 QA EX) (tk : Takes X (wX G X.K F1 M1 H EX)) :
    wpAny (model X.prog X.w) X.A (evalAll ((backToKw pos (keywordEach kws X.env)).map (·.2))) (AP X pins σ (fun vs H2 => ∃ ds F2 M2, Grow G X.K F1 M1 H F2 M2 H2 ∧ RepL G X.K F2 vs ds ∧ QA ds M2)) X.xe s :=
  ha.run pos pins s σ H _ I ⟨F1, M1, δ, QA, EX, hm, rs, h, tk, fun vs ds F2 M2 H2 g r q => ⟨ds, F2, M2, g, r, q⟩⟩
theorem de_makeK {C n : Nat} (Mk' : Mk X.K (G.cl C) f) (F : FnG X.prog X.w X.K X.mg X.base gd k f fd ps (lift G X.K sp)) (hr : Room (k + 1) X.A) (hgd : gd = true → X.A.guards = some []) (hm : X.mg x = some (.ref (G.cl C))) (hb : KBD G X.K fd ps (n + 1) ks gD)
    (ha : DA G X (e :: es) wa) (hkw : DK G X kws wk) (hg : Gl X x := by rfl)
    (hall : (backToKw pos (keywordEach kws X.env)).all (·.1.isSome) = true := by rfl) (hks : (backToKw pos (keywordEach kws X.env)).filterMap (·.1) = ks := by rfl) (hdb : (x == ("__debug__" : Str)) = false := by decide)
    (he : starEach (e :: es) X.env = (false, eval e X.env) :: starEach es X.env := by rfl) (hpl : ((backTo pos (starEach (e :: es) X.env)).any (·.1) || (backToKw pos (keywordEach kws X.env)).any (·.1.isNone)) = false := by rfl) :
    DE G X (.Call (.Name x p) (e :: es) kws pos) (wMakeK C n ks.length gD sp wa wk) := by
  refine ⟨fun pins s σ H Q I ⟨F1, M1, δ, Q', EX, hm1, rs, h, tk, fin⟩ => ?_⟩
  refine wpAny_Call_Name_kw (ld_glob I hg hm ?_ hdb)
  refine PySem.W.callWith_KW (h₀ := X.base) I.ok.mod.kin Mk'.kp hall (thn (da_run ha pos I hm1 rs h tk) fun us s1 ⟨vs, H1, I1, r, ds, F2, M2, g, rl, q⟩ => ?_) hpl he
  refine thn (dk_run hkw pos I1 g.hm (rs.mono g.ext) q (tk.imp (wX_mono g))) fun ws s2 ⟨zs, H2, I2, rz, es', F3, M3, g2, rk, l1, l2, q2⟩ => ⟨I2.kIn, ?_⟩
  rw [hks]
  have gt := g.trans g2
  exact run_makeKD Mk' F hr hgd hb I2 r rz g2.hm (rs.mono gt.ext) (rl.mono g2.ext) rk l1 l2 q2 (tk.imp (wX_mono gt)) fun v d F4 M4 H4 g4 r4 q4 => fin v d F4 M4 H4 (gt.trans g4) r4 q4
/-! ### hand(x): an instance is called -/
structure CallD (G : Cfg) (X : Cx) (c : Nat) (sp : SpD) : Prop where
  ex : ∃ (gd : Bool) (k : Nat) (f : Addr) (fd : FuncData) (ps : List Str), StX.CallO X.K (G.cl c) f ∧ FnG X.prog X.w X.K X.mg X.base gd k f fd ps (lift G X.K sp) ∧ Room k X.A ∧ (gd = true → X.A.guards = some []) ∧ Binds X.K fd ps []
def wCallO (tb : List (Nat × SpD)) (wf : WE) (wa : WA) : WE := fun δ M Q EX => wf δ M (fun d M1 => (insOf M1 d).isSome = true ∧ wa δ M1 (fun ds M2 => ∃ c fs sp, insOf M2 d = some (c, fs) ∧ tb.lookup c = some sp ∧ sp (d :: ds) M2 Q (fun xd M3 => EX xd δ M3)) EX) EX
theorem de_callO {fe : Expr} {wf : WE} (tb : List (Nat × SpD)) (ht : ∀ q ∈ tb, CallD G X q.1 q.2) (hf : DE G X fe wf) (ha : DA G X (e :: es) wa)
    (hv : eval (.Call fe (e :: es) [] pos) X.env = (do callWith pos (← eval fe X.env) [] (backTo pos (starEach (e :: es) X.env)) (backToKw pos (keywordEach [] X.env))) := by rfl)
    (he : starEach (e :: es) X.env = (false, eval e X.env) :: starEach es X.env := by rfl) (hpl : (backTo pos (starEach es X.env)).any (·.1) = false := by rfl) : DE G X (.Call fe (e :: es) [] pos) (wCallO tb wf wa) := by
  refine ⟨fun pins s σ H Q I ⟨F1, M1, δ, Q', EX, hm1, rs, h, tk, fin⟩ => ?_⟩
  refine Call_ (thn (de_run hf I hm1 rs h tk) fun u s1 ⟨v, H1, I1, rv, d, F2, M2, g, rd, qi, q⟩ => ?_) hv
  have key : ∃ a, v = .ref a := by
    obtain ⟨⟨c, fs⟩, e0⟩ := Option.isSome_iff_exists.mp qi
    obtain ⟨a, _, _, z, _⟩ := insOf_rep g.hm rd e0
    exact ⟨a, z⟩
  obtain ⟨a, rfl⟩ := key
  obtain rfl : u = Value.ref a := rv
  refine StX.callO_with (thn (da_run ha pos I1 g.hm (rs.mono g.ext) q (tk.imp (wX_mono g))) fun us s2 ⟨vs, H2, I2, r, ds, F3, M3, g2, rl, c, fs, sp, e1, e2, q2⟩ => ?_) he hpl
  obtain ⟨a', dx, ws, ea, hz, l, rz⟩ := insOf_rep g2.hm (rd.mono g2.ext) e1
  cases ea
  obtain ⟨gd, k, f, fd, ps, co, F, hr, hgd, hb⟩ := ht _ (lookup_mem e2)
  obtain ⟨ox, od, J, hd⟩ := StX.insC_at I2 (.inr ⟨_, _, hz⟩)
  have gt := g.trans g2
  refine ⟨⟨_, ox, od, J, hd⟩, ?_⟩
  have rl3 : RepL G X.K F3 (V.ref a :: vs) (d :: ds) := .cons (rd.mono g2.ext) rl
  have f2 : Fin G X.K F3 M3 H2 Q' Q := fun v d F4 M4 H4 g4 r4 q4 => fin v d F4 M4 H4 (gt.trans g4) r4 q4
  have hl' := lift_at (P := Q) g2.hm (rs.mono gt.ext) rl3 q2 f2
  have r2 : Vals (V.ref a :: vs) (Value.ref a :: us) := .cons rfl r
  have hn : (Value.ref a :: us).length = ps.length := r2.length.symm.trans (F.len _ _ _ _ hl')
  refine wpAny_call (PySem.W.kco_code I2.kIn J hd co.at_ co.fn co.fi (codeAny_mono (F.run X.A X.stack s2 H2 ⟨Value.ref a :: us, []⟩ (Value.ref a :: us) _ Q _ hr hgd I2.env0 ?_ r2 hl') (fun res s' hq => ?_)))
  · have z := hb s2 (Value.ref a :: us) I2.kIn (by simpa using hn)
    simpa using z
  · match res, hq with
    | .error z, hq => exact passAt (tk.imp (wX_mono gt)) σ pins H2 s2 z s' I2 hq
    | .ok (.ret u), hq => exact I2.after hq
end
end DL

set_option Elab.async false
set_option linter.all false
set_option maxRecDepth 100000
namespace DL
open PySem PySem.Spec L2
open PyProof.Rows hiding St
section
variable {G : Cfg}
/-! ### the law's own call -/
theorem rep_ints {K : PySem.W.Frag} {F : Hp} : ∀ ns : List Int, RepL G K F (ns.map V.int) (ns.map D.int)
  | [] => .nil
  | n :: ns => .cons (.int n) (rep_ints ns)
theorem not_cx {P : Program} {w : World} {H : Hp} {s : Shared} {e : Value} {s' : Shared} (h : L2.CX P w [] H s (fun _ _ _ => False) e s') : False := by
  obtain ⟨_, _, _, _, _, _, _, _, _, _, _, _, z⟩ := h
  exact z
section
variable {P : Program} {w : World} {K : PySem.W.Frag} {mg mb : Str → Option Value} {gd : Bool} {k : Nat} {fa a : Addr} {nm x : Str} {sp : SpD} {s₁ : Shared} {vs : List Value} {ns : List Int}
/-- from a heap H in which at most the script (at a) is tracked -/
theorem law_at (KX : K.In s₁.heap) (hns : s₁.heap.Ns mainGlobals mg) (hb : s₁.heap.Ns builtinsNs mb) (hbb : ∀ x : Str, x ≠ "__name__" → mb x = bootBuiltins x) (hlim : s₁.heap.NoLimit) (hg : s₁.gens = #[])
    (ha : s₁.heap.get? a = some { cls := .type "list", data := .seq vs.toArray }) (hr : Room k callerA) (hgd : callerA.guards = some [])
    (F : ∀ base : Heap, K.In base → base.Ns mainGlobals mg → OkG P w K mg base gd k nm [x] (lift G K sp)) (hmg : mg nm = some (.ref fa))
    (hsp : sp [.frl (ns.map D.int)] (fun _ => none) (fun d _ => d = .bl true) fun _ _ => False)
    {H : Hp} (hS : SqL K H a (ns.map V.int)) (hok : HOk P w H s₁.heap) (hA : ∀ b, H b ≠ none → b = a ∧ K.lookup a = none ∧ ∃ o xs, H b = some (.frz o (.lst xs))) :
    codeAny (model P w) callerA (.call (.ref fa) ⟨[.ref a], []⟩) (fun r s' => r = .ok (.ret (.bool true)) ∧ OldK s₁.heap s'.heap ∧ s'.os = s₁.os ∧ AllBare s'.gens) s₁ := by
  have free : ∀ {b : Addr} {o : Obj}, s₁.heap.get? b = some o → (b = a → False) → H b = none := fun {b o} _ nb => by
    cases q : H b with
    | none => rfl
    | some u => exact (nb (hA b (by rw [q]; simp)).1).elim
  have nsK : ∀ {b : Addr} {m : Str → Option Value}, s₁.heap.Ns b m → (hidT s₁.heap H).Ns b m := fun {b m} ⟨o, es, ep, e, d, r⟩ => by
    refine ⟨o, es, ep, hidT_get e (free e fun z => ?_), d, r⟩
    subst z
    rw [ha] at e
    cases e
    have d' : Data.seq vs.toArray _ = Data.dict es ep := d
    cases d'
  have hKb : K.In (hidT s₁.heap H) := fun b o e => hidT_get (KX b o e) (by
    cases q : H b with
    | none => rfl
    | some u =>
      obtain ⟨z, n, _⟩ := hA b (by rw [q]; simp)
      subst z
      rw [n] at e; cases e)
  have hM : Mod K mg (hidT s₁.heap H) := ⟨hKb, nsK hns, ⟨mb, nsK hb, hbb⟩, let ⟨mc, h1, h2⟩ := hlim; ⟨mc, nsK h1, h2⟩⟩
  have e0 : Env0 P w K mg (hidT s₁.heap H) callerA [] s₁ H := ⟨rfl, hM, fun b o e => of_hidT e, Nat.le_of_eq (hidT_size _ _), trivial, fun b hb => absurd (show b ∈ ([] : List Addr) from hb) (by simp), hok, .of_eq hg⟩
  have hm0 : HM G K H (fun _ => none) H := ⟨Same.refl _, fun b m e => (nomatch e), fun b m e => (nomatch e)⟩
  have hl : lift G K sp [.ref a] H (fun v _ => v = .bl true) (fun _ _ _ => False) :=
    ⟨H, fun _ => none, [.frl (ns.map D.int)], _, _, hm0, .cons (.frl hS (rep_ints ns)) .nil, hsp, fun v d F' M' H' g r q => by subst q; cases r; rfl, fun cls dop xd F' M' H' g rx q => q⟩
  obtain ⟨f, fd, hf, _, hb, Fn⟩ := F _ hKb (nsK hns)
  have ef : f = fa := by
    have z := hf.symm.trans hmg
    injection z with z
    injection z
  subst ef
  refine codeAny_mono (Fn.run callerA [] s₁ H ⟨[.ref a], []⟩ [.ref a] [.ref a] _ _ hr (fun _ => hgd) e0 (hb s₁ [.ref a] KX rfl) (.cons rfl .nil) hl) fun r s' h => ?_
  match r, h with
  | .error e, h => exact (not_cx h).elim
  | .ok (.ret u), h =>
    obtain ⟨v, H', os, bare, un, hok', r', q⟩ := h
    have q' : v = .bl true := q
    subst q'
    obtain rfl : u = Value.bool true := r'
    refine ⟨rfl, OldK.of_keep fun b o e => ?_, os, bare⟩
    cases q : H b with
    | none => exact un.keep b o e q (by intro z; exact absurd (show b ∈ ([] : List Addr) from z) (by simp)) (by simp)
    | some u =>
      obtain ⟨_, _, ob, xs, z⟩ := hA b (by rw [q]; simp)
      have z2 := un.frzs b ob _ z
      obtain ⟨e1, _⟩ := hok b _ z
      obtain ⟨e2, _⟩ := hok' b _ z2
      rw [e] at e1; cases e1
      exact e2
end
theorem walkD {l : PySem.W.OpenLaw} {n k : Nat} {gd : Bool} {q : Program} {loose : List Str} {XP : (Str → Option Value) → Heap → Prop} {YP : World → Heap → Prop} {d : DefRec} {K : Params → PySem.W.Frag} {sp : SpD} {x : Str}
    (hn : l.most = some n) (hn2 : n ≤ sizeLine) (hdf : d.params.defaults = []) (hr : Room k callerA) (hgd : callerA.guards = some [])
    (hY : ∀ (w : World) (h : Heap), YP w h → (K w.params).In h)
    (F : ∀ (w : World) (mg : Str → Option Value) (h : Heap), (K w.params).In h → h.Ns mainGlobals mg →
      ∃ G : Cfg, ∀ base : Heap, (K w.params).In base → base.Ns mainGlobals mg → OkG l.prog w (K w.params) mg base gd k d.name [x] (lift G (K w.params) sp))
    (hsp : ∀ ns : List Int, ns.length ≤ n → sp [.frl (ns.map D.int)] (fun _ => none) (fun d _ => d = .bl true) fun _ _ => False) :
    PySem.W.WalkO q loose XP YP l.row.toRowW d [] (fun f vs => PySem.call f vs) := by
  refine Att.attach_call hn hdf fun w s₀ s₁ mg mb fa o pm cd doc a vs ns E Y ho hd hcd hmg hobj hints hlen hg => ?_
  have KX := hY w _ Y
  obtain ⟨G, hF⟩ := F w mg _ KX E.T.g
  have rv := vals_ints hints
  have lenV := hints.length
  have hl := Nat.le_trans hlen hn2
  cases hk : (K w.params).lookup a with
  | some o =>
    have e := KX a o hk
    rw [hobj] at e
    cases e
    exact law_at KX E.T.g E.T.b E.T.builtins E.T.nolimit hg hobj hr hgd hF hmg (hsp ns hlen) (H := fun _ => none) (.inr ⟨_, vs.toArray, _, hk, rfl, rfl, rfl, by rw [List.size_toArray, lenV]; exact hl, by simpa using rv⟩) (fun b u z => nomatch (show (none : Option HO) = some u from z)) (fun b z => absurd rfl z)
  | none =>
    refine law_at KX E.T.g E.T.b E.T.builtins E.T.nolimit hg hobj hr hgd hF hmg (hsp ns hlen) (H := fun b => if b = a then some (.frz { cls := .type "list", data := .seq vs.toArray } (.lst (ns.map V.int))) else none) (.inl (.inr ⟨{ cls := .type "list", data := .seq vs.toArray }, if_pos rfl⟩)) (fun b u z => ?_) (fun b z => ?_)
    · by_cases hb : b = a
      · have z' := (if_pos hb).symm.trans z
        cases z'
        subst hb
        exact ⟨hobj, by rw [List.length_map]; exact hl, vs, _, rv, hobj⟩
      · have z' := (if_neg hb).symm.trans z
        cases z'
    · by_cases hb : b = a
      · exact ⟨hb, hk, _, _, if_pos hb⟩
      · exact absurd (if_neg hb) z
end
end DL

set_option Elab.async false
set_option linter.all false
set_option maxRecDepth 100000
namespace DL
open PySem PySem.Spec L2
open PyProof.Rows hiding St
section
variable {G : Cfg} {X : Cx} {P : Program} {w : World} {K : PySem.W.Frag} {mg : Str → Option Value} {base : Heap} {gd : Bool} {C : Addr} {c k n : Nat} {m qual : Str} {st : Stmt} {f : Addr} {N ps ks : List Str} {wb : WS} {wg : WG} {sp : SpD} {sg : SpGD} {kws : List (Str × V)} {dds : List D}
/-! ### what the text has of classes; what their defs promise -/
structure GMeth (K : PySem.W.Frag) (C : Addr) (m qual : Str) (st : Stmt) (ps : List Str) : Prop where
  ex : ∃ f fd, Meth K C m f ∧ Fun K m qual st f fd ∧ Binds K fd ps []
structure OkMeth (P : Program) (w : World) (K : PySem.W.Frag) (mg : Str → Option Value) (base : Heap) (gd : Bool) (k : Nat) (C : Addr) (m : Str) (ps : List Str) (sp : Sp) : Prop where
  ex : ∃ f fd, Meth K C m f ∧ Binds K fd ps [] ∧ FnG P w K mg base gd k f fd ps sp
theorem okMeth (g : GMeth K C m qual st ps) (S : FnScope N ps (defScope st))
    (hb : ∀ (f : Addr) (cdv : Value) (A : Around) (out : List Env) (s : Shared) (H : Hp) (E : XK), Room k (A.deeper (envOfC qual (defScope st) s.heap.objs.size f cdv)) → (gd = true → (A.deeper (envOfC qual (defScope st) s.heap.objs.size f cdv)).guards = some []) → DSs G (cxOf (L2.CX P w) P w K mg base N qual (defScope st) f cdv A out s H E) (defBody st) wb) :
    OkMeth P w K mg base gd (k + 1) C m ps (lift G K (spOf ps.length N.length wb)) := by
  obtain ⟨f, fd, h1, F, b⟩ := g
  exact ⟨f, fd, h1, b, okD F S (hb f)⟩
theorem md_of (o : OkMeth X.prog X.w X.K X.mg X.base gd k (G.cl c) m ps (lift G X.K sp)) (cls : Cls X.K (G.cl c)) (noat : m ∉ G.nm c) (hr : Room k X.A) (hgd : gd = true → X.A.guards = some []) : MethD G X c m [] sp := by
  obtain ⟨f, fd, h1, b, F⟩ := o
  exact ⟨cls, noat, gd, k, f, fd, ps, [], [], h1, F, hr, hgd, b, .nil, Flat.nil⟩
structure OkMethG (P : Program) (w : World) (K : PySem.W.Frag) (mg : Str → Option Value) (base : Heap) (k : Nat) (C : Addr) (m : Str) (ps : List Str) (sp : SpG) : Prop where
  ex : ∃ f fd, Meth K C m f ∧ Binds K fd ps [] ∧ GFn P w K mg base k f fd ps sp
theorem okMethG (g : GMeth K C m qual st ps) (S : GScope N ps (defScope st))
    (hb : ∀ (f : Addr) (cdv : Value) (A : Around) (out : List Env) (s : Shared) (H : Hp) (E : XK) (pn : List (Addr × Obj)), Room k (A.deeper (envOfC qual (defScope st) s.heap.objs.size f cdv)) → DGs G (gcxOf P w K mg base N qual (defScope st) f cdv A out s H E pn) (defBody st) wg) :
    OkMethG P w K mg base (k + 1) C m ps (liftG G K (spGOf ps.length N.length wg)) := by
  obtain ⟨f, fd, h1, F, b⟩ := g
  exact ⟨f, fd, h1, b, okGen F S (hb f)⟩
theorem mg_of (o : OkMethG X.prog X.w X.K X.mg X.base k (G.cl c) m ps (liftG G X.K sg)) (cls : Cls X.K (G.cl c)) (noat : m ∉ G.nm c) (hr : Room (k + 3) X.A) : MethG G X c m sg := by
  obtain ⟨f, fd, h1, b, F⟩ := o
  exact ⟨cls, noat, k, f, fd, ps, h1, F, hr, b⟩
structure GCall (K : PySem.W.Frag) (C : Addr) (qual : Str) (st : Stmt) (ps : List Str) : Prop where
  ex : ∃ f fd, StX.CallO K C f ∧ Fun K "__call__" qual st f fd ∧ Binds K fd ps []
structure OkCall (P : Program) (w : World) (K : PySem.W.Frag) (mg : Str → Option Value) (base : Heap) (gd : Bool) (k : Nat) (C : Addr) (ps : List Str) (sp : Sp) : Prop where
  ex : ∃ f fd, StX.CallO K C f ∧ Binds K fd ps [] ∧ FnG P w K mg base gd k f fd ps sp
theorem okCall (g : GCall K C qual st ps) (S : FnScope N ps (defScope st))
    (hb : ∀ (f : Addr) (cdv : Value) (A : Around) (out : List Env) (s : Shared) (H : Hp) (E : XK), Room k (A.deeper (envOfC qual (defScope st) s.heap.objs.size f cdv)) → (gd = true → (A.deeper (envOfC qual (defScope st) s.heap.objs.size f cdv)).guards = some []) → DSs G (cxOf (L2.CX P w) P w K mg base N qual (defScope st) f cdv A out s H E) (defBody st) wb) :
    OkCall P w K mg base gd (k + 1) C ps (lift G K (spOf ps.length N.length wb)) := by
  obtain ⟨f, fd, h1, F, b⟩ := g
  exact ⟨f, fd, h1, b, okD F S (hb f)⟩
theorem cd_of (o : OkCall X.prog X.w X.K X.mg X.base gd k (G.cl c) ps (lift G X.K sp)) (hr : Room k X.A) (hgd : gd = true → X.A.guards = some []) : CallD G X c sp := by
  obtain ⟨f, fd, h1, b, F⟩ := o
  exact ⟨gd, k, f, fd, ps, h1, F, hr, hgd, b⟩
structure GProp (K : PySem.W.Frag) (C : Addr) (m qual : Str) (st : Stmt) (ps : List Str) : Prop where
  ex : ∃ p g fd, PropOf K C m p g ∧ Fun K m qual st g fd ∧ Binds K fd ps []
structure OkProp (P : Program) (w : World) (K : PySem.W.Frag) (mg : Str → Option Value) (base : Heap) (gd : Bool) (k : Nat) (C : Addr) (m : Str) (ps : List Str) (sp : Sp) : Prop where
  ex : ∃ p g fd, PropOf K C m p g ∧ Binds K fd ps [] ∧ FnG P w K mg base gd k g fd ps sp
theorem okProp (g : GProp K C m qual st ps) (S : FnScope N ps (defScope st))
    (hb : ∀ (f : Addr) (cdv : Value) (A : Around) (out : List Env) (s : Shared) (H : Hp) (E : XK), Room k (A.deeper (envOfC qual (defScope st) s.heap.objs.size f cdv)) → (gd = true → (A.deeper (envOfC qual (defScope st) s.heap.objs.size f cdv)).guards = some []) → DSs G (cxOf (L2.CX P w) P w K mg base N qual (defScope st) f cdv A out s H E) (defBody st) wb) :
    OkProp P w K mg base gd (k + 1) C m ps (lift G K (spOf ps.length N.length wb)) := by
  obtain ⟨p, f, fd, h1, F, b⟩ := g
  exact ⟨p, f, fd, h1, b, okD F S (hb f)⟩
theorem pd_of (o : OkProp X.prog X.w X.K X.mg X.base gd k (G.cl c) m ps (lift G X.K sp)) (cls : Cls X.K (G.cl c)) (hr : Room (k + 1) X.A) (hgd : gd = true → X.A.guards = some []) : PropD G X c m sp := by
  obtain ⟨p, f, fd, h1, b, F⟩ := o
  exact ⟨cls, gd, p, f, k, fd, ps, h1, F, hr, hgd, b⟩
/-! ### C(..) -/
structure GInit (K : PySem.W.Frag) (C : Addr) (qual : Str) (st : Stmt) (kws : List (Str × V)) : Prop where
  ex : ∃ f fd, Mk K C f ∧ FunD K "__init__" qual (defArgs st) (defBody st) (defScope st) [] kws f fd
structure OkInit (P : Program) (w : World) (K : PySem.W.Frag) (mg : Str → Option Value) (base : Heap) (gd : Bool) (k : Nat) (C : Addr) (qual : Str) (st : Stmt) (kws : List (Str × V)) (ps : List Str) (sp : Sp) : Prop where
  ex : ∃ f fd, Mk K C f ∧ FunD K "__init__" qual (defArgs st) (defBody st) (defScope st) [] kws f fd ∧ FnG P w K mg base gd k f fd ps sp
theorem funD_fun {x : Str} {f : Addr} {fd : FuncData} (F : FunD K x qual (defArgs st) (defBody st) (defScope st) [] kws f fd) : Fun K x qual st f fd := by
  obtain ⟨oc, od, dV, kV, doc, pm, an, cdv, ct, osl, e, lk, hcd, hD, hK⟩ := F.ex
  rcases hD with ⟨_, z⟩ | ⟨z, _⟩
  · subst z
    exact ⟨⟨oc, od, kV, doc, pm, an, cdv, ct, osl, e, lk, hcd⟩, F.kp⟩
  · exact absurd rfl z
theorem okInit (g : GInit K C qual st kws) (S : FnScope N ps (defScope st))
    (hb : ∀ (f : Addr) (cdv : Value) (A : Around) (out : List Env) (s : Shared) (H : Hp) (E : XK), Room k (A.deeper (envOfC qual (defScope st) s.heap.objs.size f cdv)) → (gd = true → (A.deeper (envOfC qual (defScope st) s.heap.objs.size f cdv)).guards = some []) → DSs G (cxOf (L2.CX P w) P w K mg base N qual (defScope st) f cdv A out s H E) (defBody st) wb) :
    OkInit P w K mg base gd (k + 1) C qual st kws ps (lift G K (spOf ps.length N.length wb)) := by
  obtain ⟨f, fd, h1, F⟩ := g
  exact ⟨f, fd, h1, F, okD (funD_fun F) S (hb f)⟩
variable {x : Str} {p pos : Pos} {e : Expr} {es : List Expr} {wa wk : WA} {kwl : List Keyword}
/-- C(e, ..), every parameter written -/
theorem de_new (o : OkInit X.prog X.w X.K X.mg X.base gd k (G.cl c) qual st [] ps (lift G X.K sp)) (hr : Room (k + 1) X.A) (hgd : gd = true → X.A.guards = some []) (hm : X.mg x = some (.ref (G.cl c)))
    (hch : ∀ (kV doc pm : Value) (an : Option Addr) (cdv ct : Value) (us : List Value), us.length = ps.length → bindArgs (PySem.W.fnOf "__init__" qual (defArgs st) (defBody st) (defScope st) .none kV doc pm an cdv ct) ⟨us, []⟩ = pure (ps.zip us))
    (ha : DA G X (e :: es) wa) (hg : Gl X x := by rfl) (hdb : (x == ("__debug__" : Str)) = false := by decide) (he : starEach (e :: es) X.env = (false, eval e X.env) :: starEach es X.env := by rfl) (hpl : (backTo pos (starEach es X.env)).any (·.1) = false := by rfl) :
    DE G X (.Call (.Name x p) (e :: es) [] pos) (wMake c sp [] wa) := by
  obtain ⟨f, fd, mk, F, Fn⟩ := o
  exact de_make mk Fn hr hgd hm (F.bindsN hch) .nil Flat.nil ha hg hdb he hpl
/-- C(e, ..), the keyword-only ones are left out -/
theorem de_newD (o : OkInit X.prog X.w X.K X.mg X.base gd k (G.cl c) qual st kws ps (lift G X.K sp)) (hr : Room (k + 1) X.A) (hgd : gd = true → X.A.guards = some []) (hm : X.mg x = some (.ref (G.cl c))) (n : Nat) (hk : kws ≠ []) (hn : n + kws.length = ps.length) (hf : Flat G X.K (kws.map (·.2)) dds)
    (hch : ∀ (D : Addr) (doc pm : Value) (an : Option Addr) (cdv ct : Value) (us ks : List Value), us.length = n → ks.length = kws.length → KwChain D ((kws.map (·.1)).zip ks) (bindArgs (PySem.W.fnOf "__init__" qual (defArgs st) (defBody st) (defScope st) .none (.ref D) doc pm an cdv ct) ⟨us, []⟩) (ps.zip (us ++ ks)))
    (ha : DA G X (e :: es) wa) (hg : Gl X x := by rfl) (hdb : (x == ("__debug__" : Str)) = false := by decide) (he : starEach (e :: es) X.env = (false, eval e X.env) :: starEach es X.env := by rfl) (hpl : (backTo pos (starEach es X.env)).any (·.1) = false := by rfl) :
    DE G X (.Call (.Name x p) (e :: es) [] pos) (wMake c sp dds wa) := by
  obtain ⟨f, fd, mk, F, Fn⟩ := o
  obtain ⟨ds, hd, hb⟩ := F.binds0 n hk hn hch
  exact de_make mk Fn hr hgd hm hb hd hf ha hg hdb he hpl
/-- C(e, .., k = v, ..), no keyword-only parameter lacks -/
theorem de_newK (o : OkInit X.prog X.w X.K X.mg X.base gd k (G.cl c) qual st kws ps (lift G X.K sp)) (hr : Room (k + 1) X.A) (hgd : gd = true → X.A.guards = some []) (hm : X.mg x = some (.ref (G.cl c))) (n : Nat) (hk : kws ≠ [])
    (hch : ∀ (D : Addr) (doc pm : Value) (an : Option Addr) (cdv ct : Value) (us ws : List Value), us.length = n + 1 → ws.length = ks.length → bindArgs (PySem.W.fnOf "__init__" qual (defArgs st) (defBody st) (defScope st) .none (.ref D) doc pm an cdv ct) ⟨us, ks.zip ws⟩ = pure (ps.zip (us ++ ws)))
    (ha : DA G X (e :: es) wa) (hkw : DK G X kwl wk) (hks : (backToKw pos (keywordEach kwl X.env)).filterMap (·.1) = ks := by rfl) (hg : Gl X x := by rfl)
    (hall : (backToKw pos (keywordEach kwl X.env)).all (·.1.isSome) = true := by rfl) (hdb : (x == ("__debug__" : Str)) = false := by decide)
    (he : starEach (e :: es) X.env = (false, eval e X.env) :: starEach es X.env := by rfl) (hpl : ((backTo pos (starEach (e :: es) X.env)).any (·.1) || (backToKw pos (keywordEach kwl X.env)).any (·.1.isNone)) = false := by rfl) :
    DE G X (.Call (.Name x p) (e :: es) kwl pos) (wMakeK c n ks.length (fun ds es => ds ++ es) sp wa wk) := by
  obtain ⟨f, fd, mk, F, Fn⟩ := o
  obtain ⟨mv, hb⟩ := F.kbinds0 (ps := ps) (n + 1) ks [] (fun us mv ws => us ++ ws) hk (fun _ z => by cases z) (fun r1 _ r3 => r1.append r3) (fun D doc pm an cdv ct us mv ws l1 _ l3 => by
    have z := hch D doc pm an cdv ct us ws l1 l3
    exact z)
  exact de_makeK mk Fn hr hgd hm ⟨_, _, hb, fun F vs ds zs es r1 r2 => r1.app r2⟩ ha hkw hg hall hks hdb he hpl
end
end DL
namespace DL
open PySem PySem.Spec L2
open PyProof.Rows hiding St
section
variable {G : Cfg} {X : Cx} {e : Expr}
theorem de_weak {w w' : WE} (h : DE G X e w) (i : ∀ δ M Q EX, w' δ M Q EX → w δ M Q EX) : DE G X e w' := pe_imp h fun σ H P ⟨F, M, δ, Q, EX, hm, rs, h, tk, f⟩ => ⟨F, M, δ, Q, EX, hm, rs, i _ _ _ _ h, tk, f⟩
theorem de_cvalN {C : Addr} {x f : Str} {d : D} {p pos : Pos} (k : CK G X.K C f d) (hm : X.mg x = some (.ref C)) (hg : Gl X x := by rfl) (hd : (x == ("__debug__" : Str)) = false := by decide) (hb : attributeBase (.Name x p) f X.env (eval (.Name x p) X.env) = eval (.Name x p) X.env := by rfl) :
    DE G X (.Attribute (.Name x p) f pos) (wC d) := de_weak (de_cval k (de_cls hm (show RelV (.ref C) (.ref C) from rfl) hg hd) hb) fun δ M Q EX h => ⟨rfl, h⟩
def wIsi1 (tb : Ty → Option Bool) (we : WE) : WE := fun δ M Q EX => we δ M (kIsi tb Q) EX
theorem de_isi {we : WE} {cv : V} {u : Value} {tb : Ty → Option Bool} {c : Expr} {p pos : Pos} (k : ClsV cv u) (T : IsiT G X.K u tb) (hm : X.mg "isinstance" = none) (h : DE G X e we) (hc : DE G X c (wC (.raw cv))) (hg : Gl X "isinstance" := by rfl)
    (he : starEach (e :: [c]) X.env = (false, eval e X.env) :: starEach [c] X.env := by rfl) (he2 : starEach [c] X.env = (false, eval c X.env) :: starEach [] X.env := by rfl) (hpl : (backTo pos (starEach [c] X.env)).any (·.1) = false := by rfl) :
    DE G X (.Call (.Name "isinstance" p) [e, c] [] pos) (wIsi1 tb we) := by
  refine de_weak (de_callB (sim_isi k T) call_isi hm (by decide +kernel) (da_cons h (da_cons hc da_nil he2) he) hg (by decide) (by decide) he hpl) fun δ M Q EX h => ?_
  have z : (fun d M1 => cv = cv ∧ kIsi tb Q d M1) = kIsi tb Q := by
    funext d M1
    exact propext ⟨fun h => h.2, fun h => ⟨rfl, h⟩⟩
  show we δ M (fun d M1 => cv = cv ∧ kIsi tb Q d M1) EX
  rw [z]
  exact h
theorem tb_nil {α : Type} {P : α → Prop} : ∀ p ∈ ([] : List α), P p := fun _ h => nomatch h
theorem tb_cons {α : Type} {P : α → Prop} {a : α} {l : List α} (h : P a) (t : ∀ p ∈ l, P p) : ∀ p ∈ a :: l, P p := fun p hp => by
  rcases List.mem_cons.mp hp with e | hp
  · rw [e]; exact h
  · exact t p hp
end
end DL

set_option Elab.async false
set_option linter.all false
set_option maxRecDepth 100000
namespace DL
open PySem PySem.Spec L2
open PyProof.Rows hiding St
/-! ### repr and == of data: what must be shown of the data -/
structure Sho (p : PyData) : Prop where
  sh : p.showable = true
  nd : p.hasDict = false
  dp : p.depth ≤ 64
  le : p.shown.length ≤ sizeLine
/-- ==, != of texts and ints alone; of other data by their data -/
def wEq2 : WR2 := fun x y M Q => match x, y with
  | .str s, .str t => Q (.bl (decide (s = t))) M
  | .int i, .int j => Q (.bl (decide (i = j))) M
  | x, y => wEq x y M Q
def wNe2 : WR2 := fun x y M Q => match x, y with
  | .str s, .str t => Q (.bl (!decide (s = t))) M
  | .int i, .int j => Q (.bl (!decide (i = j))) M
  | x, y => wNe x y M Q
theorem dec_inj {α β : Type} [DecidableEq α] [DecidableEq β] {f : α → β} (hf : ∀ a b, f a = f b → a = b) {a b : α} : decide (f a = f b) = decide (a = b) := by
  by_cases h : a = b
  · subst h; simp
  · rw [decide_eq_false h, decide_eq_false fun z => h (hf _ _ z)]
theorem sim_eq2 {G : Cfg} {K : PySem.W.Frag} : Sim2 G K (orR rEq (rEqD K)) wEq2 := by
  intro F M H x y dx dy Q P hm rx ry hw f
  unfold wEq2 at hw
  split at hw
  · cases rx; cases ry
    refine .inl ⟨rfl, f _ _ F M H (.refl hm) (.bl _) ?_⟩
    rw [dec_inj (f := V.str) (fun a b z => by injection z)]
    exact hw
  · cases rx; cases ry
    refine .inl ⟨rfl, f _ _ F M H (.refl hm) (.bl _) ?_⟩
    rw [dec_inj (f := V.int) (fun a b z => by injection z)]
    exact hw
  · exact .inr (sim_eq F M H x y _ _ Q P hm rx ry hw f)
theorem sim_ne2 {G : Cfg} {K : PySem.W.Frag} : Sim2 G K (orR rNe (rNeD K)) wNe2 := by
  intro F M H x y dx dy Q P hm rx ry hw f
  unfold wNe2 at hw
  split at hw
  · cases rx; cases ry
    refine .inl ⟨rfl, f _ _ F M H (.refl hm) (.bl _) ?_⟩
    rw [dec_inj (f := V.str) (fun a b z => by injection z)]
    exact hw
  · cases rx; cases ry
    refine .inl ⟨rfl, f _ _ F M H (.refl hm) (.bl _) ?_⟩
    rw [dec_inj (f := V.int) (fun a b z => by injection z)]
    exact hw
  · exact .inr (sim_ne F M H x y _ _ Q P hm rx ry hw f)
theorem sho_none : Sho .none := ⟨by decide +kernel, by decide +kernel, by decide +kernel, by decide +kernel⟩
theorem int_lt {x : Int} (h : -(2 ^ 100) < x ∧ x < 2 ^ 100) : x.natAbs.log2 < 100 := by
  by_cases h0 : x.natAbs = 0
  · rw [h0]; decide
  · exact (Nat.log2_lt h0).mpr (by omega)
theorem shown_int_le {x : Int} (h : -(2 ^ 100) < x ∧ x < 2 ^ 100) : (PyData.shown (.int x)).length ≤ 101 := by
  have z := int_text_length_le (k := 100) (by decide) (int_lt h)
  simp only [PyData.shown]
  rw [PySem.ofString_length]
  exact z
theorem leavesAll_ints : ∀ {ns : List Int}, (∀ x ∈ ns, -(2 ^ 100) < x ∧ x < 2 ^ 100) → PyData.leavesShortAll 101 (ns.map .int) = true
  | [], _ => by simp only [List.map_nil, PyData.leavesShortAll]
  | n :: ns, h => by
    simp only [List.map_cons, PyData.leavesShortAll, PyData.leavesShort, Bool.and_eq_true, decide_eq_true_eq]
    exact ⟨shown_int_le (h n List.mem_cons_self), leavesAll_ints fun x hx => h x (List.mem_cons_of_mem _ hx)⟩
theorem bulkAll_ints : ∀ ns : List Int, PyData.bulkAll (ns.map .int) = ns.length
  | [] => by simp only [List.map_nil, PyData.bulkAll, List.length_nil]
  | n :: ns => by simp only [List.map_cons, PyData.bulkAll, PyData.bulk, bulkAll_ints ns, List.length_cons]; omega
theorem noDictAll_ints : ∀ ns : List Int, PyData.hasDictAll (ns.map .int) = false
  | [] => by simp only [List.map_nil, PyData.hasDictAll]
  | n :: ns => by simp only [List.map_cons, PyData.hasDictAll, PyData.hasDict, noDictAll_ints ns, Bool.or_self]
theorem sho_int {x : Int} (h : -(2 ^ 100) < x ∧ x < 2 ^ 100) : Sho (.int x) := ⟨by
  simp only [PyData.showable, decide_eq_true_eq]
  exact Nat.lt_trans (int_lt h) (by decide), by simp only [PyData.hasDict], by simp only [PyData.depth]; omega, by
  have := shown_int_le h
  rw [sizeLine_eq]; omega⟩
theorem sho_list {ns : List Int} (h : ∀ x ∈ ns, -(2 ^ 100) < x ∧ x < 2 ^ 100) (hl : ns.length ≤ 10000) : Sho (.list (ns.map .int)) := by
  refine ⟨?_, ?_, ?_, ?_⟩
  · simp only [PyData.showable]
    exact PyData.showableAll_ints ns fun x hx => Nat.lt_trans (int_lt (h x hx)) (by decide)
  · simp only [PyData.hasDict, noDictAll_ints]
  · simp only [PyData.depth, depth_ints]; omega
  · have z := PyData.shown_le_bulk 101 (by decide) (.list (ns.map .int)) (by simp only [PyData.leavesShort]; exact leavesAll_ints h)
    simp only [PyData.bulk, bulkAll_ints] at z
    rw [sizeLine_eq]; omega
theorem sho_tuple {ns : List Int} (h : ∀ x ∈ ns, -(2 ^ 100) < x ∧ x < 2 ^ 100) (hl : ns.length ≤ 10000) : Sho (.tuple (ns.map .int)) := by
  refine ⟨?_, ?_, ?_, ?_⟩
  · simp only [PyData.showable]
    exact PyData.showableAll_ints ns fun x hx => Nat.lt_trans (int_lt (h x hx)) (by decide)
  · simp only [PyData.hasDict, noDictAll_ints]
  · simp only [PyData.depth, depth_ints]; omega
  · have z := PyData.shown_le_bulk 101 (by decide) (.tuple (ns.map .int)) (by simp only [PyData.leavesShort]; exact leavesAll_ints h)
    simp only [PyData.bulk, bulkAll_ints] at z
    rw [sizeLine_eq]; omega
section
variable {M : MM} {Q : D → MM → Prop} {d x y : D} {p : PyData}
theorem at_repr (h : py M d = some p) (s : Sho p) (q : Q (.str p.shown) M) : wRepr [d] M Q := by
  unfold wRepr
  exact ⟨p, h, s.sh, s.nd, s.dp, s.le, q⟩
theorem py_str {s : Str} : py M (.str s) = some (.str s) := by unfold py; simp only [toPy]
theorem py_int {i : Int} : py M (.int i) = some (.int i) := by unfold py; simp only [toPy]
theorem py_non : py M .non = some .none := by unfold py; simp only [toPy]
theorem py_lst {ns : List Int} : py M (.lst (ns.map D.int)) = some (.list (ns.map .int)) := by unfold py; exact toPy_lst (toPys_ints ns)
theorem py_tup {ns : List Int} : py M (.tup (ns.map D.int)) = some (.tuple (ns.map .int)) := by unfold py; exact toPy_tup (toPys_ints ns)
theorem lints_mut {a : Addr} {ns : List Int} (h : M a = some (.lst (ns.map D.int))) : lintsOf M (.raw (.ref a)) = some ns := by
  unfold lintsOf; rw [lst_mut h]; exact intsOf_ints ns
theorem lints_lst {ns : List Int} : lintsOf M (.lst (ns.map D.int)) = some ns := intsOf_ints ns
theorem at_cat {xs ys : List D} (h1 : lstOf M x = some xs) (h2 : lstOf M y = some ys) (hl : xs.length + ys.length ≤ sizeLine) (q : Q (.lst (xs ++ ys)) M) : wCat x y M Q := by
  unfold wCat; rw [h1, h2]; exact ⟨hl, q⟩
theorem at_sort {ns : List Int} (h : lintsOf M d = some ns) (q : ∀ s : List Int, s.Perm ns → s.Pairwise (· ≤ ·) → Q (.lst (s.map D.int)) M) : wSorted [d] M Q := by
  unfold wSorted; dsimp only; rw [h]; exact q
theorem at_sortM {ns : List Int} (h : lintsOf M d = some ns) (q : ∀ s : List Int, s.Perm ns → s.Pairwise (· ≤ ·) → ∀ p, M p = none → Q (.raw (.ref p)) (updM M p (.lst (s.map D.int)))) : wSortedM [d] M Q := by
  unfold wSortedM; dsimp only; rw [h]; exact q
theorem at_max {ns : List Int} (h : lintsOf M d = some ns) (l : 0 < ns.length) (q : ∀ m, m ∈ ns → (∀ y, y ∈ ns → y ≤ m) → Q (.int m) M) : wMax [d] M Q := by
  unfold wMax; dsimp only; rw [h]; exact ⟨l, q⟩
theorem at_min {ns : List Int} (h : lintsOf M d = some ns) (l : 0 < ns.length) (q : ∀ m, m ∈ ns → (∀ y, y ∈ ns → m ≤ y) → Q (.int m) M) : wMin [d] M Q := by
  unfold wMin; dsimp only; rw [h]; exact ⟨l, q⟩
theorem at_tupOf {xs : List D} (h : seqOf M d = some xs) (q : Q (.tup xs) M) : wTupOf [d] M Q := by
  unfold wTupOf; dsimp only; rw [h]; exact q
theorem at_rev {xs : List D} (h : lstOf M d = some xs) (q : Q (.lst xs.reverse) M) : kRev Q d M := by
  unfold kRev; rw [h]; exact q
theorem at_pop {a : Addr} {xs : List D} (h : xs[xs.length - 1]? = some d) (q : Q d (updM M a (.lst xs.dropLast))) : wPop a xs [] M Q := by
  unfold wPop; dsimp only; rw [h]; exact q
theorem at_pop0 {a : Addr} {xs : List D} (h : xs[0]? = some d) (q : Q d (updM M a (.lst (xs.eraseIdx 0)))) : wPopAt a xs [.int 0] M Q := by
  have e : seqIndex? 0 xs.length = some 0 := by
    cases xs with
    | nil => cases h
    | cons y ys => simp [seqIndex?]
  unfold wPopAt; dsimp only
  refine ⟨⟨by decide, by decide⟩, ?_⟩
  rw [e]; dsimp only; rw [h]; exact q
theorem ins_mut {a : Addr} {c : Nat} {fs : List D} (h : M a = some (.ins c fs)) : insOf M (.raw (.ref a)) = some (c, fs) := by
  unfold insOf; dsimp only; rw [h]
theorem at_fld {cs : List (Nat × Nat)} {c i : Nat} {fs : List D} (h : insOf M d = some (c, fs)) (h2 : cs.lookup c = some i) (h3 : fs[i]? = some x) (q : Q x M) : kFld cs Q d M := by
  unfold kFld; rw [h]; dsimp only; rw [h2]; dsimp only; rw [h3]; exact q
theorem at_fldSet {cs : List (Nat × Nat)} {nx : MM → Prop} {v : D} {a : Addr} {c i : Nat} {fs : List D} (h : M a = some (.ins c fs)) (h2 : cs.lookup c = some i) (hi : i < fs.length) (q : nx (updM M a (.ins c (fs.set i v)))) : kFldPut cs nx v (.raw (.ref a)) M := by
  unfold kFldPut; dsimp only; rw [h]; dsimp only; rw [h2]; exact .inl ⟨hi, q⟩
theorem at_fldNew {cs : List (Nat × Nat)} {nx : MM → Prop} {v : D} {a : Addr} {c i : Nat} {fs : List D} (h : M a = some (.ins c fs)) (h2 : cs.lookup c = some i) (hi : i = fs.length) (q : nx (updM M a (.ins c (fs ++ [v])))) : kFldPut cs nx v (.raw (.ref a)) M := by
  unfold kFldPut; dsimp only; rw [h]; dsimp only; rw [h2]; exact .inr ⟨hi, q⟩
theorem drop_last {α : Type} : ∀ xs : List α, xs.dropLast = xs.eraseIdx (xs.length - 1)
  | [] => rfl
  | [_] => rfl
  | x :: y :: ys => by
    have z := drop_last (y :: ys)
    show x :: (y :: ys).dropLast = (x :: y :: ys).eraseIdx (ys.length + 1)
    rw [z]
    rfl
theorem map_erase : ∀ (xs : List Int) (i : Nat), (xs.map D.int).eraseIdx i = (xs.eraseIdx i).map D.int
  | [], _ => rfl
  | x :: xs, 0 => rfl
  | x :: xs, i + 1 => by
    show D.int x :: (xs.map D.int).eraseIdx i = D.int x :: (xs.eraseIdx i).map D.int
    rw [map_erase xs i]
end
theorem at_iterF' {Q : IT → MM → Prop} {M : MM} {ds : List D} (q : Q { items := ds } M) : kiS Q (.lst ds) M := by
  unfold kiS; exact q
/-! ### what stays of the changing part -/
/-- M' keeps what was there, but for S, which is there still -/
def Kp (S : List Addr) (M M' : MM) : Prop := ∀ b, M b ≠ none → M' b ≠ none ∧ (b ∉ S → M' b = M b)
theorem Kp.refl {S : List Addr} {M : MM} : Kp S M M := fun _ h => ⟨h, fun _ => rfl⟩
theorem Kp.trans {S : List Addr} {M M1 M2 : MM} (a : Kp S M M1) (b : Kp S M1 M2) : Kp S M M2 := fun c h1 =>
  ⟨(b c (a c h1).1).1, fun h2 => ((b c (a c h1).1).2 h2).trans ((a c h1).2 h2)⟩
theorem Kp.mono {S T : List Addr} {M M' : MM} (a : Kp S M M') (h : ∀ b ∈ S, b ∈ T) : Kp T M M' := fun c h1 => ⟨(a c h1).1, fun h2 => (a c h1).2 fun z => h2 (h c z)⟩
theorem updM_some {M : MM} {p b : Addr} {o : MO} (h : M b ≠ none) : updM M p o b ≠ none := by
  by_cases e : b = p
  · rw [e, updM_same]; simp
  · rw [updM_ne e]; exact h
theorem kp_upd {S : List Addr} {M : MM} {p : Addr} {o : MO} (h : p ∈ S) : Kp S M (updM M p o) := fun b hb => ⟨updM_some hb, fun nb => updM_ne fun z => nb (z ▸ h)⟩
theorem kp_new {S : List Addr} {M : MM} {p : Addr} {o : MO} (h : M p = none) : Kp S M (updM M p o) := fun b hb => ⟨updM_some hb, fun _ => updM_ne fun z => hb (z ▸ h)⟩
theorem Kp.drop {S : List Addr} {M M1 M2 : MM} {q : Addr} (hq : M q = none) (a : Kp S M M1) (b : Kp (q :: S) M1 M2) : Kp S M M2 := fun c h1 => by
  have nq : c ≠ q := fun z => h1 (z ▸ hq)
  exact ⟨(b c (a c h1).1).1, fun h2 => ((b c (a c h1).1).2 (by simp [nq, h2])).trans ((a c h1).2 h2)⟩
theorem Kp.some {S : List Addr} {M M' : MM} {b : Addr} {o : MO} (a : Kp S M M') (h : M b = some o) (n : b ∉ S) : M' b = some o := by rw [(a b (by rw [h]; simp)).2 n]; exact h
theorem Kp.none {S : List Addr} {M M' : MM} {b : Addr} (a : Kp S M M') (h : M' b = none) : M b = none := by
  cases e : M b with
  | none => rfl
  | some o => exact absurd h (a b (by rw [e]; simp)).1
end DL

set_option Elab.async false
set_option linter.all false
set_option maxRecDepth 100000
set_option maxHeartbeats 4000000
namespace My
open PySem PySem.Spec L2 DL
open PyProof.Rows hiding St
def tp (i : Nat) : Stmt := PySem.Challenge.pw_handsweeps_k04_whole_hands_by_own_hand.main.body.getD i (.Pass ⟨0, 0, 0, 0⟩)
def cb : Stmt → Nat → Stmt
  | .ClassDef _ _ _ body .., j => body.getD j (.Pass ⟨0, 0, 0, 0⟩)
  | _, _ => .Pass ⟨0, 0, 0, 0⟩
theorem hu64 {A : Around} {k : Nat} (hr : Room k A) : A.units + 64 < cLine := by have := hr.un; omega
theorem hu66 {A : Around} {k : Nat} (hr : Room k A) : A.units + 66 < cLine := by have := hr.un; omega
theorem hu1 {A : Around} {k : Nat} (hr : Room k A) : A.units + 1 < cLine := by have := hr.un; omega
theorem plusR {X : Cx} : OpR X (binaryOp .Add) (orR (rI0 fun i j => .int (i + j)) (orR (fun x y H Q => ∃ a b, x = .str a ∧ y = .str b ∧ a.length + b.length ≤ sizeLine ∧ Q (.str (a ++ b)) H) (orR (rCatA X.K) rCat))) := op_or op_add (op_or op_add_str (op_or op_catA op_cat))
theorem timesR {X : Cx} : OpR X (binaryOp .Mult) (orR (orR (rI CMul fun i j => .int (i * j)) (rI CMulW fun i j => .int (i * j))) (orR (rRepT X.K) rRep)) := op_or (op_or op_mul op_mulW) (op_or op_repT op_rep)
structure Bu (K : PySem.W.Frag) (mg : Str → Option Value) (G : Cfg) : Prop where
  b_bool : mg "bool" = none
  b_enumerate : mg "enumerate" = none
  b_int : mg "int" = none
  b_isinstance : mg "isinstance" = none
  b_len : mg "len" = none
  b_list : mg "list" = none
  b_max : mg "max" = none
  b_min : mg "min" = none
  b_range : mg "range" = none
  b_repr : mg "repr" = none
  b_sorted : mg "sorted" = none
  b_tuple : mg "tuple" = none
  k_Hand : mg "Hand" = some (.ref (G.cl 2))
  cls_Hand : Cls K (G.cl 2)
  nm_Hand : G.nm 2 = (["_size", "_small", "_held"] : List Str)
  fa_Hand__size : FldAt G K 2 0 "_size"
  fa_Hand__small : FldAt G K 2 1 "_small"
  fa_Hand__held : FldAt G K 2 2 "_held"
  ck_Hand_MOST : CK G K (G.cl 2) "MOST" (.int 20)
section
variable {P : Program} {w : World} {K : PySem.W.Frag} {mg : Str → Option Value} {base : Heap} {G : Cfg}
abbrev Nis_integer : List Str := ["value"]
theorem scis_integer : FnScope ["value"] ["value"] (defScope (tp 1)) := ⟨rfl, rfl, rfl, by decide +kernel, rfl, by decide +kernel, by decide +kernel⟩
def wis_integer : WS := (wRet (wAndV (wIsi1 (tbB .int fun _ => none) (wV 0)) (wNotV (wIsi1 (tbB .bl fun _ => none) (wV 0)))))
def sis_integer : SpD := spOf 1 1 wis_integer
theorem gois_integer (T : Bu K mg G) {f : Addr} (g : Gd K mg "is_integer" (tp 1) f ["value"]) : OkG P w K mg base false 1 "is_integer" ["value"] (lift G K sis_integer) := by
  refine okG g scis_integer fun cdv A out s H E hr hgd => ?_
  exact (dss_one (ds_ret (de_and (de_isi (.ty "int") (isi_b .int (fun _ z => Ty.noConfusion z)) T.b_isinstance (de_v 0) (de_ty T.b_int (by decide +kernel))) (de_one (de_not (de_isi (.ty "bool") (isi_b .bl (fun _ z => Ty.noConfusion z)) T.b_isinstance (de_v 0) (de_ty T.b_bool (by decide +kernel))))))))
abbrev Nis_integer_within : List Str := ["value", "low", "high"]
theorem scis_integer_within : FnScope ["value", "low", "high"] ["value", "low", "high"] (defScope (tp 2)) := ⟨rfl, rfl, rfl, by decide +kernel, rfl, by decide +kernel, by decide +kernel⟩
def wis_integer_within : WS := (wRet (wAndV (wCall sis_integer [] (wCons (wV 0) wNil)) (wChain wLe wLe (wV 1) (wV 0) (wV 2))))
def sis_integer_within : SpD := spOf 3 3 wis_integer_within
theorem gois_integer_within (T : Bu K mg G) {f : Addr} (g : Gd K mg "is_integer_within" (tp 2) f ["value", "low", "high"]) (okis_integer : OkG P w K mg base false 1 "is_integer" ["value"] (lift G K sis_integer)) : OkG P w K mg base false 2 "is_integer_within" ["value", "low", "high"] (lift G K sis_integer_within) := by
  refine okG g scis_integer_within fun cdv A out s H E hr hgd => ?_
  exact (dss_one (ds_ret (de_and (de_f okis_integer (hr.mono (by decide)) nog (da_cons (de_v 0) da_nil)) (de_one (de_chain op_le (sim_I0 bl_rep) op_le (sim_I0 bl_rep) (de_v 1) (de_v 0) (de_v 2))))))
abbrev N_law_mixed : List Str := ["_law_cell", "_law_n", "_law_turned"]
theorem sc_law_mixed : FnScope ["_law_cell", "_law_n", "_law_turned"] ["_law_cell", "_law_n"] (defScope (tp 9)) := ⟨rfl, rfl, rfl, by decide +kernel, rfl, by decide +kernel, by decide +kernel⟩
def w_law_mixed : WS := (wSeq (wSet 2 (wOp wPlus (wOp wPlus (wOp wMod (wB wInt1 (wCons (wOp wTimes (wOp wTimes (wV 0) (wOp wPlus (wC (.int 1)) (wOp wTimes (wC (.int 2)) (wV 1)))) (wC (.int 48271))) wNil)) (wC (.int 2147483647))) (wOp wTimes (wOp wTimes (wC (.int 7919)) (wV 1)) (wV 1))) (wOp wTimes (wC (.int 104729)) (wV 1))))
  (wRet (wOp wDiv (wOp wMod (wB wInt1 (wCons (wOp wTimes (wV 2) (wC (.int 69621))) wNil)) (wC (.int 2147483629))) (wC (.int 7)))))
def s_law_mixed : SpD := spOf 2 3 w_law_mixed
theorem go_law_mixed (T : Bu K mg G) {f : Addr} (g : Gd K mg "_law_mixed" (tp 9) f ["_law_cell", "_law_n"]) : OkG P w K mg base false 1 "_law_mixed" ["_law_cell", "_law_n"] (lift G K s_law_mixed) := by
  refine okG g sc_law_mixed fun cdv A out s H E hr hgd => ?_
  exact (dss_cons (ds_set 2 sc_law_mixed.nd (de_op plusR sim_plus (de_op plusR sim_plus (de_op op_mod (sim_I int_rep) (de_callT sim_int1 call_int1 T.b_int (by decide +kernel) (da_cons (de_op timesR sim_times (de_op timesR sim_times (de_v 0) (de_op plusR sim_plus de_int (de_op timesR sim_times de_int (de_v 1)))) de_int) da_nil)) de_int) (de_op timesR sim_times (de_op timesR sim_times de_int (de_v 1)) (de_v 1))) (de_op timesR sim_times de_int (de_v 1))))
  (dss_one (ds_ret (de_op op_fdiv (sim_I int_rep) (de_op op_mod (sim_I int_rep) (de_callT sim_int1 call_int1 T.b_int (by decide +kernel) (da_cons (de_op timesR sim_times (de_v 2) de_int) da_nil)) de_int) de_int))))
abbrev N_law_folded : List Str := ["_law_script", "_law_found", "_law_n", "_law_cell", "_law_at"]
theorem sc_law_folded : FnScope ["_law_script", "_law_found", "_law_n", "_law_cell", "_law_at"] ["_law_script"] (defScope (tp 10)) := ⟨rfl, rfl, rfl, by decide +kernel, rfl, by decide +kernel, by decide +kernel⟩
def w_law_folded : WS := (wSeq (wSet 1 (wLcM (wiR1 (wCons (wC (.int 64)) wNil)) (bNm 2) wYes (wOp wPlus (wC (.int 17)) (wV 2)) [2]))
  (wSeq (wFor (wiE (wCons (wV 0) wNil)) (bTup [2, 3]) (wSeq (wSet 4 (wOp wMod (wB wInt1 (wCons (wV 2) wNil)) (wC (.int 64))))
  (wPutL (wOp wMod (wB wInt1 (wCons (wOp wPlus (wOp wTimes (wOp wIx (wV 1) (wV 4)) (wC (.int 48271))) (wV 3)) wNil)) (wC (.int 2147483647))) (wV 1) (wV 4))))
  (wSeq (wFor (wiR2 (wCons (wC (.int 1)) (wCons (wC (.int 64)) wNil))) (bNm 2) (wPutL (wOp wMod (wB wInt1 (wCons (wOp wPlus (wOp wIx (wV 1) (wV 2)) (wOp wTimes (wOp wIx (wV 1) (wOp wSub (wV 2) (wC (.int 1)))) (wC (.int 16807)))) wNil)) (wC (.int 2147483647))) (wV 1) (wV 2)))
  (wRet (wFrz (wV 1))))))
def s_law_folded : SpD := spOf 1 5 w_law_folded
theorem go_law_folded (T : Bu K mg G) {f : Addr} (g : Gd K mg "_law_folded" (tp 10) f ["_law_script"]) : OkG P w K mg base false 1 "_law_folded" ["_law_script"] (lift G K s_law_folded) := by
  refine okG g sc_law_folded fun cdv A out s H E hr hgd => ?_
  exact (dss_cons (ds_setLcM 1 [("_law_n", 2)] rfl sc_law_folded.nd (blkOk_by (N := N_law_folded) (sc := defScope (tp 10)) (by decide +kernel)) (di_range1 T.b_range (da_cons de_int da_nil)) (simGw_nm (by decide)) (fun _ _ _ _ _ => (pg_name (i := 2) sc_law_folded.nd rfl (by first | exact Or.inl rfl | exact Or.inr rfl))) (fun _ _ _ _ _ => dpts_nil) (fun _ _ _ _ _ => (de_op plusR sim_plus de_int (de_v 2))) (sw_true rfl rfl rfl (by decide +kernel)))
  (dss_cons (ds_for (passes_of rfl) rfl (di_enum T.b_enumerate (da_cons (de_v 0) da_nil)) (pg_tup rfl (pgs_cons (pg_name (i := 2) sc_law_folded.nd rfl (by first | exact Or.inl rfl | exact Or.inr rfl)) (pgs_cons (pg_name (i := 3) sc_law_folded.nd rfl (by first | exact Or.inl rfl | exact Or.inr rfl)) pgs_nil))) (simG_tup [2, 3]) (dss_cons (ds_set 4 sc_law_folded.nd (de_op op_mod (sim_I int_rep) (de_callT sim_int1 call_int1 T.b_int (by decide +kernel) (da_cons (de_v 2) da_nil)) de_int))
  (dss_one (ds_putL (de_op op_mod (sim_I int_rep) (de_callT sim_int1 call_int1 T.b_int (by decide +kernel) (da_cons (de_op plusR sim_plus (de_op timesR sim_times (de_ix (ix_or ix_list ix_tup) sim_ix (de_v 1) (de_v 4) (fun _ _ => rfl)) de_int) (de_v 3)) da_nil)) de_int) (de_v 1) (de_v 4)))))
  (dss_cons (ds_for (passes_of rfl) rfl (di_range2 T.b_range (da_cons de_int (da_cons de_int da_nil))) (pg_name (i := 2) sc_law_folded.nd rfl (by first | exact Or.inl rfl | exact Or.inr rfl)) (simG_nm 2) (dss_one (ds_putL (de_op op_mod (sim_I int_rep) (de_callT sim_int1 call_int1 T.b_int (by decide +kernel) (da_cons (de_op plusR sim_plus (de_ix (ix_or ix_list ix_tup) sim_ix (de_v 1) (de_v 2) (fun _ _ => rfl)) (de_op timesR sim_times (de_ix (ix_or ix_list ix_tup) sim_ix (de_v 1) (de_op op_sub (sim_I0 int_rep) (de_v 2) de_int) (fun _ _ => rfl)) de_int)) da_nil)) de_int) (de_v 1) (de_v 2))))
  (dss_one (ds_ret (de_frz (de_v 1)))))))
abbrev N_law_draw : List Str := ["_law_m", "_law_top", "_law_n", "_law_cell", "_law_at"]
theorem sc_law_draw : FnScope ["_law_m", "_law_top", "_law_n", "_law_cell", "_law_at"] ["_law_m", "_law_top"] (defScope (tp 11)) := ⟨rfl, rfl, rfl, by decide +kernel, rfl, by decide +kernel, by decide +kernel⟩
def w_law_draw : WS := (wSeq (wSet 2 (wDGet (wV 0) (wC (.str "spot"))))
  (wSeq (wDPut (wOp wPlus (wV 2) (wC (.int 1))) (wV 0) (wC (.str "spot")))
  (wSeq (wIfS (wTst (wOp wNe2 (wDGet (wV 0) (wC (.str "great"))) (wLst wNil))) (wSeq (wSet 4 (wOp wMod (wB wInt1 (wCons (wV 2) wNil)) (wB wLen (wCons (wDGet (wV 0) (wC (.str "great"))) wNil))))
  (wSeq (wSet 3 (wOp wIx (wDGet (wV 0) (wC (.str "great"))) (wV 4)))
  (wIfS (wTst (wOp wGt (wV 3) (wC (.int 0)))) (wSeq (wPutL (wOp wDiv (wV 3) (wV 1)) (wDGet (wV 0) (wC (.str "great"))) (wV 4))
  (wRet (wOp wMod (wB wInt1 (wCons (wV 3) wNil)) (wV 1)))) wNext))) wNext)
  (wSeq (wSet 3 (wOp wIx (wDGet (wV 0) (wC (.str "cells"))) (wOp wMod (wB wInt1 (wCons (wV 2) wNil)) (wC (.int 64)))))
  (wRet (wOp wMod (wB wInt1 (wCons (wCall s_law_mixed [] (wCons (wCall s_law_mixed [] (wCons (wOp wPlus (wV 3) (wOp wTimes (wC (.int 31)) (wOp wDiv (wV 2) (wC (.int 64))))) (wCons (wV 2) wNil))) (wCons (wOp wPlus (wV 2) (wC (.int 7))) wNil))) wNil)) (wV 1)))))))
def s_law_draw : SpD := spOf 2 5 w_law_draw
theorem go_law_draw (T : Bu K mg G) {f : Addr} (g : Gd K mg "_law_draw" (tp 11) f ["_law_m", "_law_top"]) (ok_law_mixed : OkG P w K mg base false 1 "_law_mixed" ["_law_cell", "_law_n"] (lift G K s_law_mixed)) : OkG P w K mg base false 2 "_law_draw" ["_law_m", "_law_top"] (lift G K s_law_draw) := by
  refine okG g sc_law_draw fun cdv A out s H E hr hgd => ?_
  exact (dss_cons (ds_set 2 sc_law_draw.nd (de_dget (hu1 hr) (de_v 0) de_str (fun _ _ => rfl)))
  (dss_cons (ds_dput (hu1 hr) (de_op plusR sim_plus (de_v 2) de_int) (de_v 0) de_str)
  (dss_cons (ds_if (dt_cmp (op_or op_ne (op_neD (hu64 hr))) sim_ne2 (de_dget (hu1 hr) (de_v 0) de_str (fun _ _ => rfl)) (de_lst da_nil) (nomark _)) (dss_cons (ds_set 4 sc_law_draw.nd (de_op op_mod (sim_I int_rep) (de_callT sim_int1 call_int1 T.b_int (by decide +kernel) (da_cons (de_v 2) da_nil)) (de_callB sim_len call_len_seq T.b_len (by decide +kernel) (da_cons (de_dget (hu1 hr) (de_v 0) de_str (fun _ _ => rfl)) da_nil))))
  (dss_cons (ds_set 3 sc_law_draw.nd (de_ix (ix_or ix_list ix_tup) sim_ix (de_dget (hu1 hr) (de_v 0) de_str (fun _ _ => rfl)) (de_v 4) (fun _ _ => rfl)))
  (dss_one (ds_if (dt_cmp op_gt (sim_I0 bl_rep) (de_v 3) de_int (nomark _)) (dss_cons (ds_putL (de_op op_fdiv (sim_I int_rep) (de_v 3) (de_v 1)) (de_dget (hu1 hr) (de_v 0) de_str (fun _ _ => rfl)) (de_v 4))
  (dss_one (ds_ret (de_op op_mod (sim_I int_rep) (de_callT sim_int1 call_int1 T.b_int (by decide +kernel) (da_cons (de_v 3) da_nil)) (de_v 1))))) dss_nil)))) dss_nil)
  (dss_cons (ds_set 3 sc_law_draw.nd (de_ix (ix_or ix_list ix_tup) sim_ix (de_dget (hu1 hr) (de_v 0) de_str (fun _ _ => rfl)) (de_op op_mod (sim_I int_rep) (de_callT sim_int1 call_int1 T.b_int (by decide +kernel) (da_cons (de_v 2) da_nil)) de_int) (fun _ _ => rfl)))
  (dss_one (ds_ret (de_op op_mod (sim_I int_rep) (de_callT sim_int1 call_int1 T.b_int (by decide +kernel) (da_cons (de_f ok_law_mixed (hr.mono (by decide)) nog (da_cons (de_f ok_law_mixed (hr.mono (by decide)) nog (da_cons (de_op plusR sim_plus (de_v 3) (de_op timesR sim_times de_int (de_op op_fdiv (sim_I int_rep) (de_v 2) de_int))) (da_cons (de_v 2) da_nil))) (da_cons (de_op plusR sim_plus (de_v 2) de_int) da_nil))) da_nil)) (de_v 1))))))))
abbrev N_law_begun : List Str := ["_law_script", "_law_m", "_law_cell"]
theorem sc_law_begun : FnScope ["_law_script", "_law_m", "_law_cell"] ["_law_script"] (defScope (tp 12)) := ⟨rfl, rfl, rfl, by decide +kernel, rfl, by decide +kernel, by decide +kernel⟩
def w_law_begun : WS := (wSeq (wSet 1 (wDctM [.inr "cells", .inr "great", .inr "spot"] (wCons (wCall s_law_folded [] (wCons (wV 0) wNil)) (wCons (wLstM wNil) (wCons (wC (.int 0)) wNil)))))
  (wSeq (wDPut (wLcM (wiS (wV 0)) (bNm 2) wYes (wIf (wTst (wOp wGe (wV 2) (wOp wPow (wC (.int 10)) (wC (.int 18))))) (wV 2) (wC (.int 0))) [2]) (wV 1) (wC (.str "great")))
  (wRet (wV 1))))
def s_law_begun : SpD := spOf 1 3 w_law_begun
theorem go_law_begun (T : Bu K mg G) {f : Addr} (g : Gd K mg "_law_begun" (tp 12) f ["_law_script"]) (ok_law_folded : OkG P w K mg base false 1 "_law_folded" ["_law_script"] (lift G K s_law_folded)) : OkG P w K mg base false 2 "_law_begun" ["_law_script"] (lift G K s_law_begun) := by
  refine okG g sc_law_begun fun cdv A out s H E hr hgd => ?_
  exact (dss_cons (ds_set 1 sc_law_begun.nd (de_dctM (dp_cons pe_str (de_f ok_law_folded (hr.mono (by decide)) nog (da_cons (de_v 0) da_nil)) (dp_cons pe_str (de_lstM da_nil) (dp_cons pe_str de_int dp_nil)))))
  (dss_cons (ds_dput (hu1 hr) (de_lcM [("_law_cell", 2)] rfl sc_law_begun.nd (blkOk_by (N := N_law_begun) (sc := defScope (tp 12)) (by decide +kernel)) (di_seq (de_v 0)) (simGw_nm (by decide)) (fun _ _ _ _ _ => (pg_name (i := 2) sc_law_begun.nd rfl (by first | exact Or.inl rfl | exact Or.inr rfl))) (fun _ _ _ _ _ => dpts_nil) (fun _ _ _ _ _ => (de_if (dt_cmp op_ge (sim_I0 bl_rep) (de_v 2) (de_op op_pow (sim_I int_rep) de_int de_int) (nomark _)) (de_v 2) de_int))) (de_v 1) de_str)
  (dss_one (ds_ret (de_v 1)))))
abbrev N_law_some : List Str := ["_law_m", "_law_way", "_law_many_so", "_law_step"]
theorem sc_law_some : FnScope ["_law_m", "_law_way", "_law_many_so", "_law_step"] ["_law_m"] (defScope (tp 13)) := ⟨rfl, rfl, rfl, by decide +kernel, rfl, by decide +kernel, by decide +kernel⟩
def w_law_some : WS := (wSeq (wPar 1 2 (wCons (wCall s_law_draw [] (wCons (wV 0) (wCons (wC (.int 4)) wNil))) (wCons (wCall s_law_draw [] (wCons (wV 0) (wCons (wC (.int 31)) wNil))) wNil)))
  (wSeq (wIfS (wTst (wOp wEq2 (wV 1) (wC (.int 0)))) (wRet (wLc (wiR1 (wCons (wV 2) wNil)) (bNm 3) wYes (wCall s_law_draw [] (wCons (wV 0) (wCons (wC (.int 3)) wNil))) [3])) wNext)
  (wSeq (wIfS (wTst (wOp wEq2 (wV 1) (wC (.int 1)))) (wRet (wLc (wiR1 (wCons (wV 2) wNil)) (bNm 3) wYes (wOp wSub (wCall s_law_draw [] (wCons (wV 0) (wCons (wC (.int 1999)) wNil))) (wC (.int 999))) [3])) wNext)
  (wSeq (wIfS (wTst (wOp wEq2 (wV 1) (wC (.int 2)))) (wRet (wLc (wiR1 (wCons (wV 2) wNil)) (bNm 3) wYes (wOp wPlus (wV 3) (wCall s_law_draw [] (wCons (wV 0) (wCons (wC (.int 4)) wNil)))) [3])) wNext)
  (wRet (wLc (wiR1 (wCons (wV 2) wNil)) (bNm 3) wYes (wOp wSub (wOp wSub (wC (.int 0)) (wV 3)) (wCall s_law_draw [] (wCons (wV 0) (wCons (wC (.int 4)) wNil)))) [3]))))))
def s_law_some : SpD := spOf 1 4 w_law_some
theorem go_law_some (T : Bu K mg G) {f : Addr} (g : Gd K mg "_law_some" (tp 13) f ["_law_m"]) (ok_law_draw : OkG P w K mg base false 2 "_law_draw" ["_law_m", "_law_top"] (lift G K s_law_draw)) : OkG P w K mg base false 3 "_law_some" ["_law_m"] (lift G K s_law_some) := by
  refine okG g sc_law_some fun cdv A out s H E hr hgd => ?_
  exact (dss_cons (ds_par 1 2 sc_law_some.nd (da_cons (de_f ok_law_draw (hr.mono (by decide)) nog (da_cons (de_v 0) (da_cons de_int da_nil))) (da_cons (de_f ok_law_draw (hr.mono (by decide)) nog (da_cons (de_v 0) (da_cons de_int da_nil))) da_nil)))
  (dss_cons (ds_if (dt_cmp (op_or op_eq (op_eqD (hu64 hr))) sim_eq2 (de_v 1) de_int (nomark _)) (dss_one (ds_ret (de_lc [("_law_step", 3)] rfl sc_law_some.nd (blkOk_by (N := N_law_some) (sc := defScope (tp 13)) (by decide +kernel)) (di_range1 T.b_range (da_cons (de_v 2) da_nil)) (simGw_nm (by decide)) (fun _ _ _ _ _ => (pg_name (i := 3) sc_law_some.nd rfl (by first | exact Or.inl rfl | exact Or.inr rfl))) (fun _ _ _ _ _ => dpts_nil) (fun _ _ _ _ _ => (de_f ok_law_draw (hr.mono (by decide)) nog (da_cons (de_v 0) (da_cons de_int da_nil))))))) dss_nil)
  (dss_cons (ds_if (dt_cmp (op_or op_eq (op_eqD (hu64 hr))) sim_eq2 (de_v 1) de_int (nomark _)) (dss_one (ds_ret (de_lc [("_law_step", 3)] rfl sc_law_some.nd (blkOk_by (N := N_law_some) (sc := defScope (tp 13)) (by decide +kernel)) (di_range1 T.b_range (da_cons (de_v 2) da_nil)) (simGw_nm (by decide)) (fun _ _ _ _ _ => (pg_name (i := 3) sc_law_some.nd rfl (by first | exact Or.inl rfl | exact Or.inr rfl))) (fun _ _ _ _ _ => dpts_nil) (fun _ _ _ _ _ => (de_op op_sub (sim_I0 int_rep) (de_f ok_law_draw (hr.mono (by decide)) nog (da_cons (de_v 0) (da_cons de_int da_nil))) de_int))))) dss_nil)
  (dss_cons (ds_if (dt_cmp (op_or op_eq (op_eqD (hu64 hr))) sim_eq2 (de_v 1) de_int (nomark _)) (dss_one (ds_ret (de_lc [("_law_step", 3)] rfl sc_law_some.nd (blkOk_by (N := N_law_some) (sc := defScope (tp 13)) (by decide +kernel)) (di_range1 T.b_range (da_cons (de_v 2) da_nil)) (simGw_nm (by decide)) (fun _ _ _ _ _ => (pg_name (i := 3) sc_law_some.nd rfl (by first | exact Or.inl rfl | exact Or.inr rfl))) (fun _ _ _ _ _ => dpts_nil) (fun _ _ _ _ _ => (de_op plusR sim_plus (de_v 3) (de_f ok_law_draw (hr.mono (by decide)) nog (da_cons (de_v 0) (da_cons de_int da_nil)))))))) dss_nil)
  (dss_one (ds_ret (de_lc [("_law_step", 3)] rfl sc_law_some.nd (blkOk_by (N := N_law_some) (sc := defScope (tp 13)) (by decide +kernel)) (di_range1 T.b_range (da_cons (de_v 2) da_nil)) (simGw_nm (by decide)) (fun _ _ _ _ _ => (pg_name (i := 3) sc_law_some.nd rfl (by first | exact Or.inl rfl | exact Or.inr rfl))) (fun _ _ _ _ _ => dpts_nil) (fun _ _ _ _ _ => (de_op op_sub (sim_I0 int_rep) (de_op op_sub (sim_I0 int_rep) de_int (de_v 3)) (de_f ok_law_draw (hr.mono (by decide)) nog (da_cons (de_v 0) (da_cons de_int da_nil))))))))))))
abbrev N_law_taken : List Str := ["_law_kept", "_law_k", "_law_is_small", "_law_one", "_law_gone"]
theorem sc_law_taken : FnScope ["_law_kept", "_law_k", "_law_is_small", "_law_one", "_law_gone"] ["_law_kept", "_law_k", "_law_is_small", "_law_one"] (defScope (tp 14)) := ⟨rfl, rfl, rfl, by decide +kernel, rfl, by decide +kernel, by decide +kernel⟩
def w_law_taken : WS := (wSeq (wDrop (wM wAppend (wV 0) (wCons (wV 3) wNil)))
  (wSeq (wIfS (wTst (wOp wLe (wB wLen (wCons (wV 0) wNil)) (wV 1))) (wRet (wC .non)) wNext)
  (wSeq (wSet 4 (wIf (wTst (wV 2)) (wB wMax (wCons (wV 0) wNil)) (wB wMin (wCons (wV 0) wNil))))
  (wSeq (wDrop (wM wRemove (wV 0) (wCons (wV 4) wNil)))
  (wRet (wV 4))))))
def s_law_taken : SpD := spOf 4 5 w_law_taken
theorem go_law_taken (T : Bu K mg G) {f : Addr} (g : Gd K mg "_law_taken" (tp 14) f ["_law_kept", "_law_k", "_law_is_small", "_law_one"]) : OkG P w K mg base false 1 "_law_taken" ["_law_kept", "_law_k", "_law_is_small", "_law_one"] (lift G K s_law_taken) := by
  refine okG g sc_law_taken fun cdv A out s H E hr hgd => ?_
  exact (dss_cons (ds_expr (de_m sim_append PySem.F.plainAttrs_list PySem.F.slot_list_append PySem.F.type_list_append mt_append (de_v 0) (da_cons (de_v 3) da_nil)))
  (dss_cons (ds_if (dt_cmp op_le (sim_I0 bl_rep) (de_callB sim_len call_len_seq T.b_len (by decide +kernel) (da_cons (de_v 0) da_nil)) (de_v 1) (nomark _)) (dss_one (ds_ret de_non)) dss_nil)
  (dss_cons (ds_set 4 sc_law_taken.nd (de_if (dt_val (de_v 2)) (de_callB sim_max (cr_max rfl) T.b_max (by decide +kernel) (da_cons (de_v 0) da_nil)) (de_callB sim_min (cr_min rfl) T.b_min (by decide +kernel) (da_cons (de_v 0) da_nil))))
  (dss_cons (ds_expr (de_m sim_remove PySem.F.plainAttrs_list PySem.F.slot_list_remove PySem.F.type_list_remove mt_remove (de_v 0) (da_cons (de_v 4) da_nil)))
  (dss_one (ds_ret (de_v 4)))))))
abbrev NHand_init : List Str := ["self", "size", "small"]
theorem scHand_init : FnScope ["self", "size", "small"] ["self", "size", "small"] (defScope (cb (tp 7) 1)) := ⟨rfl, rfl, rfl, by decide +kernel, rfl, by decide +kernel, by decide +kernel⟩
def wHand_init : WS := (wSeq (wIfS (wNotT (wTst (wCall sis_integer_within [] (wCons (wV 1) (wCons (wC (.int 1)) (wCons (wC (.int 20)) wNil)))))) wNever wNext)
  (wSeq (wFldPut [(2, 0)] (wV 0) (wV 1))
  (wSeq (wFldPut [(2, 1)] (wV 0) (wV 2))
  (wFldPut [(2, 2)] (wV 0) (wLstM wNil)))))
def sHand_init : SpD := spOf 3 3 wHand_init
theorem goHand_init (T : Bu K mg G) (g : GInit K (G.cl 2) "Hand.__init__" (cb (tp 7) 1) [("small", .bl false)]) (okis_integer_within : OkG P w K mg base false 2 "is_integer_within" ["value", "low", "high"] (lift G K sis_integer_within)) : OkInit P w K mg base false 3 (G.cl 2) "Hand.__init__" (cb (tp 7) 1) [("small", .bl false)] ["self", "size", "small"] (lift G K sHand_init) := by
  refine okInit g scHand_init fun f cdv A out s H E hr hgd => ?_
  exact (dss_cons (ds_if (dt_not (dt_val (de_f okis_integer_within (hr.mono (by decide)) nog (da_cons (de_v 1) (da_cons de_int (da_cons (de_cvalN T.ck_Hand_MOST T.k_Hand) da_nil)))))) (dss_one ds_never) dss_nil)
  (dss_cons (ds_fld [(2, 0)] (tb_cons ⟨T.fa_Hand__size, by rw [T.nm_Hand]; decide⟩ tb_nil) (de_v 0) (de_v 1))
  (dss_cons (ds_fld [(2, 1)] (tb_cons ⟨T.fa_Hand__small, by rw [T.nm_Hand]; decide⟩ tb_nil) (de_v 0) (de_v 2))
  (dss_one (ds_fld [(2, 2)] (tb_cons ⟨T.fa_Hand__held, by rw [T.nm_Hand]; decide⟩ tb_nil) (de_v 0) (de_lstM da_nil))))))
abbrev NHand_held : List Str := ["self"]
theorem scHand_held : FnScope ["self"] ["self"] (defScope (cb (tp 7) 4)) := ⟨rfl, rfl, rfl, by decide +kernel, rfl, by decide +kernel, by decide +kernel⟩
def wHand_held : WS := (wRet (wB wTupOf (wCons (wFld [(2, 2)] (wV 0)) wNil)))
def sHand_held : SpD := spOf 1 1 wHand_held
theorem goHand_held (T : Bu K mg G) (g : GProp K (G.cl 2) "held" "Hand.held" (cb (tp 7) 4) ["self"]) : OkProp P w K mg base false 1 (G.cl 2) "held" ["self"] (lift G K sHand_held) := by
  refine okProp g scHand_held fun f cdv A out s H E hr hgd => ?_
  exact (dss_one (ds_ret (de_callT sim_tupOf call_tuple_of T.b_tuple (by decide +kernel) (da_cons (de_fld [(2, 2)] (tb_cons T.fa_Hand__held tb_nil) (de_v 0)) da_nil))))
abbrev NHand__put_down : List Str := ["self"]
theorem scHand__put_down : FnScope ["self"] ["self"] (defScope (cb (tp 7) 5)) := ⟨rfl, rfl, rfl, by decide +kernel, rfl, by decide +kernel, by decide +kernel⟩
def wHand__put_down : WS := (wSeq (wIfS (wTru (wFld [(2, 1)] (wV 0))) (wRet (wM wPop (wFld [(2, 2)] (wV 0)) wNil)) wNext)
  (wRet (wM wPopAt (wFld [(2, 2)] (wV 0)) (wCons (wC (.int 0)) wNil))))
def sHand__put_down : SpD := spOf 1 1 wHand__put_down
theorem goHand__put_down (T : Bu K mg G) (g : GMeth K (G.cl 2) "_put_down" "Hand._put_down" (cb (tp 7) 5) ["self"]) : OkMeth P w K mg base false 1 (G.cl 2) "_put_down" ["self"] (lift G K sHand__put_down) := by
  refine okMeth g scHand__put_down fun f cdv A out s H E hr hgd => ?_
  exact (dss_cons (ds_if (dt_tru (de_fld [(2, 1)] (tb_cons T.fa_Hand__small tb_nil) (de_v 0))) (dss_one (ds_ret (de_m0 sim_pop PySem.F.plainAttrs_list PySem.F.slot_list_pop PySem.F.type_list_pop mt_pop (de_fld [(2, 2)] (tb_cons T.fa_Hand__held tb_nil) (de_v 0))))) dss_nil)
  (dss_one (ds_ret (de_m sim_popAt PySem.F.plainAttrs_list PySem.F.slot_list_pop PySem.F.type_list_pop mt_popAt (de_fld [(2, 2)] (tb_cons T.fa_Hand__held tb_nil) (de_v 0)) (da_cons de_int da_nil)))))
abbrev NHand_call : List Str := ["self", "number"]
theorem scHand_call : FnScope ["self", "number"] ["self", "number"] (defScope (cb (tp 7) 2)) := ⟨rfl, rfl, rfl, by decide +kernel, rfl, by decide +kernel, by decide +kernel⟩
def wHand_call : WS := (wSeq (wFldPut [(2, 2)] (wV 0) (wB wSortedM (wCons (wOp wPlus (wFld [(2, 2)] (wV 0)) (wLst (wCons (wV 1) wNil))) wNil)))
  (wSeq (wIfS (wTst (wOp wLe (wB wLen (wCons (wFld [(2, 2)] (wV 0)) wNil)) (wFld [(2, 0)] (wV 0)))) (wRet (wC .non)) wNext)
  (wRet (wMeth [(2, sHand__put_down)] [] (wV 0) wNil))))
def sHand_call : SpD := spOf 2 2 wHand_call
theorem goHand_call (T : Bu K mg G) (g : GCall K (G.cl 2) "Hand.__call__" (cb (tp 7) 2) ["self", "number"]) (okHand__put_down : OkMeth P w K mg base false 1 (G.cl 2) "_put_down" ["self"] (lift G K sHand__put_down)) : OkCall P w K mg base false 2 (G.cl 2) ["self", "number"] (lift G K sHand_call) := by
  refine okCall g scHand_call fun f cdv A out s H E hr hgd => ?_
  exact (dss_cons (ds_fld [(2, 2)] (tb_cons ⟨T.fa_Hand__held, by rw [T.nm_Hand]; decide⟩ tb_nil) (de_v 0) (de_callB sim_sortedM cr_sortedI T.b_sorted (by decide +kernel) (da_cons (de_op plusR sim_plus (de_fld [(2, 2)] (tb_cons T.fa_Hand__held tb_nil) (de_v 0)) (de_lst (da_cons (de_v 1) da_nil))) da_nil)))
  (dss_cons (ds_if (dt_cmp op_le (sim_I0 bl_rep) (de_callB sim_len call_len_seq T.b_len (by decide +kernel) (da_cons (de_fld [(2, 2)] (tb_cons T.fa_Hand__held tb_nil) (de_v 0)) da_nil)) (de_fld [(2, 0)] (tb_cons T.fa_Hand__size tb_nil) (de_v 0)) (nomark _)) (dss_one (ds_ret de_non)) dss_nil)
  (dss_one (ds_ret (de_meth0 (dds := []) [(2, sHand__put_down)] (tb_cons (md_of okHand__put_down T.cls_Hand (by rw [T.nm_Hand]; decide) (hr.mono (by decide)) nog) tb_nil) (de_v 0))))))
abbrev NHand_rest : List Str := ["self"]
theorem scHand_rest : GScope ["self"] ["self"] (defScope (cb (tp 7) 3)) := ⟨rfl, rfl, rfl, by decide +kernel, rfl, by decide +kernel, by decide +kernel⟩
def wHand_rest : WG := (wgSeq (wgWhile (wTru (wFld [(2, 2)] (wV 0))) (wgSeq (wgYield (wMeth [(2, sHand__put_down)] [] (wV 0) wNil))
  wgNil))
  wgNil)
def sHand_rest : SpGD := spGOf 1 1 wHand_rest
theorem goHand_rest (T : Bu K mg G) (g : GMeth K (G.cl 2) "rest" "Hand.rest" (cb (tp 7) 3) ["self"]) (okHand__put_down : OkMeth P w K mg base false 1 (G.cl 2) "_put_down" ["self"] (lift G K sHand__put_down)) : OkMethG P w K mg base 2 (G.cl 2) "rest" ["self"] (liftG G K sHand_rest) := by
  refine okMethG g scHand_rest fun f cdv A out s H E pn hr => ?_
  exact (dg_cons (dg_while (passes_of rfl) (dt_tru (de_fld [(2, 2)] (tb_cons T.fa_Hand__held tb_nil) (de_v 0))) (dg_cons (dg_yield (de_meth0 (dds := []) [(2, sHand__put_down)] (tb_cons (md_of okHand__put_down T.cls_Hand (by rw [T.nm_Hand]; decide) (hr.mono (by decide)) nog) tb_nil) (de_v 0)))
  dg_nil))
  dg_nil)
abbrev N_law_given_right : List Str := ["_law_hand", "_law_kept", "_law_k", "_law_is_small", "_law_some_here", "_law_one", "_law_due"]
theorem sc_law_given_right : FnScope ["_law_hand", "_law_kept", "_law_k", "_law_is_small", "_law_some_here", "_law_one", "_law_due"] ["_law_hand", "_law_kept", "_law_k", "_law_is_small", "_law_some_here"] (defScope (tp 15)) := ⟨rfl, rfl, rfl, by decide +kernel, rfl, by decide +kernel, by decide +kernel⟩
def w_law_given_right : WS := (wSeq (wFor (wiS (wV 4)) (bNm 5) (wSeq (wSet 6 (wCall s_law_taken [] (wCons (wV 1) (wCons (wV 2) (wCons (wV 3) (wCons (wV 5) wNil))))))
  (wIfS (wOrT (wTst (wOp wNe2 (wB wRepr (wCons (wCallO [(2, sHand_call)] (wV 0) (wCons (wV 5) wNil)) wNil)) (wB wRepr (wCons (wV 6) wNil)))) (wTst (wOp wNe2 (wB wRepr (wCons (wProp [(2, sHand_held)] (wV 0)) wNil)) (wB wRepr (wCons (wB wTupOf (wCons (wB wSorted (wCons (wV 1) wNil)) wNil)) wNil))))) (wRet (wC (.bl false))) wNext)))
  (wRet (wC (.bl true))))
def s_law_given_right : SpD := spOf 5 7 w_law_given_right
theorem go_law_given_right (T : Bu K mg G) {f : Addr} (g : Gd K mg "_law_given_right" (tp 15) f ["_law_hand", "_law_kept", "_law_k", "_law_is_small", "_law_some_here"]) (okHand_call : OkCall P w K mg base false 2 (G.cl 2) ["self", "number"] (lift G K sHand_call)) (okHand_held : OkProp P w K mg base false 1 (G.cl 2) "held" ["self"] (lift G K sHand_held)) (ok_law_taken : OkG P w K mg base false 1 "_law_taken" ["_law_kept", "_law_k", "_law_is_small", "_law_one"] (lift G K s_law_taken)) : OkG P w K mg base true 3 "_law_given_right" ["_law_hand", "_law_kept", "_law_k", "_law_is_small", "_law_some_here"] (lift G K s_law_given_right) := by
  refine okG g sc_law_given_right fun cdv A out s H E hr hgd => ?_
  exact (dss_cons (ds_for (passes_of rfl) rfl (di_seq (de_v 4)) (pg_name (i := 5) sc_law_given_right.nd rfl (by first | exact Or.inl rfl | exact Or.inr rfl)) (simG_nm 5) (dss_cons (ds_set 6 sc_law_given_right.nd (de_f ok_law_taken (hr.mono (by decide)) nog (da_cons (de_v 1) (da_cons (de_v 2) (da_cons (de_v 3) (da_cons (de_v 5) da_nil))))))
  (dss_one (ds_if (dt_w (dw_or (dt_cmp (op_or op_ne (op_neD (hu64 hr))) sim_ne2 (de_callB sim_repr (call_reprD (hgd rfl) (hu66 hr)) T.b_repr (by decide +kernel) (da_cons (de_callO [(2, sHand_call)] (tb_cons (cd_of okHand_call (hr.mono (by decide)) nog) tb_nil) (de_v 0) (da_cons (de_v 5) da_nil)) da_nil)) (de_callB sim_repr (call_reprD (hgd rfl) (hu66 hr)) T.b_repr (by decide +kernel) (da_cons (de_v 6) da_nil)) (nomark _)) (dw_or1 (dt_cmp (op_or op_ne (op_neD (hu64 hr))) sim_ne2 (de_callB sim_repr (call_reprD (hgd rfl) (hu66 hr)) T.b_repr (by decide +kernel) (da_cons (de_prop [(2, sHand_held)] (tb_cons (pd_of okHand_held T.cls_Hand (hr.mono (by decide)) nog) tb_nil) (de_v 0)) da_nil)) (de_callB sim_repr (call_reprD (hgd rfl) (hu66 hr)) T.b_repr (by decide +kernel) (da_cons (de_callT sim_tupOf call_tuple_of T.b_tuple (by decide +kernel) (da_cons (de_callB sim_sorted cr_sortedI T.b_sorted (by decide +kernel) (da_cons (de_v 1) da_nil)) da_nil)) da_nil)) (nomark _))))) (dss_one (ds_ret de_bl)) dss_nil))))
  (dss_one (ds_ret de_bl)))
abbrev N_law_rest_right : List Str := ["_law_hand", "_law_kept", "_law_is_small", "_law_due"]
theorem sc_law_rest_right : FnScope ["_law_hand", "_law_kept", "_law_is_small", "_law_due"] ["_law_hand", "_law_kept", "_law_is_small"] (defScope (tp 16)) := ⟨rfl, rfl, rfl, by decide +kernel, rfl, by decide +kernel, by decide +kernel⟩
def w_law_rest_right : WS := (wSeq (wSet 3 (wIf (wTst (wV 2)) (wRev (wB wSorted (wCons (wV 1) wNil))) (wB wSorted (wCons (wV 1) wNil))))
  (wSeq (wIfS (wOrT (wTst (wOp wNe2 (wB wRepr (wCons (wListG 2 sHand_rest (wV 0)) wNil)) (wB wRepr (wCons (wV 3) wNil)))) (wTst (wOp wNe2 (wB wRepr (wCons (wProp [(2, sHand_held)] (wV 0)) wNil)) (wC (.str "()"))))) (wRet (wC (.bl false))) wNext)
  (wRet (wOp wEq2 (wListG 2 sHand_rest (wV 0)) (wLst wNil)))))
def s_law_rest_right : SpD := spOf 3 4 w_law_rest_right
theorem go_law_rest_right (T : Bu K mg G) {f : Addr} (g : Gd K mg "_law_rest_right" (tp 16) f ["_law_hand", "_law_kept", "_law_is_small"]) (okHand_held : OkProp P w K mg base false 1 (G.cl 2) "held" ["self"] (lift G K sHand_held)) (okHand_rest : OkMethG P w K mg base 2 (G.cl 2) "rest" ["self"] (liftG G K sHand_rest)) : OkG P w K mg base true 6 "_law_rest_right" ["_law_hand", "_law_kept", "_law_is_small"] (lift G K s_law_rest_right) := by
  refine okG g sc_law_rest_right fun cdv A out s H E hr hgd => ?_
  exact (dss_cons (ds_set 3 sc_law_rest_right.nd (de_if (dt_val (de_v 2)) (de_rev (de_callB sim_sorted cr_sortedI T.b_sorted (by decide +kernel) (da_cons (de_v 1) da_nil))) (de_callB sim_sorted cr_sortedI T.b_sorted (by decide +kernel) (da_cons (de_v 1) da_nil))))
  (dss_cons (ds_if (dt_w (dw_or (dt_cmp (op_or op_ne (op_neD (hu64 hr))) sim_ne2 (de_callB sim_repr (call_reprD (hgd rfl) (hu66 hr)) T.b_repr (by decide +kernel) (da_cons (de_listG (mg_of okHand_rest T.cls_Hand (by rw [T.nm_Hand]; decide) (hr.mono (by decide))) (de_v 0) T.b_list) da_nil)) (de_callB sim_repr (call_reprD (hgd rfl) (hu66 hr)) T.b_repr (by decide +kernel) (da_cons (de_v 3) da_nil)) (nomark _)) (dw_or1 (dt_cmp (op_or op_ne (op_neD (hu64 hr))) sim_ne2 (de_callB sim_repr (call_reprD (hgd rfl) (hu66 hr)) T.b_repr (by decide +kernel) (da_cons (de_prop [(2, sHand_held)] (tb_cons (pd_of okHand_held T.cls_Hand (hr.mono (by decide)) nog) tb_nil) (de_v 0)) da_nil)) de_str (nomark _))))) (dss_one (ds_ret de_bl)) dss_nil)
  (dss_one (ds_ret (de_cmp (op_or op_eq (op_eqD (hu64 hr))) sim_eq2 (de_listG (mg_of okHand_rest T.cls_Hand (by rw [T.nm_Hand]; decide) (hr.mono (by decide))) (de_v 0) T.b_list) (de_lst da_nil) (nomark _))))))
abbrev Nlaw : List Str := ["_law_script", "_law_m", "_law_turn", "_law_full", "_law_hand", "_law_again", "_law_wide", "_law_kept", "_law_k", "_law_is_small", "_law_beside", "_law_far", "_law_some_here"]
theorem sclaw : FnScope ["_law_script", "_law_m", "_law_turn", "_law_full", "_law_hand", "_law_again", "_law_wide", "_law_kept", "_law_k", "_law_is_small", "_law_beside", "_law_far", "_law_some_here"] ["_law_script"] (defScope (tp 17)) := ⟨rfl, rfl, rfl, by decide +kernel, rfl, by decide +kernel, by decide +kernel⟩
def wlaw : WS := (wSeq (wSet 1 (wCall s_law_begun [] (wCons (wV 0) wNil)))
  (wSeq (wFor (wiR1 (wCons (wC (.int 8)) wNil)) (bNm 2) (wSeq (wPar 8 9 (wCons (wOp wPlus (wC (.int 1)) (wCall s_law_draw [] (wCons (wV 1) (wCons (wOp wIx (wLst (wCons (wC (.int 3)) (wCons (wC (.int 6)) (wCons (wC (.int 20)) wNil)))) (wCall s_law_draw [] (wCons (wV 1) (wCons (wC (.int 3)) wNil)))) wNil)))) (wCons (wOp wEq2 (wCall s_law_draw [] (wCons (wV 1) (wCons (wC (.int 2)) wNil))) (wC (.int 1))) wNil)))
  (wSeq (wSet 4 (wIf (wTst (wV 9)) (wMakeK 2 1 1 (fun ds es => ds ++ es) sHand_init (wCons (wV 8) wNil) (wCons (wC (.bl true)) wNil)) (wMake 2 sHand_init [.bl false] (wCons (wV 8) wNil))))
  (wSeq (wPar 10 11 (wCons (wMakeK 2 1 1 (fun ds es => ds ++ es) sHand_init (wCons (wV 8) wNil) (wCons (wNotV (wV 9)) wNil)) (wCons (wLstM wNil) wNil)))
  (wFor (wiR1 (wCons (wC (.int 2)) wNil)) (bNm 5) (wSeq (wPar 7 12 (wCons (wLstM wNil) (wCons (wCall s_law_some [] (wCons (wV 1) wNil)) wNil)))
  (wSeq (wIfS (wNotT (wTst (wCall s_law_given_right [] (wCons (wV 4) (wCons (wV 7) (wCons (wV 8) (wCons (wV 9) (wCons (wCut (wV 12) woN (woS (wC (.int 10)))) wNil)))))))) (wRet (wC (.bl false))) wNext)
  (wSeq (wIfS (wNotT (wTst (wCall s_law_given_right [] (wCons (wV 10) (wCons (wV 11) (wCons (wV 8) (wCons (wNotV (wV 9)) (wCons (wCut (wV 12) woN (woS (wC (.int 3)))) wNil)))))))) (wRet (wC (.bl false))) wNext)
  (wSeq (wIfS (wNotT (wTst (wCall s_law_given_right [] (wCons (wV 4) (wCons (wV 7) (wCons (wV 8) (wCons (wV 9) (wCons (wCut (wV 12) (woS (wC (.int 10))) woN) wNil)))))))) (wRet (wC (.bl false))) wNext)
  (wIfS (wOrT (wNotT (wTst (wCall s_law_rest_right [] (wCons (wV 4) (wCons (wV 7) (wCons (wV 9) wNil)))))) (wTst (wOp wNe2 (wB wRepr (wCons (wProp [(2, sHand_held)] (wV 10)) wNil)) (wB wRepr (wCons (wB wTupOf (wCons (wB wSorted (wCons (wV 11) wNil)) wNil)) wNil))))) (wRet (wC (.bl false))) wNext))))))))))
  (wSeq (wPar 6 7 (wCons (wMakeK 2 1 1 (fun ds es => ds ++ es) sHand_init (wCons (wC (.int 2)) wNil) (wCons (wC (.bl true)) wNil)) (wCons (wLstM wNil) wNil)))
  (wSeq (wIfS (wNotT (wTst (wCall s_law_given_right [] (wCons (wV 6) (wCons (wV 7) (wCons (wC (.int 2)) (wCons (wC (.bl true)) (wCons (wLst (wCons (wOp wPlus (wOp wPow (wC (.int 10)) (wC (.int 29))) (wC (.int 7))) (wCons (wOp wSub (wC (.int 0)) (wOp wPow (wC (.int 10)) (wC (.int 29)))) (wCons (wOp wPlus (wOp wPow (wC (.int 10)) (wC (.int 29))) (wC (.int 8))) (wCons (wNeg (wC (.int 1000))) (wCons (wC (.int 1000)) (wCons (wOp wPow (wC (.int 10)) (wC (.int 29))) wNil))))))) wNil)))))))) (wRet (wC (.bl false))) wNext)
  (wSeq (wSet 3 (wMake 2 sHand_init [.bl false] (wCons (wC (.int 20)) wNil)))
  (wRet (wAndV (wCall s_law_given_right [] (wCons (wV 3) (wCons (wLstM wNil) (wCons (wC (.int 20)) (wCons (wC (.bl false)) (wCons (wLRg (wCons (wC (.int 25)) wNil)) wNil)))))) (wOp wEq2 (wListG 2 sHand_rest (wV 3)) (wLRg (wCons (wC (.int 5)) (wCons (wC (.int 25)) wNil)))))))))))
def slaw : SpD := spOf 1 13 wlaw
theorem golaw (T : Bu K mg G) {f : Addr} (g : Gd K mg "law" (tp 17) f ["_law_script"]) (okHand_held : OkProp P w K mg base false 1 (G.cl 2) "held" ["self"] (lift G K sHand_held)) (okHand_init : OkInit P w K mg base false 3 (G.cl 2) "Hand.__init__" (cb (tp 7) 1) [("small", .bl false)] ["self", "size", "small"] (lift G K sHand_init)) (okHand_rest : OkMethG P w K mg base 2 (G.cl 2) "rest" ["self"] (liftG G K sHand_rest)) (ok_law_begun : OkG P w K mg base false 2 "_law_begun" ["_law_script"] (lift G K s_law_begun)) (ok_law_draw : OkG P w K mg base false 2 "_law_draw" ["_law_m", "_law_top"] (lift G K s_law_draw)) (ok_law_given_right : OkG P w K mg base true 3 "_law_given_right" ["_law_hand", "_law_kept", "_law_k", "_law_is_small", "_law_some_here"] (lift G K s_law_given_right)) (ok_law_rest_right : OkG P w K mg base true 6 "_law_rest_right" ["_law_hand", "_law_kept", "_law_is_small"] (lift G K s_law_rest_right)) (ok_law_some : OkG P w K mg base false 3 "_law_some" ["_law_m"] (lift G K s_law_some)) : OkG P w K mg base true 7 "law" ["_law_script"] (lift G K slaw) := by
  refine okG g sclaw fun cdv A out s H E hr hgd => ?_
  exact (dss_cons (ds_set 1 sclaw.nd (de_f ok_law_begun (hr.mono (by decide)) nog (da_cons (de_v 0) da_nil)))
  (dss_cons (ds_for (passes_of rfl) rfl (di_range1 T.b_range (da_cons de_int da_nil)) (pg_name (i := 2) sclaw.nd rfl (by first | exact Or.inl rfl | exact Or.inr rfl)) (simG_nm 2) (dss_cons (ds_par 8 9 sclaw.nd (da_cons (de_op plusR sim_plus de_int (de_f ok_law_draw (hr.mono (by decide)) nog (da_cons (de_v 1) (da_cons (de_ix (ix_or ix_list ix_tup) sim_ix (de_lst (da_cons de_int (da_cons de_int (da_cons de_int da_nil)))) (de_f ok_law_draw (hr.mono (by decide)) nog (da_cons (de_v 1) (da_cons de_int da_nil))) (fun _ _ => rfl)) da_nil)))) (da_cons (de_cmp (op_or op_eq (op_eqD (hu64 hr))) sim_eq2 (de_f ok_law_draw (hr.mono (by decide)) nog (da_cons (de_v 1) (da_cons de_int da_nil))) de_int (nomark _)) da_nil)))
  (dss_cons (ds_set 4 sclaw.nd (de_if (dt_val (de_v 9)) (de_newK (ks := ["small"]) okHand_init (hr.mono (by decide)) nog T.k_Hand 1 (by decide) (fun _ _ _ _ _ _ us ws l1 l2 => match us, ws, l1, l2 with | [_, _], [_], _, _ => rfl) (da_cons (de_v 8) da_nil) (dk_cons de_bl dk_nil)) (de_newD okHand_init (hr.mono (by decide)) nog T.k_Hand 2 (by decide) rfl (fun _ => (.cons (.bl false) .nil)) (fun _ _ _ _ _ _ us ks l1 l2 => match us, ks, l1, l2 with | [_, _], [_], _, _ => ⟨_, _, _, _, _, _, rfl, rfl, rfl⟩) (da_cons (de_v 8) da_nil))))
  (dss_cons (ds_par 10 11 sclaw.nd (da_cons (de_newK (ks := ["small"]) okHand_init (hr.mono (by decide)) nog T.k_Hand 1 (by decide) (fun _ _ _ _ _ _ us ws l1 l2 => match us, ws, l1, l2 with | [_, _], [_], _, _ => rfl) (da_cons (de_v 8) da_nil) (dk_cons (de_not (de_v 9)) dk_nil)) (da_cons (de_lstM da_nil) da_nil)))
  (dss_one (ds_for (passes_of rfl) rfl (di_range1 T.b_range (da_cons de_int da_nil)) (pg_name (i := 5) sclaw.nd rfl (by first | exact Or.inl rfl | exact Or.inr rfl)) (simG_nm 5) (dss_cons (ds_par 7 12 sclaw.nd (da_cons (de_lstM da_nil) (da_cons (de_f ok_law_some (hr.mono (by decide)) nog (da_cons (de_v 1) da_nil)) da_nil)))
  (dss_cons (ds_if (dt_not (dt_val (de_f ok_law_given_right (hr.mono (by decide)) hgd (da_cons (de_v 4) (da_cons (de_v 7) (da_cons (de_v 8) (da_cons (de_v 9) (da_cons (de_cut (de_v 12) do_none (do_some de_int)) da_nil)))))))) (dss_one (ds_ret de_bl)) dss_nil)
  (dss_cons (ds_if (dt_not (dt_val (de_f ok_law_given_right (hr.mono (by decide)) hgd (da_cons (de_v 10) (da_cons (de_v 11) (da_cons (de_v 8) (da_cons (de_not (de_v 9)) (da_cons (de_cut (de_v 12) do_none (do_some de_int)) da_nil)))))))) (dss_one (ds_ret de_bl)) dss_nil)
  (dss_cons (ds_if (dt_not (dt_val (de_f ok_law_given_right (hr.mono (by decide)) hgd (da_cons (de_v 4) (da_cons (de_v 7) (da_cons (de_v 8) (da_cons (de_v 9) (da_cons (de_cut (de_v 12) (do_some de_int) do_none) da_nil)))))))) (dss_one (ds_ret de_bl)) dss_nil)
  (dss_one (ds_if (dt_w (dw_or (dt_not (dt_val (de_f ok_law_rest_right (hr.mono (by decide)) hgd (da_cons (de_v 4) (da_cons (de_v 7) (da_cons (de_v 9) da_nil)))))) (dw_or1 (dt_cmp (op_or op_ne (op_neD (hu64 hr))) sim_ne2 (de_callB sim_repr (call_reprD (hgd rfl) (hu66 hr)) T.b_repr (by decide +kernel) (da_cons (de_prop [(2, sHand_held)] (tb_cons (pd_of okHand_held T.cls_Hand (hr.mono (by decide)) nog) tb_nil) (de_v 10)) da_nil)) (de_callB sim_repr (call_reprD (hgd rfl) (hu66 hr)) T.b_repr (by decide +kernel) (da_cons (de_callT sim_tupOf call_tuple_of T.b_tuple (by decide +kernel) (da_cons (de_callB sim_sorted cr_sortedI T.b_sorted (by decide +kernel) (da_cons (de_v 11) da_nil)) da_nil)) da_nil)) (nomark _))))) (dss_one (ds_ret de_bl)) dss_nil))))))))))))
  (dss_cons (ds_par 6 7 sclaw.nd (da_cons (de_newK (ks := ["small"]) okHand_init (hr.mono (by decide)) nog T.k_Hand 1 (by decide) (fun _ _ _ _ _ _ us ws l1 l2 => match us, ws, l1, l2 with | [_, _], [_], _, _ => rfl) (da_cons de_int da_nil) (dk_cons de_bl dk_nil)) (da_cons (de_lstM da_nil) da_nil)))
  (dss_cons (ds_if (dt_not (dt_val (de_f ok_law_given_right (hr.mono (by decide)) hgd (da_cons (de_v 6) (da_cons (de_v 7) (da_cons de_int (da_cons de_bl (da_cons (de_lst (da_cons (de_op plusR sim_plus (de_op op_pow (sim_I int_rep) de_int de_int) de_int) (da_cons (de_op op_sub (sim_I0 int_rep) de_int (de_op op_pow (sim_I int_rep) de_int de_int)) (da_cons (de_op plusR sim_plus (de_op op_pow (sim_I int_rep) de_int de_int) de_int) (da_cons (de_neg de_int) (da_cons de_int (da_cons (de_op op_pow (sim_I int_rep) de_int de_int) da_nil))))))) da_nil)))))))) (dss_one (ds_ret de_bl)) dss_nil)
  (dss_cons (ds_set 3 sclaw.nd (de_newD okHand_init (hr.mono (by decide)) nog T.k_Hand 2 (by decide) rfl (fun _ => (.cons (.bl false) .nil)) (fun _ _ _ _ _ _ us ks l1 l2 => match us, ks, l1, l2 with | [_, _], [_], _, _ => ⟨_, _, _, _, _, _, rfl, rfl, rfl⟩) (da_cons de_int da_nil)))
  (dss_one (ds_ret (de_and (de_f ok_law_given_right (hr.mono (by decide)) hgd (da_cons (de_v 3) (da_cons (de_lstM da_nil) (da_cons de_int (da_cons de_bl (da_cons (de_lrg1 T.b_list T.b_range de_int) da_nil)))))) (de_one (de_cmp (op_or op_eq (op_eqD (hu64 hr))) sim_eq2 (de_listG (mg_of okHand_rest T.cls_Hand (by rw [T.nm_Hand]; decide) (hr.mono (by decide))) (de_v 3) T.b_list) (de_lrg2 T.b_list T.b_range de_int de_int) (nomark _)))))))))))
end
end My

set_option Elab.async false
set_option linter.all false
set_option maxRecDepth 100000
set_option maxHeartbeats 1000000
namespace My
open PySem PySem.Spec L2 DL
open PyProof.Rows hiding St
theorem cm1 {i j : Int} (h : -(2 ^ 64) < i ∧ i < 2 ^ 64) : CMul i j ∨ i.natAbs.log2 + j.natAbs.log2 < 1000000 := .inl (.inl h)
theorem cm2 {i j : Int} (h : -(2 ^ 64) < j ∧ j < 2 ^ 64) : CMul i j ∨ i.natAbs.log2 + j.natAbs.log2 < 1000000 := .inl (.inr h)
theorem small_sz {n : Nat} (h : n ≤ 1000000) : n < sizeLine := by rw [sizeLine_eq]; omega
theorem mixed_spec {c n : Int} {M : MM} {Q : D → MM → Prop} {EX : XD → MM → Prop} (hc : -(2 ^ 62) < c ∧ c < 2 ^ 62) (hn : 0 ≤ n ∧ n < 2 ^ 40) (h : ∀ r : Int, 0 ≤ r → r < 2147483629 → Q (.int r) M) : s_law_mixed [.int c, .int n] M Q EX := by
  refine ⟨rfl, cm1 (by omega), cm1 (by omega), cm2 (by decide), (show (0 : Int) < 2147483647 by decide), cm1 (by decide), cm2 (by omega), cm1 (by decide), cm2 (by decide), (show (0 : Int) < 2147483629 by decide), ⟨by decide, by decide⟩, h _ ?_ ?_⟩
  · omega
  · omega
/-! ### the draws -/
def dEnt (cs : List Int) (g : Addr) (n : Int) : List (Key × D) := [(.inr "cells", .lst (cs.map D.int)), (.inr "great", .raw (.ref g)), (.inr "spot", .int n)]
/-- m draws, g its great list; f draws are left -/
structure Dr (m g : Addr) (f : Nat) (M : MM) : Prop where
  ex : ∃ (cs gs : List Int) (n : Int), M m = some (.dct (dEnt cs g n)) ∧ M g = some (.lst (gs.map D.int)) ∧ cs.length = 64 ∧ (∀ c ∈ cs, 0 ≤ c ∧ c < 2147483647) ∧ gs.length ≤ 63 ∧ 0 ≤ n ∧ n + (f : Int) < 2 ^ 39
  ne : m ≠ g
/-- all but the draws stays -/
def Sm (m g : Addr) (M M' : MM) : Prop := ∀ b, b ≠ m → b ≠ g → M' b = M b
theorem Sm.refl {m g : Addr} {M : MM} : Sm m g M M := fun _ _ _ => rfl
theorem Sm.trans {m g : Addr} {M M1 M2 : MM} (a : Sm m g M M1) (b : Sm m g M1 M2) : Sm m g M M2 := fun c h1 h2 => (b c h1 h2).trans (a c h1 h2)
theorem val_spot {cs : List Int} {g : Addr} {n : Int} : valD (dEnt cs g n) (.inr "spot") = some (.int n) := by rfl
theorem val_great {cs : List Int} {g : Addr} {n : Int} : valD (dEnt cs g n) (.inr "great") = some (.raw (.ref g)) := by rfl
theorem val_cells {cs : List Int} {g : Addr} {n : Int} : valD (dEnt cs g n) (.inr "cells") = some (.lst (cs.map D.int)) := by rfl
theorem put_spot {cs : List Int} {g : Addr} {n k : Int} : putD (dEnt cs g n) (.inr "spot") (.int k) = dEnt cs g k := by rfl
theorem draw_spec {m g : Addr} {f : Nat} {M : MM} {top : Int} {Q : D → MM → Prop} {EX : XD → MM → Prop} (hd : Dr m g (f + 1) M) (ht : 0 < top ∧ top < 1073741824) (h : ∀ (r : Int) (M' : MM), 0 ≤ r → r < top → Dr m g f M' → Sm m g M M' → Q (.int r) M') : s_law_draw [.raw (.ref m), .int top] M Q EX := by
  obtain ⟨⟨cs, gs, n, e1, e2, lc, bc, lg, n0, nf⟩, ne⟩ := hd
  refine ⟨rfl, ?_⟩
  refine at_dget (dct_mut e1) rfl val_spot ?_
  refine at_dput (k := .inr "spot") (i := .str "spot") e1 rfl (small_sz (show 3 ≤ 1000000 by decide)) ?_
  rw [put_spot]
  obtain ⟨M1, eM⟩ : ∃ M1, M1 = updM M m (.dct (dEnt cs g (n + 1))) := ⟨_, rfl⟩
  rw [← eM]
  have f1 : M1 m = some (.dct (dEnt cs g (n + 1))) := by rw [eM]; exact updM_same
  have f2 : M1 g = some (.lst (gs.map D.int)) := by rw [eM, updM_ne ne.symm]; exact e2
  have sm : Sm m g M M1 := fun b hb _ => by rw [eM]; exact updM_ne hb
  have dr : Dr m g f M1 := ⟨⟨cs, gs, n + 1, f1, f2, lc, bc, lg, by omega, by omega⟩, ne⟩
  -- the last part: a cell's own number
  have fin : ∀ d4 : Option D, (wSeq (wSet 3 (wOp wIx (wDGet (wV 0) (wC (.str "cells"))) (wOp wMod (wB wInt1 (wCons (wV 2) wNil)) (wC (.int 64)))))
      (wRet (wOp wMod (wB wInt1 (wCons (wCall s_law_mixed [] (wCons (wCall s_law_mixed [] (wCons (wOp wPlus (wV 3) (wOp wTimes (wC (.int 31)) (wOp wDiv (wV 2) (wC (.int 64))))) (wCons (wV 2) wNil))) (wCons (wOp wPlus (wV 2) (wC (.int 7))) wNil))) wNil)) (wV 1))))
      { nx := fun _ M' => Q .non M', rt := Q } (fun xd _ M' => EX xd M') [some (.raw (.ref m)), some (.int top), some (.int n), d4, none] M1 := by
    intro d4
    refine at_dget (dct_mut f1) (by rfl) val_cells ?_
    refine ⟨(show (0 : Int) < 64 by decide), ?_⟩
    obtain ⟨c, hc⟩ : ∃ c, cs[(n % 64).toNat]? = some c := ⟨_, List.getElem?_eq_getElem (by omega)⟩
    have bc' := bc c (List.mem_of_getElem? hc)
    refine at_ix (xs := cs.map D.int) (d := .int c) rfl ?_ ?_
    · rw [atD_nat (by omega) (by rw [List.length_map]; omega), List.getElem?_map, hc]; rfl
    refine ⟨⟨by decide, by decide⟩, cm1 (by decide), ?_⟩
    refine mixed_spec (by omega) (by omega) fun r1 a1 b1 => ?_
    refine mixed_spec (by omega) (by omega) fun r2 a2 b2 => ?_
    exact ⟨ht.1, h _ _ (Int.emod_nonneg _ (by omega)) (Int.emod_lt_of_pos _ ht.1) dr sm⟩
  refine at_dget (dct_mut f1) (by rfl) val_great ?_
  refine ⟨Nat.zero_le _, at_ne (p := .list (gs.map .int)) (q := .list []) ?_ rfl (shaped_ints gs) (by decide +kernel) ⟨_, rfl, ?_⟩⟩
  · rw [py_mut f2]; exact toPy_lst (toPys_ints gs)
  rw [eqv_nil]
  cases gs with
  | nil => exact fin none
  | cons z zs =>
    refine at_dget (dct_mut f1) (by rfl) val_great ?_
    refine at_len (seq_mut f2) ?_
    refine ⟨(show (0 : Int) < (((z :: zs).map D.int).length : Nat) by rw [List.length_map, List.length_cons]; omega), ?_⟩
    obtain ⟨j, ej⟩ : ∃ j : Nat, j = (n % (((z :: zs).map D.int).length : Nat)).toNat := ⟨_, rfl⟩
    have lp : (0 : Int) < (((z :: zs).map D.int).length : Nat) := by rw [List.length_map, List.length_cons]; omega
    have j0 : 0 ≤ n % (((z :: zs).map D.int).length : Nat) := Int.emod_nonneg _ (by omega)
    have j1 : n % (((z :: zs).map D.int).length : Nat) < (((z :: zs).map D.int).length : Nat) := Int.emod_lt_of_pos _ lp
    have lj : j < (z :: zs).length := by
      have el : ((z :: zs).map D.int).length = (z :: zs).length := List.length_map ..
      omega
    obtain ⟨c, hc⟩ : ∃ c, (z :: zs)[j]? = some c := ⟨_, List.getElem?_eq_getElem lj⟩
    refine at_dget (dct_mut f1) (by rfl) val_great ?_
    refine at_ix (d := .int c) (seq_mut f2) ?_ ?_
    · rw [atD_nat j0 j1, ← ej, List.getElem?_map, hc]; rfl
    refine ⟨_, rfl, ?_⟩
    refine if2 (fun hp => ?_) fun hp => ?_
    · refine ⟨ht, ?_⟩
      refine at_dget (dct_mut f1) (by rfl) val_great ?_
      refine at_putL (j := j) f2 ?_ ?_
      · rw [ixN_nat j0 j1, ← ej]
      refine ⟨ht.1, h _ _ (Int.emod_nonneg _ (by omega)) (Int.emod_lt_of_pos _ ht.1) ⟨⟨cs, (z :: zs).set j (c / top), n + 1, ?_, ?_, lc, bc, by rw [List.length_set]; exact lg, by omega, by omega⟩, ne⟩ fun b h1 h2 => ?_⟩
      · rw [updM_ne ne]; exact f1
      · rw [updM_same]; congr 2; rw [List.map_set]
      · rw [updM_ne h2]; exact sm b h1 h2
    · exact fin (some (.int c))
end My

set_option Elab.async false
set_option linter.all false
set_option maxRecDepth 100000
set_option maxHeartbeats 1000000
namespace My
open PySem PySem.Spec L2 DL
open PyProof.Rows hiding St
theorem Sm.kp {m g : Addr} {f : Nat} {M M' : MM} (s : Sm m g M M') (d : Dr m g f M') : Kp [m, g] M M' := fun b hb => by
  obtain ⟨⟨cs, gs, n, e1, e2, _⟩, _⟩ := d
  by_cases h1 : b = m
  · exact ⟨by rw [h1, e1]; simp, fun nb => absurd (by simp [h1]) nb⟩
  · by_cases h2 : b = g
    · exact ⟨by rw [h2, e2]; simp, fun nb => absurd (by simp [h2]) nb⟩
    · exact ⟨by rw [s b h1 h2]; exact hb, fun _ => s b h1 h2⟩
/-- a hand at h, its list at q -/
structure Hd (h q : Addr) (k : Int) (sm : Bool) (held : List Int) (M : MM) : Prop where
  at_ : M h = some (.ins 2 [.int k, .bl sm, .raw (.ref q)])
  ls : M q = some (.lst (held.map D.int))
  ne : h ≠ q
abbrev ix (sm : Bool) (n : Nat) : Nat := if sm = true then n - 1 else 0
theorem pd_spec {h q : Addr} {k : Int} {sm : Bool} {held : List Int} {M : MM} {x : Int} {Q : D → MM → Prop} {EX : XD → MM → Prop} (hd : Hd h q k sm held M) (hx : held[ix sm held.length]? = some x)
    (hQ : ∀ M', Hd h q k sm (held.eraseIdx (ix sm held.length)) M' → Kp [q] M M' → Q (.int x) M') : sHand__put_down [.raw (.ref h)] M Q EX := by
  refine ⟨rfl, ?_⟩
  refine at_fld (i := 1) (x := .bl sm) (ins_mut hd.at_) rfl rfl ?_
  refine at_tru (k := sm) rfl ?_
  cases sm with
  | true =>
    refine ifT rfl ?_
    refine at_fld (i := 2) (x := .raw (.ref q)) (ins_mut hd.at_) rfl rfl ?_
    refine ⟨⟨_, _, rfl, hd.ls⟩, at_lst hd.ls ?_⟩
    have hx' : held[held.length - 1]? = some x := hx
    refine at_pop (d := .int x) (by rw [List.length_map, List.getElem?_map, hx']; rfl) ?_
    refine hQ _ ⟨?_, ?_, hd.ne⟩ (kp_upd (by simp))
    · rw [updM_ne hd.ne]; exact hd.at_
    · rw [updM_same, drop_last, List.length_map, map_erase]
      rfl
  | false =>
    refine ifF rfl ?_
    refine at_fld (i := 2) (x := .raw (.ref q)) (ins_mut hd.at_) rfl rfl ?_
    refine ⟨⟨_, _, rfl, hd.ls⟩, at_lst hd.ls ?_⟩
    have hx' : held[0]? = some x := hx
    refine at_pop0 (d := .int x) (by rw [List.getElem?_map, hx']; rfl) ?_
    refine hQ _ ⟨?_, ?_, hd.ne⟩ (kp_upd (by simp))
    · rw [updM_ne hd.ne]; exact hd.at_
    · rw [updM_same, map_erase]
      rfl
theorem call_spec {h q : Addr} {k : Int} {sm : Bool} {held : List Int} {M : MM} {x : Int} {Q : D → MM → Prop} {EX : XD → MM → Prop} (hd : Hd h q k sm held M) (hl : held.length ≤ 1000)
    (h1 : ∀ (s : List Int) q' M', s.Perm (held ++ [x]) → s.Pairwise (· ≤ ·) → M q' = none → (s.length : Int) ≤ k → Hd h q' k sm s M' → Kp [h] M M' → Q .non M')
    (h2 : ∀ (s : List Int) q' M' y, s.Perm (held ++ [x]) → s.Pairwise (· ≤ ·) → M q' = none → k < (s.length : Int) → s[ix sm s.length]? = some y → Hd h q' k sm (s.eraseIdx (ix sm s.length)) M' → Kp [h] M M' → Q (.int y) M') : sHand_call [.raw (.ref h), .int x] M Q EX := by
  refine ⟨rfl, ?_⟩
  refine at_fld (i := 2) (x := .raw (.ref q)) (ins_mut hd.at_) rfl rfl ?_
  refine ⟨Nat.le_of_lt (small_sz (show 1 ≤ 1000000 by decide)), ?_⟩
  refine at_cat (y := .lst [.int x]) (xs := held.map D.int) (ys := [.int x]) (lst_mut hd.ls) rfl ?_ ?_
  · simp only [List.length_map, List.length_singleton]
    rw [sizeLine_eq]; omega
  refine at_sortM (ns := held ++ [x]) ?_ fun s hp hs q' hq' => ?_
  · have z := lints_lst (M := M) (ns := held ++ [x])
    rw [List.map_append] at z
    exact z
  have hnq : q' ≠ h := fun z => by rw [z, hd.at_] at hq'; cases hq'
  obtain ⟨M1, eM⟩ : ∃ M1, M1 = updM M q' (.lst (s.map D.int)) := ⟨_, rfl⟩
  rw [← eM]
  have a1 : M1 h = some (.ins 2 [.int k, .bl sm, .raw (.ref q)]) := by rw [eM, updM_ne hnq.symm]; exact hd.at_
  have a2 : M1 q' = some (.lst (s.map D.int)) := by rw [eM]; exact updM_same
  refine at_fldSet (i := 2) a1 rfl (show 2 < 3 by decide) ?_
  have hd2 : Hd h q' k sm s (updM M1 h (.ins 2 [.int k, .bl sm, .raw (.ref q')])) := ⟨updM_same, by rw [updM_ne hnq]; exact a2, hnq.symm⟩
  have kp2 : Kp [h] M (updM M1 h (.ins 2 [.int k, .bl sm, .raw (.ref q')])) := (by rw [eM]; exact kp_new hq' : Kp [h] M M1).trans (kp_upd (by simp))
  obtain ⟨M2, eM2⟩ : ∃ M2, M2 = updM M1 h (.ins 2 [.int k, .bl sm, .raw (.ref q')]) := ⟨_, rfl⟩
  show _
  refine at_fld (i := 2) (x := .raw (.ref q')) (ins_mut hd2.at_) rfl rfl ?_
  refine at_len (seq_mut hd2.ls) ?_
  refine at_fld (i := 0) (x := .int k) (ins_mut hd2.at_) rfl rfl ?_
  refine ⟨_, rfl, ?_⟩
  rw [List.length_map]
  refine if2 (fun hle => h1 s q' _ hp hs hq' hle hd2 kp2) fun hle => ?_
  have lp : 0 < s.length := by rw [hp.length_eq]; simp
  obtain ⟨y, hy⟩ : ∃ y, s[ix sm s.length]? = some y := by
    have : ix sm s.length < s.length := by unfold ix; split <;> omega
    exact ⟨_, List.getElem?_eq_getElem this⟩
  refine ⟨_, _, _, ins_mut hd2.at_, rfl, ?_⟩
  refine pd_spec hd2 hy fun M3 hd3 kp3 => ?_
  exact h2 s q' M3 y hp hs hq' (by omega) hy hd3 (kp2.drop hq' (kp3.mono (by simp)))
end My

set_option Elab.async false
set_option linter.all false
set_option maxRecDepth 100000
set_option maxHeartbeats 1000000
namespace My
open PySem PySem.Spec L2 DL
open PyProof.Rows hiding St
theorem first_ix {v : Int} : ∀ {l : List Int}, v ∈ l → ∃ j, l[j]? = some v ∧ ∀ m : Nat, m < j → l[m]? ≠ some v
  | [], h => nomatch h
  | a :: l, h => by
    by_cases e : a = v
    · exact ⟨0, by rw [e]; rfl, fun m hm => absurd hm (Nat.not_lt_zero _)⟩
    · obtain ⟨j, h1, h2⟩ := first_ix (l := l) (by rcases List.mem_cons.mp h with z | z; exact absurd z.symm e; exact z)
      refine ⟨j + 1, h1, fun m hm => ?_⟩
      cases m with
      | zero => intro z; exact e (Option.some.inj z)
      | succ m => exact h2 m (Nat.lt_of_succ_lt_succ hm)
theorem perm_at {v : Int} : ∀ {l : List Int} {j : Nat}, l[j]? = some v → l.Perm (v :: l.eraseIdx j)
  | [], j, h => by simp at h
  | a :: l, 0, h => by cases h; exact List.Perm.refl _
  | a :: l, j + 1, h => by
    have z := perm_at (l := l) (j := j) h
    exact (z.cons a).trans (List.Perm.swap ..)
theorem perm_erase {v : Int} {s l : List Int} {i j : Nat} (p : s.Perm l) (h1 : s[i]? = some v) (h2 : l[j]? = some v) : (s.eraseIdx i).Perm (l.eraseIdx j) :=
  ((perm_at h1).symm.trans (p.trans (perm_at h2))).cons_inv
theorem sorted_at {s : List Int} (h : s.Pairwise (· ≤ ·)) {i j : Nat} {a b : Int} (hi : s[i]? = some a) (hj : s[j]? = some b) (l : i ≤ j) : a ≤ b := by
  by_cases e : i = j
  · subst e; rw [hi] at hj; cases hj; exact Int.le_refl _
  · obtain ⟨h1, e1⟩ := List.getElem?_eq_some_iff.mp hi
    obtain ⟨h2, e2⟩ := List.getElem?_eq_some_iff.mp hj
    have z := List.pairwise_iff_getElem.mp h i j h1 h2 (by omega)
    rw [e1, e2] at z
    exact z
theorem sorted_top {s : List Int} (h : s.Pairwise (· ≤ ·)) {y z : Int} (hy : s[s.length - 1]? = some y) (hz : z ∈ s) : z ≤ y := by
  obtain ⟨i, hi⟩ := List.getElem?_of_mem hz
  have l : i < s.length := (List.getElem?_eq_some_iff.mp hi).1
  exact sorted_at h hi hy (by omega)
theorem sorted_low {s : List Int} (h : s.Pairwise (· ≤ ·)) {y z : Int} (hy : s[0]? = some y) (hz : z ∈ s) : y ≤ z := by
  obtain ⟨i, hi⟩ := List.getElem?_of_mem hz
  exact sorted_at h hy hi (Nat.zero_le _)
theorem sorted_eq {s t : List Int} (p : s.Perm t) (h1 : s.Pairwise (· ≤ ·)) (h2 : t.Pairwise (· ≤ ·)) : s = t := List.Perm.eq_of_pairwise (fun a b _ _ h1 h2 => Int.le_antisymm h1 h2) h1 h2 p
/-- what the hand lays down is what the law's own list lays down -/
theorem same_gone {sm : Bool} {s l : List Int} {y m : Int} (p : s.Perm l) (h : s.Pairwise (· ≤ ·)) (hy : s[ix sm s.length]? = some y) (hm : m ∈ l) (hb : ∀ z ∈ l, if sm = true then z ≤ m else m ≤ z) : y = m := by
  have ys : y ∈ l := p.mem_iff.mp (List.mem_of_getElem? hy)
  have ms : m ∈ s := p.mem_iff.mpr hm
  cases sm with
  | true => exact Int.le_antisymm (by simpa using hb y ys) (sorted_top h hy ms)
  | false => exact Int.le_antisymm (sorted_low h hy ms) (by simpa using hb y ys)
theorem taken_spec {lk : Addr} {k x : Int} {sm : Bool} {kept : List Int} {M : MM} {Q : D → MM → Prop} {EX : XD → MM → Prop} (hl : M lk = some (.lst (kept.map D.int))) (hlen : kept.length ≤ 1000)
    (h1 : ((kept ++ [x]).length : Int) ≤ k → ∀ M', M' lk = some (.lst ((kept ++ [x]).map D.int)) → Kp [lk] M M' → Q .non M')
    (h2 : k < ((kept ++ [x]).length : Int) → ∀ m j M', (kept ++ [x])[j]? = some m → (∀ z ∈ kept ++ [x], if sm = true then z ≤ m else m ≤ z) → M' lk = some (.lst (((kept ++ [x]).eraseIdx j).map D.int)) → Kp [lk] M M' → Q (.int m) M') :
    s_law_taken [.raw (.ref lk), .int k, .bl sm, .int x] M Q EX := by
  refine ⟨rfl, ⟨_, _, rfl, hl⟩, at_lst hl ⟨small_sz (by rw [List.length_map]; omega), ?_⟩⟩
  have e1 : kept.map D.int ++ [D.int x] = (kept ++ [x]).map D.int := by rw [List.map_append]; rfl
  rw [e1]
  obtain ⟨M1, eM⟩ : ∃ M1, M1 = updM M lk (.lst ((kept ++ [x]).map D.int)) := ⟨_, rfl⟩
  have a1 : M1 lk = some (.lst ((kept ++ [x]).map D.int)) := by rw [eM]; exact updM_same
  have kp1 : Kp [lk] M M1 := by rw [eM]; exact kp_upd (by simp)
  rw [← eM]
  refine at_len (seq_mut a1) ⟨_, rfl, ?_⟩
  rw [List.length_map]
  refine if2 (fun hle => h1 hle M1 a1 kp1) fun hle => ?_
  have fin : ∀ m, m ∈ kept ++ [x] → (∀ z ∈ kept ++ [x], if sm = true then z ≤ m else m ≤ z) →
      (wSeq (wDrop (wM wRemove (wV 0) (wCons (wV 4) wNil))) (wRet (wV 4))) { nx := fun _ M' => Q .non M', rt := Q } (fun xd _ M' => EX xd M') [some (.raw (.ref lk)), some (.int k), some (.bl sm), some (.int x), some (.int m)] M1 := by
    intro m hm hb
    obtain ⟨j, hj, hf⟩ := first_ix hm
    refine ⟨⟨_, _, rfl, a1⟩, at_lst a1 ⟨kept ++ [x], j, rfl, hj, hf, ?_⟩⟩
    exact h2 (by omega) m j _ hj hb updM_same (kp1.trans (kp_upd (by simp)))
  have l0 : 0 < (kept ++ [x]).length := by simp
  refine ⟨_, rfl, ?_⟩
  cases sm with
  | true => exact ifT rfl (at_max (lints_mut a1) l0 fun m hm hb => fin m hm (by simpa using hb))
  | false => exact ifF rfl (at_min (lints_mut a1) l0 fun m hm hb => fin m hm (by simpa using hb))
end My

set_option Elab.async false
set_option linter.all false
set_option maxRecDepth 100000
set_option maxHeartbeats 1000000
namespace My
open PySem PySem.Spec L2 DL
open PyProof.Rows hiding St
abbrev Bd (xs : List Int) : Prop := ∀ x ∈ xs, -(2 ^ 100) < x ∧ x < 2 ^ 100
/-- a hand and the law's own list beside it -/
structure HK (h q lk : Addr) (k : Int) (sm : Bool) (kept : List Int) (M : MM) : Prop where
  hd : ∃ held, Hd h q k sm held M ∧ held.Perm kept ∧ held.Pairwise (· ≤ ·)
  ls : M lk = some (.lst (kept.map D.int))
  n1 : lk ≠ h
  n2 : lk ≠ q
  bd : Bd kept
theorem Hd.kp {h q : Addr} {k : Int} {sm : Bool} {held : List Int} {M M' : MM} {S : List Addr} (hd : Hd h q k sm held M) (kp : Kp S M M') (a : h ∉ S) (b : q ∉ S) : Hd h q k sm held M' := ⟨kp.some hd.at_ a, kp.some hd.ls b, hd.ne⟩
theorem held_spec {h q : Addr} {k : Int} {sm : Bool} {held : List Int} {M : MM} {Q : D → MM → Prop} {EX : XD → MM → Prop} (hd : Hd h q k sm held M) (hQ : Q (.tup (held.map D.int)) M) : sHand_held [.raw (.ref h)] M Q EX := by
  refine ⟨rfl, ?_⟩
  refine at_fld (i := 2) (x := .raw (.ref q)) (ins_mut hd.at_) rfl rfl ?_
  exact at_tupOf (seq_mut hd.ls) hQ
theorem neq_same {s t : Str} (e : s = t) {A : Prop} (h : A) : (fun (d : D) (_ : MM) => ∃ c, d = .bl c ∧ if c = true then False else A) (.bl (!decide (s = t))) (fun _ => none) := by
  refine ⟨_, rfl, ?_⟩
  rw [decide_eq_true e]; exact ifF rfl h
theorem bd_app {xs : List Int} {x : Int} (h : Bd xs) (hx : -(2 ^ 100) < x ∧ x < 2 ^ 100) : Bd (xs ++ [x]) := fun z hz => by
  rcases List.mem_append.mp hz with a | a
  · exact h z a
  · rw [List.mem_singleton.mp a]; exact hx
theorem bd_erase {xs : List Int} {i : Nat} (h : Bd xs) : Bd (xs.eraseIdx i) := fun z hz => h z (List.mem_of_mem_eraseIdx hz)
/-- what becomes of the law's own list -/
def Nx (k : Int) (sm : Bool) (kept : List Int) (x : Int) (kept' : List Int) : Prop := (((kept ++ [x]).length : Int) ≤ k ∧ kept' = kept ++ [x]) ∨
  (k < ((kept ++ [x]).length : Int) ∧ ∃ m j, (kept ++ [x])[j]? = some m ∧ (∀ z ∈ kept ++ [x], if sm = true then z ≤ m else m ≤ z) ∧ kept' = (kept ++ [x]).eraseIdx j)
/-- the parts of one comparison: both show alike -/
theorem given_turn {h q lk : Addr} {k x : Int} {sm : Bool} {kept : List Int} {M : MM} {E : ED} {EX : XK'} {d4 d6 : Option D} (hk : HK h q lk k sm kept M) (hl : kept.length ≤ 900) (hx : -(2 ^ 100) < x ∧ x < 2 ^ 100)
    (hn : ∀ q' kept' M' d6', Nx k sm kept x kept' → HK h q' lk k sm kept' M' → kept'.length ≤ kept.length + 1 → (q' = q ∨ M q' = none) → Kp [h, q, lk] M M' → E.nx [some (.raw (.ref h)), some (.raw (.ref lk)), some (.int k), some (.bl sm), d4, some (.int x), d6'] M') :
    (wSeq (wSet 6 (wCall s_law_taken [] (wCons (wV 1) (wCons (wV 2) (wCons (wV 3) (wCons (wV 5) wNil))))))
      (wIfS (wOrT (wTst (wOp wNe2 (wB wRepr (wCons (wCallO [(2, sHand_call)] (wV 0) (wCons (wV 5) wNil)) wNil)) (wB wRepr (wCons (wV 6) wNil)))) (wTst (wOp wNe2 (wB wRepr (wCons (wProp [(2, sHand_held)] (wV 0)) wNil)) (wB wRepr (wCons (wB wTupOf (wCons (wB wSorted (wCons (wV 1) wNil)) wNil)) wNil))))) (wRet (wC (.bl false))) wNext))
      E EX [some (.raw (.ref h)), some (.raw (.ref lk)), some (.int k), some (.bl sm), d4, some (.int x), d6] M := by
  obtain ⟨⟨held, hd, hp, hs⟩, ls, n1, n2, bd⟩ := hk
  have hlen : held.length = kept.length := hp.length_eq
  -- behind the hand's call: what it holds is shown like what the law holds
  have fin : ∀ (held' kept' : List Int) (q' : Addr) (M' : MM) (d : D) (p : PyData), Nx k sm kept x kept' → py M' d = some p → Sho p → Hd h q' k sm held' M' → M' lk = some (.lst (kept'.map D.int)) → held'.Perm kept' → held'.Pairwise (· ≤ ·) → Bd kept' → kept'.length ≤ kept.length + 1 → (q' = q ∨ M q' = none) → lk ≠ q' → Kp [h, q, lk] M M' →
      wRepr [d] M' fun v M1 => (wB wRepr (wCons (wV 6) wNil)) [some (.raw (.ref h)), some (.raw (.ref lk)), some (.int k), some (.bl sm), d4, some (.int x), some d] M1 (fun u M2 => wNe2 v u M2 fun z M3 => ∃ c, z = .bl c ∧
        (fun c M4 => if c = true then (fun c M5 => if c = true then E.rt (.bl false) M5 else E.nx [some (.raw (.ref h)), some (.raw (.ref lk)), some (.int k), some (.bl sm), d4, some (.int x), some d] M5) true M4 else
          (wTst (wOp wNe2 (wB wRepr (wCons (wProp [(2, sHand_held)] (wV 0)) wNil)) (wB wRepr (wCons (wB wTupOf (wCons (wB wSorted (wCons (wV 1) wNil)) wNil)) wNil)))) [some (.raw (.ref h)), some (.raw (.ref lk)), some (.int k), some (.bl sm), d4, some (.int x), some d] M4 (fun c M5 => if c = true then E.rt (.bl false) M5 else E.nx [some (.raw (.ref h)), some (.raw (.ref lk)), some (.int k), some (.bl sm), d4, some (.int x), some d] M5) EX) c M3) EX := by
    intro held' kept' q' M' d p hnx hpy sho hd' ls' hp' hs' bd' hl' hq' nq kp
    refine at_repr hpy sho ?_
    refine at_repr hpy sho ?_
    refine ⟨_, rfl, ?_⟩
    rw [decide_eq_true rfl]
    refine ifF rfl ?_
    have bh : Bd held' := fun z hz => bd' z (hp'.mem_iff.mp hz)
    have lh : held'.length ≤ 10000 := by rw [hp'.length_eq]; omega
    refine ⟨2, _, _, ins_mut hd'.at_, rfl, held_spec hd' ?_⟩
    refine at_repr py_tup (sho_tuple bh lh) ?_
    refine at_sort (lints_mut ls') fun s sp ss => ?_
    have es : s = held' := sorted_eq (sp.trans hp'.symm) ss hs'
    subst es
    refine at_tupOf rfl ?_
    refine at_repr py_tup (sho_tuple bh lh) ?_
    refine ⟨_, rfl, ?_⟩
    rw [decide_eq_true rfl]
    exact ifF rfl (hn q' kept' M' (some d) hnx ⟨⟨_, hd', hp', hs'⟩, ls', n1, nq, bd'⟩ hl' hq' kp)
  have bdx := bd_app bd hx
  have nS : ∀ {q' : Addr}, M q' = none → lk ≠ q' := fun z e => by rw [← e, ls] at z; cases z
  refine taken_spec ls (by omega) (fun hle M1 a1 kp1 => ?_) fun hgt m j M1 hj hb a1 kp1 => ?_
  · have hd1 := hd.kp kp1 (by simp [n1.symm]) (by simp [n2.symm])
    have kpA : Kp [h, q, lk] M M1 := kp1.mono (by simp)
    refine ⟨by rw [ins_mut hd1.at_]; rfl, 2, _, _, ins_mut hd1.at_, rfl, ?_⟩
    refine call_spec hd1 (by omega) (fun s q' M2 sp ss hq' hle2 hd2 kp2 => ?_) fun s q' M2 y sp ss hq' hgt2 hy hd2 kp2 => ?_
    · have hq0 : M q' = none := kp1.none hq'
      exact fin s (kept ++ [x]) q' M2 .non .none (.inl ⟨hle, rfl⟩) py_non sho_none hd2 (kp2.some a1 (by simp [n1])) (sp.trans (hp.append_right [x])) ss bdx (by simp) (.inr hq0) (nS hq0) (kpA.trans (kp2.mono (by simp)))
    · have e : s.length = (kept ++ [x]).length := by rw [sp.length_eq, List.length_append, List.length_append, hlen]
      omega
  · have hd1 := hd.kp kp1 (by simp [n1.symm]) (by simp [n2.symm])
    have kpA : Kp [h, q, lk] M M1 := kp1.mono (by simp)
    refine ⟨by rw [ins_mut hd1.at_]; rfl, 2, _, _, ins_mut hd1.at_, rfl, ?_⟩
    refine call_spec hd1 (by omega) (fun s q' M2 sp ss hq' hle2 hd2 kp2 => ?_) fun s q' M2 y sp ss hq' hgt2 hy hd2 kp2 => ?_
    · have e : s.length = (kept ++ [x]).length := by rw [sp.length_eq, List.length_append, List.length_append, hlen]
      omega
    · have hq0 : M q' = none := kp1.none hq'
      have sp2 : s.Perm (kept ++ [x]) := sp.trans (hp.append_right [x])
      have em : y = m := same_gone sp2 ss hy (List.mem_of_getElem? hj) hb
      subst em
      exact fin (s.eraseIdx (ix sm s.length)) ((kept ++ [x]).eraseIdx j) q' M2 (.int y) (.int y) (.inr ⟨hgt, y, j, hj, hb, rfl⟩) py_int (sho_int (bdx y (List.mem_of_getElem? hj))) hd2 (kp2.some a1 (by simp [n1])) (perm_erase sp2 hy hj) (ss.eraseIdx _) (bd_erase bdx)
        (by
          have z := List.length_eraseIdx_le (kept ++ [x]) j
          simp at z ⊢
          omega) (.inr hq0) (nS hq0) (kpA.trans (kp2.mono (by simp)))
/-- the whole walk: nothing differs -/
theorem given_specP {h q lk : Addr} {k : Int} {sm : Bool} {kept xs : List Int} {M : MM} {Q : D → MM → Prop} {EX : XD → MM → Prop} (hk : HK h q lk k sm kept M) (hl : kept.length + xs.length ≤ 900) (hx : Bd xs) (P : Nat → List Int → Prop) (p0 : P 0 kept) (pS : ∀ i x a b, P i a → xs[i]? = some x → Nx k sm a x b → P (i + 1) b)
    (hQ : ∀ q' kept' M', P xs.length kept' → HK h q' lk k sm kept' M' → kept'.length ≤ kept.length + xs.length → (q' = q ∨ M q' = none) → Kp [h, q, lk] M M' → Q (.bl true) M') :
    s_law_given_right [.raw (.ref h), .raw (.ref lk), .int k, .bl sm, .lst (xs.map D.int)] M Q EX := by
  refine ⟨rfl, ?_⟩
  refine at_iterF' ?_
  refine loop_inv (fun i δ M' => ∃ q' kept' d5 d6, δ = [some (.raw (.ref h)), some (.raw (.ref lk)), some (.int k), some (.bl sm), some (.lst (xs.map D.int)), d5, d6] ∧ P i kept' ∧ HK h q' lk k sm kept' M' ∧ kept'.length ≤ kept.length + i ∧ (q' = q ∨ M q' = none) ∧ Kp [h, q, lk] M M')
    ⟨q, kept, none, none, rfl, p0, hk, Nat.le_add_right _ _, .inl rfl, .refl⟩ (fun _ _ _ _ => trivial) ?_ ?_
  · rintro i d δ M' hi ⟨q', kept', d5, d6, rfl, hP, hk', hl', hq', kp⟩
    obtain ⟨x, hx', rfl⟩ : ∃ x, xs[i]? = some x ∧ d = .int x := by
      rw [List.getElem?_map] at hi
      cases e : xs[i]? with
      | none => rw [e] at hi; cases hi
      | some x => rw [e] at hi; exact ⟨x, rfl, (Option.some.inj hi).symm⟩
    have li : i < xs.length := (List.getElem?_eq_some_iff.mp hx').1
    refine ⟨_, rfl, fun nx hn => ?_⟩
    refine given_turn hk' (by omega) (hx x (List.mem_of_getElem? hx')) fun q2 kept2 M2 d62 hnx2 hk2 hl2 hq2 kp2 => ?_
    refine hn _ _ ⟨q2, kept2, some (.int x), d62, rfl, pS i x kept' kept2 hP hx' hnx2, hk2, by omega, ?_, ?_⟩
    · rcases hq2 with z | z
      · rw [z]; exact hq'
      · exact .inr (kp.none z)
    · rcases hq' with z | z
      · rw [z] at kp2; exact kp.trans kp2
      · exact kp.drop z (kp2.mono fun b hb => by simp only [List.mem_cons, List.not_mem_nil, or_false] at hb ⊢; rcases hb with e | e | e <;> simp [e])
  · rintro δ M' ⟨q', kept', d5, d6, rfl, hP, hk', hl', hq', kp⟩
    exact hQ q' kept' M' (by simpa using hP) hk' (by simpa using hl') hq' kp
theorem given_spec {h q lk : Addr} {k : Int} {sm : Bool} {kept xs : List Int} {M : MM} {Q : D → MM → Prop} {EX : XD → MM → Prop} (hk : HK h q lk k sm kept M) (hl : kept.length + xs.length ≤ 900) (hx : Bd xs)
    (hQ : ∀ q' kept' M', HK h q' lk k sm kept' M' → kept'.length ≤ kept.length + xs.length → (q' = q ∨ M q' = none) → Kp [h, q, lk] M M' → Q (.bl true) M') :
    s_law_given_right [.raw (.ref h), .raw (.ref lk), .int k, .bl sm, .lst (xs.map D.int)] M Q EX :=
  given_specP hk hl hx (fun _ _ => True) True.intro (fun _ _ _ _ _ _ _ => True.intro) fun q' kept' M' _ => hQ q' kept' M'
end My

set_option Elab.async false
set_option linter.all false
set_option maxRecDepth 100000
set_option maxHeartbeats 1000000
namespace My
open PySem PySem.Spec L2 DL
open PyProof.Rows hiding St
abbrev outOf (sm : Bool) (held : List Int) : List Int := if sm = true then held.reverse else held
theorem tru_mut {M : MM} {q : Addr} {xs : List D} (h : M q = some (.lst xs)) : truD M (.raw (.ref q)) = some (!xs.isEmpty) := by
  unfold truD; dsimp only; rw [h]
theorem out_step {sm : Bool} {held : List Int} {x : Int} (hx : held[ix sm held.length]? = some x) : outOf sm held = x :: outOf sm (held.eraseIdx (ix sm held.length)) := by
  cases sm with
  | true =>
    have hx' : held[held.length - 1]? = some x := hx
    show held.reverse = x :: (held.eraseIdx (held.length - 1)).reverse
    have l : held ≠ [] := fun z => by rw [z] at hx'; cases hx'
    have e : held.getLast l = x := by
      rw [List.getLast_eq_getElem]
      exact (List.getElem?_eq_some_iff.mp hx').2
    have z := List.dropLast_concat_getLast l
    rw [e, drop_last] at z
    rw [← z, List.reverse_append, z]
    rfl
  | false =>
    have hx' : held[0]? = some x := hx
    cases held with
    | nil => cases hx'
    | cons a t => cases hx'; rfl
theorem rest_loop {h q : Addr} {k : Int} {sm : Bool} {F : List D → MM → Prop} {rt : List D → D → MM → Prop} {bk ct : List D → DS → MM → Prop} : ∀ (n : Nat) (held acc : List Int) (M : MM), held.length = n → Hd h q k sm held M → acc.length + n ≤ 900 →
    (∀ M', Hd h q k sm [] M' → Kp [q] M M' → F ((acc ++ outOf sm held).map D.int) M') →
    wgWh (wTru (wFld [(2, 2)] (wV 0))) (wgSeq (wgYield (wMeth [(2, sHand__put_down)] [] (wV 0) wNil)) wgNil) (n + 1) { nx := fun ys _ M' => F ys M', rt := rt, bk := bk, ct := ct } (acc.map D.int) [some (.raw (.ref h))] M
  | 0, held, acc, M, hn, hd, hl, hF => by
    cases held with
    | cons a t => cases hn
    | nil =>
      unfold wgWh
      refine at_fld (i := 2) (x := .raw (.ref q)) (ins_mut hd.at_) rfl rfl ?_
      refine at_tru (tru_mut hd.ls) ?_
      have z := hF M hd .refl
      have e : acc ++ outOf sm [] = acc := by cases sm <;> simp [outOf]
      rw [e] at z
      exact ifF rfl z
  | n + 1, held, acc, M, hn, hd, hl, hF => by
    unfold wgWh
    refine at_fld (i := 2) (x := .raw (.ref q)) (ins_mut hd.at_) rfl rfl ?_
    refine at_tru (tru_mut hd.ls) ?_
    have ne : held ≠ [] := fun z => by rw [z] at hn; cases hn
    refine ifT (by cases held with | nil => exact absurd rfl ne | cons a t => rfl) ?_
    obtain ⟨x, hx⟩ : ∃ x, held[ix sm held.length]? = some x := by
      have : ix sm held.length < held.length := by unfold ix; split <;> omega
      exact ⟨_, List.getElem?_eq_getElem this⟩
    refine ⟨small_sz (by rw [List.length_map]; omega), 2, _, _, ins_mut hd.at_, rfl, ?_⟩
    refine pd_spec hd hx fun M' hd' kp' => ?_
    have e : (acc.map D.int) ++ [D.int x] = (acc ++ [x]).map D.int := by rw [List.map_append]; rfl
    have il : ix sm held.length < held.length := (List.getElem?_eq_some_iff.mp hx).1
    have z := rest_loop (F := F) (rt := rt) (bk := bk) (ct := ct) n (held.eraseIdx (ix sm held.length)) (acc ++ [x]) M' (by rw [List.length_eraseIdx_of_lt il]; omega) hd' (by rw [List.length_append, List.length_singleton]; omega) fun M2 hd2 kp2 => by
      have z := hF M2 hd2 (kp'.trans kp2)
      rw [out_step hx] at z
      rw [List.append_assoc]
      exact z
    rw [← e] at z
    exact z
theorem rest_spec {h q : Addr} {k : Int} {sm : Bool} {held : List Int} {M : MM} {Q : List D → MM → Prop} (hd : Hd h q k sm held M) (hl : held.length ≤ 900) (hQ : ∀ M', Hd h q k sm [] M' → Kp [q] M M' → Q ((outOf sm held).map D.int) M') : sHand_rest [.raw (.ref h)] M Q :=
  ⟨rfl, held.length + 1, rest_loop held.length held [] M rfl hd (by simpa using hl) hQ⟩
/-- after the rest the hand is empty -/
theorem right_spec {h q lk : Addr} {k : Int} {sm : Bool} {kept : List Int} {M : MM} {Q : D → MM → Prop} {EX : XD → MM → Prop} (hk : HK h q lk k sm kept M) (hl : kept.length ≤ 900) (hQ : ∀ M', Hd h q k sm [] M' → Kp [q] M M' → Q (.bl true) M') :
    s_law_rest_right [.raw (.ref h), .raw (.ref lk), .bl sm] M Q EX := by
  obtain ⟨⟨held, hd, hp, hs⟩, ls, n1, n2, bd⟩ := hk
  have hlen : held.length = kept.length := hp.length_eq
  have bh : Bd held := fun z hz => bd z (hp.mem_iff.mp hz)
  have bo : Bd (outOf sm held) := fun z hz => bh z (by
    cases sm with
    | true => exact List.mem_reverse.mp hz
    | false => exact hz)
  have lo : (outOf sm held).length ≤ 10000 := by
    have : (outOf sm held).length = held.length := by unfold outOf; split <;> simp
    omega
  have fin : (wSeq (wIfS (wOrT (wTst (wOp wNe2 (wB wRepr (wCons (wListG 2 sHand_rest (wV 0)) wNil)) (wB wRepr (wCons (wV 3) wNil)))) (wTst (wOp wNe2 (wB wRepr (wCons (wProp [(2, sHand_held)] (wV 0)) wNil)) (wC (.str "()"))))) (wRet (wC (.bl false))) wNext)
      (wRet (wOp wEq2 (wListG 2 sHand_rest (wV 0)) (wLst wNil)))) { nx := fun _ M' => Q .non M', rt := Q } (fun xd _ M' => EX xd M') [some (.raw (.ref h)), some (.raw (.ref lk)), some (.bl sm), some (.lst ((outOf sm held).map D.int))] M := by
    refine ⟨_, ins_mut hd.at_, rest_spec hd (by omega) fun M1 hd1 kp1 => ?_⟩
    refine at_repr py_lst (sho_list bo lo) ?_
    refine at_repr py_lst (sho_list bo lo) ?_
    refine ⟨_, rfl, ?_⟩
    rw [decide_eq_true rfl]
    refine ifF rfl ?_
    refine ⟨2, _, _, ins_mut hd1.at_, rfl, held_spec hd1 ?_⟩
    refine at_repr (py_tup (ns := [])) (sho_tuple (fun _ z => nomatch z) (Nat.zero_le _)) ?_
    refine ⟨_, rfl, ?_⟩
    rw [decide_eq_true (by decide +kernel)]
    refine ifF rfl ?_
    refine ⟨_, ins_mut hd1.at_, rest_spec hd1 (Nat.zero_le _) fun M2 hd2 kp2 => ?_⟩
    refine ⟨Nat.zero_le _, at_eq (p := .list []) (q := .list []) ?_ rfl (by decide +kernel) (by decide +kernel) ?_⟩
    · have e : outOf sm [] = [] := by cases sm <;> rfl
      rw [e]; exact py_lst (ns := [])
    rw [eqv_nil]
    exact hQ M2 hd2 (kp1.trans kp2)
  refine ⟨rfl, _, rfl, ?_⟩
  cases sm with
  | true =>
    refine ifT rfl ?_
    refine at_sort (lints_mut ls) fun s sp ss => ?_
    have es : s = held := sorted_eq (sp.trans hp.symm) ss hs
    subst es
    refine at_rev rfl ?_
    rw [← List.map_reverse]
    exact fin
  | false =>
    refine ifF rfl ?_
    refine at_sort (lints_mut ls) fun s sp ss => ?_
    have es : s = held := sorted_eq (sp.trans hp.symm) ss hs
    subst es
    exact fin
end My

set_option Elab.async false
set_option linter.all false
set_option maxRecDepth 100000
set_option maxHeartbeats 1000000
namespace My
open PySem PySem.Spec L2 DL
open PyProof.Rows hiding St
theorem within_spec {v lo hi : Int} {M : MM} {Q : D → MM → Prop} {EX : XD → MM → Prop} (h : lo ≤ v ∧ v ≤ hi) (hQ : Q (.bl true) M) : sis_integer_within [.int v, .int lo, .int hi] M Q EX := by
  refine ⟨rfl, rfl, ?_⟩
  refine at_isi (t := .int) (b := true) rfl rfl ⟨_, rfl, ifT rfl ?_⟩
  refine at_isi (t := .int) (b := false) rfl rfl ⟨_, rfl, ⟨_, rfl, ifT rfl ?_⟩⟩
  refine ⟨_, rfl, ?_⟩
  rw [decide_eq_true h.1]
  refine ifT rfl ?_
  show Q (.bl (decide (v ≤ hi))) M
  rw [decide_eq_true h.2]
  exact hQ
theorem init_spec {p : Addr} {k : Int} {sm : Bool} {M : MM} {Q : D → MM → Prop} {EX : XD → MM → Prop} (hp : M p = some (.ins 2 [])) (hk : 1 ≤ k ∧ k ≤ 20) (hQ : ∀ q M', M q = none → Hd p q k sm [] M' → Kp [p] M M' → Q .non M') : sHand_init [.raw (.ref p), .int k, .bl sm] M Q EX := by
  refine ⟨rfl, within_spec hk ⟨_, rfl, ifF rfl ?_⟩⟩
  refine at_fldNew (i := 0) hp rfl rfl ?_
  have k1 : Kp [p] M (updM M p (.ins 2 ([] ++ [.int k]))) := kp_upd (by simp)
  refine at_fldNew (i := 1) (fs := [.int k]) updM_same rfl rfl ?_
  have k2 : Kp [p] M (updM (updM M p (.ins 2 ([] ++ [.int k]))) p (.ins 2 ([.int k] ++ [.bl sm]))) := k1.trans (kp_upd (by simp))
  refine ⟨Nat.zero_le _, fun q hq => ?_⟩
  have npq : q ≠ p := fun z => by rw [z, updM_same] at hq; cases hq
  refine at_fldNew (i := 2) (fs := [.int k, .bl sm]) (by rw [updM_ne npq.symm]; exact updM_same) rfl rfl ?_
  exact hQ q _ (k2.none hq) ⟨updM_same, by rw [updM_ne npq]; exact updM_same, npq.symm⟩ ((k2.trans (kp_new hq)).trans (kp_upd (by simp)))
theorem folded_spec {ns : List Int} {M : MM} {Q : D → MM → Prop} {EX : XD → MM → Prop} (hl : ns.length ≤ 63) (hQ : ∀ (cs : List Int) M', cs.length = 64 → (∀ c ∈ cs, 0 ≤ c ∧ c < 2147483647) → Kp [] M M' → Q (.lst (cs.map D.int)) M') : s_law_folded [.frl (ns.map D.int)] M Q EX := by
  refine ⟨rfl, ?_⟩
  refine ⟨⟨by decide, by decide⟩, ?_⟩
  refine lc_inv (fun i acc M' => M' = M ∧ ∃ cs : List Int, acc = cs.map D.int ∧ cs.length = i ∧ i ≤ 64 ∧ ∀ c ∈ cs, 0 ≤ c ∧ c < 2147483647) ⟨rfl, [], rfl, rfl, by decide, fun _ z => nomatch z⟩ (fun _ _ _ _ => trivial) ?_ ?_
  · rintro i d acc M' hi ⟨rfl, cs, rfl, hc, hi64, hb⟩
    obtain ⟨hn, rfl⟩ := rngL_get hi
    refine ⟨_, rfl, fun nx hn' => ?_⟩
    refine ⟨small_sz (by rw [List.length_map]; omega), ?_⟩
    refine hn' _ _ ⟨rfl, cs ++ [(17 : Int) + (0 + ((i : Nat) : Int))], by rw [List.map_append]; rfl, by rw [List.length_append, hc]; rfl, by have : (64 : Int).toNat = 64 := rfl; omega, fun c hc' => ?_⟩
    rcases List.mem_append.mp hc' with z | z
    · exact hb c z
    · rw [List.mem_singleton.mp z]
      have : (64 : Int).toNat = 64 := rfl
      omega
  rintro acc M' ⟨rfl, cs, rfl, hc, _, hb⟩
  intro p hp
  have hc64 : cs.length = 64 := by rw [hc]; exact rngL_len 0 64
  refine at_enumF ?_
  refine loop_inv (fun i δ M1 => ∃ (ds : List Int) (d2 d3 d4 : Option D), δ = [some (.frl (ns.map D.int)), some (.raw (.ref p)), d2, d3, d4] ∧ M1 p = some (.lst (ds.map D.int)) ∧ ds.length = 64 ∧ (∀ c ∈ ds, 0 ≤ c ∧ c < 2147483647) ∧ ∀ b, b ≠ p → M1 b = M' b)
    ⟨cs, none, none, none, rfl, updM_same, hc64, hb, fun b nb => updM_ne nb⟩ (fun _ _ _ _ => True.intro) ?_ ?_
  · rintro i d δ M1 hi ⟨ds, d2, d3, d4, rfl, a1, dl, db, fr⟩
    obtain ⟨d1, e1, rfl⟩ := enumL_get hi
    obtain ⟨x, hx, rfl⟩ : ∃ x, ns[i]? = some x ∧ d1 = .int x := by
      rw [List.getElem?_map] at e1
      cases e : ns[i]? with
      | none => rw [e] at e1; cases e1
      | some x => rw [e] at e1; exact ⟨x, rfl, (Option.some.inj e1).symm⟩
    have li : i < ns.length := (List.getElem?_eq_some_iff.mp hx).1
    refine ⟨_, rfl, fun nx hn' => ?_⟩
    refine ⟨(show (0 : Int) < 64 by decide), ?_⟩
    have r0 : 0 ≤ (((0 + i : Nat) : Int) % 64) := Int.emod_nonneg _ (by decide)
    have r1 : (((0 + i : Nat) : Int) % 64) < 64 := Int.emod_lt_of_pos _ (by decide)
    obtain ⟨j, ej⟩ : ∃ j : Nat, j = (((0 + i : Nat) : Int) % 64).toNat := ⟨_, rfl⟩
    obtain ⟨c, hc'⟩ : ∃ c, ds[j]? = some c := ⟨_, List.getElem?_eq_getElem (by omega)⟩
    have bc := db c (List.mem_of_getElem? hc')
    refine at_ix (d := .int c) (seq_mut a1) ?_ ?_
    · rw [atD_nat r0 (by rw [List.length_map]; omega), ← ej, List.getElem?_map, hc']; rfl
    refine ⟨cm1 (by omega), (show (0 : Int) < 2147483647 by decide), ?_⟩
    refine at_putL (j := j) a1 ?_ ?_
    · rw [ixN_nat r0 (by rw [List.length_map]; omega), ← ej]
    refine hn' _ _ ⟨ds.set j ((c * 48271 + x) % 2147483647), _, _, _, rfl, ?_, by rw [List.length_set]; exact dl, fun z hz => ?_, fun b nb => by rw [updM_ne nb]; exact fr b nb⟩
    · rw [updM_same, List.map_set]
    · rcases List.mem_or_eq_of_mem_set hz with z1 | z1
      · exact db z z1
      · rw [z1]; exact ⟨Int.emod_nonneg _ (by decide), Int.emod_lt_of_pos _ (by decide)⟩
  rintro δ M1 ⟨ds, d2, d3, d4, rfl, a1, dl, db, fr⟩
  refine ⟨⟨by decide, by decide, by decide, by decide⟩, ?_⟩
  refine loop_inv (fun i δ M1 => ∃ (ds : List Int) (d2 d3 d4 : Option D), δ = [some (.frl (ns.map D.int)), some (.raw (.ref p)), d2, d3, d4] ∧ M1 p = some (.lst (ds.map D.int)) ∧ ds.length = 64 ∧ (∀ c ∈ ds, 0 ≤ c ∧ c < 2147483647) ∧ ∀ b, b ≠ p → M1 b = M' b)
    ⟨ds, d2, d3, d4, rfl, a1, dl, db, fr⟩ (fun _ _ _ _ => trivial) ?_ ?_
  · rintro i d δ M1 hi ⟨ds, d2, d3, d4, rfl, a1, dl, db, fr⟩
    obtain ⟨hn, rfl⟩ := rngL_get hi
    have hn' : i < 63 := hn
    refine ⟨_, rfl, fun nx hnx => ?_⟩
    obtain ⟨c, hc'⟩ : ∃ c, ds[1 + i]? = some c := ⟨_, List.getElem?_eq_getElem (by omega)⟩
    obtain ⟨c2, hc2⟩ : ∃ c, ds[i]? = some c := ⟨_, List.getElem?_eq_getElem (by omega)⟩
    have bc := db c (List.mem_of_getElem? hc')
    have bc2 := db c2 (List.mem_of_getElem? hc2)
    refine at_ix (d := .int c) (seq_mut a1) ?_ ?_
    · rw [atD_nat (by omega) (by rw [List.length_map]; omega), (show ((1 : Int) + (i : Nat)).toNat = 1 + i by omega), List.getElem?_map, hc']; rfl
    refine at_ix (d := .int c2) (seq_mut a1) ?_ ?_
    · rw [atD_nat (by omega) (by rw [List.length_map]; omega), (show ((1 : Int) + (i : Nat) - 1).toNat = i by omega), List.getElem?_map, hc2]; rfl
    refine ⟨cm1 (by omega), (show (0 : Int) < 2147483647 by decide), ?_⟩
    refine at_putL (j := 1 + i) a1 ?_ ?_
    · rw [ixN_nat (by omega) (by rw [List.length_map]; omega), (show ((1 : Int) + (i : Nat)).toNat = 1 + i by omega)]
    refine hnx _ _ ⟨ds.set (1 + i) ((c + c2 * 16807) % 2147483647), _, _, _, rfl, ?_, by rw [List.length_set]; exact dl, fun z hz => ?_, fun b nb => by rw [updM_ne nb]; exact fr b nb⟩
    · rw [updM_same, List.map_set]
    · rcases List.mem_or_eq_of_mem_set hz with z1 | z1
      · exact db z z1
      · rw [z1]; exact ⟨Int.emod_nonneg _ (by decide), Int.emod_lt_of_pos _ (by decide)⟩
  rintro δ M1 ⟨ds, d2, d3, d4, rfl, a1, dl, db, fr⟩
  refine at_frz a1 ?_
  refine hQ ds _ dl db fun b hb => ?_
  have nb : b ≠ p := fun z => hb (z ▸ hp)
  have e : delM M1 p b = M' b := by unfold delM; rw [if_neg nb]; exact fr b nb
  exact ⟨by rw [e]; exact hb, fun _ => e⟩
end My

set_option Elab.async false
set_option linter.all false
set_option maxRecDepth 100000
set_option maxHeartbeats 1000000
namespace My
open PySem PySem.Spec L2 DL
open PyProof.Rows hiding St
theorem at_iterR {Q : IT → MM → Prop} {M : MM} {ds : List D} (q : Q { items := ds } M) : kiS Q (.frl ds) M := by
  unfold kiS; exact q
theorem begun_spec {ns : List Int} {M : MM} {Q : D → MM → Prop} {EX : XD → MM → Prop} (hl : ns.length ≤ 63) (hQ : ∀ m g M', Dr m g 100000 M' → M m = none → M g = none → Kp [] M M' → Q (.raw (.ref m)) M') : s_law_begun [.frl (ns.map D.int)] M Q EX := by
  refine ⟨rfl, ?_⟩
  refine folded_spec hl fun cs M1 hc hb kp1 => ?_
  refine ⟨Nat.zero_le _, fun g0 hg0 => ⟨rfl, (show 3 ≤ 15 by decide), fun m hm => ?_⟩⟩
  have nm : m ≠ g0 := fun z => by rw [z, updM_same] at hm; cases hm
  have hm1 : M1 m = none := by rw [updM_ne nm] at hm; exact hm
  refine at_iterR ?_
  obtain ⟨M2, eM2⟩ : ∃ M2, M2 = updM (updM M1 g0 (.lst [])) m (.dct [(.inr "cells", .lst (cs.map D.int)), (.inr "great", .raw (.ref g0)), (.inr "spot", .int 0)]) := ⟨_, rfl⟩
  have a2 : M2 m = some (.dct (dEnt cs g0 0)) := by rw [eM2]; exact updM_same
  have kp2 : Kp [] M M2 := (kp1.trans (kp_new hg0)).trans (by rw [eM2]; exact kp_new hm)
  show wLcL _ _ _ _ _ _ _ _ (updM (updM M1 g0 (.lst [])) m (.dct [(.inr "cells", .lst (cs.map D.int)), (.inr "great", .raw (.ref g0)), (.inr "spot", .int 0)]))
  rw [← eM2]
  refine lc_inv (fun i acc M' => M' = M2 ∧ ∃ gs : List Int, acc = gs.map D.int ∧ gs.length = i ∧ i ≤ ns.length) ⟨rfl, [], rfl, rfl, Nat.zero_le _⟩ (fun _ _ _ _ => trivial) ?_ ?_
  · rintro i d acc M' hi ⟨rfl, gs, rfl, hg, hi2⟩
    obtain ⟨x, hx, rfl⟩ : ∃ x, ns[i]? = some x ∧ d = .int x := by
      rw [List.getElem?_map] at hi
      cases e : ns[i]? with
      | none => rw [e] at hi; cases hi
      | some x => rw [e] at hi; exact ⟨x, rfl, (Option.some.inj hi).symm⟩
    have li : i < ns.length := (List.getElem?_eq_some_iff.mp hx).1
    refine ⟨_, rfl, fun nx hn => ?_⟩
    have fin : ∀ z : Int, (gs.map D.int).length < sizeLine ∧ nx (gs.map D.int ++ [.int z]) M' := fun z => ⟨small_sz (by rw [List.length_map]; omega), hn _ _ ⟨rfl, gs ++ [z], by rw [List.map_append]; rfl, by rw [List.length_append, hg]; rfl, li⟩⟩
    refine ⟨⟨by decide, by decide⟩, _, rfl, if2 (fun _ => fin x) fun _ => fin 0⟩
  rintro acc M' ⟨rfl, gs, rfl, hg, hi2⟩
  intro g hg'
  have hgl : gs.length ≤ 63 := by
    have e : gs.length = ns.length := hg.trans (List.length_map ..)
    omega
  have ngm : m ≠ g := fun z => by rw [← z, a2] at hg'; cases hg'
  refine at_dput (k := .inr "great") (i := .str "great") (kvs := dEnt cs g0 0) (by rw [updM_ne ngm]; exact a2) rfl (small_sz (show 3 ≤ 1000000 by decide)) ?_
  refine hQ m g _ ⟨⟨cs, gs, 0, updM_same, ?_, hc, hb, hgl, by decide, by decide⟩, ngm⟩ (kp1.none hm1) (kp2.none hg') ?_
  · rw [updM_ne ngm.symm]; exact updM_same
  · have k3 : Kp [m] M (updM (updM M' g (.lst (gs.map D.int))) m (.dct (putD (dEnt cs g0 0) (.inr "great") (.raw (.ref g))))) := ((kp2.trans (kp_new hg')).mono (by simp)).trans (kp_upd (by simp))
    exact Kp.drop (kp1.none hm1) .refl k3
theorem Dr.le {m g : Addr} {a b : Nat} {M : MM} (h : Dr m g a M) (l : b ≤ a) : Dr m g b M := by
  obtain ⟨⟨cs, gs, n, e1, e2, lc, bc, lg, n0, nf⟩, ne⟩ := h
  exact ⟨⟨cs, gs, n, e1, e2, lc, bc, lg, n0, by omega⟩, ne⟩
theorem lc_draws {we : WE} {δ0 : DS} {m g : Addr} {j f n : Nat} {M2 : MM} {fin : List D → MM → Prop} (hn : n ≤ 100000) (dr : Dr m g (f + n) M2)
    (hw : ∀ (i f' : Nat) (M' : MM), i < n → Dr m g (f' + 1) M' → ∀ nx : D → MM → Prop, (∀ (z : Int) M'', -(2 ^ 100) < z ∧ z < 2 ^ 100 → Dr m g f' M'' → Sm m g M' M'' → nx (.int z) M'') → we (δ0.set j (some (.int (0 + ((i : Nat) : Int))))) M' nx noX)
    (hfin : ∀ (xs : List Int) M', xs.length = n → Bd xs → Dr m g f M' → Sm m g M2 M' → fin (xs.map D.int) M') : wLcL none (bNm j) wYes we δ0 fin (rngL 0 n) [] M2 := by
  refine lc_inv (fun i acc M' => ∃ xs : List Int, acc = xs.map D.int ∧ xs.length = i ∧ i ≤ n ∧ Bd xs ∧ Dr m g (f + (n - i)) M' ∧ Sm m g M2 M') ⟨[], rfl, rfl, Nat.zero_le _, fun _ z => (nomatch z), dr, .refl⟩ (fun _ _ _ _ => True.intro) ?_ ?_
  · rintro i d acc M' hi ⟨xs, rfl, hx, hi2, hb, dr', sm⟩
    obtain ⟨hi3, rfl⟩ := rngL_get hi
    refine ⟨_, rfl, fun nx hnx => ?_⟩
    refine hw i (f + (n - (i + 1))) M' hi3 (dr'.le (by omega)) _ fun z M'' hz dr2 sm2 => ?_
    exact ⟨small_sz (by rw [List.length_map]; omega), hnx _ _ ⟨xs ++ [z], by rw [List.map_append]; rfl, by rw [List.length_append, hx]; rfl, hi3, bd_app hb hz, dr2, sm.trans sm2⟩⟩
  · rintro acc M' ⟨xs, rfl, hx, hi2, hb, dr', sm⟩
    rw [rngL_len] at hx hi2 dr'
    exact hfin xs M' hx hb (dr'.le (by omega)) sm
theorem some_spec {m g : Addr} {f : Nat} {M : MM} {Q : D → MM → Prop} {EX : XD → MM → Prop} (hd : Dr m g (f + 40) M) (hQ : ∀ (xs : List Int) M', xs.length ≤ 30 → Bd xs → Dr m g f M' → Sm m g M M' → Q (.lst (xs.map D.int)) M') : s_law_some [.raw (.ref m)] M Q EX := by
  refine ⟨rfl, ?_⟩
  refine draw_spec (f := f + 39) hd (by decide) fun way M1 w0 w1 dr1 sm1 => ?_
  refine draw_spec (f := f + 38) dr1 (by decide) fun many M2 m0 m1 dr2 sm2 => ?_
  have fin : ∀ (xs : List Int) M', xs.length = many.toNat → Bd xs → Dr m g f M' → Sm m g M2 M' → Q (.lst (xs.map D.int)) M' := fun xs M' hx hb dr sm => hQ xs M' (by omega) hb dr ((sm1.trans sm2).trans sm)
  have dr3 : Dr m g (f + many.toNat) M2 := dr2.le (by omega)
  have hn : many.toNat ≤ 100000 := by omega
  have rg : -(2 ^ 62) ≤ many ∧ many < 2 ^ 62 := by omega
  refine ⟨_, rfl, ?_⟩
  refine if2 (fun _ => ⟨rg, lc_draws hn dr3 (fun i f' M' hi dr nx hnx => ?_) fin⟩) fun _ => ?_
  · exact draw_spec dr (by decide) fun r M'' r0 r1 dr' sm' => hnx r M'' (by omega) dr' sm'
  refine ⟨_, rfl, ?_⟩
  refine if2 (fun _ => ⟨rg, lc_draws hn dr3 (fun i f' M' hi dr nx hnx => ?_) fin⟩) fun _ => ?_
  · exact draw_spec dr (by decide) fun r M'' r0 r1 dr' sm' => hnx (r - 999) M'' (by omega) dr' sm'
  refine ⟨_, rfl, ?_⟩
  refine if2 (fun _ => ⟨rg, lc_draws hn dr3 (fun i f' M' hi dr nx hnx => ?_) fin⟩) fun _ => ?_
  · exact draw_spec dr (by decide) fun r M'' r0 r1 dr' sm' => hnx (0 + (i : Nat) + r) M'' (by omega) dr' sm'
  refine ⟨rg, lc_draws hn dr3 (fun i f' M' hi dr nx hnx => ?_) fin⟩
  exact draw_spec dr (by decide) fun r M'' r0 r1 dr' sm' => hnx (0 - (0 + (i : Nat)) - r) M'' (by omega) dr' sm'
end My

set_option Elab.async false
set_option linter.all false
set_option maxRecDepth 100000
set_option maxHeartbeats 1000000
namespace My
open PySem PySem.Spec L2 DL
open PyProof.Rows hiding St
theorem at_cutL {Q : D → MM → Prop} {xs : List Int} {lo hi : Option Int} {M : MM} (q : ∀ ys : List Int, ys.length ≤ xs.length → (∀ y ∈ ys, y ∈ xs) → Q (.lst (ys.map D.int)) M) : kCut Q (.lst (xs.map D.int)) lo hi M := by
  unfold kCut
  show Q (.lst (DL.cutD (xs.map D.int) lo hi)) M
  unfold DL.cutD
  rw [← List.map_drop, ← List.map_take]
  refine q _ ?_ fun y hy => List.mem_of_mem_drop (List.mem_of_mem_take hy)
  have h1 := List.length_take_le (HT.sIx (xs.map D.int).length (xs.map D.int).length hi - HT.sIx (xs.map D.int).length 0 lo) (xs.drop (HT.sIx (xs.map D.int).length 0 lo))
  have h2 : (xs.drop (HT.sIx (xs.map D.int).length 0 lo)).length ≤ xs.length := by rw [List.length_drop]; omega
  have h3 := List.length_take_le' (HT.sIx (xs.map D.int).length (xs.map D.int).length hi - HT.sIx (xs.map D.int).length 0 lo) (xs.drop (HT.sIx (xs.map D.int).length 0 lo))
  omega
def Sep (A B : List Addr) : Prop := ∀ a ∈ A, a ∉ B
theorem Sep.symm {A B : List Addr} (h : Sep A B) : Sep B A := fun b hb ha => h b ha hb
def Alv (A : List Addr) (M : MM) : Prop := ∀ a ∈ A, M a ≠ none
theorem sep_new {A : List Addr} {a b q q' : Addr} {M : MM} (al : Alv A M) (s : Sep A [a, q, b]) (hq : q' = q ∨ M q' = none) : Sep A [a, q', b] := fun x hx hm => by
  simp only [List.mem_cons, List.not_mem_nil, or_false] at hm
  have n := s x hx
  simp only [List.mem_cons, List.not_mem_nil, or_false, not_or] at n
  rcases hm with e | e | e
  · exact n.1 e
  · rcases hq with z | z
    · exact n.2.1 (e.trans z)
    · exact al x hx (e ▸ z)
  · exact n.2.2 e
theorem Alv.kp {A S : List Addr} {M M' : MM} (a : Alv A M) (k : Kp S M M') : Alv A M' := fun x hx => (k x (a x hx)).1
theorem Dr.alv {m g : Addr} {f : Nat} {M : MM} (d : Dr m g f M) : Alv [m, g] M := fun x hx => by
  obtain ⟨⟨cs, gs, n, e1, e2, _⟩, _⟩ := d
  simp only [List.mem_cons, List.not_mem_nil, or_false] at hx
  rcases hx with e | e
  · rw [e, e1]; simp
  · rw [e, e2]; simp
theorem Dr.kp {m g : Addr} {f : Nat} {M M' : MM} {S : List Addr} (d : Dr m g f M) (k : Kp S M M') (s : Sep [m, g] S) : Dr m g f M' := by
  obtain ⟨⟨cs, gs, n, e1, e2, h⟩, ne⟩ := d
  exact ⟨⟨cs, gs, n, k.some e1 (s m (by simp)), k.some e2 (s g (by simp)), h⟩, ne⟩
theorem Hd.alv {h q : Addr} {k : Int} {sm : Bool} {held : List Int} {M : MM} (d : Hd h q k sm held M) : Alv [h, q] M := fun x hx => by
  simp only [List.mem_cons, List.not_mem_nil, or_false] at hx
  rcases hx with e | e
  · rw [e, d.at_]; simp
  · rw [e, d.ls]; simp
theorem HK.alv {h q lk : Addr} {k : Int} {sm : Bool} {kept : List Int} {M : MM} (d : HK h q lk k sm kept M) : Alv [h, q, lk] M := fun x hx => by
  obtain ⟨⟨held, hd, _⟩, ls, _⟩ := d
  simp only [List.mem_cons, List.not_mem_nil, or_false] at hx
  rcases hx with e | e | e
  · rw [e, hd.at_]; simp
  · rw [e, hd.ls]; simp
  · rw [e, ls]; simp
theorem HK.kp {h q lk : Addr} {k : Int} {sm : Bool} {kept : List Int} {M M' : MM} {S : List Addr} (d : HK h q lk k sm kept M) (kp : Kp S M M') (s : Sep [h, q, lk] S) : HK h q lk k sm kept M' := by
  obtain ⟨⟨held, hd, h1, h2⟩, ls, n1, n2, bd⟩ := d
  exact ⟨⟨held, hd.kp kp (s h (by simp)) (s q (by simp)), h1, h2⟩, kp.some ls (s lk (by simp)), n1, n2, bd⟩
/-- the draws, the hand with its list, the hand beside with its list -/
structure Lw (m g h q lk h2 q2 lf : Addr) (k : Int) (sm : Bool) (kept farl : List Int) (f : Nat) (M : MM) : Prop where
  dr : Dr m g f M
  ha : HK h q lk k sm kept M
  hb : HK h2 q2 lf k (!sm) farl M
  s1 : Sep [m, g] [h, q, lk]
  s2 : Sep [m, g] [h2, q2, lf]
  s3 : Sep [h, q, lk] [h2, q2, lf]
section
variable {m g h q lk h2 q2 lf q' : Addr} {k : Int} {sm : Bool} {kept farl kept' farl' : List Int} {f f' : Nat} {M M' : MM}
theorem Lw.draw (l : Lw m g h q lk h2 q2 lf k sm kept farl f M) (s : Sm m g M M') (d : Dr m g f' M') : Lw m g h q lk h2 q2 lf k sm kept farl f' M' :=
  ⟨d, l.ha.kp (s.kp d) l.s1.symm, l.hb.kp (s.kp d) l.s2.symm, l.s1, l.s2, l.s3⟩
theorem Lw.hand (l : Lw m g h q lk h2 q2 lf k sm kept farl f M) (d : HK h q' lk k sm kept' M') (hq : q' = q ∨ M q' = none) (kp : Kp [h, q, lk] M M') : Lw m g h q' lk h2 q2 lf k sm kept' farl f M' :=
  ⟨l.dr.kp kp l.s1, d, l.hb.kp kp l.s3.symm, sep_new l.dr.alv l.s1 hq, l.s2, (sep_new l.hb.alv l.s3.symm hq).symm⟩
theorem Lw.beside (l : Lw m g h q lk h2 q2 lf k sm kept farl f M) (d : HK h2 q' lf k (!sm) farl' M') (hq : q' = q2 ∨ M q' = none) (kp : Kp [h2, q2, lf] M M') : Lw m g h q lk h2 q' lf k sm kept farl' f M' :=
  ⟨l.dr.kp kp l.s2, l.ha.kp kp l.s3, d, l.s1, sep_new l.dr.alv l.s2 hq, sep_new l.ha.alv l.s3 hq⟩
end
/-- between two rounds: the hand is empty -/
structure Be (m g h q h2 q2 lf : Addr) (k : Int) (sm : Bool) (farl : List Int) (f : Nat) (M : MM) : Prop where
  dr : Dr m g f M
  ha : Hd h q k sm [] M
  hb : HK h2 q2 lf k (!sm) farl M
  s1 : Sep [m, g] [h, q]
  s2 : Sep [m, g] [h2, q2, lf]
  s3 : Sep [h, q] [h2, q2, lf]
section
variable {m g h q lk h2 q2 lf q' : Addr} {k : Int} {sm : Bool} {kept farl kept' farl' : List Int} {f f' : Nat} {M M' : MM}
theorem not_fresh {A : List Addr} {p : Addr} (a : Alv A M) (hp : M p = none) : p ∉ A := fun z => a p z hp
theorem Be.start (l : Be m g h q h2 q2 lf k sm farl f M) (hp : M lk = none) : Lw m g h q lk h2 q2 lf k sm [] farl f (updM M lk (.lst [])) := by
  have kp : Kp [] M (updM M lk (.lst [])) := kp_new hp
  have n1 := not_fresh l.dr.alv hp
  have n2 := not_fresh l.ha.alv hp
  have n3 := not_fresh l.hb.alv hp
  have e0 : ∀ {A : List Addr}, Sep A [] := fun _ _ z => nomatch z
  simp only [List.mem_cons, List.not_mem_nil, or_false, not_or] at n1 n2 n3
  refine ⟨l.dr.kp kp e0, ⟨⟨[], l.ha.kp kp (nofun) (nofun), .refl _, .nil⟩, updM_same, n2.1, n2.2, nofun⟩, l.hb.kp kp e0, fun a ha hb => ?_, l.s2, fun a ha hb => ?_⟩
  · simp only [List.mem_cons, List.not_mem_nil, or_false] at hb
    rcases hb with e | e | e
    · exact l.s1 a ha (by simp [e])
    · exact l.s1 a ha (by simp [e])
    · subst e
      exact not_fresh l.dr.alv hp ha
  · simp only [List.mem_cons, List.not_mem_nil, or_false] at ha
    rcases ha with e | e | e
    · exact l.s3 a (by simp [e]) hb
    · exact l.s3 a (by simp [e]) hb
    · subst e
      exact not_fresh l.hb.alv hp hb
theorem Lw.stop (l : Lw m g h q lk h2 q2 lf k sm kept farl f M) (d : Hd h q k sm [] M') (kp : Kp [q] M M') : Be m g h q h2 q2 lf k sm farl f M' := by
  have w : ∀ {A : List Addr}, Sep A [h, q, lk] → Sep A [h, q] := fun s a ha hb => s a ha (by simp only [List.mem_cons, List.not_mem_nil, or_false] at hb ⊢; rcases hb with e | e <;> simp [e])
  have w2 : ∀ {A : List Addr}, Sep A [h, q, lk] → Sep A [q] := fun s a ha hb => s a ha (by simp only [List.mem_cons, List.not_mem_nil, or_false] at hb ⊢; simp [hb])
  exact ⟨l.dr.kp kp (w2 l.s1), d, l.hb.kp kp (w2 l.s3.symm), w l.s1, l.s2, (w l.s3.symm).symm⟩
end
end My

set_option Elab.async false
set_option linter.all false
set_option maxRecDepth 100000
set_option maxHeartbeats 1000000
namespace My
open PySem PySem.Spec L2 DL
open PyProof.Rows hiding St
def inner : WS := (wSeq (wPar 7 12 (wCons (wLstM wNil) (wCons (wCall s_law_some [] (wCons (wV 1) wNil)) wNil)))
  (wSeq (wIfS (wNotT (wTst (wCall s_law_given_right [] (wCons (wV 4) (wCons (wV 7) (wCons (wV 8) (wCons (wV 9) (wCons (wCut (wV 12) woN (woS (wC (.int 10)))) wNil)))))))) (wRet (wC (.bl false))) wNext)
  (wSeq (wIfS (wNotT (wTst (wCall s_law_given_right [] (wCons (wV 10) (wCons (wV 11) (wCons (wV 8) (wCons (wNotV (wV 9)) (wCons (wCut (wV 12) woN (woS (wC (.int 3)))) wNil)))))))) (wRet (wC (.bl false))) wNext)
  (wSeq (wIfS (wNotT (wTst (wCall s_law_given_right [] (wCons (wV 4) (wCons (wV 7) (wCons (wV 8) (wCons (wV 9) (wCons (wCut (wV 12) (woS (wC (.int 10))) woN) wNil)))))))) (wRet (wC (.bl false))) wNext)
  (wIfS (wOrT (wNotT (wTst (wCall s_law_rest_right [] (wCons (wV 4) (wCons (wV 7) (wCons (wV 9) wNil)))))) (wTst (wOp wNe2 (wB wRepr (wCons (wProp [(2, sHand_held)] (wV 10)) wNil)) (wB wRepr (wCons (wB wTupOf (wCons (wB wSorted (wCons (wV 11) wNil)) wNil)) wNil))))) (wRet (wC (.bl false))) wNext)))))
theorem inner_spec {m g h q h2 q2 lf : Addr} {k : Int} {sm : Bool} {farl : List Int} {f : Nat} {M : MM} {E : ED} {EX : XK'} {d0 d2 d3 d5 d6 d7 d12 : Option D} (l : Be m g h q h2 q2 lf k sm farl (f + 40) M) (hf : farl.length ≤ 100)
    (hn : ∀ q' q2' farl' M' d7' d12', Be m g h q' h2 q2' lf k sm farl' f M' → farl'.length ≤ farl.length + 30 → E.nx [d0, some (.raw (.ref m)), d2, d3, some (.raw (.ref h)), d5, d6, d7', some (.int k), some (.bl sm), some (.raw (.ref h2)), some (.raw (.ref lf)), d12'] M') :
    inner E EX [d0, some (.raw (.ref m)), d2, d3, some (.raw (.ref h)), d5, d6, d7, some (.int k), some (.bl sm), some (.raw (.ref h2)), some (.raw (.ref lf)), d12] M := by
  refine ⟨Nat.zero_le _, fun lk hlk => ?_⟩
  have l1 := l.start hlk
  refine some_spec l1.dr fun xs M2 hxl hxb dr2 sm2 => ?_
  have l2 := l1.draw sm2 dr2
  refine at_cutL fun ys hyl hym => ?_
  refine given_spec l2.ha (by simp; omega) (fun y hy => hxb y (hym y hy)) fun q3 kept3 M3 hk3 hl3 hq3 kp3 => ?_
  have l3 := l2.hand hk3 hq3 kp3
  refine ⟨_, rfl, ifF rfl ?_⟩
  refine ⟨_, rfl, ?_⟩
  refine at_cutL fun ys2 hyl2 hym2 => ?_
  refine given_spec l3.hb (by omega) (fun y hy => hxb y (hym2 y hy)) fun q4 far4 M4 hk4 hl4 hq4 kp4 => ?_
  have l4 := l3.beside hk4 hq4 kp4
  refine ⟨_, rfl, ifF rfl ?_⟩
  refine at_cutL fun ys3 hyl3 hym3 => ?_
  refine given_spec l4.ha (by simp at hl3; omega) (fun y hy => hxb y (hym3 y hy)) fun q5 kept5 M5 hk5 hl5 hq5 kp5 => ?_
  have l5 := l4.hand hk5 hq5 kp5
  refine ⟨_, rfl, ifF rfl ?_⟩
  refine right_spec l5.ha (by simp at hl3; omega) fun M6 hd6 kp6 => ?_
  have l6 := l5.stop hd6 kp6
  refine ⟨_, rfl, ifF rfl ?_⟩
  obtain ⟨⟨held, hd, hp, hs⟩, ls, n1, n2, bd⟩ := l6.hb
  have bh : Bd held := fun z hz => bd z (hp.mem_iff.mp hz)
  have lh : held.length ≤ 10000 := by rw [hp.length_eq]; omega
  refine ⟨2, _, _, ins_mut hd.at_, rfl, held_spec hd ?_⟩
  refine at_repr py_tup (sho_tuple bh lh) ?_
  refine at_sort (lints_mut ls) fun s sp ss => ?_
  have es : s = held := sorted_eq (sp.trans hp.symm) ss hs
  subst es
  refine at_tupOf rfl ?_
  refine at_repr py_tup (sho_tuple bh lh) ?_
  refine ⟨_, rfl, ?_⟩
  rw [decide_eq_true rfl]
  refine ifF rfl ?_
  exact hn q5 q4 far4 M6 _ _ l6 (by omega)
end My

set_option Elab.async false
set_option linter.all false
set_option maxRecDepth 100000
set_option maxHeartbeats 1000000
namespace My
open PySem PySem.Spec L2 DL
open PyProof.Rows hiding St
def outer : WS := (wSeq (wPar 8 9 (wCons (wOp wPlus (wC (.int 1)) (wCall s_law_draw [] (wCons (wV 1) (wCons (wOp wIx (wLst (wCons (wC (.int 3)) (wCons (wC (.int 6)) (wCons (wC (.int 20)) wNil)))) (wCall s_law_draw [] (wCons (wV 1) (wCons (wC (.int 3)) wNil)))) wNil)))) (wCons (wOp wEq2 (wCall s_law_draw [] (wCons (wV 1) (wCons (wC (.int 2)) wNil))) (wC (.int 1))) wNil)))
  (wSeq (wSet 4 (wIf (wTst (wV 9)) (wMakeK 2 1 1 (fun ds es => ds ++ es) sHand_init (wCons (wV 8) wNil) (wCons (wC (.bl true)) wNil)) (wMake 2 sHand_init [.bl false] (wCons (wV 8) wNil))))
  (wSeq (wPar 10 11 (wCons (wMakeK 2 1 1 (fun ds es => ds ++ es) sHand_init (wCons (wV 8) wNil) (wCons (wNotV (wV 9)) wNil)) (wCons (wLstM wNil) wNil)))
  (wFor (wiR1 (wCons (wC (.int 2)) wNil)) (bNm 5) inner))))
theorem small_le3 : 3 ≤ sizeLine := Nat.le_of_lt (small_sz (by decide))
theorem sep_fresh {A : List Addr} {M : MM} {p q : Addr} (a : Alv A M) (hp : M p = none) (hq : M q = none) : Sep A [p, q] := fun x hx hm => by
  simp only [List.mem_cons, List.not_mem_nil, or_false] at hm
  rcases hm with e | e
  · exact a x hx (e ▸ hp)
  · exact a x hx (e ▸ hq)
theorem sep_nil {A : List Addr} : Sep A [] := fun _ _ z => nomatch z
theorem new_hand {k : Int} {sm : Bool} {M : MM} {Q : D → MM → Prop} {EX : XD → MM → Prop} (hk : 1 ≤ k ∧ k ≤ 20) (hQ : ∀ p q M', M p = none → M q = none → Hd p q k sm [] M' → Kp [] M M' → Q (.raw (.ref p)) M') :
    ∀ p, M p = none → sHand_init [.raw (.ref p), .int k, .bl sm] (updM M p (.ins 2 [])) (fun d M2 => d = .non ∧ Q (.raw (.ref p)) M2) EX := by
  intro p hp
  refine init_spec updM_same hk fun q M' hq hd kp => ⟨rfl, ?_⟩
  have npq : q ≠ p := fun z => by rw [z, updM_same] at hq; cases hq
  have hq0 : M q = none := by rw [updM_ne npq] at hq; exact hq
  exact hQ p q M' hp hq0 hd (Kp.drop hp .refl (((kp_new hp : Kp [p] M _)).trans kp))
theorem makeK_spec {wa wk : WA} {δ : DS} {M : MM} {Q : D → MM → Prop} {EX : XK'} {k : Int} {sm : Bool} (hk : 1 ≤ k ∧ k ≤ 20) (ha : ∀ R : List D → MM → Prop, R [.int k] M → wa δ M R EX) (hw : ∀ R : List D → MM → Prop, R [.bl sm] M → wk δ M R EX)
    (hQ : ∀ p q M', M p = none → M q = none → Hd p q k sm [] M' → Kp [] M M' → Q (.raw (.ref p)) M') : wMakeK 2 1 1 (fun ds es => ds ++ es) sHand_init wa wk δ M Q EX :=
  ha _ (hw _ ⟨rfl, rfl, new_hand (Q := Q) hk hQ⟩)
theorem make_spec {wa : WA} {δ : DS} {M : MM} {Q : D → MM → Prop} {EX : XK'} {k : Int} (hk : 1 ≤ k ∧ k ≤ 20) (ha : ∀ R : List D → MM → Prop, R [.int k] M → wa δ M R EX)
    (hQ : ∀ p q M', M p = none → M q = none → Hd p q k false [] M' → Kp [] M M' → Q (.raw (.ref p)) M') : wMake 2 sHand_init [.bl false] wa δ M Q EX :=
  ha _ (new_hand (Q := Q) hk hQ)
theorem seq_par {i j : Nat} {wa wb : WE} {B : WS} {E : ED} {EX : XK'} {δ : DS} {M : MM} (h : wa δ M (fun a M1 => wb δ M1 (fun b M2 => B E EX ((δ.set i (some a)).set j (some b)) M2) EX) EX) : wSeq (wPar i j (wCons wa (wCons wb wNil))) B E EX δ M := h
theorem seq_set {i : Nat} {wa : WE} {B : WS} {E : ED} {EX : XK'} {δ : DS} {M : MM} (h : wa δ M (fun a M1 => B E EX (δ.set i (some a)) M1) EX) : wSeq (wSet i wa) B E EX δ M := h
theorem for_r1 {n : Int} {j : Nat} {wb : WS} {E : ED} {EX : XK'} {δ : DS} {M : MM} (hn : -(2 ^ 62) ≤ n ∧ n < 2 ^ 62) (h : wLoop none (bNm j) wb (rngL 0 n.toNat) E EX δ M) : wFor (wiR1 (wCons (wC (.int n)) wNil)) (bNm j) wb E EX δ M := ⟨hn, h⟩
theorem Be.dn {m g h q h2 q2 lf : Addr} {k : Int} {sm : Bool} {farl : List Int} {f f' : Nat} {M : MM} (l : Be m g h q h2 q2 lf k sm farl f M) (hl : f' ≤ f) : Be m g h q h2 q2 lf k sm farl f' M := ⟨l.dr.le hl, l.ha, l.hb, l.s1, l.s2, l.s3⟩
theorem outer_spec {m g : Addr} {f : Nat} {M : MM} {E : ED} {EX : XK'} {d0 d2 d3 d4 d5 d6 d7 d8 d9 d10 d11 d12 : Option D} (dr : Dr m g (f + 100) M)
    (hn : ∀ M' d4 d5 d7 d8 d9 d10 d11 d12, Dr m g f M' → E.nx [d0, some (.raw (.ref m)), d2, d3, d4, d5, d6, d7, d8, d9, d10, d11, d12] M') :
    outer E EX [d0, some (.raw (.ref m)), d2, d3, d4, d5, d6, d7, d8, d9, d10, d11, d12] M := by
  refine ⟨small_le3, ?_⟩
  refine draw_spec (f := f + 99) dr (by decide) fun r M1 r0 r1 dr1 sm1 => ?_
  obtain ⟨t, et, ht⟩ : ∃ t : Int, atD [.int 3, .int 6, .int 20] r = some (.int t) ∧ 0 < t ∧ t ≤ 20 := by
    have : r = 0 ∨ r = 1 ∨ r = 2 := by omega
    rcases this with e | e | e <;> subst e
    · exact ⟨3, rfl, by decide⟩
    · exact ⟨6, rfl, by decide⟩
    · exact ⟨20, rfl, by decide⟩
  refine at_ix (xs := [.int 3, .int 6, .int 20]) rfl et ?_
  refine draw_spec (f := f + 98) dr1 (by omega) fun r2 M2 r20 r21 dr2 sm2 => ?_
  refine draw_spec (f := f + 97) dr2 (by decide) fun r3 M3 r30 r31 dr3 sm3 => ?_
  obtain ⟨k, ek⟩ : ∃ k : Int, k = 1 + r2 := ⟨_, rfl⟩
  have hk : 1 ≤ k ∧ k ≤ 20 := by omega
  obtain ⟨sm, esm⟩ : ∃ sm : Bool, sm = decide (r3 = 1) := ⟨_, rfl⟩
  have rest : ∀ h q M4, M3 h = none → M3 q = none → Hd h q k sm [] M4 → Kp [] M3 M4 →
      (wSeq (wPar 10 11 (wCons (wMakeK 2 1 1 (fun ds es => ds ++ es) sHand_init (wCons (wV 8) wNil) (wCons (wNotV (wV 9)) wNil)) (wCons (wLstM wNil) wNil)))
        (wFor (wiR1 (wCons (wC (.int 2)) wNil)) (bNm 5) inner)) E EX [d0, some (.raw (.ref m)), d2, d3, some (.raw (.ref h)), d5, d6, d7, some (.int k), some (.bl sm), d10, d11, d12] M4 := by
    intro h q M4 hh hq hd kp4
    have dr4 := dr3.kp kp4 sep_nil
    have s1 : Sep [m, g] [h, q] := sep_fresh dr3.alv hh hq
    refine seq_par (makeK_spec hk (fun R h => h) (fun R h => ⟨sm, rfl, h⟩) fun h2 q2 M5 hh2 hq2 hd2 kp5 => ?_)
    have dr5 := dr4.kp kp5 sep_nil
    have hd5 := hd.kp kp5 (by simp) (by simp)
    refine ⟨Nat.zero_le _, fun lf hlf => ?_⟩
    have kp6 : Kp [] M5 (updM M5 lf (.lst [])) := kp_new hlf
    have n1 := not_fresh hd2.alv hlf
    simp only [List.mem_cons, List.not_mem_nil, or_false, not_or] at n1
    have be : Be m g h q h2 q2 lf k sm [] (f + 97) (updM M5 lf (.lst [])) := by
      refine ⟨dr5.kp kp6 sep_nil, hd5.kp kp6 (by simp) (by simp), ⟨⟨[], hd2.kp kp6 (by simp) (by simp), .refl _, .nil⟩, updM_same, n1.1, n1.2, nofun⟩, s1, fun a ha hb => ?_, fun a ha hb => ?_⟩
      · simp only [List.mem_cons, List.not_mem_nil, or_false] at hb
        rcases hb with e | e | e
        · exact dr4.alv a ha (e ▸ hh2)
        · exact dr4.alv a ha (e ▸ hq2)
        · exact dr5.alv a ha (e ▸ hlf)
      · simp only [List.mem_cons, List.not_mem_nil, or_false] at hb
        rcases hb with e | e | e
        · exact hd.alv a ha (e ▸ hh2)
        · exact hd.alv a ha (e ▸ hq2)
        · exact hd5.alv a ha (e ▸ hlf)
    refine for_r1 ⟨by decide, by decide⟩ ?_
    refine loop_inv (fun i δ M' => ∃ q' q2' farl d5 d7 d12, δ = [d0, some (.raw (.ref m)), d2, d3, some (.raw (.ref h)), d5, d6, d7, some (.int k), some (.bl sm), some (.raw (.ref h2)), some (.raw (.ref lf)), d12] ∧ Be m g h q' h2 q2' lf k sm farl (f + 40 * (2 - i)) M' ∧ farl.length ≤ 30 * i ∧ i ≤ 2)
      ⟨q, q2, [], d5, d7, d12, rfl, be.dn (by omega), Nat.zero_le _, by decide⟩ (fun _ _ _ _ => True.intro) ?_ ?_
    · rintro i d δ M' hi ⟨q', q2', farl, d5, d7, d12, rfl, be', hf, hi2⟩
      obtain ⟨hi3, rfl⟩ := rngL_get hi
      have hi4 : i < 2 := hi3
      refine ⟨_, rfl, fun nx hnx => ?_⟩
      refine inner_spec (f := f + 40 * (2 - (i + 1))) (be'.dn (by omega)) (by omega) fun q3 q4 farl' M6 d7' d12' be6 hf6 => ?_
      exact hnx _ _ ⟨q3, q4, farl', _, d7', d12', rfl, be6, by omega, by omega⟩
    · rintro δ M' ⟨q', q2', farl, d5, d7, d12, rfl, be', hf, hi2⟩
      exact hn M' _ _ _ _ _ _ _ _ (be'.dr.le (by omega))
  have mid : (wSeq (wSet 4 (wIf (wTst (wV 9)) (wMakeK 2 1 1 (fun ds es => ds ++ es) sHand_init (wCons (wV 8) wNil) (wCons (wC (.bl true)) wNil)) (wMake 2 sHand_init [.bl false] (wCons (wV 8) wNil))))
      (wSeq (wPar 10 11 (wCons (wMakeK 2 1 1 (fun ds es => ds ++ es) sHand_init (wCons (wV 8) wNil) (wCons (wNotV (wV 9)) wNil)) (wCons (wLstM wNil) wNil)))
        (wFor (wiR1 (wCons (wC (.int 2)) wNil)) (bNm 5) inner))) E EX [d0, some (.raw (.ref m)), d2, d3, d4, d5, d6, d7, some (.int (1 + r2)), some (.bl (decide (r3 = 1))), d10, d11, d12] M3 := by
    rw [← ek, ← esm]
    refine seq_set ⟨_, rfl, ?_⟩
    cases sm with
    | true => exact ifT rfl (makeK_spec hk (fun R h => h) (fun R h => h) fun h q M4 hh hq hd kp => rest h q M4 hh hq hd kp)
    | false => exact ifF rfl (make_spec hk (fun R h => h) fun h q M4 hh hq hd kp => rest h q M4 hh hq hd kp)
  exact mid
end My

set_option Elab.async false
set_option linter.all false
set_option maxRecDepth 100000
set_option maxHeartbeats 1000000
namespace My
open PySem PySem.Spec L2 DL
open PyProof.Rows hiding St
theorem new_kept {h q lk : Addr} {k : Int} {sm : Bool} {M : MM} (d : Hd h q k sm [] M) (hp : M lk = none) : HK h q lk k sm [] (updM M lk (.lst [])) := by
  have n1 := not_fresh d.alv hp
  simp only [List.mem_cons, List.not_mem_nil, or_false, not_or] at n1
  exact ⟨⟨[], d.kp (kp_new hp : Kp [] M _) (by simp) (by simp), .refl _, .nil⟩, updM_same, n1.1, n1.2, nofun⟩
/-- the greatest twenty of the first i numbers -/
def win (i : Nat) : List Int := ((List.range i).drop (i - 20)).map Int.ofNat
theorem win_facts : ∀ i, i < 25 → (win i ++ [(i : Int)]).Pairwise (· < ·) ∧ ((win i ++ [(i : Int)]).length ≤ 20 → win i ++ [(i : Int)] = win (i + 1)) ∧ (20 < (win i ++ [(i : Int)]).length → (win i ++ [(i : Int)]).eraseIdx 0 = win (i + 1)) := by decide +kernel
theorem least_first {l : List Int} {m : Int} {j : Nat} (h : l.Pairwise (· < ·)) (hj : l[j]? = some m) (hb : ∀ z ∈ l, m ≤ z) : j = 0 := by
  cases j with
  | zero => rfl
  | succ j =>
    obtain ⟨h1, e1⟩ := List.getElem?_eq_some_iff.mp hj
    have z := List.pairwise_iff_getElem.mp h 0 (j + 1) (by omega) h1 (by omega)
    have z2 := hb l[0] (List.getElem_mem ..)
    omega
theorem win_step {i : Nat} {x : Int} {a b : List Int} (ha : a = win i) (hx : ((List.range 25).map Int.ofNat)[i]? = some x) (h : Nx 20 false a x b) : b = win (i + 1) := by
  subst ha
  have li : i < 25 := by
    have z := (List.getElem?_eq_some_iff.mp hx).1
    simpa using z
  have ex : x = (i : Int) := by
    rw [List.getElem?_map, List.getElem?_range li] at hx
    exact (Option.some.inj hx).symm
  subst ex
  obtain ⟨f1, f2, f3⟩ := win_facts i li
  rcases h with ⟨h1, h2⟩ | ⟨h1, m, j, hj, hb, h2⟩
  · rw [h2]; exact f2 (by omega)
  · have e := least_first f1 hj (fun z hz => by simpa using hb z hz)
    subst e
    rw [h2]; exact f3 (by omega)
def tail2 : WS := (wSeq (wSet 3 (wMake 2 sHand_init [.bl false] (wCons (wC (.int 20)) wNil)))
  (wRet (wAndV (wCall s_law_given_right [] (wCons (wV 3) (wCons (wLstM wNil) (wCons (wC (.int 20)) (wCons (wC (.bl false)) (wCons (wLRg (wCons (wC (.int 25)) wNil)) wNil)))))) (wOp wEq2 (wListG 2 sHand_rest (wV 3)) (wLRg (wCons (wC (.int 5)) (wCons (wC (.int 25)) wNil)))))))
def tail : WS := (wSeq (wPar 6 7 (wCons (wMakeK 2 1 1 (fun ds es => ds ++ es) sHand_init (wCons (wC (.int 2)) wNil) (wCons (wC (.bl true)) wNil)) (wCons (wLstM wNil) wNil)))
  (wSeq (wIfS (wNotT (wTst (wCall s_law_given_right [] (wCons (wV 6) (wCons (wV 7) (wCons (wC (.int 2)) (wCons (wC (.bl true)) (wCons (wLst (wCons (wOp wPlus (wOp wPow (wC (.int 10)) (wC (.int 29))) (wC (.int 7))) (wCons (wOp wSub (wC (.int 0)) (wOp wPow (wC (.int 10)) (wC (.int 29)))) (wCons (wOp wPlus (wOp wPow (wC (.int 10)) (wC (.int 29))) (wC (.int 8))) (wCons (wNeg (wC (.int 1000))) (wCons (wC (.int 1000)) (wCons (wOp wPow (wC (.int 10)) (wC (.int 29))) wNil))))))) wNil)))))))) (wRet (wC (.bl false))) wNext)
  (tail2)))
abbrev wides : List Int := [10 ^ (29 : Int).toNat + 7, 0 - 10 ^ (29 : Int).toNat, 10 ^ (29 : Int).toNat + 8, -1000, 1000, 10 ^ (29 : Int).toNat]
theorem wides_bd : Bd wides := by decide +kernel
theorem cp29 : CPow 10 29 := ⟨by decide, by decide, by decide⟩
theorem six_le : 6 ≤ sizeLine := Nat.le_of_lt (small_sz (by decide))
theorem win_bd : Bd ((List.range 25).map Int.ofNat) := by decide +kernel
theorem win_sorted : (win 25).Pairwise (· ≤ ·) := by decide +kernel
theorem rg_win : rgD 0 25 = ((List.range 25).map Int.ofNat).map D.int := by rfl
theorem rg_end : rgD 5 25 = (win 25).map D.int := by rfl
theorem eqv_win : PyData.eqv (.list ((win 25).map .int)) (.list ((win 25).map .int)) = true := by decide +kernel
theorem tail2_spec {M : MM} {E : ED} {EX : XK'} {d0 d1 d2 d3 d4 d5 d6 d7 d8 d9 d10 d11 d12 : Option D} (hr : ∀ M', E.rt (.bl true) M') : tail2 E EX [d0, d1, d2, d3, d4, d5, d6, d7, d8, d9, d10, d11, d12] M := by
  refine seq_set (make_spec (k := 20) ⟨by decide, by decide⟩ (fun R h => h) fun p3 q3 M3 hp3 hq3 hd3 kp3 => ?_)
  refine ⟨Nat.zero_le _, fun lk3 hlk3 => ?_⟩
  refine ⟨⟨by decide, by decide, by decide, by decide, by decide⟩, ?_⟩
  rw [rg_win]
  refine given_specP (new_kept hd3 hlk3) (by decide) win_bd (fun i kept => kept = win i) rfl (fun i x a b ha hx hn => win_step ha hx hn) fun q4 kept4 M4 hP hk4 hl4 hq4 kp4 => ?_
  refine ⟨_, rfl, ifT rfl ?_⟩
  obtain ⟨⟨held, hd4, hp4, hs4⟩, ls4, n1, n2, bd4⟩ := hk4
  have ew : kept4 = win 25 := hP
  subst ew
  have eh : held = win 25 := sorted_eq hp4 hs4 win_sorted
  subst eh
  refine ⟨_, ins_mut hd4.at_, rest_spec hd4 (by decide) fun M5 hd5 kp5 => ?_⟩
  refine ⟨⟨by decide, by decide, by decide, by decide, by decide⟩, ?_⟩
  rw [rg_end]
  refine at_eq (py_lst (ns := win 25)) (py_lst (ns := win 25)) (shaped_ints _) (shaped_ints _) ?_
  rw [eqv_win]
  exact hr M5
theorem tail_spec {M : MM} {E : ED} {EX : XK'} {d0 d1 d2 d3 d4 d5 d6 d7 d8 d9 d10 d11 d12 : Option D} (hr : ∀ M', E.rt (.bl true) M') : tail E EX [d0, d1, d2, d3, d4, d5, d6, d7, d8, d9, d10, d11, d12] M := by
  refine seq_par (makeK_spec (k := 2) (sm := true) ⟨by decide, by decide⟩ (fun R h => h) (fun R h => h) fun p q M1 hp hq hd kp => ?_)
  refine ⟨Nat.zero_le _, fun lk hlk => ?_⟩
  refine ⟨cp29, cp29, cp29, cp29, six_le, ?_⟩
  refine given_spec (xs := wides) (new_kept hd hlk) (by decide) wides_bd fun q2 kept2 M2 hk2 hl2 hq2 kp2 => ?_
  refine ⟨_, rfl, ifF rfl ?_⟩
  exact tail2_spec hr
end My

set_option Elab.async false
set_option linter.all false
set_option maxRecDepth 100000
set_option maxHeartbeats 1000000
namespace My
open PySem PySem.Spec L2 DL
open PyProof.Rows hiding St
theorem law_spec (ns : List Int) (hl : ns.length ≤ 63) : slaw [.frl (ns.map D.int)] (fun _ => none) (fun d _ => d = .bl true) fun _ _ => False := by
  refine ⟨rfl, ?_⟩
  refine begun_spec hl fun m g M1 dr _ _ _ => ?_
  have t : (wSeq (wFor (wiR1 (wCons (wC (.int 8)) wNil)) (bNm 2) outer) tail) { nx := fun _ _ => (D.non : D) = .bl true, rt := fun d _ => d = .bl true } (fun _ _ _ => False)
      [some (.frl (ns.map D.int)), some (.raw (.ref m)), none, none, none, none, none, none, none, none, none, none, none] M1 := by
    refine for_r1 ⟨by decide, by decide⟩ ?_
    refine loop_inv (fun i δ M' => ∃ d2 d3 d4 d5 d6 d7 d8 d9 d10 d11 d12, δ = [some (.frl (ns.map D.int)), some (.raw (.ref m)), d2, d3, d4, d5, d6, d7, d8, d9, d10, d11, d12] ∧ Dr m g (100 * (8 - i)) M' ∧ i ≤ 8)
      ⟨none, none, none, none, none, none, none, none, none, none, none, rfl, dr.le (by omega), by decide⟩ (fun _ _ _ _ => True.intro) ?_ ?_
    · rintro i d δ M' hi ⟨d2, d3, d4, d5, d6, d7, d8, d9, d10, d11, d12, rfl, dr', hi2⟩
      obtain ⟨hi3, rfl⟩ := rngL_get hi
      have hi4 : i < 8 := hi3
      refine ⟨_, rfl, fun nx hnx => ?_⟩
      refine outer_spec (f := 100 * (8 - (i + 1))) (dr'.le (by omega)) fun M2 e4 e5 e7 e8 e9 e10 e11 e12 dr2 => ?_
      exact hnx _ _ ⟨_, _, _, _, _, _, _, _, _, _, _, rfl, dr2, by omega⟩
    · rintro δ M' ⟨d2, d3, d4, d5, d6, d7, d8, d9, d10, d11, d12, rfl, dr', hi2⟩
      exact tail_spec fun _ => rfl
  exact t
end My

set_option Elab.async false
set_option linter.all false
set_option maxRecDepth 100000
set_option maxHeartbeats 1000000
namespace My
open PySem PySem.Spec L2 DL
open PyProof.Rows hiding St
theorem all_mk {P : Program} {w : World} {K : PySem.W.Frag} {h : Heap} {mg : Str → Option Value} {C_Hand : Addr} {tk_Hand_MOST : Tok} {f_Hand_held : Addr} {od_Hand_held an_Hand_held : Option Addr} {sl_Hand_held : Array (Option Value)} {oc_Hand_held dc_Hand_held pm_Hand_held cd_Hand_held ct_Hand_held : Value} {kV_Hand_held : Value} {p_Hand_held : Addr} {r_Hand_held : List Value} {f_is_integer : Addr} {od_is_integer an_is_integer : Option Addr} {sl_is_integer : Array (Option Value)} {oc_is_integer dc_is_integer pm_is_integer cd_is_integer ct_is_integer : Value} {kV_is_integer : Value} {f_is_integer_within : Addr} {od_is_integer_within an_is_integer_within : Option Addr} {sl_is_integer_within : Array (Option Value)} {oc_is_integer_within dc_is_integer_within pm_is_integer_within cd_is_integer_within ct_is_integer_within : Value} {kV_is_integer_within : Value} {f_Hand_init : Addr} {od_Hand_init an_Hand_init : Option Addr} {sl_Hand_init : Array (Option Value)} {oc_Hand_init dc_Hand_init pm_Hand_init cd_Hand_init ct_Hand_init : Value} {D_Hand_init : Addr} {f_Hand__put_down : Addr} {od_Hand__put_down an_Hand__put_down : Option Addr} {sl_Hand__put_down : Array (Option Value)} {oc_Hand__put_down dc_Hand__put_down pm_Hand__put_down cd_Hand__put_down ct_Hand__put_down : Value} {kV_Hand__put_down : Value} {f_Hand_rest : Addr} {od_Hand_rest an_Hand_rest : Option Addr} {sl_Hand_rest : Array (Option Value)} {oc_Hand_rest dc_Hand_rest pm_Hand_rest cd_Hand_rest ct_Hand_rest : Value} {kV_Hand_rest : Value} {f__law_folded : Addr} {od__law_folded an__law_folded : Option Addr} {sl__law_folded : Array (Option Value)} {oc__law_folded dc__law_folded pm__law_folded cd__law_folded ct__law_folded : Value} {kV__law_folded : Value} {f__law_begun : Addr} {od__law_begun an__law_begun : Option Addr} {sl__law_begun : Array (Option Value)} {oc__law_begun dc__law_begun pm__law_begun cd__law_begun ct__law_begun : Value} {kV__law_begun : Value} {f__law_mixed : Addr} {od__law_mixed an__law_mixed : Option Addr} {sl__law_mixed : Array (Option Value)} {oc__law_mixed dc__law_mixed pm__law_mixed cd__law_mixed ct__law_mixed : Value} {kV__law_mixed : Value} {f__law_draw : Addr} {od__law_draw an__law_draw : Option Addr} {sl__law_draw : Array (Option Value)} {oc__law_draw dc__law_draw pm__law_draw cd__law_draw ct__law_draw : Value} {kV__law_draw : Value} {f_Hand_call : Addr} {od_Hand_call an_Hand_call : Option Addr} {sl_Hand_call : Array (Option Value)} {oc_Hand_call dc_Hand_call pm_Hand_call cd_Hand_call ct_Hand_call : Value} {kV_Hand_call : Value} {f__law_taken : Addr} {od__law_taken an__law_taken : Option Addr} {sl__law_taken : Array (Option Value)} {oc__law_taken dc__law_taken pm__law_taken cd__law_taken ct__law_taken : Value} {kV__law_taken : Value} {f__law_given_right : Addr} {od__law_given_right an__law_given_right : Option Addr} {sl__law_given_right : Array (Option Value)} {oc__law_given_right dc__law_given_right pm__law_given_right cd__law_given_right ct__law_given_right : Value} {kV__law_given_right : Value} {f__law_rest_right : Addr} {od__law_rest_right an__law_rest_right : Option Addr} {sl__law_rest_right : Array (Option Value)} {oc__law_rest_right dc__law_rest_right pm__law_rest_right cd__law_rest_right ct__law_rest_right : Value} {kV__law_rest_right : Value} {f__law_some : Addr} {od__law_some an__law_some : Option Addr} {sl__law_some : Array (Option Value)} {oc__law_some dc__law_some pm__law_some cd__law_some ct__law_some : Value} {kV__law_some : Value} {f_law : Addr} {od_law an_law : Option Addr} {sl_law : Array (Option Value)} {oc_law dc_law pm_law cd_law ct_law : Value} {kV_law : Value} (X : K.In h) (N : h.Ns mainGlobals mg)
    (aC_Hand : PySem.W.nsIn K mainGlobals "Hand" = some (some (.ref C_Hand)))
    (pg_Hand : PySem.W.plainGet K C_Hand Str.empty = true)
    (hd_Hand : PySem.W.hasDictIn K C_Hand = true)
    (po_Hand : PySem.W.plainOver K C_Hand = true)
    (sa_Hand : PySem.W.findIn K (.ref C_Hand) "__setattr__" = some (some (.builtin "object.__setattr__")))
    (n_Hand__size : PySem.W.findIn K (.ref C_Hand) "_size" = some none)
    (n_Hand__small : PySem.W.findIn K (.ref C_Hand) "_small" = some none)
    (n_Hand__held : PySem.W.findIn K (.ref C_Hand) "_held" = some none)
    (rd_Hand : PySem.W.readsIn K C_Hand (.type "type") = true)
    (ga_Hand : PySem.W.specialIn K (.ref C_Hand) "__getattribute__" = some (some (.builtin "type.__getattribute__")))
    (cv_Hand_MOST : PySem.W.findCls K (.ref C_Hand) (.type "type") "MOST" = some (.val (.int 20 tk_Hand_MOST)))
    (z_bool : PySem.W.nsIn K mainGlobals "bool" = some none)
    (z_enumerate : PySem.W.nsIn K mainGlobals "enumerate" = some none)
    (z_int : PySem.W.nsIn K mainGlobals "int" = some none)
    (z_isinstance : PySem.W.nsIn K mainGlobals "isinstance" = some none)
    (z_len : PySem.W.nsIn K mainGlobals "len" = some none)
    (z_list : PySem.W.nsIn K mainGlobals "list" = some none)
    (z_max : PySem.W.nsIn K mainGlobals "max" = some none)
    (z_min : PySem.W.nsIn K mainGlobals "min" = some none)
    (z_range : PySem.W.nsIn K mainGlobals "range" = some none)
    (z_repr : PySem.W.nsIn K mainGlobals "repr" = some none)
    (z_sorted : PySem.W.nsIn K mainGlobals "sorted" = some none)
    (z_tuple : PySem.W.nsIn K mainGlobals "tuple" = some none)
    (a_Hand_held : PySem.W.findIn K (.ref C_Hand) "held" = some (some (.ref p_Hand_held)))
    (gt_Hand_held : PySem.W.specialIn K (.ref p_Hand_held) "__get__" = some (some (.builtin "property.__get__")))
    (tk_Hand_held : PySem.W.takesIn K (.ref p_Hand_held) = some true)
    (rc_Hand_held : PySem.W.recIn K p_Hand_held "property" = some (.ref f_Hand_held :: r_Hand_held))
    (l_Hand_held : K.lookup f_Hand_held = some ⟨oc_Hand_held, od_Hand_held, .func (PySem.W.fnOf "held" "Hand.held" (defArgs (cb (tp 7) 4)) (defBody (cb (tp 7) 4)) (defScope (cb (tp 7) 4)) .none kV_Hand_held dc_Hand_held pm_Hand_held an_Hand_held cd_Hand_held ct_Hand_held), sl_Hand_held⟩)
    (c_Hand_held : PySem.W.codeIn K cd_Hand_held "Hand.held" = true)
    (k_Hand_held : PySem.W.keepIn K (.ref f_Hand_held) = true)
    (a_is_integer : PySem.W.nsIn K mainGlobals "is_integer" = some (some (.ref f_is_integer)))
    (l_is_integer : K.lookup f_is_integer = some ⟨oc_is_integer, od_is_integer, .func (PySem.W.fnOf "is_integer" "is_integer" (defArgs (tp 1)) (defBody (tp 1)) (defScope (tp 1)) .none kV_is_integer dc_is_integer pm_is_integer an_is_integer cd_is_integer ct_is_integer), sl_is_integer⟩)
    (c_is_integer : PySem.W.codeIn K cd_is_integer "is_integer" = true)
    (k_is_integer : PySem.W.keepIn K (.ref f_is_integer) = true)
    (a_is_integer_within : PySem.W.nsIn K mainGlobals "is_integer_within" = some (some (.ref f_is_integer_within)))
    (l_is_integer_within : K.lookup f_is_integer_within = some ⟨oc_is_integer_within, od_is_integer_within, .func (PySem.W.fnOf "is_integer_within" "is_integer_within" (defArgs (tp 2)) (defBody (tp 2)) (defScope (tp 2)) .none kV_is_integer_within dc_is_integer_within pm_is_integer_within an_is_integer_within cd_is_integer_within ct_is_integer_within), sl_is_integer_within⟩)
    (c_is_integer_within : PySem.W.codeIn K cd_is_integer_within "is_integer_within" = true)
    (k_is_integer_within : PySem.W.keepIn K (.ref f_is_integer_within) = true)
    (a_Hand_init : PySem.W.findIn K (.ref C_Hand) "__init__" = some (some (.ref f_Hand_init)))
    (i_Hand_init : PySem.W.isFn K (.ref f_Hand_init) = true)
    (l_Hand_init : K.lookup f_Hand_init = some ⟨oc_Hand_init, od_Hand_init, .func (PySem.W.fnOf "__init__" "Hand.__init__" (defArgs (cb (tp 7) 1)) (defBody (cb (tp 7) 1)) (defScope (cb (tp 7) 1)) .none (.ref D_Hand_init) dc_Hand_init pm_Hand_init an_Hand_init cd_Hand_init ct_Hand_init), sl_Hand_init⟩)
    (c_Hand_init : PySem.W.codeIn K cd_Hand_init "Hand.__init__" = true)
    (k_Hand_init : PySem.W.keepIn K (.ref f_Hand_init) = true)
    (mk_Hand_init : PySem.W.makesIn K C_Hand = true)
    (kc_Hand_init : PySem.W.keepIn K (.ref C_Hand) = true)
    (d_Hand_init_small : PySem.W.nsIn K D_Hand_init "small" = some (some (.bool false)))
    (a_Hand__put_down : PySem.W.findIn K (.ref C_Hand) "_put_down" = some (some (.ref f_Hand__put_down)))
    (i_Hand__put_down : PySem.W.isFn K (.ref f_Hand__put_down) = true)
    (l_Hand__put_down : K.lookup f_Hand__put_down = some ⟨oc_Hand__put_down, od_Hand__put_down, .func (PySem.W.fnOf "_put_down" "Hand._put_down" (defArgs (cb (tp 7) 5)) (defBody (cb (tp 7) 5)) (defScope (cb (tp 7) 5)) .none kV_Hand__put_down dc_Hand__put_down pm_Hand__put_down an_Hand__put_down cd_Hand__put_down ct_Hand__put_down), sl_Hand__put_down⟩)
    (c_Hand__put_down : PySem.W.codeIn K cd_Hand__put_down "Hand._put_down" = true)
    (k_Hand__put_down : PySem.W.keepIn K (.ref f_Hand__put_down) = true)
    (a_Hand_rest : PySem.W.findIn K (.ref C_Hand) "rest" = some (some (.ref f_Hand_rest)))
    (i_Hand_rest : PySem.W.isFn K (.ref f_Hand_rest) = true)
    (l_Hand_rest : K.lookup f_Hand_rest = some ⟨oc_Hand_rest, od_Hand_rest, .func (PySem.W.fnOf "rest" "Hand.rest" (defArgs (cb (tp 7) 3)) (defBody (cb (tp 7) 3)) (defScope (cb (tp 7) 3)) .none kV_Hand_rest dc_Hand_rest pm_Hand_rest an_Hand_rest cd_Hand_rest ct_Hand_rest), sl_Hand_rest⟩)
    (c_Hand_rest : PySem.W.codeIn K cd_Hand_rest "Hand.rest" = true)
    (k_Hand_rest : PySem.W.keepIn K (.ref f_Hand_rest) = true)
    (a__law_folded : PySem.W.nsIn K mainGlobals "_law_folded" = some (some (.ref f__law_folded)))
    (l__law_folded : K.lookup f__law_folded = some ⟨oc__law_folded, od__law_folded, .func (PySem.W.fnOf "_law_folded" "_law_folded" (defArgs (tp 10)) (defBody (tp 10)) (defScope (tp 10)) .none kV__law_folded dc__law_folded pm__law_folded an__law_folded cd__law_folded ct__law_folded), sl__law_folded⟩)
    (c__law_folded : PySem.W.codeIn K cd__law_folded "_law_folded" = true)
    (k__law_folded : PySem.W.keepIn K (.ref f__law_folded) = true)
    (a__law_begun : PySem.W.nsIn K mainGlobals "_law_begun" = some (some (.ref f__law_begun)))
    (l__law_begun : K.lookup f__law_begun = some ⟨oc__law_begun, od__law_begun, .func (PySem.W.fnOf "_law_begun" "_law_begun" (defArgs (tp 12)) (defBody (tp 12)) (defScope (tp 12)) .none kV__law_begun dc__law_begun pm__law_begun an__law_begun cd__law_begun ct__law_begun), sl__law_begun⟩)
    (c__law_begun : PySem.W.codeIn K cd__law_begun "_law_begun" = true)
    (k__law_begun : PySem.W.keepIn K (.ref f__law_begun) = true)
    (a__law_mixed : PySem.W.nsIn K mainGlobals "_law_mixed" = some (some (.ref f__law_mixed)))
    (l__law_mixed : K.lookup f__law_mixed = some ⟨oc__law_mixed, od__law_mixed, .func (PySem.W.fnOf "_law_mixed" "_law_mixed" (defArgs (tp 9)) (defBody (tp 9)) (defScope (tp 9)) .none kV__law_mixed dc__law_mixed pm__law_mixed an__law_mixed cd__law_mixed ct__law_mixed), sl__law_mixed⟩)
    (c__law_mixed : PySem.W.codeIn K cd__law_mixed "_law_mixed" = true)
    (k__law_mixed : PySem.W.keepIn K (.ref f__law_mixed) = true)
    (a__law_draw : PySem.W.nsIn K mainGlobals "_law_draw" = some (some (.ref f__law_draw)))
    (l__law_draw : K.lookup f__law_draw = some ⟨oc__law_draw, od__law_draw, .func (PySem.W.fnOf "_law_draw" "_law_draw" (defArgs (tp 11)) (defBody (tp 11)) (defScope (tp 11)) .none kV__law_draw dc__law_draw pm__law_draw an__law_draw cd__law_draw ct__law_draw), sl__law_draw⟩)
    (c__law_draw : PySem.W.codeIn K cd__law_draw "_law_draw" = true)
    (k__law_draw : PySem.W.keepIn K (.ref f__law_draw) = true)
    (a_Hand_call : PySem.W.findIn K (.ref C_Hand) "__call__" = some (some (.ref f_Hand_call)))
    (i_Hand_call : PySem.W.isFn K (.ref f_Hand_call) = true)
    (l_Hand_call : K.lookup f_Hand_call = some ⟨oc_Hand_call, od_Hand_call, .func (PySem.W.fnOf "__call__" "Hand.__call__" (defArgs (cb (tp 7) 2)) (defBody (cb (tp 7) 2)) (defScope (cb (tp 7) 2)) .none kV_Hand_call dc_Hand_call pm_Hand_call an_Hand_call cd_Hand_call ct_Hand_call), sl_Hand_call⟩)
    (c_Hand_call : PySem.W.codeIn K cd_Hand_call "Hand.__call__" = true)
    (k_Hand_call : PySem.W.keepIn K (.ref f_Hand_call) = true)
    (fi_Hand_call : PySem.W.fnIn K f_Hand_call = true)
    (a__law_taken : PySem.W.nsIn K mainGlobals "_law_taken" = some (some (.ref f__law_taken)))
    (l__law_taken : K.lookup f__law_taken = some ⟨oc__law_taken, od__law_taken, .func (PySem.W.fnOf "_law_taken" "_law_taken" (defArgs (tp 14)) (defBody (tp 14)) (defScope (tp 14)) .none kV__law_taken dc__law_taken pm__law_taken an__law_taken cd__law_taken ct__law_taken), sl__law_taken⟩)
    (c__law_taken : PySem.W.codeIn K cd__law_taken "_law_taken" = true)
    (k__law_taken : PySem.W.keepIn K (.ref f__law_taken) = true)
    (a__law_given_right : PySem.W.nsIn K mainGlobals "_law_given_right" = some (some (.ref f__law_given_right)))
    (l__law_given_right : K.lookup f__law_given_right = some ⟨oc__law_given_right, od__law_given_right, .func (PySem.W.fnOf "_law_given_right" "_law_given_right" (defArgs (tp 15)) (defBody (tp 15)) (defScope (tp 15)) .none kV__law_given_right dc__law_given_right pm__law_given_right an__law_given_right cd__law_given_right ct__law_given_right), sl__law_given_right⟩)
    (c__law_given_right : PySem.W.codeIn K cd__law_given_right "_law_given_right" = true)
    (k__law_given_right : PySem.W.keepIn K (.ref f__law_given_right) = true)
    (a__law_rest_right : PySem.W.nsIn K mainGlobals "_law_rest_right" = some (some (.ref f__law_rest_right)))
    (l__law_rest_right : K.lookup f__law_rest_right = some ⟨oc__law_rest_right, od__law_rest_right, .func (PySem.W.fnOf "_law_rest_right" "_law_rest_right" (defArgs (tp 16)) (defBody (tp 16)) (defScope (tp 16)) .none kV__law_rest_right dc__law_rest_right pm__law_rest_right an__law_rest_right cd__law_rest_right ct__law_rest_right), sl__law_rest_right⟩)
    (c__law_rest_right : PySem.W.codeIn K cd__law_rest_right "_law_rest_right" = true)
    (k__law_rest_right : PySem.W.keepIn K (.ref f__law_rest_right) = true)
    (a__law_some : PySem.W.nsIn K mainGlobals "_law_some" = some (some (.ref f__law_some)))
    (l__law_some : K.lookup f__law_some = some ⟨oc__law_some, od__law_some, .func (PySem.W.fnOf "_law_some" "_law_some" (defArgs (tp 13)) (defBody (tp 13)) (defScope (tp 13)) .none kV__law_some dc__law_some pm__law_some an__law_some cd__law_some ct__law_some), sl__law_some⟩)
    (c__law_some : PySem.W.codeIn K cd__law_some "_law_some" = true)
    (k__law_some : PySem.W.keepIn K (.ref f__law_some) = true)
    (a_law : PySem.W.nsIn K mainGlobals "law" = some (some (.ref f_law)))
    (l_law : K.lookup f_law = some ⟨oc_law, od_law, .func (PySem.W.fnOf "law" "law" (defArgs (tp 17)) (defBody (tp 17)) (defScope (tp 17)) .none kV_law dc_law pm_law an_law cd_law ct_law), sl_law⟩)
    (c_law : PySem.W.codeIn K cd_law "law" = true)
    (k_law : PySem.W.keepIn K (.ref f_law) = true) :
    ∃ G : Cfg, ∀ base : Heap, K.In base → base.Ns mainGlobals mg → OkG P w K mg base true 7 "law" ["_law_script"] (lift G K slaw) := by
  refine ⟨⟨fun c => match c with | 2 => C_Hand | _ => 0, fun c => match c with | 2 => ["_size", "_small", "_held"] | _ => []⟩, fun base _ _ => ?_⟩
  have T : Bu K mg ⟨fun c => match c with | 2 => C_Hand | _ => 0, fun c => match c with | 2 => ["_size", "_small", "_held"] | _ => []⟩ := { k_Hand := PySem.W.mg_of X N aC_Hand, cls_Hand := ⟨pg_Hand, hd_Hand, po_Hand, sa_Hand⟩, fa_Hand__size := ⟨⟨pg_Hand, hd_Hand, po_Hand, sa_Hand⟩, n_Hand__size, (show List.Nodup (["_size", "_small", "_held"] : List Str) by decide +kernel), rfl⟩, fa_Hand__small := ⟨⟨pg_Hand, hd_Hand, po_Hand, sa_Hand⟩, n_Hand__small, (show List.Nodup (["_size", "_small", "_held"] : List Str) by decide +kernel), rfl⟩, fa_Hand__held := ⟨⟨pg_Hand, hd_Hand, po_Hand, sa_Hand⟩, n_Hand__held, (show List.Nodup (["_size", "_small", "_held"] : List Str) by decide +kernel), rfl⟩, nm_Hand := rfl, ck_Hand_MOST := ⟨.type "type", .int 20, _, ⟨rd_Hand, ga_Hand⟩, ⟨cv_Hand_MOST, ⟨_, rfl⟩⟩, fun _ => .int 20⟩, b_bool := PySem.W.mg_none_of X N z_bool, b_enumerate := PySem.W.mg_none_of X N z_enumerate, b_int := PySem.W.mg_none_of X N z_int, b_isinstance := PySem.W.mg_none_of X N z_isinstance, b_len := PySem.W.mg_none_of X N z_len, b_list := PySem.W.mg_none_of X N z_list, b_max := PySem.W.mg_none_of X N z_max, b_min := PySem.W.mg_none_of X N z_min, b_range := PySem.W.mg_none_of X N z_range, b_repr := PySem.W.mg_none_of X N z_repr, b_sorted := PySem.W.mg_none_of X N z_sorted, b_tuple := PySem.W.mg_none_of X N z_tuple }
  have okHand_held := goHand_held (P := P) (w := w) (base := base) T ⟨_, _, _, ⟨a_Hand_held, gt_Hand_held, tk_Hand_held, ⟨_, rc_Hand_held⟩⟩, fun_mk (st := (cb (tp 7) 4)) l_Hand_held c_Hand_held k_Hand_held, ((fun_mk (st := (cb (tp 7) 4)) l_Hand_held c_Hand_held k_Hand_held).binds (ps := ["self"]) fun _ _ _ _ _ _ us hl => match us, hl with | [_], _ => rfl)⟩ 
  have okis_integer := gois_integer (P := P) (w := w) (base := base) T ⟨PySem.W.mg_of X N a_is_integer, _, fun_mk (st := (tp 1)) l_is_integer c_is_integer k_is_integer, ((fun_mk (st := (tp 1)) l_is_integer c_is_integer k_is_integer).binds (ps := ["value"]) fun _ _ _ _ _ _ us hl => match us, hl with | [_], _ => rfl)⟩ 
  have okis_integer_within := gois_integer_within (P := P) (w := w) (base := base) T ⟨PySem.W.mg_of X N a_is_integer_within, _, fun_mk (st := (tp 2)) l_is_integer_within c_is_integer_within k_is_integer_within, ((fun_mk (st := (tp 2)) l_is_integer_within c_is_integer_within k_is_integer_within).binds (ps := ["value", "low", "high"]) fun _ _ _ _ _ _ us hl => match us, hl with | [_, _, _], _ => rfl)⟩ okis_integer
  have okHand_init := goHand_init (P := P) (w := w) (base := base) T ⟨_, _, ⟨mk_Hand_init, a_Hand_init, i_Hand_init, kc_Hand_init⟩, ⟨⟨_, _, _, _, _, _, _, _, _, _, rfl, l_Hand_init, c_Hand_init, .inl ⟨rfl, rfl⟩, .inr ⟨D_Hand_init, rfl, (tb_cons ⟨_, d_Hand_init_small, rfl⟩ tb_nil)⟩⟩, k_Hand_init⟩⟩ okis_integer_within
  have okHand__put_down := goHand__put_down (P := P) (w := w) (base := base) T ⟨_, _, ⟨a_Hand__put_down, i_Hand__put_down, k_Hand__put_down⟩, fun_mk (st := (cb (tp 7) 5)) l_Hand__put_down c_Hand__put_down k_Hand__put_down, ((fun_mk (st := (cb (tp 7) 5)) l_Hand__put_down c_Hand__put_down k_Hand__put_down).binds (ps := ["self"]) fun _ _ _ _ _ _ us hl => match us, hl with | [_], _ => rfl)⟩ 
  have okHand_rest := goHand_rest (P := P) (w := w) (base := base) T ⟨_, _, ⟨a_Hand_rest, i_Hand_rest, k_Hand_rest⟩, fun_mk (st := (cb (tp 7) 3)) l_Hand_rest c_Hand_rest k_Hand_rest, ((fun_mk (st := (cb (tp 7) 3)) l_Hand_rest c_Hand_rest k_Hand_rest).binds (ps := ["self"]) fun _ _ _ _ _ _ us hl => match us, hl with | [_], _ => rfl)⟩ okHand__put_down
  have ok_law_folded := go_law_folded (P := P) (w := w) (base := base) T ⟨PySem.W.mg_of X N a__law_folded, _, fun_mk (st := (tp 10)) l__law_folded c__law_folded k__law_folded, ((fun_mk (st := (tp 10)) l__law_folded c__law_folded k__law_folded).binds (ps := ["_law_script"]) fun _ _ _ _ _ _ us hl => match us, hl with | [_], _ => rfl)⟩ 
  have ok_law_begun := go_law_begun (P := P) (w := w) (base := base) T ⟨PySem.W.mg_of X N a__law_begun, _, fun_mk (st := (tp 12)) l__law_begun c__law_begun k__law_begun, ((fun_mk (st := (tp 12)) l__law_begun c__law_begun k__law_begun).binds (ps := ["_law_script"]) fun _ _ _ _ _ _ us hl => match us, hl with | [_], _ => rfl)⟩ ok_law_folded
  have ok_law_mixed := go_law_mixed (P := P) (w := w) (base := base) T ⟨PySem.W.mg_of X N a__law_mixed, _, fun_mk (st := (tp 9)) l__law_mixed c__law_mixed k__law_mixed, ((fun_mk (st := (tp 9)) l__law_mixed c__law_mixed k__law_mixed).binds (ps := ["_law_cell", "_law_n"]) fun _ _ _ _ _ _ us hl => match us, hl with | [_, _], _ => rfl)⟩ 
  have ok_law_draw := go_law_draw (P := P) (w := w) (base := base) T ⟨PySem.W.mg_of X N a__law_draw, _, fun_mk (st := (tp 11)) l__law_draw c__law_draw k__law_draw, ((fun_mk (st := (tp 11)) l__law_draw c__law_draw k__law_draw).binds (ps := ["_law_m", "_law_top"]) fun _ _ _ _ _ _ us hl => match us, hl with | [_, _], _ => rfl)⟩ ok_law_mixed
  have okHand_call := goHand_call (P := P) (w := w) (base := base) T ⟨_, _, ⟨a_Hand_call, i_Hand_call, fi_Hand_call⟩, fun_mk (st := (cb (tp 7) 2)) l_Hand_call c_Hand_call k_Hand_call, ((fun_mk (st := (cb (tp 7) 2)) l_Hand_call c_Hand_call k_Hand_call).binds (ps := ["self", "number"]) fun _ _ _ _ _ _ us hl => match us, hl with | [_, _], _ => rfl)⟩ okHand__put_down
  have ok_law_taken := go_law_taken (P := P) (w := w) (base := base) T ⟨PySem.W.mg_of X N a__law_taken, _, fun_mk (st := (tp 14)) l__law_taken c__law_taken k__law_taken, ((fun_mk (st := (tp 14)) l__law_taken c__law_taken k__law_taken).binds (ps := ["_law_kept", "_law_k", "_law_is_small", "_law_one"]) fun _ _ _ _ _ _ us hl => match us, hl with | [_, _, _, _], _ => rfl)⟩ 
  have ok_law_given_right := go_law_given_right (P := P) (w := w) (base := base) T ⟨PySem.W.mg_of X N a__law_given_right, _, fun_mk (st := (tp 15)) l__law_given_right c__law_given_right k__law_given_right, ((fun_mk (st := (tp 15)) l__law_given_right c__law_given_right k__law_given_right).binds (ps := ["_law_hand", "_law_kept", "_law_k", "_law_is_small", "_law_some_here"]) fun _ _ _ _ _ _ us hl => match us, hl with | [_, _, _, _, _], _ => rfl)⟩ okHand_call okHand_held ok_law_taken
  have ok_law_rest_right := go_law_rest_right (P := P) (w := w) (base := base) T ⟨PySem.W.mg_of X N a__law_rest_right, _, fun_mk (st := (tp 16)) l__law_rest_right c__law_rest_right k__law_rest_right, ((fun_mk (st := (tp 16)) l__law_rest_right c__law_rest_right k__law_rest_right).binds (ps := ["_law_hand", "_law_kept", "_law_is_small"]) fun _ _ _ _ _ _ us hl => match us, hl with | [_, _, _], _ => rfl)⟩ okHand_held okHand_rest
  have ok_law_some := go_law_some (P := P) (w := w) (base := base) T ⟨PySem.W.mg_of X N a__law_some, _, fun_mk (st := (tp 13)) l__law_some c__law_some k__law_some, ((fun_mk (st := (tp 13)) l__law_some c__law_some k__law_some).binds (ps := ["_law_m"]) fun _ _ _ _ _ _ us hl => match us, hl with | [_], _ => rfl)⟩ ok_law_draw
  have oklaw := golaw (P := P) (w := w) (base := base) T ⟨PySem.W.mg_of X N a_law, _, fun_mk (st := (tp 17)) l_law c_law k_law, ((fun_mk (st := (tp 17)) l_law c_law k_law).binds (ps := ["_law_script"]) fun _ _ _ _ _ _ us hl => match us, hl with | [_], _ => rfl)⟩ okHand_held okHand_init okHand_rest ok_law_begun ok_law_draw ok_law_given_right ok_law_rest_right ok_law_some
  exact oklaw
end My

open PySem PySem.W PyProof.Rows in
set_option maxRecDepth 100000 in
set_option maxHeartbeats 0 in
theorem PySem.Challenge.cw_handsweeps_k04_whole_hands_by_own_hand_holds : PySem.Challenge.rw_handsweeps_k04_whole_hands_by_own_hand.Holds := by
  w_on; o_law; k_head; (case hw => w_witness2)
  k_fill
  refine DL.walkD (l := PySem.Challenge.rw_handsweeps_k04_whole_hands_by_own_hand) (n := 63) (k := 7) (gd := true) (sp := My.slaw) (x := "_law_script") rfl (by decide) rfl ⟨rfl, by decide, by decide⟩ rfl (fun w h Y => PySem.W.kIn_of Y) ?F (fun ns hl => My.law_spec ns hl)
  case F =>
    intro w mg h KX N
    refine' My.all_mk KX N ?aC_Hand ?pg_Hand ?hd_Hand ?po_Hand ?sa_Hand ?n_Hand__size ?n_Hand__small ?n_Hand__held ?rd_Hand ?ga_Hand ?cv_Hand_MOST ?z_bool ?z_enumerate ?z_int ?z_isinstance ?z_len ?z_list ?z_max ?z_min ?z_range ?z_repr ?z_sorted ?z_tuple ?a_Hand_held ?gt_Hand_held ?tk_Hand_held ?rc_Hand_held ?l_Hand_held ?c_Hand_held ?k_Hand_held ?a_is_integer ?l_is_integer ?c_is_integer ?k_is_integer ?a_is_integer_within ?l_is_integer_within ?c_is_integer_within ?k_is_integer_within ?a_Hand_init ?i_Hand_init ?l_Hand_init ?c_Hand_init ?k_Hand_init ?mk_Hand_init ?kc_Hand_init ?d_Hand_init_small ?a_Hand__put_down ?i_Hand__put_down ?l_Hand__put_down ?c_Hand__put_down ?k_Hand__put_down ?a_Hand_rest ?i_Hand_rest ?l_Hand_rest ?c_Hand_rest ?k_Hand_rest ?a__law_folded ?l__law_folded ?c__law_folded ?k__law_folded ?a__law_begun ?l__law_begun ?c__law_begun ?k__law_begun ?a__law_mixed ?l__law_mixed ?c__law_mixed ?k__law_mixed ?a__law_draw ?l__law_draw ?c__law_draw ?k__law_draw ?a_Hand_call ?i_Hand_call ?l_Hand_call ?c_Hand_call ?k_Hand_call ?fi_Hand_call ?a__law_taken ?l__law_taken ?c__law_taken ?k__law_taken ?a__law_given_right ?l__law_given_right ?c__law_given_right ?k__law_given_right ?a__law_rest_right ?l__law_rest_right ?c__law_rest_right ?k__law_rest_right ?a__law_some ?l__law_some ?c__law_some ?k__law_some ?a_law ?l_law ?c_law ?k_law
    (case aC_Hand => k_is)
    (case pg_Hand => k_is)
    (case hd_Hand => k_is)
    (case po_Hand => k_is)
    (case sa_Hand => k_is)
    (case n_Hand__size => k_is)
    (case n_Hand__small => k_is)
    (case n_Hand__held => k_is)
    (case rd_Hand => k_is)
    (case ga_Hand => k_is)
    (case cv_Hand_MOST => k_is)
    (case z_bool => k_is)
    (case z_enumerate => k_is)
    (case z_int => k_is)
    (case z_isinstance => k_is)
    (case z_len => k_is)
    (case z_list => k_is)
    (case z_max => k_is)
    (case z_min => k_is)
    (case z_range => k_is)
    (case z_repr => k_is)
    (case z_sorted => k_is)
    (case z_tuple => k_is)
    (case a_Hand_held => k_is)
    (case gt_Hand_held => k_is)
    (case tk_Hand_held => k_is)
    (case rc_Hand_held => k_is)
    (case l_Hand_held => k_is)
    (case c_Hand_held => k_is)
    (case k_Hand_held => k_is)
    (case a_is_integer => k_is)
    (case l_is_integer => k_is)
    (case c_is_integer => k_is)
    (case k_is_integer => k_is)
    (case a_is_integer_within => k_is)
    (case l_is_integer_within => k_is)
    (case c_is_integer_within => k_is)
    (case k_is_integer_within => k_is)
    (case a_Hand_init => k_is)
    (case i_Hand_init => k_is)
    (case l_Hand_init => k_is)
    (case c_Hand_init => k_is)
    (case k_Hand_init => k_is)
    (case mk_Hand_init => k_is)
    (case kc_Hand_init => k_is)
    (case d_Hand_init_small => k_is)
    (case a_Hand__put_down => k_is)
    (case i_Hand__put_down => k_is)
    (case l_Hand__put_down => k_is)
    (case c_Hand__put_down => k_is)
    (case k_Hand__put_down => k_is)
    (case a_Hand_rest => k_is)
    (case i_Hand_rest => k_is)
    (case l_Hand_rest => k_is)
    (case c_Hand_rest => k_is)
    (case k_Hand_rest => k_is)
    (case a__law_folded => k_is)
    (case l__law_folded => k_is)
    (case c__law_folded => k_is)
    (case k__law_folded => k_is)
    (case a__law_begun => k_is)
    (case l__law_begun => k_is)
    (case c__law_begun => k_is)
    (case k__law_begun => k_is)
    (case a__law_mixed => k_is)
    (case l__law_mixed => k_is)
    (case c__law_mixed => k_is)
    (case k__law_mixed => k_is)
    (case a__law_draw => k_is)
    (case l__law_draw => k_is)
    (case c__law_draw => k_is)
    (case k__law_draw => k_is)
    (case a_Hand_call => k_is)
    (case i_Hand_call => k_is)
    (case l_Hand_call => k_is)
    (case c_Hand_call => k_is)
    (case k_Hand_call => k_is)
    (case fi_Hand_call => k_is)
    (case a__law_taken => k_is)
    (case l__law_taken => k_is)
    (case c__law_taken => k_is)
    (case k__law_taken => k_is)
    (case a__law_given_right => k_is)
    (case l__law_given_right => k_is)
    (case c__law_given_right => k_is)
    (case k__law_given_right => k_is)
    (case a__law_rest_right => k_is)
    (case l__law_rest_right => k_is)
    (case c__law_rest_right => k_is)
    (case k__law_rest_right => k_is)
    (case a__law_some => k_is)
    (case l__law_some => k_is)
    (case c__law_some => k_is)
    (case k__law_some => k_is)
    (case a_law => k_is)
    (case l_law => k_is)
    (case c_law => k_is)
    (case k_law => k_is)
#print axioms PySem.Challenge.cw_handsweeps_k04_whole_hands_by_own_hand_holds

