import PyProof.Rows.All
import Wide.All
import OpenK.AllK
import Wide.FinOn
import HandS.ForMost
import HandS.Exc
import HandS.TryOnly
import HandS.ExcOwn
import HandS.WordsExc
import HandS.CallSlots
import HandS.Lambda
import HandS.ExcInit
import HandS.SortInts
import HandS.TupAny
import HandS.SetFor
import HandS.More
import HandS.Property
import HandS.IsInst
import HandS.RaiseMore
import HandS.Conv
import HandS.ClsMeth
import HandS.Iter
import HandS.TupMul
import HandS.Wide
import HandS.Defaults
import HandS.Style
import HandS.GenList
import HandS.GenYield
import HandS.Star
import HandS.MakeKwOnly
import HandS.Ends
import HandS.SlotsOwn
import KE.KOpsOwn
import KE.KStar
import HandS.Strs
import HandS.Zip
import KE.GoesMore
import HandS.NestedK
import KE.KSuper
import HandS.SortKw
import HandS.SortRule
import HandS.Flow
import HandS.OwnEq
import HandS.ExcField
import KE.KExcIs
import HandS.ExcIs
import HandS.ExcValue
import KE.KDflt
import HandS.Head0
import HandS.Head1
import HandS.Head2
import HandS.HeadHook1
import HandS.EndTab
import HandS.Small
import PySem.Challenge.RW_handsweeps_k08_loads_reckoned
import KE.KStateDown
set_option Elab.async false
set_option linter.all false
set_option maxRecDepth 100000
/-! The layer DL: values as trees (D), what is made once and never changed (F) apart from what is changed (M). -/
namespace DL
open PySem PySem.Spec L2
open PyProof.Rows hiding St

inductive D where
  | non | bl (b : Bool) | int (i : Int) | str (x : Str)
  | tup (ds : List D) | lst (ds : List D) | frl (ds : List D) | dct (kvs : List (Key × D))
  | ins (c : Nat) (fs : List D)
  | exc (c : Nat) (fs : List D)
  | fn (f c : Addr) (q : Str) (vs : List V) (ds : List D)
  | cls (c : Nat)
  | raw (v : V)

/-- a thing that changes -/
inductive MO where
  | lst (ds : List D) | dct (kvs : List (Key × D)) | ins (c : Nat) (fs : List D) | dcT (kvs : List (List Key × D))

/-- the classes of the text: where they stand, their attributes in the order in which __init__ makes them -/
structure Cfg where
  cl : Nat → Addr
  nm : Nat → List Str
  /-- the tables of code objects, with the names that they tell -/
  tabs : List (Addr × Str) := []

/-- an exception object that flies no more -/
def ExV (cls : Value) (d : Option Addr) (a : Addr) : HO := .ext fun h => ∃ (oe : Obj) (vs : Array Value), h.get? a = some oe ∧ Zc cls d oe ∧ oe.data = .fields vs
theorem exV_ok {P : Program} {w : World} {H : Hp} {h : Heap} {a : Addr} {cls : Value} {d : Option Addr} {oe : Obj} {vs : Array Value} (e : h.get? a = some oe) (z : Zc cls d oe) (q : oe.data = .fields vs) : ObjOk P w H h a (ExV cls d a) :=
  ⟨⟨oe, vs, e, z, q⟩, ⟨oe, e⟩, fun _ _ ⟨o, v, q, r⟩ k => ⟨o, v, k o q, r⟩⟩
mutual
inductive Rep (G : Cfg) (K : PySem.W.Frag) (F : Hp) : V → D → Prop
  | non : Rep G K F .non .non
  | bl (b : Bool) : Rep G K F (.bl b) (.bl b)
  | int (i : Int) : Rep G K F (.int i) (.int i)
  | str (x : Str) : Rep G K F (.str x) (.str x)
  | cls (c : Nat) : Rep G K F (.ref (G.cl c)) (.cls c)
  | raw (v : V) : Rep G K F v (.raw v)
  | tup {a : Addr} {vs : List V} {ds : List D} : F a = some (.tup vs) → RepL G K F vs ds → Rep G K F (.ref a) (.tup ds)
  | lst {a : Addr} {vs : List V} {ds : List D} : F a = some (.lst vs) → RepL G K F vs ds → Rep G K F (.ref a) (.lst ds)
  | frl {a : Addr} {vs : List V} {ds : List D} : SqL K F a vs → RepL G K F vs ds → Rep G K F (.ref a) (.frl ds)
  | dct {a : Addr} {kvs : List (Key × V)} {ds : List (Key × D)} : F a = some (.dK kvs) → RepK G K F kvs ds → Rep G K F (.ref a) (.dct ds)
  | ins {a dx : Addr} {c : Nat} {vs : List V} {ds : List D} : F a = some (.ins (G.cl c) dx ((G.nm c).zip vs)) → vs.length = (G.nm c).length → RepL G K F vs ds → Rep G K F (.ref a) (.ins c ds)
  | exc {a d : Addr} {c : Nat} {vs : List V} {ds : List D} : F a = some (ExV (.ref (G.cl c)) (some d) a) → F d = some (.xd ((G.nm c).zip vs)) → vs.length = (G.nm c).length → RepL G K F vs ds → Rep G K F (.ref a) (.exc c ds)
  | exc0 {a : Addr} {c : Nat} : F a = some (ExV (.ref (G.cl c)) none a) → Rep G K F (.ref a) (.exc c [])
  | fn {f c : Addr} {q : Str} {vs : List V} {ds : List D} : F c = some (LamX.CodeO c q) → RepL G K F vs ds → Rep G K F (.ref f) (.fn f c q vs ds)
inductive RepL (G : Cfg) (K : PySem.W.Frag) (F : Hp) : List V → List D → Prop
  | nil : RepL G K F [] []
  | cons {v : V} {d : D} {vs : List V} {ds : List D} : Rep G K F v d → RepL G K F vs ds → RepL G K F (v :: vs) (d :: ds)
inductive RepK (G : Cfg) (K : PySem.W.Frag) (F : Hp) : List (Key × V) → List (Key × D) → Prop
  | nil : RepK G K F [] []
  | cons {k : Key} {v : V} {d : D} {vs : List (Key × V)} {ds : List (Key × D)} : Rep G K F v d → RepK G K F vs ds → RepK G K F ((k, v) :: vs) ((k, d) :: ds)
end

/-- a dict whose keys are tuples -/
inductive RepT (G : Cfg) (K : PySem.W.Frag) (F : Hp) : List (List Key × V) → List (List Key × D) → Prop
  | nil : RepT G K F [] []
  | cons {k : List Key} {v : V} {d : D} {vs : List (List Key × V)} {ds : List (List Key × D)} : Rep G K F v d → RepT G K F vs ds → RepT G K F ((k, v) :: vs) ((k, d) :: ds)
abbrev MM := Addr → Option MO
def updM (M : MM) (a : Addr) (o : MO) : MM := fun b => if b = a then some o else M b
theorem updM_same {M : MM} {a : Addr} {o : MO} : updM M a o a = some o := by unfold updM; rw [if_pos rfl]
theorem updM_ne {M : MM} {a b : Addr} {o : MO} (h : b ≠ a) : updM M a o b = M b := by unfold updM; rw [if_neg h]
def delM (M : MM) (a : Addr) : MM := fun b => if b = a then none else M b

section
variable {G : Cfg} {K : PySem.W.Frag} {F F' F1 F2 : Hp} {M M' M1 M2 : MM} {H H' H1 H2 : Hp}
theorem sqT_up {a : Addr} {xs : List V} (e : Same F F') (h : SqT K F a xs) : SqT K F' a xs := by
  rcases h with (h | ⟨o, h⟩) | h
  · exact .inl (.inl (e _ _ h))
  · exact .inl (.inr ⟨o, e _ _ h⟩)
  · exact .inr h
theorem sqT_mono {a : Addr} {xs : List V} (e : Same F F') (h : F a = some (.tup xs)) : SqT K F' a xs := SqT.of (e _ _ h)
mutual
theorem Rep.mono (e : Same F F') : ∀ {v : V} {d : D}, Rep G K F v d → Rep G K F' v d
  | _, _, .non => .non
  | _, _, .bl b => .bl b
  | _, _, .int i => .int i
  | _, _, .str x => .str x
  | _, _, .cls c => .cls c
  | _, _, .raw v => .raw v
  | _, _, .tup h r => .tup (e _ _ h) (RepL.mono e r)
  | _, _, .lst h r => .lst (e _ _ h) (RepL.mono e r)
  | _, _, .frl h r => .frl (e.seq h) (RepL.mono e r)
  | _, _, .dct h r => .dct (e _ _ h) (RepK.mono e r)
  | _, _, .ins h l r => .ins (e _ _ h) l (RepL.mono e r)
  | _, _, .exc h h2 l r => .exc (e _ _ h) (e _ _ h2) l (RepL.mono e r)
  | _, _, .exc0 h => .exc0 (e _ _ h)
  | _, _, .fn h r => .fn (e _ _ h) (RepL.mono e r)
theorem RepL.mono (e : Same F F') : ∀ {vs : List V} {ds : List D}, RepL G K F vs ds → RepL G K F' vs ds
  | _, _, .nil => .nil
  | _, _, .cons h t => .cons (Rep.mono e h) (RepL.mono e t)
theorem RepK.mono (e : Same F F') : ∀ {vs : List (Key × V)} {ds : List (Key × D)}, RepK G K F vs ds → RepK G K F' vs ds
  | _, _, .nil => .nil
  | _, _, .cons h t => .cons (Rep.mono e h) (RepK.mono e t)
end
theorem RepL.len : ∀ {vs : List V} {ds : List D}, RepL G K F vs ds → vs.length = ds.length
  | _, _, .nil => rfl
  | _, _, .cons _ t => congrArg Nat.succ (RepL.len t)
theorem RepL.app : ∀ {vs ws : List V} {ds es : List D}, RepL G K F vs ds → RepL G K F ws es → RepL G K F (vs ++ ws) (ds ++ es)
  | _, _, _, _, .nil, s => s
  | _, _, _, _, .cons h t, s => .cons h (RepL.app t s)
theorem RepL.get : ∀ {vs : List V} {ds : List D} {i : Nat} {d : D}, RepL G K F vs ds → ds[i]? = some d → ∃ v, vs[i]? = some v ∧ Rep G K F v d
  | _, _, _, _, .nil, e => by simp at e
  | _, _, 0, _, .cons h _, e => by simp at e; subst e; exact ⟨_, rfl, h⟩
  | _, _, i + 1, d, .cons _ t, e => by
    obtain ⟨v, e1, r⟩ := RepL.get (i := i) (d := d) t (by simpa using e)
    exact ⟨v, by simpa using e1, r⟩
theorem RepL.get' : ∀ {vs : List V} {ds : List D} {i : Nat} {v : V}, RepL G K F vs ds → vs[i]? = some v → ∃ d, ds[i]? = some d ∧ Rep G K F v d
  | _, _, _, _, .nil, e => by simp at e
  | _, _, 0, _, .cons h _, e => by simp at e; subst e; exact ⟨_, rfl, h⟩
  | _, _, i + 1, v, .cons _ t, e => by
    obtain ⟨d, e1, r⟩ := RepL.get' (i := i) (v := v) t (by simpa using e)
    exact ⟨d, by simpa using e1, r⟩
theorem RepL.set {v : V} {d : D} (r : Rep G K F v d) : ∀ {vs : List V} {ds : List D} (i : Nat), RepL G K F vs ds → RepL G K F (vs.set i v) (ds.set i d)
  | _, _, _, .nil => .nil
  | _, _, 0, .cons _ t => .cons r t
  | _, _, i + 1, .cons q t => .cons q (RepL.set r i t)
theorem RepL.take : ∀ {vs : List V} {ds : List D} (n : Nat), RepL G K F vs ds → RepL G K F (vs.take n) (ds.take n)
  | _, _, 0, _ => .nil
  | _, _, _ + 1, .nil => .nil
  | _, _, n + 1, .cons r t => .cons r (RepL.take n t)
theorem RepL.drop : ∀ {vs : List V} {ds : List D} (n : Nat), RepL G K F vs ds → RepL G K F (vs.drop n) (ds.drop n)
  | _, _, 0, r => r
  | _, _, _ + 1, .nil => .nil
  | _, _, n + 1, .cons _ t => RepL.drop n t
theorem RepL.rev : ∀ {vs : List V} {ds : List D}, RepL G K F vs ds → RepL G K F vs.reverse ds.reverse
  | _, _, .nil => .nil
  | _, _, .cons r t => by rw [List.reverse_cons, List.reverse_cons]; exact (RepL.rev t).app (.cons r .nil)
/-- ints alone -/
theorem RepL.ints : ∀ {vs : List V} {ns : List Int}, RepL G K F vs (ns.map D.int) → vs = ns.map V.int
  | _, [], .nil => rfl
  | _, n :: ns, .cons h t => by
    cases h
    rw [RepL.ints t]
    rfl
theorem RepL.of_ints : ∀ (ns : List Int), RepL G K F (ns.map V.int) (ns.map D.int)
  | [] => .nil
  | n :: ns => .cons (.int n) (RepL.of_ints ns)

theorem RepT.mono (e : Same F F') : ∀ {vs : List (List Key × V)} {ds : List (List Key × D)}, RepT G K F vs ds → RepT G K F' vs ds
  | _, _, .nil => .nil
  | _, _, .cons h t => .cons (Rep.mono e h) (RepT.mono e t)
/-- what a changing thing looks like -/
def RepM (G : Cfg) (K : PySem.W.Frag) (F H : Hp) (b : Addr) : MO → Prop
  | .lst ds => ∃ vs, H b = some (.lst vs) ∧ RepL G K F vs ds
  | .dct ds => ∃ vs, H b = some (.dK vs) ∧ RepK G K F vs ds
  | .ins c fs => ∃ dx vs, H b = some (.ins (G.cl c) dx ((G.nm c).zip vs)) ∧ vs.length ≤ (G.nm c).length ∧ RepL G K F vs fs
  | .dcT ds => ∃ vs, H b = some (.dT vs) ∧ RepT G K F vs ds
theorem RepM.mono {b : Addr} {m : MO} (e : Same F F') (eb : H' b = H b) (h : RepM G K F H b m) : RepM G K F' H' b m := by
  cases m with
  | lst ds => obtain ⟨vs, h1, r⟩ := h; exact ⟨vs, eb.trans h1, r.mono e⟩
  | dct ds => obtain ⟨vs, h1, r⟩ := h; exact ⟨vs, eb.trans h1, r.mono e⟩
  | ins c fs => obtain ⟨dx, vs, h1, l, r⟩ := h; exact ⟨dx, vs, eb.trans h1, l, r.mono e⟩
  | dcT ds => obtain ⟨vs, h1, r⟩ := h; exact ⟨vs, eb.trans h1, r.mono e⟩
theorem RepM.some {b : Addr} {m : MO} (h : RepM G K F H b m) : ∃ o, H b = some o := by
  cases m with
  | lst ds => obtain ⟨vs, h1, _⟩ := h; exact ⟨_, h1⟩
  | dct ds => obtain ⟨vs, h1, _⟩ := h; exact ⟨_, h1⟩
  | ins c fs => obtain ⟨dx, vs, h1, _⟩ := h; exact ⟨_, h1⟩
  | dcT ds => obtain ⟨vs, h1, _⟩ := h; exact ⟨_, h1⟩
/-- a table of code objects: what it tells bears the name -/
def TabR (F H : Hp) (p : Addr × Str) : Prop := ∃ ps : Array Value, H p.1 = some (.tbl ps) ∧ TriplesOk ps.toList ∧ ∀ (pos : Pos) (cv : Value), codeAmong pos ps.toList = some cv → ∃ c, cv = .ref c ∧ F c = some (LamX.CodeO c p.2)
theorem TabR.mono {p : Addr × Str} (e : Same F F') (eb : H' p.1 = H p.1) (h : TabR F H p) : TabR F' H' p := by
  obtain ⟨ps, h1, h2, h3⟩ := h
  refine ⟨ps, eb.trans h1, h2, fun pos cv z => ?_⟩
  obtain ⟨c, e1, e2⟩ := h3 pos cv z
  exact ⟨c, e1, e _ _ e2⟩
theorem TabR.there {p : Addr × Str} (h : TabR F H p) : ∃ ps : Array Value, H p.1 = some (.tbl ps) := let ⟨ps, e, _⟩ := h; ⟨ps, e⟩
structure HM (G : Cfg) (K : PySem.W.Frag) (F : Hp) (M : MM) (H : Hp) : Prop where
  sub : Same F H
  dis : ∀ b m, M b = some m → F b = none
  mo : ∀ b m, M b = some m → RepM G K F H b m
  tb : ∀ p ∈ G.tabs, F p.1 = none ∧ M p.1 = none ∧ TabR F H p
theorem HM.ntab {b : Addr} {u : HO} (h : HM G K F M H) (e : H b = some u) (nb : ∀ ps, u ≠ .tbl ps) : ∀ p ∈ G.tabs, p.1 ≠ b := fun p hp z => by
  obtain ⟨ps, q⟩ := (h.tb p hp).2.2.there
  rw [z, e] at q
  exact nb ps (Option.some.inj q)
theorem HM.ntab0 {b : Addr} (h : HM G K F M H) (e : H b = none) : ∀ p ∈ G.tabs, p.1 ≠ b := fun p hp z => by
  obtain ⟨ps, q⟩ := (h.tb p hp).2.2.there
  rw [z, e] at q
  cases q
theorem repM_nt {b : Addr} {m : MO} {u : HO} (h : RepM G K F H b m) (e : H b = some u) : ∀ ps, u ≠ .tbl ps := fun ps z => by
  subst z
  cases m with
  | lst ds => obtain ⟨vs, h1, _⟩ := h; rw [e] at h1; cases h1
  | dct ds => obtain ⟨vs, h1, _⟩ := h; rw [e] at h1; cases h1
  | ins c fs => obtain ⟨dx, vs, h1, _⟩ := h; rw [e] at h1; cases h1
  | dcT ds => obtain ⟨vs, h1, _⟩ := h; rw [e] at h1; cases h1
theorem HM.ntabM {b : Addr} {m : MO} (h : HM G K F M H) (e : M b = some m) : ∀ p ∈ G.tabs, p.1 ≠ b := fun p hp z => by
  have q := (h.tb p hp).2.1
  rw [z, e] at q
  cases q
theorem HM.tbU {p : Addr} {o : HO} (h : HM G K F M H) (s : Same F F') (n : ∀ q ∈ G.tabs, q.1 ≠ p) (f : ∀ b, b ≠ p → F b = none → F' b = none) (m : ∀ b, b ≠ p → M b = none → M' b = none) : ∀ q ∈ G.tabs, F' q.1 = none ∧ M' q.1 = none ∧ TabR F' (upd H p o) q := fun q hq =>
  let ⟨h1, h2, h3⟩ := h.tb q hq
  ⟨f _ (n q hq) h1, m _ (n q hq) h2, h3.mono s (upd_ne (n q hq))⟩
theorem HM.tbS {p : Addr} (h : HM G K F M H) (s : Same F F') (n : ∀ q ∈ G.tabs, q.1 ≠ p) (f : ∀ b, b ≠ p → F b = none → F' b = none) (m : ∀ b, b ≠ p → M b = none → M' b = none) : ∀ q ∈ G.tabs, F' q.1 = none ∧ M' q.1 = none ∧ TabR F' H q := fun q hq =>
  let ⟨h1, h2, h3⟩ := h.tb q hq
  ⟨f _ (n q hq) h1, m _ (n q hq) h2, h3.mono s rfl⟩
theorem updF_ne {p : Addr} {o : HO} (b : Addr) (n : b ≠ p) (f : F b = none) : upd F p o b = none := by rw [upd_ne n]; exact f
theorem updM_nn {p : Addr} {o : MO} (b : Addr) (n : b ≠ p) (f : M b = none) : updM M p o b = none := by rw [updM_ne n]; exact f
theorem delM_nn {p : Addr} (b : Addr) (n : b ≠ p) (f : M b = none) : delM M p b = none := by unfold delM; rw [if_neg n]; exact f
/-- a tuple: it never changes -/
def TupO (o : HO) : Prop := ∃ vs, o = .tup vs
structure Grow (G : Cfg) (K : PySem.W.Frag) (F : Hp) (M : MM) (H : Hp) (F' : Hp) (M' : MM) (H' : Hp) : Prop where
  hm : HM G K F' M' H'
  ext : Same F F'
  kept : ∀ b o, H b = some o → F b = none → M b = none → ((∃ p ∈ G.tabs, p.1 = b) ∧ ∃ ps, H' b = some (.tbl ps) ∧ F' b = none ∧ M' b = none) ∨ (H' b = some o ∧ (F' b = none ∨ (F' b = some o ∧ TupO o)) ∧ M' b = none)
  tab0 : ∀ p ∈ G.tabs, ∃ ps : Array Value, H p.1 = some (.tbl ps)
theorem HM.tab0 (h : HM G K F M H) : ∀ p ∈ G.tabs, ∃ ps : Array Value, H p.1 = some (.tbl ps) := fun p hp => (h.tb p hp).2.2.there
theorem HM.noM {b : Addr} {o : HO} (h : HM G K F M H) (f : F b = some o) : M b = none := by
  cases q : M b with
  | none => rfl
  | some m => rw [h.dis b m q] at f; cases f
theorem Grow.refl (h : HM G K F M H) : Grow G K F M H F M H := ⟨h, Same.refl _, fun _ _ a b c => .inr ⟨a, .inl b, c⟩, h.tab0⟩
theorem Grow.trans (a : Grow G K F M H F1 M1 H1) (b : Grow G K F1 M1 H1 F2 M2 H2) : Grow G K F M H F2 M2 H2 :=
  ⟨b.hm, a.ext.trans b.ext, fun c o h f m => by
    rcases a.kept c o h f m with ⟨hp, ps, h1, f1, m1⟩ | ⟨h1, f1, m1⟩
    · rcases b.kept c _ h1 f1 m1 with t | ⟨h2, f2, m2⟩
      · exact .inl t
      · rcases f2 with f2 | ⟨_, _, z⟩
        · exact .inl ⟨hp, ps, h2, f2, m2⟩
        · cases z
    rcases f1 with f1 | ⟨f1, t⟩
    · exact b.kept c o h1 f1 m1
    · have f2 := b.ext _ _ f1
      exact .inr ⟨b.hm.sub _ _ f2, .inr ⟨f2, t⟩, b.hm.noM f2⟩, a.tab0⟩
/-- what is no tuple stays unclaimed -/
theorem Grow.keep (g : Grow G K F M H F' M' H') (b : Addr) (o : HO) (e : H b = some o) (f : F b = none) (m : M b = none) (nt : ¬ TupO o := by exact fun ⟨_, z⟩ => by cases z) (nb : ∀ ps, o ≠ .tbl ps := by exact fun _ z => by cases z) : H' b = some o ∧ F' b = none ∧ M' b = none := by
  rcases g.kept b o e f m with ⟨⟨p, hp, rfl⟩, _⟩ | ⟨h1, f1, m1⟩
  · obtain ⟨ps, z⟩ := g.tab0 p hp
    exact (nb ps (Option.some.inj (e.symm.trans z))).elim
  rcases f1 with f1 | ⟨_, t⟩
  · exact ⟨h1, f1, m1⟩
  · exact (nt t).elim
theorem HM.free {b : Addr} (h : HM G K F M H) (n : H b = none) : F b = none ∧ M b = none := by
  constructor
  · cases q : F b with
    | none => rfl
    | some o => rw [h.sub b o q] at n; cases n
  · cases q : M b with
    | none => rfl
    | some m =>
      obtain ⟨o, e⟩ := (h.mo b m q).some
      rw [e] at n; cases n
/-- a new object that never changes -/
theorem HM.new {p : Addr} {o : HO} (h : HM G K F M H) (n : H p = none) : Grow G K F M H (upd F p o) M (upd H p o) := by
  have ne : ∀ b o, F b = some o → b ≠ p := fun b o e q => by subst q; rw [(h.free n).1] at e; cases e
  have ne2 : ∀ b m, M b = some m → b ≠ p := fun b o e q => by subst q; rw [(h.free n).2] at e; cases e
  have s1 : Same F (upd F p o) := fun b u e => by rw [upd_ne (ne b u e)]; exact e
  refine ⟨⟨fun b u e => ?_, fun b m e => ?_, fun b m e => ?_, h.tbU s1 (h.ntab0 n) (fun b => updF_ne b) (fun _ _ z => z)⟩, s1, fun b u e f m => .inr ?_, h.tab0⟩
  · by_cases q : b = p
    · subst q; rw [upd_same] at e ⊢; exact e
    · rw [upd_ne q] at e ⊢; exact h.sub b u e
  · rw [upd_ne (ne2 b m e)]; exact h.dis b m e
  · exact (h.mo b m e).mono s1 (upd_ne (ne2 b m e))
  · have q : b ≠ p := fun q => by subst q; rw [n] at e; cases e
    exact ⟨by rw [upd_ne q]; exact e, .inl (by rw [upd_ne q]; exact f), m⟩
/-- a new object that may change -/
theorem HM.newM {p : Addr} {o : HO} {m : MO} (h : HM G K F M H) (n : H p = none) (r : RepM G K F (upd H p o) p m) : Grow G K F M H F (updM M p m) (upd H p o) := by
  have ne2 : ∀ b m, M b = some m → b ≠ p := fun b o e q => by subst q; rw [(h.free n).2] at e; cases e
  refine ⟨⟨fun b u e => ?_, fun b u e => ?_, fun b u e => ?_, h.tbU (Same.refl _) (h.ntab0 n) (fun _ _ z => z) (fun b => updM_nn b)⟩, Same.refl _, fun b u e f g => .inr ?_, h.tab0⟩
  · have q : b ≠ p := fun q => by subst q; rw [(h.free n).1] at e; cases e
    rw [upd_ne q]; exact h.sub b u e
  · by_cases q : b = p
    · subst q; exact (h.free n).1
    · rw [updM_ne q] at e; exact h.dis b u e
  · by_cases q : b = p
    · subst q; rw [updM_same] at e; cases e; exact r
    · rw [updM_ne q] at e; exact (h.mo b u e).mono (Same.refl _) (upd_ne q)
  · have q : b ≠ p := fun q => by subst q; rw [n] at e; cases e
    exact ⟨by rw [upd_ne q]; exact e, .inl f, by rw [updM_ne q]; exact g⟩
/-- a changing object is changed -/
theorem HM.put {p : Addr} {o : HO} {m m' : MO} (h : HM G K F M H) (e : M p = some m) (r : RepM G K F (upd H p o) p m') : Grow G K F M H F (updM M p m') (upd H p o) := by
  have fp : F p = none := h.dis p m e
  refine ⟨⟨fun b u q => ?_, fun b u q => ?_, fun b u q => ?_, h.tbU (Same.refl _) (h.ntabM e) (fun _ _ z => z) (fun b => updM_nn b)⟩, Same.refl _, fun b u q f g => .inr ?_, h.tab0⟩
  · have z : b ≠ p := fun z => by subst z; rw [fp] at q; cases q
    rw [upd_ne z]; exact h.sub b u q
  · by_cases z : b = p
    · subst z; exact fp
    · rw [updM_ne z] at q; exact h.dis b u q
  · by_cases z : b = p
    · subst z; rw [updM_same] at q; cases q; exact r
    · rw [updM_ne z] at q; exact (h.mo b u q).mono (Same.refl _) (upd_ne z)
  · have z : b ≠ p := fun z => by subst z; rw [e] at g; cases g
    exact ⟨by rw [upd_ne z]; exact q, .inl f, by rw [updM_ne z]; exact g⟩
/-- what changed is settled: it changes no more -/
def frzD : MO → D
  | .lst ds => .lst ds
  | .dct ds => .dct ds
  | .ins c fs => .ins c fs
  | .dcT _ => .non
theorem HM.settle {p : Addr} {m : MO} (h : HM G K F M H) (e : M p = some m) (hl : ∀ c fs, m = .ins c fs → fs.length = (G.nm c).length) (nt : ∀ ds, m ≠ .dcT ds := by intro _ z; cases z) : ∃ F', Grow G K F M H F' (delM M p) H ∧ Rep G K F' (.ref p) (frzD m) := by
  have fp : F p = none := h.dis p m e
  have r := h.mo p m e
  obtain ⟨o, ho⟩ := r.some
  have s1 : Same F (upd F p o) := fun b u q => by
    have z : b ≠ p := fun z => by subst z; rw [fp] at q; cases q
    rw [upd_ne z]; exact q
  refine ⟨upd F p o, ⟨⟨fun b u q => ?_, fun b u q => ?_, fun b u q => ?_, h.tbS s1 (h.ntabM e) (fun b => updF_ne b) (fun b => delM_nn b)⟩, s1, fun b u q f g => .inr ?_, h.tab0⟩, ?_⟩
  · by_cases z : b = p
    · subst z; rw [upd_same] at q; cases q; exact ho
    · rw [upd_ne z] at q; exact h.sub b u q
  · unfold delM at q
    by_cases z : b = p
    · rw [if_pos z] at q; cases q
    · rw [if_neg z] at q; rw [upd_ne z]; exact h.dis b u q
  · unfold delM at q
    by_cases z : b = p
    · rw [if_pos z] at q; cases q
    · rw [if_neg z] at q; exact (h.mo b u q).mono s1 rfl
  · have z : b ≠ p := fun z => by subst z; rw [e] at g; cases g
    exact ⟨q, .inl (by rw [upd_ne z]; exact f), by unfold delM; rw [if_neg z]; exact g⟩
  · cases m with
    | lst ds =>
      obtain ⟨vs, h1, r⟩ := r
      rw [ho] at h1; cases h1
      exact .lst upd_same (r.mono s1)
    | dct ds =>
      obtain ⟨vs, h1, r⟩ := r
      rw [ho] at h1; cases h1
      exact .dct upd_same (r.mono s1)
    | ins c fs =>
      obtain ⟨dx, vs, h1, l, r⟩ := r
      rw [ho] at h1; cases h1
      exact .ins (dx := dx) upd_same (by rw [r.len]; exact hl c fs rfl) (r.mono s1)
    | dcT ds => exact (nt ds rfl).elim
end
end DL

set_option Elab.async false
set_option linter.all false
set_option maxRecDepth 100000
namespace DL
open PySem PySem.Spec L2
open PyProof.Rows hiding St

/-- an exception: of a class of the text, with its fields; of a built-in class -/
inductive XD where
  | own (c : Nat) (fs : List D) | blt (n : String)
abbrev DS := List (Option D)
abbrev XK' := XD → DS → MM → Prop
abbrev WE := DS → MM → (D → MM → Prop) → XK' → Prop
abbrev WT := DS → MM → (Bool → MM → Prop) → XK' → Prop
abbrev WA := DS → MM → (List D → MM → Prop) → XK' → Prop
structure ED where
  nx : DS → MM → Prop
  rt : D → MM → Prop
  bk : DS → MM → Prop := fun _ _ => False
  ct : DS → MM → Prop := fun _ _ => False
abbrev WS := ED → XK' → DS → MM → Prop
abbrev SpD := List D → MM → (D → MM → Prop) → (XD → MM → Prop) → Prop

section
variable {G : Cfg} {K : PySem.W.Frag}
def RS (G : Cfg) (K : PySem.W.Frag) (F : Hp) (σ : St) (δ : DS) : Prop := σ.length = δ.length ∧ ∀ (i : Nat) (d : D), δ[i]? = some (some d) → ∃ v, σ[i]? = some (some v) ∧ Rep G K F v d
theorem RS.mono {F F' : Hp} {σ : St} {δ : DS} (e : Same F F') (h : RS G K F σ δ) : RS G K F' σ δ := ⟨h.1, fun i d q => let ⟨v, a, r⟩ := h.2 i d q; ⟨v, a, r.mono e⟩⟩
theorem RS.set {F : Hp} {σ : St} {δ : DS} {v : V} {d : D} (i : Nat) (h : RS G K F σ δ) (r : Rep G K F v d) : RS G K F (σ.set i (some v)) (δ.set i (some d)) := by
  refine ⟨by rw [List.length_set, List.length_set]; exact h.1, fun j e q => ?_⟩
  by_cases z : i = j
  · subst z
    by_cases l : i < δ.length
    · rw [List.getElem?_set_self l] at q
      cases q
      exact ⟨v, List.getElem?_set_self (by rw [h.1]; exact l), r⟩
    · rw [List.getElem?_eq_none_iff.mpr (by rw [List.length_set]; omega)] at q; cases q
  · rw [List.getElem?_set_ne z] at q ⊢
    exact h.2 j e q
def RX (G : Cfg) (K : PySem.W.Frag) (F H : Hp) (cls : Value) (dop : Option Addr) : XD → Prop
  | .own c fs => cls = .ref (G.cl c) ∧ ((fs = [] ∧ dop = none) ∨ ∃ d vs, dop = some d ∧ F d = some (.xd ((G.nm c).zip vs)) ∧ vs.length = (G.nm c).length ∧ RepL G K F vs fs)
  | .blt n => cls = .type n ∧ dop = none
def wX (G : Cfg) (K : PySem.W.Frag) (F : Hp) (M : MM) (H : Hp) (EX : XK') : WX := fun cls dop σ H' =>
  ∃ xd δ F' M', Grow G K F M H F' M' H' ∧ RS G K F' σ δ ∧ RX G K F' H' cls dop xd ∧ EX xd δ M'
theorem wX_mono {F F1 : Hp} {M M1 : MM} {H H1 : Hp} {EX : XK'} (g : Grow G K F M H F1 M1 H1) (c : Value) (d : Option Addr) (σ : St) (H' : Hp) (h : wX G K F1 M1 H1 EX c d σ H') : wX G K F M H EX c d σ H' := by
  obtain ⟨xd, δ, F', M', g', a, b, e⟩ := h
  exact ⟨xd, δ, F', M', g.trans g', a, b, e⟩
/-- what is wanted, lifted -/
def Fin (G : Cfg) (K : PySem.W.Frag) (F : Hp) (M : MM) (H : Hp) (Q : D → MM → Prop) (P : VK) : Prop := ∀ v d F' M' H', Grow G K F M H F' M' H' → Rep G K F' v d → Q d M' → P v H'
end

section
variable (G : Cfg) (X : Cx)
def up (w : WE) : TE := fun σ H P => ∃ F M δ Q EX, HM G X.K F M H ∧ RS G X.K F σ δ ∧ w δ M Q EX ∧ Takes X (wX G X.K F M H EX) ∧ Fin G X.K F M H Q P
def upT (w : WT) : TT := fun σ H P => ∃ F M δ Q EX, HM G X.K F M H ∧ RS G X.K F σ δ ∧ w δ M Q EX ∧ Takes X (wX G X.K F M H EX) ∧ ∀ b F' M' H', Grow G X.K F M H F' M' H' → Q b M' → P b H'
def upA (w : WA) : TA := fun σ H P => ∃ F M δ Q EX, HM G X.K F M H ∧ RS G X.K F σ δ ∧ w δ M Q EX ∧ Takes X (wX G X.K F M H EX) ∧ ∀ vs ds F' M' H', Grow G X.K F M H F' M' H' → RepL G X.K F' vs ds → Q ds M' → P vs H'
def upS (w : WS) : TS := fun D σ H => ∃ F M δ E EX, HM G X.K F M H ∧ RS G X.K F σ δ ∧ w E EX δ M ∧ Takes X (wX G X.K F M H EX) ∧
  (∀ σ' δ' F' M' H', Grow G X.K F M H F' M' H' → RS G X.K F' σ' δ' → E.nx δ' M' → D.nx σ' H') ∧
  (∀ v d F' M' H', Grow G X.K F M H F' M' H' → Rep G X.K F' v d → E.rt d M' → D.rt v H') ∧
  (∀ σ' δ' F' M' H', Grow G X.K F M H F' M' H' → RS G X.K F' σ' δ' → E.bk δ' M' → D.bk σ' H') ∧
  (∀ σ' δ' F' M' H', Grow G X.K F M H F' M' H' → RS G X.K F' σ' δ' → E.ct δ' M' → D.ct σ' H')
abbrev DE (e : Expr) (w : WE) : Prop := PE X e (up G X w)
abbrev DT (e : Expr) (w : WT) : Prop := PT X e (upT G X w)
abbrev DW (e : Expr) (w : WT) : Prop := PW X e (upT G X w)
abbrev DA (es : List Expr) (w : WA) : Prop := PA X es (upA G X w)
abbrev DSt (st : Stmt) (w : WS) : Prop := PS X st (upS G X w)
abbrev DSs (st : List Stmt) (w : WS) : Prop := PSs X st (upS G X w)
end

section
variable {G : Cfg} {X : Cx} {e a b : Expr}
theorem pe_imp {t t' : TE} (h : PE X e t) (i : ∀ σ H P, t' σ H P → t σ H P) : PE X e t' := ⟨fun pins s σ H Q I q => h.run pins s σ H Q I (i σ H Q q)⟩
theorem pt_imp {t t' : TT} (h : PT X e t) (i : ∀ σ H P, t' σ H P → t σ H P) : PT X e t' := ⟨fun pins s σ H Q I q => h.run pins s σ H Q I (i σ H Q q)⟩
theorem pw_imp {t t' : TT} (h : PW X e t) (i : ∀ σ H P, t' σ H P → t σ H P) : PW X e t' := ⟨fun wh pins s σ H Q I q => h.run wh pins s σ H Q I (i σ H Q q)⟩
theorem pa_imp {es : List Expr} {t t' : TA} (h : PA X es t) (i : ∀ σ H P, t' σ H P → t σ H P) : PA X es t' := ⟨fun pos pins s σ H Q I q => h.run pos pins s σ H Q I (i σ H Q q)⟩
theorem ps_imp {st : Stmt} {t t' : TS} (h : PS X st t) (i : ∀ D σ H, t' D σ H → t D σ H) : PS X st t' := ⟨fun pins s σ H D I q => h.run pins s σ H D I (i D σ H q)⟩
theorem pss_imp {st : List Stmt} {t t' : TS} (h : PSs X st t) (i : ∀ D σ H, t' D σ H → t D σ H) : PSs X st t' := ⟨fun pins s σ H D I q => h.run pins s σ H D I (i D σ H q)⟩

/-! ### names, constants -/
def wV (i : Nat) : WE := fun δ M Q _ => match δ[i]? with
  | some (some d) => Q d M
  | _ => False
theorem wV_elim {i : Nat} {δ : DS} {M : MM} {Q : D → MM → Prop} {EX : XK'} (h : wV i δ M Q EX) : ∃ d, δ[i]? = some (some d) ∧ Q d M := by
  unfold wV at h
  split at h
  · exact ⟨_, by assumption, h⟩
  · exact h.elim
theorem de_v (i : Nat) {x : Str} {pos : Pos} (hN : X.N[i]? = some x := by rfl) (hv : Vis X.env.scope x := by first | exact Or.inl rfl | exact Or.inr (Or.inl rfl) | exact Or.inr (Or.inr rfl)) (hd : (x == ("__debug__" : Str)) = false := by decide)
    (hcd : (x == ("__classdict__" : Str)) = false := by decide) : DE G X (.Name x pos) (wV i) := by
  refine pe_imp (pe_var (i := i) hN hv hd hcd) fun σ H P ⟨F, M, δ, Q, EX, hm, rs, w, tk, f⟩ => ?_
  obtain ⟨d, e, q⟩ := wV_elim w
  obtain ⟨v, e', r⟩ := rs.2 i d e
  exact ⟨v, e', f v d F M H (.refl hm) r q⟩
def wC (d : D) : WE := fun _ M Q _ => Q d M
theorem up_c {v : V} {d : D} (r : ∀ K F, Rep G K F v d) (σ : St) (H : Hp) (P : VK) (h : up G X (wC d) σ H P) : tC v σ H P := by
  obtain ⟨F, M, δ, Q, EX, hm, rs, w, tk, f⟩ := h
  exact f v d F M H (.refl hm) (r _ _) w
theorem de_int {i j pos} : DE G X (.Constant (.int i) j pos) (wC (.int i)) := pe_imp pe_int (up_c fun _ _ => .int i)
theorem de_bl {b j pos} : DE G X (.Constant (.bool b) j pos) (wC (.bl b)) := pe_imp pe_bl (up_c fun _ _ => .bl b)
theorem de_non {j pos} : DE G X (.Constant .none j pos) (wC .non) := pe_imp pe_non (up_c fun _ _ => .non)
theorem de_str {x j pos} : DE G X (.Constant (.str x) j pos) (wC (.str x)) := pe_imp pe_str (up_c fun _ _ => .str x)

/-! ### two in a row, operators -/
abbrev WR2 := D → D → MM → (D → MM → Prop) → Prop
/-- an operator's reading by trees -/
def Sim2 (G : Cfg) (K : PySem.W.Frag) (r : R2) (w : WR2) : Prop := ∀ F M H x y dx dy Q P, HM G K F M H → Rep G K F x dx → Rep G K F y dy → w dx dy M Q → Fin G K F M H Q P → r x y H P
def wOp (w : WR2) (wa wb : WE) : WE := fun δ M Q EX => wa δ M (fun x M1 => wb δ M1 (fun y M2 => w x y M2 Q) EX) EX
theorem up_op {r : R2} {w : WR2} {wa wb : WE} (s : Sim2 G X.K r w) (σ : St) (H : Hp) (P : VK) (h : up G X (wOp w wa wb) σ H P) : tOp r (up G X wa) (up G X wb) σ H P := by
  obtain ⟨F, M, δ, Q, EX, hm, rs, h, tk, f⟩ := h
  refine ⟨F, M, δ, _, EX, hm, rs, h, tk, fun x dx F1 M1 H1 g1 r1 h1 => ?_⟩
  refine ⟨F1, M1, δ, _, EX, g1.hm, rs.mono g1.ext, h1, tk.imp (wX_mono g1), fun y dy F2 M2 H2 g2 r2 h2 => ?_⟩
  exact s F2 M2 H2 x y dx dy Q P g2.hm (r1.mono g2.ext) r2 h2 fun v d F3 M3 H3 g3 r3 q => f v d F3 M3 H3 ((g1.trans g2).trans g3) r3 q
theorem de_op {op : Operator} {r : R2} {w : WR2} {wa wb : WE} {pos : Pos} (ho : OpR X (binaryOp op) r) (s : Sim2 G X.K r w) (ha : DE G X a wa) (hb : DE G X b wb) : DE G X (.BinOp a op b pos) (wOp w wa wb) := pe_imp (pe_op ho ha hb) (up_op s)
theorem de_cmp {op : CmpOp} {r : R2} {w : WR2} {wa wb : WE} {pos : Pos} (ho : OpR X (compareOp op) r) (s : Sim2 G X.K r w) (ha : DE G X a wa) (hb : DE G X b wb) (hm : behindInMarks op b = false) : DE G X (.Compare a [op] [b] pos) (wOp w wa wb) := pe_imp (pe_cmpR ho ha hb hm) (up_op s)
theorem de_ix {r : R2} {w : WR2} {wa wb : WE} {pos : Pos} (hr : IxR X r) (s : Sim2 G X.K r w) (ha : DE G X a wa) (hb : DE G X b wb) (hs : PlainIx b) : DE G X (.Subscript a b pos) (wOp w wa wb) := pe_imp (pe_ix hr ha hb hs) (up_op s)

/-- a bool's value as a test -/
def wTst (w : WE) : WT := fun δ M Q EX => w δ M (fun d M1 => ∃ c, d = .bl c ∧ Q c M1) EX
theorem dt_val {w : WE} (h : DE G X e w) (he : ∀ whole, isTrue e X.env whole = (do let v ← whole; standAt e.pos; holding [v] (truthy v)) := by intro _; rfl) : DT G X e (wTst w) := by
  refine pt_imp (pt_val h he) fun σ H P ⟨F, M, δ, Q, EX, hm, rs, h, tk, f⟩ => ?_
  refine ⟨F, M, δ, _, EX, hm, rs, h, tk, fun v d F' M' H' g r ⟨c, e, q⟩ => ?_⟩
  subst e
  cases r
  exact ⟨c, rfl, f c F' M' H' g q⟩
theorem dt_cmp {op : CmpOp} {r : R2} {w : WR2} {wa wb : WE} {pos : Pos} (ho : OpR X (compareOp op) r) (s : Sim2 G X.K r w) (ha : DE G X a wa) (hb : DE G X b wb) (hm : behindInMarks op b = false) : DT G X (.Compare a [op] [b] pos) (wTst (wOp w wa wb)) := by
  refine pt_imp (pt_cmpR ho ha hb hm) fun σ H P ⟨F, M, δ, Q, EX, hm, rs, h, tk, f⟩ => ?_
  refine up_op s σ H _ ⟨F, M, δ, _, EX, hm, rs, h, tk, fun v d F' M' H' g r ⟨c, e, q⟩ => ?_⟩
  subst e
  cases r
  exact ⟨c, rfl, f c F' M' H' g q⟩
/-! ### and, or, not -/
def wAndT (p q : WT) : WT := fun δ M Q EX => p δ M (fun c M1 => if c = true then q δ M1 Q EX else Q false M1) EX
def wOrT (p q : WT) : WT := fun δ M Q EX => p δ M (fun c M1 => if c = true then Q true M1 else q δ M1 Q EX) EX
def wNotT (p : WT) : WT := fun δ M Q EX => p δ M (fun c M1 => Q (!c) M1) EX
theorem dw_and1 {w : WT} {pos} (h : DT G X a w) : DW G X (.BoolOp .And [a] pos) w := pw_and1 h
theorem dw_or1 {w : WT} {pos} (h : DT G X a w) : DW G X (.BoolOp .Or [a] pos) w := pw_or1 h
theorem up_and {p q : WT} (σ : St) (H : Hp) (P : Bool → Hp → Prop) (h : upT G X (wAndT p q) σ H P) : tAnd (upT G X p) (upT G X q) σ H P := by
  obtain ⟨F, M, δ, Q, EX, hm, rs, h, tk, f⟩ := h
  refine ⟨F, M, δ, _, EX, hm, rs, h, tk, fun c F1 M1 H1 g1 h1 => ?_⟩
  cases c with
  | true => exact ⟨F1, M1, δ, Q, EX, g1.hm, rs.mono g1.ext, h1, tk.imp (wX_mono g1), fun b F2 M2 H2 g2 q => f b F2 M2 H2 (g1.trans g2) q⟩
  | false => exact f false F1 M1 H1 g1 h1
theorem up_or {p q : WT} (σ : St) (H : Hp) (P : Bool → Hp → Prop) (h : upT G X (wOrT p q) σ H P) : tOr (upT G X p) (upT G X q) σ H P := by
  obtain ⟨F, M, δ, Q, EX, hm, rs, h, tk, f⟩ := h
  refine ⟨F, M, δ, _, EX, hm, rs, h, tk, fun c F1 M1 H1 g1 h1 => ?_⟩
  cases c with
  | true => exact f true F1 M1 H1 g1 h1
  | false => exact ⟨F1, M1, δ, Q, EX, g1.hm, rs.mono g1.ext, h1, tk.imp (wX_mono g1), fun b F2 M2 H2 g2 q => f b F2 M2 H2 (g1.trans g2) q⟩
theorem dw_and {p q : WT} {rest : List Expr} {pos} (ha : DT G X a p) (hb : DW G X (.BoolOp .And (b :: rest) pos) q) : DW G X (.BoolOp .And (a :: b :: rest) pos) (wAndT p q) := pw_imp (pw_and ha hb) up_and
theorem dw_or {p q : WT} {rest : List Expr} {pos} (ha : DT G X a p) (hb : DW G X (.BoolOp .Or (b :: rest) pos) q) : DW G X (.BoolOp .Or (a :: b :: rest) pos) (wOrT p q) := pw_imp (pw_or ha hb) up_or
theorem dt_w {w : WT} (h : DW G X e w) : DT G X e w := h.pt
theorem dt_not {p : WT} {pos} (h : DT G X a p) : DT G X (.UnaryOp .Not a pos) (wNotT p) := by
  refine pt_imp (pt_not h) fun σ H P ⟨F, M, δ, Q, EX, hm, rs, h, tk, f⟩ => ?_
  exact ⟨F, M, δ, _, EX, hm, rs, h, tk, fun c F1 M1 H1 g1 q => f (!c) F1 M1 H1 g1 q⟩
/-- .. as values, bools all -/
def wAndV (wa wb : WE) : WE := fun δ M Q EX => wa δ M (fun x M1 => ∃ c, x = .bl c ∧ if c = true then wb δ M1 Q EX else Q (.bl false) M1) EX
def wOrV (wa wb : WE) : WE := fun δ M Q EX => wa δ M (fun x M1 => ∃ c, x = .bl c ∧ if c = true then Q (.bl true) M1 else wb δ M1 Q EX) EX
def wNotV (wa : WE) : WE := fun δ M Q EX => wa δ M (fun x M1 => ∃ c, x = .bl c ∧ Q (.bl (!c)) M1) EX
theorem de_one {op} {w : WE} {pos} (h : DE G X a w) : DE G X (.BoolOp op [a] pos) w := pe_one h
theorem de_and {wa wb : WE} {rest : List Expr} {pos} (ha : DE G X a wa) (hb : DE G X (.BoolOp .And (b :: rest) pos) wb) : DE G X (.BoolOp .And (a :: b :: rest) pos) (wAndV wa wb) := by
  refine pe_imp (pe_and ha hb) fun σ H P ⟨F, M, δ, Q, EX, hm, rs, h, tk, f⟩ => ?_
  refine ⟨F, M, δ, _, EX, hm, rs, h, tk, fun v d F1 M1 H1 g1 r1 ⟨c, e, h1⟩ => ?_⟩
  subst e
  cases r1
  refine ⟨c, rfl, ?_⟩
  cases c with
  | true => exact ⟨F1, M1, δ, Q, EX, g1.hm, rs.mono g1.ext, h1, tk.imp (wX_mono g1), fun v b F2 M2 H2 g2 r q => f v b F2 M2 H2 (g1.trans g2) r q⟩
  | false => exact f _ _ F1 M1 H1 g1 (.bl false) h1
theorem de_or {wa wb : WE} {rest : List Expr} {pos} (ha : DE G X a wa) (hb : DE G X (.BoolOp .Or (b :: rest) pos) wb) : DE G X (.BoolOp .Or (a :: b :: rest) pos) (wOrV wa wb) := by
  refine pe_imp (pe_or ha hb) fun σ H P ⟨F, M, δ, Q, EX, hm, rs, h, tk, f⟩ => ?_
  refine ⟨F, M, δ, _, EX, hm, rs, h, tk, fun v d F1 M1 H1 g1 r1 ⟨c, e, h1⟩ => ?_⟩
  subst e
  cases r1
  refine ⟨c, rfl, ?_⟩
  cases c with
  | true => exact f _ _ F1 M1 H1 g1 (.bl true) h1
  | false => exact ⟨F1, M1, δ, Q, EX, g1.hm, rs.mono g1.ext, h1, tk.imp (wX_mono g1), fun v b F2 M2 H2 g2 r q => f v b F2 M2 H2 (g1.trans g2) r q⟩
theorem de_not {wa : WE} {pos} (h : DE G X a wa) : DE G X (.UnaryOp .Not a pos) (wNotV wa) := by
  refine pe_imp (pe_not h) fun σ H P ⟨F, M, δ, Q, EX, hm, rs, h, tk, f⟩ => ?_
  refine ⟨F, M, δ, _, EX, hm, rs, h, tk, fun v d F1 M1 H1 g1 r1 ⟨c, e, q⟩ => ?_⟩
  subst e
  cases r1
  exact ⟨c, rfl, f _ _ F1 M1 H1 g1 (.bl _) q⟩
def wIf (p : WT) (wa wb : WE) : WE := fun δ M Q EX => p δ M (fun c M1 => if c = true then wa δ M1 Q EX else wb δ M1 Q EX) EX
theorem de_if {c : Expr} {p : WT} {wa wb : WE} {pos} (hc : DT G X c p) (ha : DE G X a wa) (hb : DE G X b wb) : DE G X (.IfExp c a b pos) (wIf p wa wb) := by
  refine pe_imp (pe_ifExp hc ha hb) fun σ H P ⟨F, M, δ, Q, EX, hm, rs, h, tk, f⟩ => ?_
  refine ⟨F, M, δ, _, EX, hm, rs, h, tk, fun c F1 M1 H1 g1 h1 => ?_⟩
  cases c <;> exact ⟨F1, M1, δ, Q, EX, g1.hm, rs.mono g1.ext, h1, tk.imp (wX_mono g1), fun v b F2 M2 H2 g2 r q => f v b F2 M2 H2 (g1.trans g2) r q⟩

/-! ### arguments -/
def wNil : WA := fun _ M Q _ => Q [] M
def wCons (we : WE) (wr : WA) : WA := fun δ M Q EX => we δ M (fun d M1 => wr δ M1 (fun ds M2 => Q (d :: ds) M2) EX) EX
theorem da_nil : DA G X [] wNil := pa_imp pa_nil fun σ H P ⟨F, M, δ, Q, EX, hm, rs, h, tk, f⟩ => f [] [] F M H (.refl hm) .nil h
theorem da_cons {es : List Expr} {we : WE} {wr : WA} (he : DE G X e we) (hr : DA G X es wr) (hst : starEach (e :: es) X.env = (false, eval e X.env) :: starEach es X.env := by rfl) : DA G X (e :: es) (wCons we wr) := by
  refine pa_imp (pa_cons he hr hst) fun σ H P ⟨F, M, δ, Q, EX, hm, rs, h, tk, f⟩ => ?_
  refine ⟨F, M, δ, _, EX, hm, rs, h, tk, fun v d F1 M1 H1 g1 r1 h1 => ?_⟩
  exact ⟨F1, M1, δ, _, EX, g1.hm, rs.mono g1.ext, h1, tk.imp (wX_mono g1), fun vs ds F2 M2 H2 g2 r2 q => f (v :: vs) (d :: ds) F2 M2 H2 (g1.trans g2) (.cons (r1.mono g2.ext) r2) q⟩
end
end DL

set_option Elab.async false
set_option linter.all false
set_option maxRecDepth 100000
namespace DL
open PySem PySem.Spec L2
open PyProof.Rows hiding St

section
variable {G : Cfg} {K : PySem.W.Frag}
/-! ### ints -/
def wI0 (g : Int → Int → D) : WR2 := fun x y M Q => match x, y with
  | .int i, .int j => Q (g i j) M
  | _, _ => False
def wI (C : Int → Int → Prop) (g : Int → Int → D) : WR2 := fun x y M Q => match x, y with
  | .int i, .int j => C i j ∧ Q (g i j) M
  | _, _ => False
theorem sim_I0 {gv : Int → Int → V} {g : Int → Int → D} (hg : ∀ F i j, Rep G K F (gv i j) (g i j)) : Sim2 G K (rI0 gv) (wI0 g) := by
  intro F M H x y dx dy Q P hm rx ry w f
  unfold wI0 at w
  split at w
  · cases rx; cases ry
    exact ⟨_, _, rfl, rfl, f _ _ F M H (.refl hm) (hg _ _ _) w⟩
  · exact w.elim
theorem sim_I {C : Int → Int → Prop} {gv : Int → Int → V} {g : Int → Int → D} (hg : ∀ F i j, Rep G K F (gv i j) (g i j)) : Sim2 G K (rI C gv) (wI C g) := by
  intro F M H x y dx dy Q P hm rx ry w f
  unfold wI at w
  split at w
  · cases rx; cases ry
    exact ⟨_, _, rfl, rfl, w.1, f _ _ F M H (.refl hm) (hg _ _ _) w.2⟩
  · exact w.elim
abbrev wAdd : WR2 := wI0 fun i j => .int (i + j)
abbrev wSub : WR2 := wI0 fun i j => .int (i - j)
abbrev wMul : WR2 := wI CMul fun i j => .int (i * j)
abbrev wDiv : WR2 := wI CDiv fun i j => .int (i / j)
abbrev wMod : WR2 := wI (fun _ j => 0 < j) fun i j => .int (i % j)
abbrev wPow : WR2 := wI CPow fun i j => .int (i ^ j.toNat)
abbrev wLt : WR2 := wI0 fun i j => .bl (decide (i < j))
abbrev wLe : WR2 := wI0 fun i j => .bl (decide (i ≤ j))
abbrev wGt : WR2 := wI0 fun i j => .bl (decide (j < i))
abbrev wGe : WR2 := wI0 fun i j => .bl (decide (j ≤ i))
theorem int_rep {g : Int → Int → Int} : ∀ F i j, Rep G K F (.int (g i j)) (.int (g i j)) := fun _ _ _ => .int _
theorem bl_rep {g : Int → Int → Bool} : ∀ F i j, Rep G K F (.bl (g i j)) (.bl (g i j)) := fun _ _ _ => .bl _

/-! ### data -/
mutual
def toPy : D → Option PyData
  | .non => some .none
  | .bl b => some (.bool b)
  | .int i => some (.int i)
  | .str x => some (.str x)
  | .tup ds => (toPys ds).map .tuple
  | .lst ds => (toPys ds).map .list
  | .frl ds => (toPys ds).map .list
  | _ => none
def toPys : List D → Option (List PyData)
  | [] => some []
  | d :: ds => match toPy d, toPys ds with
    | some p, some ps => some (p :: ps)
    | _, _ => none
end
mutual
theorem toPy_dp {F : Hp} : ∀ {v : V} {d : D} {p : PyData}, Rep G K F v d → toPy d = some p → Dp K F v p
  | _, _, _, .non, e => by simp only [toPy, Option.some.injEq] at e; subst e; exact .non
  | _, _, _, .bl b, e => by simp only [toPy, Option.some.injEq] at e; subst e; exact .bl b
  | _, _, _, .int i, e => by simp only [toPy, Option.some.injEq] at e; subst e; exact .int i
  | _, _, _, .str x, e => by simp only [toPy, Option.some.injEq] at e; subst e; exact .str x
  | _, _, _, .raw v, e => by simp only [toPy] at e; cases e
  | _, _, _, .dct _ _, e => by simp only [toPy] at e; cases e
  | _, _, _, .ins _ _ _, e => by simp only [toPy] at e; cases e
  | _, .tup ds, _, .tup h r, e => by
    simp only [toPy] at e
    cases q : toPys ds with
    | none => rw [q] at e; cases e
    | some ps => rw [q] at e; cases e; exact .tup (SqT.of h) (toPys_dp r q)
  | _, .lst ds, _, .lst h r, e => by
    simp only [toPy] at e
    cases q : toPys ds with
    | none => rw [q] at e; cases e
    | some ps => rw [q] at e; cases e; exact .lst (SqL.of h) (toPys_dp r q)
  | _, .frl ds, _, .frl h r, e => by
    simp only [toPy] at e
    cases q : toPys ds with
    | none => rw [q] at e; cases e
    | some ps => rw [q] at e; cases e; exact .lst h (toPys_dp r q)
theorem toPys_dp {F : Hp} : ∀ {vs : List V} {ds : List D} {ps : List PyData}, RepL G K F vs ds → toPys ds = some ps → DpAll K F vs ps
  | _, _, _, .nil, e => by simp only [toPys, Option.some.injEq] at e; subst e; exact .nil
  | _, d :: ds, _, .cons r t, e => by
    simp only [toPys] at e
    split at e
    · rename_i p ps q1 q2
      cases e
      exact .cons (toPy_dp r q1) (toPys_dp t q2)
    · cases e
end
mutual
theorem Dp.up {F H : Hp} (e : Same F H) : ∀ {v : V} {p : PyData}, Dp K F v p → Dp K H v p
  | _, _, .non => .non
  | _, _, .bl b => .bl b
  | _, _, .int i => .int i
  | _, _, .str x => .str x
  | _, _, .lst h r => .lst (e.seq h) (DpAll.up e r)
  | _, _, .tup h r => .tup (sqT_up e h) (DpAll.up e r)
theorem DpAll.up {F H : Hp} (e : Same F H) : ∀ {vs : List V} {ps : List PyData}, DpAll K F vs ps → DpAll K H vs ps
  | _, _, .nil => .nil
  | _, _, .cons r t => .cons (Dp.up e r) (DpAll.up e t)
end
/-- data as it now is, a changing list too -/
def py (M : MM) : D → Option PyData
  | .raw (.ref a) => match M a with
    | some (.lst ds) => toPy (.lst ds)
    | _ => none
  | d => toPy d
theorem py_dp {F : Hp} {M : MM} {H : Hp} {v : V} {d : D} {p : PyData} (hm : HM G K F M H) (r : Rep G K F v d) (e : py M d = some p) : Dp K H v p := by
  unfold py at e
  split at e
  · rename_i a
    cases r
    split at e
    · rename_i ds q
      obtain ⟨vs, h1, r1⟩ := hm.mo a _ q
      simp only [toPy] at e
      cases q2 : toPys ds with
      | none => rw [q2] at e; cases e
      | some ps => rw [q2] at e; cases e; exact .lst (SqL.of h1) (DpAll.up hm.sub (toPys_dp r1 q2))
    · cases e
  · exact Dp.up hm.sub (toPy_dp r e)
@[irreducible] def wEq : WR2 := fun x y M Q => ∃ p q, py M x = some p ∧ py M y = some q ∧ SeqAt.shaped p = true ∧ SeqAt.shaped q = true ∧ Q (.bl (PyData.eqv p q)) M
@[irreducible] def wNe : WR2 := fun x y M Q => ∃ p q, py M x = some p ∧ py M y = some q ∧ SeqAt.shaped p = true ∧ SeqAt.shaped q = true ∧ Q (.bl (!PyData.eqv p q)) M
theorem sim_eq : Sim2 G K (rEqD K) wEq := fun F M H x y dx dy Q P hm rx ry hw f => by
  unfold wEq at hw
  obtain ⟨p, q, h1, h2, h3, h4, h⟩ := hw
  exact ⟨p, q, py_dp hm rx h1, py_dp hm ry h2, h3, h4, f _ _ F M H (.refl hm) (.bl _) h⟩
theorem sim_ne : Sim2 G K (rNeD K) wNe := fun F M H x y dx dy Q P hm rx ry hw f => by
  unfold wNe at hw
  obtain ⟨p, q, h1, h2, h3, h4, h⟩ := hw
  exact ⟨p, q, py_dp hm rx h1, py_dp hm ry h2, h3, h4, f _ _ F M H (.refl hm) (.bl _) h⟩
/-- is None, is not None -/
def isN : D → Option Bool
  | .non => some true
  | .raw _ => none
  | _ => some false
def wIsN : WR2 := fun x y M Q => match y, isN x with
  | .non, some b => Q (.bl b) M
  | _, _ => False
def wNotN : WR2 := fun x y M Q => match y, isN x with
  | .non, some b => Q (.bl (!b)) M
  | _, _ => False
theorem isN_rep {F : Hp} {v : V} {d : D} {b : Bool} (r : Rep G K F v d) (e : isN d = some b) : decide (v = .non) = b := by
  cases r <;> simp only [isN, Option.some.injEq, reduceCtorEq] at e <;> subst e <;> simp
theorem sim_isN : Sim2 G K (fun x y H Q => y = .non ∧ Q (.bl (decide (x = .non))) H) wIsN := by
  intro F M H x y dx dy Q P hm rx ry w f
  unfold wIsN at w
  split at w
  · rename_i b e
    cases ry
    exact ⟨rfl, by rw [isN_rep rx e]; exact f _ _ F M H (.refl hm) (.bl _) w⟩
  · exact w.elim
theorem sim_notN : Sim2 G K (fun x y H Q => y = .non ∧ Q (.bl (!decide (x = .non))) H) wNotN := by
  intro F M H x y dx dy Q P hm rx ry w f
  unfold wNotN at w
  split at w
  · rename_i b e
    cases ry
    exact ⟨rfl, by rw [isN_rep rx e]; exact f _ _ F M H (.refl hm) (.bl _) w⟩
  · exact w.elim

/-! ### lists as they are now -/
def lstOf (M : MM) : D → Option (List D)
  | .lst ds => some ds
  | .raw (.ref a) => match M a with
    | some (.lst ds) => some ds
    | _ => none
  | _ => none
theorem lstOf_rep {F : Hp} {M : MM} {H : Hp} {v : V} {d : D} {ds : List D} (hm : HM G K F M H) (r : Rep G K F v d) (e : lstOf M d = some ds) : ∃ a vs, v = .ref a ∧ H a = some (.lst vs) ∧ RepL G K F vs ds := by
  unfold lstOf at e
  split at e
  · cases e
    cases r with
    | lst h r => exact ⟨_, _, rfl, hm.sub _ _ h, r⟩
  · rename_i a
    split at e
    · rename_i q
      cases e
      cases r
      obtain ⟨vs, h1, r1⟩ := hm.mo a _ q
      exact ⟨a, vs, rfl, h1, r1⟩
    · cases e
  · cases e
/-- a list or a tuple, as it is now -/
def seqOf (M : MM) : D → Option (List D)
  | .tup ds => some ds
  | .frl ds => some ds
  | d => lstOf M d
theorem seqOf_rep {F : Hp} {M : MM} {H : Hp} {v : V} {d : D} {ds : List D} (hm : HM G K F M H) (r : Rep G K F v d) (e : seqOf M d = some ds) : ∃ a vs, v = .ref a ∧ (SqL K H a vs ∨ SqT K H a vs) ∧ RepL G K F vs ds := by
  unfold seqOf at e
  split at e
  · cases e
    cases r with
    | tup h r => exact ⟨_, _, rfl, .inr (sqT_mono hm.sub h), r⟩
  · cases e
    cases r with
    | frl h r => exact ⟨_, _, rfl, .inl (hm.sub.seq h), r⟩
  · obtain ⟨a, vs, e1, h1, r1⟩ := lstOf_rep hm r e
    exact ⟨a, vs, e1, .inl (SqL.of h1), r1⟩
/-- xs + ys, a new list -/
@[irreducible] def wCat : WR2 := fun x y M Q => match lstOf M x, lstOf M y with
  | some xs, some ys => xs.length + ys.length ≤ sizeLine ∧ Q (.lst (xs ++ ys)) M
  | _, _ => False
theorem sim_cat : Sim2 G K rCat wCat := by
  intro F M H x y dx dy Q P hm rx ry w f
  unfold wCat at w
  split at w
  · rename_i xs ys e1 e2
    obtain ⟨a, vs, rfl, h1, r1⟩ := lstOf_rep hm rx e1
    obtain ⟨b, ws, rfl, h2, r2⟩ := lstOf_rep hm ry e2
    refine ⟨a, b, vs, ws, rfl, rfl, h1, h2, by rw [r1.len, r2.len]; exact w.1, fun p hp => ?_⟩
    have g := hm.new (o := .lst (vs ++ ws)) hp
    exact f _ _ _ _ _ g (.lst upd_same ((r1.app r2).mono g.ext)) w.2
  · exact w.elim
def repL {α : Type} (k : Int) (xs : List α) : List α := (List.replicate k.toNat xs).flatten
theorem RepL.repL {F : Hp} {vs : List V} {ds : List D} (r : RepL G K F vs ds) (k : Int) : RepL G K F (repL k vs) (repL k ds) := by
  unfold DL.repL
  generalize k.toNat = n
  induction n with
  | zero => exact .nil
  | succ n ih => rw [List.replicate_succ, List.replicate_succ, List.flatten_cons, List.flatten_cons]; exact r.app ih
def wRep : WR2 := fun x y M Q => match lstOf M x, y with
  | some xs, .int k => (-(2 ^ 63) ≤ k ∧ k < 2 ^ 63) ∧ xs.length * k.toNat ≤ sizeLine ∧ Q (.lst (repL k xs)) M
  | _, _ => False
theorem sim_rep : Sim2 G K rRep wRep := by
  intro F M H x y dx dy Q P hm rx ry w f
  unfold wRep at w
  split at w
  · rename_i xs k e1
    obtain ⟨a, vs, rfl, h1, r1⟩ := lstOf_rep hm rx e1
    cases ry
    refine ⟨a, k, vs, rfl, rfl, h1, w.1.1, w.1.2, by rw [r1.len]; exact w.2.1, fun p hp => ?_⟩
    have g := hm.new (o := .lst (List.replicate k.toNat vs).flatten) hp
    exact f _ _ _ _ _ g (.lst upd_same ((r1.repL k).mono g.ext)) w.2.2
  · exact w.elim
/-- t + u -/
def wCatT : WR2 := fun x y M Q => match x, y with
  | .tup xs, .tup ys => xs.length + ys.length ≤ sizeLine ∧ Q (.tup (xs ++ ys)) M
  | _, _ => False
theorem RepL.nil_iff {F : Hp} {vs : List V} {ds : List D} (r : RepL G K F vs ds) : vs = [] ↔ ds = [] := by
  cases r with
  | nil => simp
  | cons _ _ => simp
theorem sim_catT : Sim2 G K (rCatA K) wCatT := by
  intro F M H x y dx dy Q P hm rx ry w f
  unfold wCatT at w
  split at w
  · rename_i xs ys
    cases rx with
    | tup h1 r1 =>
      cases ry with
      | tup h2 r2 =>
        rename_i a vs b ws
        refine ⟨a, b, vs, ws, rfl, rfl, sqT_mono hm.sub h1, sqT_mono hm.sub h2, by rw [r1.len, r2.len]; exact w.1, fun e => ?_, fun _ e => ?_, fun _ _ p hp => ?_⟩
        · have e' := r1.nil_iff.mp e
          subst e'
          exact f _ _ F M H (.refl hm) (.tup h2 r2) w.2
        · have e' := r2.nil_iff.mp e
          subst e'
          exact f _ _ F M H (.refl hm) (.tup h1 r1) (by have z := w.2; rw [List.append_nil] at z; exact z)
        · have g := hm.new (o := .tup (vs ++ ws)) hp
          exact f _ _ _ _ _ g (.tup upd_same ((r1.app r2).mono g.ext)) w.2
  · exact w.elim
/-! ### items -/
def atD (xs : List D) (i : Int) : Option D := (ixN xs.length i).bind fun j => xs[j]?
theorem atD_rep {F : Hp} {vs : List V} {ds : List D} {i : Int} {d : D} (r : RepL G K F vs ds) (e : atD ds i = some d) : ∃ v, atI vs i = some v ∧ Rep G K F v d := by
  unfold atD at e
  unfold atI
  rw [r.len]
  cases q : ixN ds.length i with
  | none => rw [q] at e; cases e
  | some j =>
    rw [q] at e
    exact r.get e
@[irreducible] def wIxL : WR2 := fun x y M Q => match lstOf M x, y with
  | some xs, .int i => match atD xs i with
    | some d => Q d M
    | none => False
  | _, _ => False
theorem sim_ixL : Sim2 G K (rIxL K) wIxL := by
  intro F M H x y dx dy Q P hm rx ry w f
  unfold wIxL at w
  split at w
  · rename_i xs i e1
    split at w
    · rename_i d e2
      obtain ⟨a, vs, rfl, h1, r1⟩ := lstOf_rep hm rx e1
      cases ry
      obtain ⟨v, e3, r3⟩ := atD_rep r1 e2
      exact ⟨a, vs, i, v, rfl, rfl, SqL.of h1, e3, f _ _ F M H (.refl hm) r3 w⟩
    · exact w.elim
  · exact w.elim
@[irreducible] def wIxT : WR2 := fun x y M Q => match x, y with
  | .tup xs, .int i => match atD xs i with
    | some d => Q d M
    | none => False
  | _, _ => False
theorem sim_ixT : Sim2 G K (rIxT K) wIxT := by
  intro F M H x y dx dy Q P hm rx ry w f
  unfold wIxT at w
  split at w
  · rename_i xs i
    split at w
    · rename_i d e2
      cases rx with
      | tup h1 r1 =>
        cases ry
        obtain ⟨v, e3, r3⟩ := atD_rep r1 e2
        exact ⟨_, _, i, v, rfl, rfl, sqT_mono hm.sub h1, e3, f _ _ F M H (.refl hm) r3 w⟩
    · exact w.elim
  · exact w.elim
/-- an item of a list or a tuple -/
@[irreducible] def wIx : WR2 := fun x y M Q => match seqOf M x, y with
  | some xs, .int i => match atD xs i with
    | some d => Q d M
    | none => False
  | _, _ => False
end

section
variable {G : Cfg} {X : Cx} {e o : Expr} {es : List Expr}
/-! ### what is made -/
def wTup (wa : WA) : WE := fun δ M Q EX => wa δ M (fun ds M1 => ds.length ≤ sizeLine ∧ Q (.tup ds) M1) EX
def wLst (wa : WA) : WE := fun δ M Q EX => wa δ M (fun ds M1 => ds.length ≤ sizeLine ∧ Q (.lst ds) M1) EX
/-- a list that will change -/
def wLstM (wa : WA) : WE := fun δ M Q EX => wa δ M (fun ds M1 => ds.length ≤ sizeLine ∧ ∀ p, M1 p = none → Q (.raw (.ref p)) (updM M1 p (.lst ds))) EX
theorem de_tup {wa : WA} {x1} {pos} (h : DA G X es wa) : DE G X (.Tuple es x1 pos) (wTup wa) := by
  refine pe_imp (pe_tup h) fun σ H P ⟨F, M, δ, Q, EX, hm, rs, h, tk, f⟩ => ?_
  refine ⟨F, M, δ, _, EX, hm, rs, h, tk, fun vs ds F1 M1 H1 g1 r1 h1 => ⟨by rw [r1.len]; exact h1.1, fun p hp => ?_⟩⟩
  have g := g1.hm.new (o := .tup vs) hp
  exact f _ _ _ _ _ (g1.trans g) (.tup upd_same (r1.mono g.ext)) h1.2
theorem de_lst {wa : WA} {pos} (h : DA G X es wa) : DE G X (.List es pos) (wLst wa) := by
  refine pe_imp (pe_lst h) fun σ H P ⟨F, M, δ, Q, EX, hm, rs, h, tk, f⟩ => ?_
  refine ⟨F, M, δ, _, EX, hm, rs, h, tk, fun vs ds F1 M1 H1 g1 r1 h1 => ⟨by rw [r1.len]; exact h1.1, fun p hp => ?_⟩⟩
  have g := g1.hm.new (o := .lst vs) hp
  exact f _ _ _ _ _ (g1.trans g) (.lst upd_same (r1.mono g.ext)) h1.2
theorem de_lstM {wa : WA} {pos} (h : DA G X es wa) : DE G X (.List es pos) (wLstM wa) := by
  refine pe_imp (pe_lst h) fun σ H P ⟨F, M, δ, Q, EX, hm, rs, h, tk, f⟩ => ?_
  refine ⟨F, M, δ, _, EX, hm, rs, h, tk, fun vs ds F1 M1 H1 g1 r1 h1 => ⟨by rw [r1.len]; exact h1.1, fun p hp => ?_⟩⟩
  have g := g1.hm.newM (o := .lst vs) (m := .lst ds) hp ⟨vs, upd_same, r1⟩
  exact f _ _ _ _ _ (g1.trans g) (.raw _) (h1.2 p (g1.hm.free hp).2)
/-- from now on it changes no more -/
@[irreducible] def kFrz (Q : D → MM → Prop) (d : D) (M1 : MM) : Prop := match d with
  | .raw (.ref p) => match M1 p with
    | some (.lst ds) => Q (.lst ds) (delM M1 p)
    | some (.dct ds) => Q (.dct ds) (delM M1 p)
    | some (.ins _ _) => False
    | some (.dcT _) => False
    | none => False
  | d => Q d M1
def wFrz (we : WE) : WE := fun δ M Q EX => we δ M (kFrz Q) EX
theorem de_frz {we : WE} (h : DE G X e we) : DE G X e (wFrz we) := by
  refine pe_imp h fun σ H P ⟨F, M, δ, Q, EX, hm, rs, h, tk, f⟩ => ?_
  refine ⟨F, M, δ, _, EX, hm, rs, h, tk, fun v d F1 M1 H1 g1 r1 h1 => ?_⟩
  unfold kFrz at h1
  split at h1
  · rename_i p
    cases r1
    split at h1
    · rename_i ds q
      obtain ⟨F2, g2, r2⟩ := g1.hm.settle q (fun _ _ z => nomatch z)
      exact f _ _ _ _ _ (g1.trans g2) r2 h1
    · rename_i ds q
      obtain ⟨F2, g2, r2⟩ := g1.hm.settle q (fun _ _ z => nomatch z)
      exact f _ _ _ _ _ (g1.trans g2) r2 h1
    · exact h1.elim
    · exact h1.elim
    · exact h1.elim
  · exact f _ _ _ _ _ g1 r1 h1

/-! ### built-in calls -/
abbrev WR1 := List D → MM → (D → MM → Prop) → Prop
def SimC (G : Cfg) (K : PySem.W.Frag) (r : List V → Hp → VK → Prop) (w : WR1) : Prop := ∀ F M H vs ds Q P, HM G K F M H → RepL G K F vs ds → w ds M Q → Fin G K F M H Q P → r vs H P
def wB (w : WR1) (wa : WA) : WE := fun δ M Q EX => wa δ M (fun ds M1 => w ds M1 Q) EX
theorem up_b {r : List V → Hp → VK → Prop} {w : WR1} {wa : WA} (s : SimC G X.K r w) (σ : St) (H : Hp) (P : VK) (h : up G X (wB w wa) σ H P) : tCB r (upA G X wa) σ H P := by
  obtain ⟨F, M, δ, Q, EX, hm, rs, h, tk, f⟩ := h
  refine ⟨F, M, δ, _, EX, hm, rs, h, tk, fun vs ds F1 M1 H1 g1 r1 h1 => ?_⟩
  exact s F1 M1 H1 vs ds Q P g1.hm r1 h1 fun v d F2 M2 H2 g2 r2 q => f v d F2 M2 H2 (g1.trans g2) r2 q
theorem de_callB {r : List V → Hp → VK → Prop} {w : WR1} {wa : WA} {x : Str} {id : String} {p pos : Pos} (s : SimC G X.K r w) (hc : CallR X (.builtin id) r) (hm : X.mg x = none) (hv : bootBuiltins x = some (.builtin id)) (ha : DA G X (e :: es) wa) (hg : Gl X x := by rfl) (hn : x ≠ "__name__" := by decide) (hdb : (x == ("__debug__" : Str)) = false := by decide)
    (he : starEach (e :: es) X.env = (false, eval e X.env) :: starEach es X.env := by rfl) (hpl : (backTo pos (starEach es X.env)).any (·.1) = false := by rfl) : DE G X (.Call (.Name x p) (e :: es) [] pos) (wB w wa) := pe_imp (pe_callB hc hg hm hv ha hn hdb he hpl) (up_b s)
theorem de_callT {r : List V → Hp → VK → Prop} {w : WR1} {wa : WA} {x : Str} {T : String} {p pos : Pos} (s : SimC G X.K r w) (hc : CallR X (.type T) r) (hm : X.mg x = none) (hv : bootBuiltins x = some (.type T)) (ha : DA G X (e :: es) wa) (hg : Gl X x := by rfl) (hn : x ≠ "__name__" := by decide) (hdb : (x == ("__debug__" : Str)) = false := by decide)
    (he : starEach (e :: es) X.env = (false, eval e X.env) :: starEach es X.env := by rfl) (hpl : (backTo pos (starEach es X.env)).any (·.1) = false := by rfl) : DE G X (.Call (.Name x p) (e :: es) [] pos) (wB w wa) := pe_imp (pe_callTy hc hg hm hv ha hn hdb he hpl) (up_b s)
@[irreducible] def wLen : WR1 := fun ds M Q => match ds with
  | [d] => match seqOf M d with
    | some xs => Q (.int xs.length) M
    | none => False
  | _ => False
theorem one_rep {F : Hp} {K : PySem.W.Frag} {vs : List V} {d : D} (r : RepL G K F vs [d]) : ∃ v, vs = [v] ∧ Rep G K F v d := by
  cases r with
  | cons r t => cases t; exact ⟨_, rfl, r⟩
theorem sim_len : SimC G X.K (fun xs H Q => ∃ p ys, xs = [.ref p] ∧ (SqL X.K H p ys ∨ SqT X.K H p ys) ∧ Q (.int ys.length) H) wLen := by
  intro F M H vs ds Q P hm r w f
  unfold wLen at w
  split at w
  · split at w
    · rename_i d xs e
      obtain ⟨v, rfl, r1⟩ := one_rep r
      obtain ⟨a, ws, rfl, h1, r2⟩ := seqOf_rep hm r1 e
      exact ⟨a, ws, rfl, h1, by rw [r2.len]; exact f _ _ F M H (.refl hm) (.int _) w⟩
    · exact w.elim
  · exact w.elim
/-- list(xs): a new list, frozen, or a changing one -/
@[irreducible] def wListOf : WR1 := fun ds M Q => match ds with
  | [d] => match seqOf M d with
    | some xs => Q (.lst xs) M
    | none => False
  | _ => False
@[irreducible] def wListOfM : WR1 := fun ds M Q => match ds with
  | [d] => match seqOf M d with
    | some xs => ∀ p, M p = none → Q (.raw (.ref p)) (updM M p (.lst xs))
    | none => False
  | _ => False
abbrev rListOf (K : PySem.W.Frag) : List V → Hp → VK → Prop := fun xs H Q => ∃ p ys, xs = [.ref p] ∧ (SqL K H p ys ∨ SqT K H p ys) ∧ ∀ l, H l = none → Q (.ref l) (upd H l (.lst ys))
theorem sim_listOf {K : PySem.W.Frag} : SimC G K (rListOf K) wListOf := by
  intro F M H vs ds Q P hm r w f
  unfold wListOf at w
  split at w
  · split at w
    · rename_i d xs e
      obtain ⟨v, rfl, r1⟩ := one_rep r
      obtain ⟨a, ws, rfl, h1, r2⟩ := seqOf_rep hm r1 e
      refine ⟨a, ws, rfl, h1, fun l hl => ?_⟩
      have g := hm.new (o := .lst ws) hl
      exact f _ _ _ _ _ g (.lst upd_same (r2.mono g.ext)) w
    · exact w.elim
  · exact w.elim
theorem sim_listOfM {K : PySem.W.Frag} : SimC G K (rListOf K) wListOfM := by
  intro F M H vs ds Q P hm r w f
  unfold wListOfM at w
  split at w
  · split at w
    · rename_i d xs e
      obtain ⟨v, rfl, r1⟩ := one_rep r
      obtain ⟨a, ws, rfl, h1, r2⟩ := seqOf_rep hm r1 e
      refine ⟨a, ws, rfl, h1, fun l hl => ?_⟩
      have g := hm.newM (o := .lst ws) (m := .lst xs) hl ⟨ws, upd_same, r2⟩
      exact f _ _ _ _ _ g (.raw _) (w l (hm.free hl).2)
    · exact w.elim
  · exact w.elim
@[irreducible] def wTupOf : WR1 := fun ds M Q => match ds with
  | [d] => match seqOf M d with
    | some xs => Q (.tup xs) M
    | none => False
  | _ => False
theorem sim_tupOf {K : PySem.W.Frag} : SimC G K (fun xs H Q => ∃ p ys, xs = [.ref p] ∧ ((SqL K H p ys ∧ ∀ l, H l = none → Q (.ref l) (upd H l (.tup ys))) ∨ (SqT K H p ys ∧ Q (.ref p) H))) wTupOf := by
  intro F M H vs ds Q P hm r w f
  unfold wTupOf at w
  split at w
  · split at w
    · rename_i d xs e
      obtain ⟨v, rfl, r1⟩ := one_rep r
      unfold seqOf at e
      split at e
      · cases e
        cases r1 with
        | tup h r => exact ⟨_, _, rfl, .inr ⟨sqT_mono hm.sub h, f _ _ F M H (.refl hm) (.tup h r) w⟩⟩
      · cases e
        cases r1 with
        | @frl a ws _ h r =>
          refine ⟨_, _, rfl, .inl ⟨hm.sub.seq h, fun l hl => ?_⟩⟩
          have g := hm.new (o := .tup ws) hl
          exact f _ _ _ _ _ g (.tup upd_same (r.mono g.ext)) w
      · obtain ⟨a, ws, rfl, h1, r2⟩ := lstOf_rep hm r1 e
        refine ⟨a, ws, rfl, .inl ⟨SqL.of h1, fun l hl => ?_⟩⟩
        have g := hm.new (o := .tup ws) hl
        exact f _ _ _ _ _ g (.tup upd_same (r2.mono g.ext)) w
    · exact w.elim
  · exact w.elim
/-- ints of a list -/
def intsOf : List D → Option (List Int)
  | [] => some []
  | .int i :: r => (intsOf r).map (i :: ·)
  | _ :: _ => none
theorem intsOf_map : ∀ {ds : List D} {ns : List Int}, intsOf ds = some ns → ds = ns.map D.int
  | [], _, e => by cases e; rfl
  | .int i :: r, _, e => by
    simp only [intsOf] at e
    cases q : intsOf r with
    | none => rw [q] at e; cases e
    | some ns => rw [q] at e; cases e; rw [intsOf_map q]; rfl
  | .non :: r, _, e => by simp [intsOf] at e
  | .bl _ :: r, _, e => by simp [intsOf] at e
  | .str _ :: r, _, e => by simp [intsOf] at e
  | .tup _ :: r, _, e => by simp [intsOf] at e
  | .lst _ :: r, _, e => by simp [intsOf] at e
  | .frl _ :: r, _, e => by simp [intsOf] at e
  | .dct _ :: r, _, e => by simp [intsOf] at e
  | .ins _ _ :: r, _, e => by simp [intsOf] at e
  | .raw _ :: r, _, e => by simp [intsOf] at e
theorem intsOf_ints : ∀ (ns : List Int), intsOf (ns.map D.int) = some ns
  | [] => rfl
  | n :: ns => by simp [intsOf, intsOf_ints ns]
def lintsOf (M : MM) (d : D) : Option (List Int) := (lstOf M d).bind intsOf
theorem lints_rep {F : Hp} {K : PySem.W.Frag} {M : MM} {H : Hp} {v : V} {d : D} {ns : List Int} (hm : HM G K F M H) (r : Rep G K F v d) (e : lintsOf M d = some ns) : ∃ a, v = .ref a ∧ H a = some (.lst (ns.map V.int)) := by
  unfold lintsOf at e
  cases q : lstOf M d with
  | none => rw [q] at e; cases e
  | some ds =>
    rw [q] at e
    have e2 : ds = ns.map D.int := intsOf_map e
    subst e2
    obtain ⟨a, vs, rfl, h1, r1⟩ := lstOf_rep hm r q
    rw [r1.ints] at h1
    exact ⟨a, rfl, h1⟩
/-- sorted(xs) of ints: some list in order with the same items -/
@[irreducible] def wSorted : WR1 := fun ds M Q => match ds with
  | [d] => match lintsOf M d with
    | some ns => ∀ ns' : List Int, ns'.Perm ns → ns'.Pairwise (· ≤ ·) → Q (.lst (ns'.map D.int)) M
    | none => False
  | _ => False
@[irreducible] def wSortedM : WR1 := fun ds M Q => match ds with
  | [d] => match lintsOf M d with
    | some ns => ∀ ns' : List Int, ns'.Perm ns → ns'.Pairwise (· ≤ ·) → ∀ p, M p = none → Q (.raw (.ref p)) (updM M p (.lst (ns'.map D.int)))
    | none => False
  | _ => False
theorem sim_sorted {K : PySem.W.Frag} : SimC G K (rSortedI K) wSorted := by
  intro F M H vs ds Q P hm r w f
  unfold wSorted at w
  split at w
  · split at w
    · rename_i d ns e
      obtain ⟨v, rfl, r1⟩ := one_rep r
      obtain ⟨a, rfl, h1⟩ := lints_rep hm r1 e
      refine ⟨a, ns, rfl, SqL.of h1, fun ns' p h2 h3 hp => ?_⟩
      have g := hm.new (o := .lst (ns'.map V.int)) hp
      exact f _ _ _ _ _ g (.lst upd_same (.of_ints _)) (w ns' h2 h3)
    · exact w.elim
  · exact w.elim
theorem sim_sortedM {K : PySem.W.Frag} : SimC G K (rSortedI K) wSortedM := by
  intro F M H vs ds Q P hm r w f
  unfold wSortedM at w
  split at w
  · split at w
    · rename_i d ns e
      obtain ⟨v, rfl, r1⟩ := one_rep r
      obtain ⟨a, rfl, h1⟩ := lints_rep hm r1 e
      refine ⟨a, ns, rfl, SqL.of h1, fun ns' p h2 h3 hp => ?_⟩
      have g := hm.newM (o := .lst (ns'.map V.int)) (m := .lst (ns'.map D.int)) hp ⟨_, upd_same, .of_ints _⟩
      exact f _ _ _ _ _ g (.raw _) (w ns' h2 h3 p (hm.free hp).2)
    · exact w.elim
  · exact w.elim
@[irreducible] def wMax : WR1 := fun ds M Q => match ds with
  | [d] => match lintsOf M d with
    | some ns => 0 < ns.length ∧ ∀ m, m ∈ ns → (∀ y, y ∈ ns → y ≤ m) → Q (.int m) M
    | none => False
  | _ => False
@[irreducible] def wMin : WR1 := fun ds M Q => match ds with
  | [d] => match lintsOf M d with
    | some ns => 0 < ns.length ∧ ∀ m, m ∈ ns → (∀ y, y ∈ ns → m ≤ y) → Q (.int m) M
    | none => False
  | _ => False
@[irreducible] def wSum : WR1 := fun ds M Q => match ds with
  | [d] => match lintsOf M d with
    | some ns => Q (.int ns.sum) M
    | none => False
  | _ => False
theorem sim_max {K : PySem.W.Frag} : SimC G K (rMax K) wMax := by
  intro F M H vs ds Q P hm r w f
  unfold wMax at w
  split at w
  · split at w
    · rename_i d ns e
      obtain ⟨v, rfl, r1⟩ := one_rep r
      obtain ⟨a, rfl, h1⟩ := lints_rep hm r1 e
      exact ⟨a, ns, rfl, SqL.of h1, w.1, fun m h2 h3 => f _ _ F M H (.refl hm) (.int _) (w.2 m h2 h3)⟩
    · exact w.elim
  · exact w.elim
theorem sim_min {K : PySem.W.Frag} : SimC G K (rMin K) wMin := by
  intro F M H vs ds Q P hm r w f
  unfold wMin at w
  split at w
  · split at w
    · rename_i d ns e
      obtain ⟨v, rfl, r1⟩ := one_rep r
      obtain ⟨a, rfl, h1⟩ := lints_rep hm r1 e
      exact ⟨a, ns, rfl, SqL.of h1, w.1, fun m h2 h3 => f _ _ F M H (.refl hm) (.int _) (w.2 m h2 h3)⟩
    · exact w.elim
  · exact w.elim
theorem sim_sum {K : PySem.W.Frag} : SimC G K (rSum K) wSum := by
  intro F M H vs ds Q P hm r w f
  unfold wSum at w
  split at w
  · split at w
    · rename_i d ns e
      obtain ⟨v, rfl, r1⟩ := one_rep r
      obtain ⟨a, rfl, h1⟩ := lints_rep hm r1 e
      exact ⟨a, ns, rfl, SqL.of h1, f _ _ F M H (.refl hm) (.int _) w⟩
    · exact w.elim
  · exact w.elim
def wInt1 : WR1 := fun ds M Q => match ds with
  | [.int i] => Q (.int i) M
  | [.bl k] => Q (.int (if k then 1 else 0)) M
  | _ => False
theorem sim_int1 {K : PySem.W.Frag} : SimC G K (fun xs H Q => (∃ i, xs = [.int i] ∧ Q (.int i) H) ∨ ∃ k, xs = [.bl k] ∧ Q (.int (if k then 1 else 0)) H) wInt1 := by
  intro F M H vs ds Q P hm r w f
  unfold wInt1 at w
  split at w
  · obtain ⟨v, rfl, r1⟩ := one_rep r
    cases r1
    exact .inl ⟨_, rfl, f _ _ F M H (.refl hm) (.int _) w⟩
  · obtain ⟨v, rfl, r1⟩ := one_rep r
    cases r1
    exact .inr ⟨_, rfl, f _ _ F M H (.refl hm) (.int _) w⟩
  · exact w.elim

/-! ### methods of changing lists -/
abbrev WRm := D → List D → MM → (D → MM → Prop) → Prop
/-- by a changing list's address -/
@[irreducible] def onL (w : Addr → List D → List D → MM → (D → MM → Prop) → Prop) : WRm := fun x ds M Q => match x with
  | .raw (.ref a) => match M a with
    | some (.lst xs) => w a xs ds M Q
    | _ => False
  | _ => False
def SimL (G : Cfg) (K : PySem.W.Frag) (r : V → List V → Hp → VK → Prop) (w : Addr → List D → List D → MM → (D → MM → Prop) → Prop) : Prop :=
  ∀ F M H a xs zs vs ds Q P, HM G K F M H → M a = some (.lst xs) → H a = some (.lst zs) → RepL G K F zs xs → RepL G K F vs ds → w a xs ds M Q → Fin G K F M H Q P → r (.ref a) vs H P
def wM (w : Addr → List D → List D → MM → (D → MM → Prop) → Prop) (wo : WE) (wa : WA) : WE := fun δ M Q EX => wo δ M (fun x M1 => (∃ a xs, x = .raw (.ref a) ∧ M1 a = some (.lst xs)) ∧ wa δ M1 (fun ds M2 => onL w x ds M2 Q) EX) EX
theorem Grow.lst {K : PySem.W.Frag} {F F' : Hp} {M M' : MM} {H H' : Hp} {a : Addr} {xs : List D} (g : Grow G K F M H F' M' H') (e : M' a = some (.lst xs)) : ∃ zs, H' a = some (.lst zs) ∧ RepL G K F' zs xs := g.hm.mo a _ e
theorem up_m {r : V → List V → Hp → VK → Prop} {w : Addr → List D → List D → MM → (D → MM → Prop) → Prop} {wo : WE} {wa : WA} (s : SimL G X.K r w) (σ : St) (H : Hp) (P : VK) (h : up G X (wM w wo wa) σ H P) : tBM X.K "list" r (up G X wo) (upA G X wa) σ H P := by
  obtain ⟨F, M, δ, Q, EX, hm, rs, h, tk, f⟩ := h
  refine ⟨F, M, δ, _, EX, hm, rs, h, tk, fun v d F1 M1 H1 g1 r1 h1 => ?_⟩
  obtain ⟨⟨a, xs, e, ea⟩, h1⟩ := h1
  subst e
  cases r1
  obtain ⟨zs, hz, rz⟩ := g1.hm.mo a _ ea
  refine ⟨.inl ⟨rfl, zs, SqL.of hz⟩, ?_⟩
  refine ⟨F1, M1, δ, _, EX, g1.hm, rs.mono g1.ext, h1, tk.imp (wX_mono g1), fun vs ds F2 M2 H2 g2 r2 h2 => ?_⟩
  unfold onL at h2
  dsimp only at h2
  split at h2
  · rename_i xs' e2
    obtain ⟨zs2, hz2, rz2⟩ := g2.hm.mo a _ e2
    exact s F2 M2 H2 a xs' zs2 vs ds Q P g2.hm e2 hz2 rz2 r2 h2 fun v d F3 M3 H3 g3 r3 q => f v d F3 M3 H3 ((g1.trans g2).trans g3) r3 q
  · exact h2.elim
theorem de_m {r : V → List V → Hp → VK → Prop} {w : Addr → List D → List D → MM → (D → MM → Prop) → Prop} {wo : WE} {wa : WA} {name : Str} {id : String} {apos cpos : Pos} (s : SimL G X.K r w) (pa : PlainAttrs "list") (slot : Slot "list" name id) (hty : typeOf (.builtin id) = pure (.type "method_descriptor")) (hm : MtR X id r) (ho : DE G X o wo) (ha : DA G X (e :: es) wa)
    (hbase : attributeBase o name X.env (eval o X.env) = eval o X.env := by rfl)
    (hfew : ((backTo cpos (starEach (e :: es) X.env)).all (fun x => !x.1) && (backToKw cpos (keywordEach [] X.env)).all (fun x => x.1.isSome)
      && decide ((e :: es).length + ([] : List Keyword).length + (if ([] : List Keyword).isEmpty then 0 else 1) < 30)) = true := by rfl)
    (hline : (apos.endLine == cpos.line) = true := by rfl) (hs : starEach (e :: es) X.env = (false, eval e X.env) :: starEach es X.env := by rfl) (hplain : (backTo cpos (starEach es X.env)).any (·.1) = false := by rfl) :
    DE G X (.Call (.Attribute o name apos) (e :: es) [] cpos) (wM w wo wa) := pe_imp (pe_bm pa slot hty hm ho ha hbase hfew hline hs hplain) (up_m s)
theorem de_m0 {r : V → List V → Hp → VK → Prop} {w : Addr → List D → List D → MM → (D → MM → Prop) → Prop} {wo : WE} {name : Str} {id : String} {apos cpos : Pos} (s : SimL G X.K r w) (pa : PlainAttrs "list") (slot : Slot "list" name id) (hty : typeOf (.builtin id) = pure (.type "method_descriptor")) (hm : MtR X id r) (ho : DE G X o wo)
    (hbase : attributeBase o name X.env (eval o X.env) = eval o X.env := by rfl) (hline : (apos.endLine == cpos.line) = true := by rfl) :
    DE G X (.Call (.Attribute o name apos) [] [] cpos) (wM w wo wNil) := by
  refine pe_imp (pe_bm0 pa slot hty hm ho hbase hline) fun σ H P h => ?_
  obtain ⟨F, M, δ, Q, EX, hm, rs, h, tk, f⟩ := h
  refine ⟨F, M, δ, _, EX, hm, rs, h, tk, fun v d F1 M1 H1 g1 r1 h1 => ?_⟩
  obtain ⟨⟨a, xs, e, ea⟩, h1⟩ := h1
  subst e
  cases r1
  obtain ⟨zs, hz, rz⟩ := g1.hm.mo a _ ea
  refine ⟨.inl ⟨rfl, zs, SqL.of hz⟩, ?_⟩
  unfold wNil onL at h1
  dsimp only at h1
  rw [ea] at h1
  exact s F1 M1 H1 a xs zs [] [] Q P g1.hm ea hz rz .nil h1 fun v d F3 M3 H3 g3 r3 q => f v d F3 M3 H3 (g1.trans g3) r3 q
def wAppend : Addr → List D → List D → MM → (D → MM → Prop) → Prop := fun a xs ds M Q => match ds with
  | [d] => xs.length < sizeLine ∧ Q .non (updM M a (.lst (xs ++ [d])))
  | _ => False
theorem sim_append {K : PySem.W.Frag} : SimL G K rAppend wAppend := by
  intro F M H a xs zs vs ds Q P hm ea ha rz r w f
  unfold wAppend at w
  split at w
  · obtain ⟨v, rfl, r1⟩ := one_rep r
    refine ⟨a, zs, v, rfl, rfl, ha, by rw [rz.len]; exact w.1, ?_⟩
    exact f _ _ _ _ _ (hm.put (o := .lst (zs ++ [v])) (m' := .lst (xs ++ [_])) ea ⟨_, upd_same, rz.app (.cons r1 .nil)⟩) .non w.2
  · exact w.elim
theorem RepL.dropLast {K : PySem.W.Frag} {F : Hp} {vs : List V} {ds : List D} (r : RepL G K F vs ds) : RepL G K F vs.dropLast ds.dropLast := by
  rw [List.dropLast_eq_take, List.dropLast_eq_take, r.len]
  exact r.take _
theorem RepL.eraseIdx {K : PySem.W.Frag} {F : Hp} : ∀ {vs : List V} {ds : List D} (k : Nat), RepL G K F vs ds → RepL G K F (vs.eraseIdx k) (ds.eraseIdx k)
  | _, _, _, .nil => .nil
  | _, _, 0, .cons _ t => t
  | _, _, k + 1, .cons r t => .cons r (RepL.eraseIdx k t)
def wPop : Addr → List D → List D → MM → (D → MM → Prop) → Prop := fun a xs ds M Q => match ds with
  | [] => match xs[xs.length - 1]? with
    | some d => Q d (updM M a (.lst xs.dropLast))
    | none => False
  | _ => False
theorem sim_pop {K : PySem.W.Frag} : SimL G K rPop wPop := by
  intro F M H a xs zs vs ds Q P hm ea ha rz r w f
  unfold wPop at w
  split at w
  · split at w
    · rename_i d e
      cases r
      obtain ⟨v, e2, r2⟩ := rz.get e
      refine ⟨a, zs, v, rfl, rfl, ha, by rw [rz.len]; exact e2, ?_⟩
      exact f _ _ _ _ _ (hm.put (o := .lst zs.dropLast) (m' := .lst xs.dropLast) ea ⟨_, upd_same, rz.dropLast⟩) r2 w
    · exact w.elim
  · exact w.elim
def wPopAt : Addr → List D → List D → MM → (D → MM → Prop) → Prop := fun a xs ds M Q => match ds with
  | [.int i] => (-(2 ^ 63) ≤ i ∧ i < 2 ^ 63) ∧ match seqIndex? i xs.length with
    | some k => match xs[k]? with
      | some d => Q d (updM M a (.lst (xs.eraseIdx k)))
      | none => False
    | none => False
  | _ => False
theorem sim_popAt {K : PySem.W.Frag} : SimL G K rPopAt wPopAt := by
  intro F M H a xs zs vs ds Q P hm ea ha rz r w f
  unfold wPopAt at w
  split at w
  · obtain ⟨⟨b1, b2⟩, w⟩ := w
    split at w
    · rename_i k ek
      split at w
      · rename_i d e
        obtain ⟨v, rfl, r1⟩ := one_rep r
        cases r1
        obtain ⟨v, e2, r2⟩ := rz.get e
        refine ⟨a, zs, _, k, v, rfl, rfl, ha, b1, b2, by rw [rz.len]; exact ek, e2, ?_⟩
        exact f _ _ _ _ _ (hm.put (o := .lst (zs.eraseIdx k)) (m' := .lst (xs.eraseIdx k)) ea ⟨_, upd_same, rz.eraseIdx k⟩) r2 w
      · exact w.elim
    · exact w.elim
  · exact w.elim
def wInsert : Addr → List D → List D → MM → (D → MM → Prop) → Prop := fun a xs ds M Q => match ds with
  | [.int i, d] => xs.length < sizeLine ∧ (0 ≤ i ∧ i < 2 ^ 63) ∧ Q .non (updM M a (.lst (xs.take i.toNat ++ [d] ++ xs.drop i.toNat)))
  | _ => False
abbrev rInsert : V → List V → Hp → VK → Prop := fun x vs H Q => ∃ (l : Addr) (xs : List V) (i : Int) (y : V), x = .ref l ∧ vs = [.int i, y] ∧ H l = some (.lst xs) ∧ xs.length < sizeLine ∧ 0 ≤ i ∧ i < 2 ^ 63 ∧ Q .non (upd H l (.lst (xs.take i.toNat ++ [y] ++ xs.drop i.toNat)))
theorem sim_insert {K : PySem.W.Frag} : SimL G K rInsert wInsert := by
  intro F M H a xs zs vs ds Q P hm ea ha rz r w f
  unfold wInsert at w
  split at w
  · cases r with
    | cons r1 t =>
      obtain ⟨v, rfl, r2⟩ := one_rep t
      cases r1
      refine ⟨a, zs, _, v, rfl, rfl, ha, by rw [rz.len]; exact w.1, w.2.1.1, w.2.1.2, ?_⟩
      exact f _ _ _ _ _ (hm.put (o := .lst _) (m' := .lst _) ea ⟨_, upd_same, ((rz.take _).app (.cons r2 .nil)).app (rz.drop _)⟩) .non w.2.2
  · exact w.elim
/-- the first one that is equal goes -/
def wRemove : Addr → List D → List D → MM → (D → MM → Prop) → Prop := fun a xs ds M Q => match ds with
  | [.int k] => ∃ (ns : List Int) (j : Nat), xs = ns.map D.int ∧ ns[j]? = some k ∧ (∀ m : Nat, m < j → ns[m]? ≠ some k) ∧ Q .non (updM M a (.lst ((ns.eraseIdx j).map D.int)))
  | _ => False
theorem sim_remove {K : PySem.W.Frag} : SimL G K rRemI wRemove := by
  intro F M H a xs zs vs ds Q P hm ea ha rz r w f
  unfold wRemove at w
  split at w
  · obtain ⟨ns, j, rfl, h1, h2, w⟩ := w
    obtain ⟨v, rfl, r1⟩ := one_rep r
    cases r1
    refine ⟨a, ns, _, j, rfl, rfl, by rw [rz.ints] at ha; exact ha, h1, h2, ?_⟩
    exact f _ _ _ _ _ (hm.put (o := .lst _) (m' := .lst _) ea ⟨_, upd_same, .of_ints _⟩) .non w
  · exact w.elim
end
end DL

set_option Elab.async false
set_option linter.all false
set_option maxRecDepth 100000
namespace DL
open PySem PySem.Spec L2
open PyProof.Rows hiding St

section
variable {G : Cfg} {X : Cx} {e : Expr}
/-! ### statements -/
def wNext : WS := fun E _ δ M => E.nx δ M
def wSeq (w u : WS) : WS := fun E EX δ M => w { E with nx := fun δ' M' => u E EX δ' M' } EX δ M
theorem dss_nil : DSs G X [] wNext := pss_imp pss_nil fun D σ H ⟨F, M, δ, E, EX, hm, rs, h, tk, n, r, b, c⟩ => n σ δ F M H (.refl hm) rs h
theorem up_seq {w u : WS} (D : Ends) (σ : St) (H : Hp) (h : upS G X (wSeq w u) D σ H) : tSeq (upS G X w) (upS G X u) D σ H := by
  obtain ⟨F, M, δ, E, EX, hm, rs, h, tk, n, r, b, c⟩ := h
  refine ⟨F, M, δ, _, EX, hm, rs, h, tk, fun σ' δ' F' M' H' g rs' h' => ?_, r, b, c⟩
  exact ⟨F', M', δ', E, EX, g.hm, rs', h', tk.imp (wX_mono g), fun s2 d2 F2 M2 H2 g2 r2 q => n s2 d2 F2 M2 H2 (g.trans g2) r2 q, fun v d F2 M2 H2 g2 r2 q => r v d F2 M2 H2 (g.trans g2) r2 q,
    fun s2 d2 F2 M2 H2 g2 r2 q => b s2 d2 F2 M2 H2 (g.trans g2) r2 q, fun s2 d2 F2 M2 H2 g2 r2 q => c s2 d2 F2 M2 H2 (g.trans g2) r2 q⟩
theorem dss_cons {st : Stmt} {rest : List Stmt} {w u : WS} (h1 : DSt G X st w) (h2 : DSs G X rest u) : DSs G X (st :: rest) (wSeq w u) := pss_imp (pss_cons h1 h2) up_seq
theorem dss_one {st : Stmt} {w : WS} (h1 : DSt G X st w) : DSs G X [st] w := pss_one h1
theorem ds_pass {pos} : DSt G X (.Pass pos) wNext := ps_imp ps_pass fun D σ H ⟨F, M, δ, E, EX, hm, rs, h, tk, n, r, b, c⟩ => n σ δ F M H (.refl hm) rs h
def wBreak : WS := fun E _ δ M => E.bk δ M
def wCont : WS := fun E _ δ M => E.ct δ M
theorem ds_break {pos} : DSt G X (.Break pos) wBreak := ps_imp ps_break fun D σ H ⟨F, M, δ, E, EX, hm, rs, h, tk, n, r, b, c⟩ => b σ δ F M H (.refl hm) rs h
theorem ds_cont {pos} : DSt G X (.Continue pos) wCont := ps_imp ps_continue fun D σ H ⟨F, M, δ, E, EX, hm, rs, h, tk, n, r, b, c⟩ => c σ δ F M H (.refl hm) rs h
def wNever : WS := fun _ _ _ _ => False
theorem ds_never {st : Stmt} : DSt G X st wNever := ps_imp ps_never fun D σ H ⟨F, M, δ, E, EX, hm, rs, h, tk, n, r, b, c⟩ => h
theorem de_never : DE G X e (fun _ _ _ _ => False) := ⟨fun pins s σ H Q I ⟨F, M, δ, Q', EX, hm, rs, h, _⟩ => h.elim⟩
/-- an expression, then a statement's end: helper -/
theorem up_then {we : WE} {k : D → ED → XK' → DS → MM → Prop} {σ : St} {H : Hp} {P : VK} {F : Hp} {M : MM} {δ : DS} {E : ED} {EX : XK'} (hm : HM G X.K F M H) (rs : RS G X.K F σ δ) (h : we δ M (fun d M1 => k d E EX δ M1) EX) (tk : Takes X (wX G X.K F M H EX))
    (f : ∀ v d F1 M1 H1, Grow G X.K F M H F1 M1 H1 → Rep G X.K F1 v d → k d E EX δ M1 → P v H1) : up G X we σ H P := ⟨F, M, δ, _, EX, hm, rs, h, tk, f⟩
def wDrop (we : WE) : WS := fun E EX δ M => we δ M (fun _ M1 => E.nx δ M1) EX
theorem ds_expr {we : WE} {pos} (h : DE G X e we) (hs : swapsWith e none pos.line X.env = pure false := by rfl) : DSt G X (.Expr e pos) (wDrop we) := by
  refine ps_imp (ps_expr h hs) fun D σ H ⟨F, M, δ, E, EX, hm, rs, h, tk, n, r, b, c⟩ => ?_
  exact ⟨F, M, δ, _, EX, hm, rs, h, tk, fun v d F1 M1 H1 g1 r1 q => n σ δ F1 M1 H1 g1 (rs.mono g1.ext) q⟩
theorem ds_doc {x j pos pos'} : DSt G X (.Expr (.Constant (.str x) j pos) pos') wNext := ps_imp ps_doc fun D σ H ⟨F, M, δ, E, EX, hm, rs, h, tk, n, r, b, c⟩ => n σ δ F M H (.refl hm) rs h
def wRet (we : WE) : WS := fun E EX δ M => we δ M (fun d M1 => E.rt d M1) EX
theorem ds_ret {we : WE} {pos} (h : DE G X e we) : DSt G X (.Return (some e) pos) (wRet we) := by
  refine ps_imp (ps_ret h) fun D σ H ⟨F, M, δ, E, EX, hm, rs, h, tk, n, r, b, c⟩ => ?_
  exact ⟨F, M, δ, _, EX, hm, rs, h, tk, fun v d F1 M1 H1 g1 r1 q => r v d F1 M1 H1 g1 r1 q⟩
def wRetN : WS := fun E _ _ M => E.rt .non M
theorem ds_retN {pos} : DSt G X (.Return none pos) wRetN := ps_imp ps_retN fun D σ H ⟨F, M, δ, E, EX, hm, rs, h, tk, n, r, b, c⟩ => r .non .non F M H (.refl hm) .non h
def wIfS (p : WT) (w u : WS) : WS := fun E EX δ M => p δ M (fun c M1 => if c = true then w E EX δ M1 else u E EX δ M1) EX
theorem ds_if {c : Expr} {a b : List Stmt} {p : WT} {w u : WS} {pos} (hc : DT G X c p) (ha : DSs G X a w) (hb : DSs G X b u) : DSt G X (.If c a b pos) (wIfS p w u) := by
  refine ps_imp (ps_if hc ha hb) fun D σ H ⟨F, M, δ, E, EX, hm, rs, h, tk, n, r, b, c⟩ => ?_
  refine ⟨F, M, δ, _, EX, hm, rs, h, tk, fun k F1 M1 H1 g h' => ?_⟩
  cases k <;> exact ⟨F1, M1, δ, E, EX, g.hm, rs.mono g.ext, h', tk.imp (wX_mono g), fun s2 d2 F2 M2 H2 g2 r2 q => n s2 d2 F2 M2 H2 (g.trans g2) r2 q, fun v d F2 M2 H2 g2 r2 q => r v d F2 M2 H2 (g.trans g2) r2 q,
    fun s2 d2 F2 M2 H2 g2 r2 q => b s2 d2 F2 M2 H2 (g.trans g2) r2 q, fun s2 d2 F2 M2 H2 g2 r2 q => c s2 d2 F2 M2 H2 (g.trans g2) r2 q⟩

/-! ### targets -/
abbrev BD := D → DS → Option DS
def SimG (G : Cfg) (K : PySem.W.Frag) (g : TG) (b : BD) : Prop := ∀ F M H σ δ δ' v d (Q : St → Hp → Prop), HM G K F M H → RS G K F σ δ → Rep G K F v d → b d δ = some δ' → (∀ σ', RS G K F σ' δ' → Q σ' H) → g v σ H Q
def bNm (i : Nat) : BD := fun d δ => some (δ.set i (some d))
theorem simG_nm {K : PySem.W.Frag} (i : Nat) : SimG G K (gName i) (bNm i) := by
  intro F M H σ δ δ' v d Q hm rs r e q
  unfold bNm at e
  cases e
  exact q _ (rs.set i r)
def bSets : List Nat → List D → DS → Option DS
  | [], [], δ => some δ
  | i :: is, d :: ds, δ => bSets is ds (δ.set i (some d))
  | _, _, _ => none
def bTup (is : List Nat) : BD := fun d δ => match d with
  | .tup ds => bSets is ds δ
  | _ => none
def gsOf : List Nat → TGs
  | [] => gNil
  | i :: is => gCons (gName i) (gsOf is)
theorem simG_sets {K : PySem.W.Frag} {F : Hp} {H : Hp} {Q : St → Hp → Prop} : ∀ (is : List Nat) (vs : List V) (ds : List D) (σ : St) (δ δ' : DS), RS G K F σ δ → RepL G K F vs ds → bSets is ds δ = some δ' → (∀ σ', RS G K F σ' δ' → Q σ' H) → gsOf is vs σ H Q
  | [], _, _, σ, δ, δ', rs, .nil, e, q => by
    unfold bSets at e
    cases e
    exact ⟨rfl, q _ rs⟩
  | [], _, _, σ, δ, δ', rs, .cons _ _, e, q => by unfold bSets at e; cases e
  | i :: is, _, _, σ, δ, δ', rs, .nil, e, q => by unfold bSets at e; cases e
  | i :: is, _, _, σ, δ, δ', rs, .cons r t, e, q => by
    unfold bSets at e
    exact ⟨_, _, rfl, simG_sets is _ _ _ _ _ (rs.set i r) t e q⟩
theorem bSets_len : ∀ (is : List Nat) (ds : List D) (δ δ' : DS), bSets is ds δ = some δ' → ds.length = is.length
  | [], [], _, _, _ => rfl
  | [], _ :: _, _, _, e => by unfold bSets at e; cases e
  | _ :: _, [], _, _, e => by unfold bSets at e; cases e
  | i :: is, d :: ds, δ, δ', e => by
    unfold bSets at e
    rw [List.length_cons, List.length_cons, bSets_len is ds _ _ e]
theorem simG_tup {K : PySem.W.Frag} (is : List Nat) : SimG G K (gTup K is.length (gsOf is)) (bTup is) := by
  intro F M H σ δ δ' v d Q hm rs r e q
  unfold bTup at e
  split at e
  · cases r with
    | tup h r => exact ⟨_, _, rfl, sqT_mono hm.sub h, by rw [r.len]; exact bSets_len _ _ _ _ e, simG_sets is _ _ _ _ _ rs r e q⟩
  · cases e
/-- x = e, a, b = e -/
def kAsg (b : BD) (nx : DS → MM → Prop) (δ : DS) (d : D) (M1 : MM) : Prop := match b d δ with
  | some δ' => nx δ' M1
  | none => False
def wAsg (b : BD) (we : WE) : WS := fun E EX δ M => we δ M (kAsg b E.nx δ) EX
theorem ds_asg {tg : Expr} {we : WE} {g : TG} {b : BD} {pos} (he : DE G X e we) (hg : PG X tg g) (sg : SimG G X.K g b) (hs : swapsWithSole [tg] e pos.line X.env = pure false := by rfl) (hw : swappedStores [tg] e X.env = pure none := by rfl) (h1 : List.map (fun x => x.snd) (assignEach [tg] X.env) = [assign tg X.env] := by rfl) :
    DSt G X (.Assign [tg] e pos) (wAsg b we) := by
  refine ps_imp (ps_asg he hg hs hw h1) fun D σ H ⟨F, M, δ, E, EX, hm, rs, h, tk, n, r, b, c⟩ => ?_
  refine ⟨F, M, δ, _, EX, hm, rs, h, tk, fun v d F1 M1 H1 g1 r1 q => ?_⟩
  unfold kAsg at q
  split at q
  · rename_i δ' e
    exact sg F1 M1 H1 σ δ δ' v d D.nx g1.hm (rs.mono g1.ext) r1 e fun σ' rs' => n σ' δ' F1 M1 H1 g1 rs' q
  · exact q.elim
def wSet (i : Nat) (we : WE) : WS := fun E EX δ M => we δ M (fun d M1 => E.nx (δ.set i (some d)) M1) EX
theorem ds_set (i : Nat) {x : Str} {we : WE} {pos pos' : Pos} (hN : X.N.Nodup) (he : DE G X e we) (hi : X.N[i]? = some x := by rfl) (hx : Loc X.env.scope x := by first | exact Or.inl rfl | exact Or.inr rfl) (hs : swapsWith e (some (.Name x pos')) pos.line X.env = pure false := by rfl)
    (hf : X.fn x = true ∨ X.env.scope.names.lookup x = some .local := by first | exact .inl rfl | exact .inr rfl) : DSt G X (.Assign [.Name x pos'] e pos) (wSet i we) := by
  refine ps_imp (ps_set hN hi hx he hs hf) fun D σ H ⟨F, M, δ, E, EX, hm, rs, h, tk, n, r, b, c⟩ => ?_
  exact ⟨F, M, δ, _, EX, hm, rs, h, tk, fun v d F1 M1 H1 g1 r1 q => n _ _ F1 M1 H1 g1 ((rs.mono g1.ext).set i r1) q⟩
def kPar (i j : Nat) (nx : DS → MM → Prop) (δ : DS) (ds : List D) (M1 : MM) : Prop := match ds with
  | [a, b] => nx ((δ.set i (some a)).set j (some b)) M1
  | _ => False
def wPar (i j : Nat) (wa : WA) : WS := fun E EX δ M => wa δ M (kPar i j E.nx δ) EX
theorem up_par {i j : Nat} {wa : WA} (D : Ends) (σ : St) (H : Hp) (h : upS G X (wPar i j wa) D σ H) : tPar i j (upA G X wa) D σ H := by
  obtain ⟨F, M, δ, E, EX, hm, rs, h, tk, n, r, b, c⟩ := h
  refine ⟨F, M, δ, _, EX, hm, rs, h, tk, fun vs ds F1 M1 H1 g1 r1 q => ?_⟩
  unfold kPar at q
  split at q
  · cases r1 with
    | cons ra t =>
      obtain ⟨v, rfl, rb⟩ := one_rep t
      exact ⟨_, _, rfl, n _ _ F1 M1 H1 g1 (((rs.mono g1.ext).set i ra).set j rb) q⟩
  · exact q.elim

/-! ### what a for walks -/
structure IT where
  items : List D
  src : Option (Addr × List D) := none
def stay (src : Option (Addr × List D)) (M : MM) : Prop := match src with
  | none => True
  | some (a, all) => M a = some (.lst all)
abbrev WI := DS → MM → (IT → MM → Prop) → XK' → Prop
structure Walks (G : Cfg) (K : PySem.W.Frag) (F : Hp) (M : MM) (H : Hp) (J : It) (it : IT) : Prop where
  step : ∀ F' M' H' i d, Grow G K F M H F' M' H' → stay it.src M' → it.items[i]? = some d → J.go i H' ∧ ∀ x H'', J.yld i H' x H'' → ∃ F'', Grow G K F' M' H' F'' M' H'' ∧ Rep G K F'' x d
  stop : ∀ F' M' H', Grow G K F M H F' M' H' → stay it.src M' → J.stop it.items.length H'
def upI (G : Cfg) (X : Cx) (w : WI) : TI := fun σ H R => ∃ F M δ Q EX, HM G X.K F M H ∧ RS G X.K F σ δ ∧ w δ M Q EX ∧ Takes X (wX G X.K F M H EX) ∧
  ∀ J it F' M' H', Grow G X.K F M H F' M' H' → Walks G X.K F' M' H' J it → Q it M' → R J H'
abbrev DI (G : Cfg) (X : Cx) (tg iter : Expr) (w : WI) : Prop := PI X tg iter (upI G X w)
theorem pi_imp {tg : Expr} {t t' : TI} (h : PI X tg e t) (i : ∀ σ H R, t' σ H R → t σ H R) : PI X tg e t' := ⟨fun pins s σ H R I q => h.run pins s σ H R I (i σ H R q)⟩
/-- a list, or a changing list that stays -/
@[irreducible] def kiL (Q : IT → MM → Prop) (d : D) (M1 : MM) : Prop := match d with
  | .lst ds => Q { items := ds } M1
  | .frl ds => Q { items := ds } M1
  | .raw (.ref a) => match M1 a with
    | some (.lst ds) => Q { items := ds, src := some (a, ds) } M1
    | _ => False
  | _ => False
def wiL (we : WE) : WI := fun δ M Q EX => we δ M (kiL Q) EX
theorem SqL.uniq {K : PySem.W.Frag} {H : Hp} {a : Addr} {xs : List V} (h : H a = some (.lst xs)) : SqL K H a xs := SqL.of h
theorem walks_frz {K : PySem.W.Frag} {F : Hp} {M : MM} {H : Hp} {a : Addr} {vs : List V} {ds : List D} (hm : HM G K F M H) (h : SqL K F a vs) (r : RepL G K F vs ds) : Walks G K F M H (Itl K a) { items := ds } := by
  refine ⟨fun F' M' H' i d g st e => ?_, fun F' M' H' g st => ?_⟩
  · obtain ⟨v, e1, r1⟩ := r.get e
    have hs : SqL K H' a vs := g.hm.sub.seq (g.ext.seq h)
    refine ⟨⟨vs, v, hs, e1⟩, fun x H'' y => ?_⟩
    obtain ⟨e2, y⟩ := y
    subst e2
    have e3 := y vs hs
    rw [e1] at e3
    cases e3
    exact ⟨F', .refl g.hm, r1.mono g.ext⟩
  · exact ⟨vs, g.hm.sub.seq (g.ext.seq h), by rw [r.len]; exact Nat.le_refl _⟩
theorem walks_mut {K : PySem.W.Frag} {F : Hp} {M : MM} {H : Hp} {a : Addr} {ds : List D} : Walks G K F M H (Itl K a) { items := ds, src := some (a, ds) } := by
  refine ⟨fun F' M' H' i d g st e => ?_, fun F' M' H' g st => ?_⟩
  · obtain ⟨vs, h1, r⟩ := g.hm.mo a _ st
    obtain ⟨v, e1, r1⟩ := r.get e
    refine ⟨⟨vs, v, SqL.of h1, e1⟩, fun x H'' y => ?_⟩
    obtain ⟨e2, y⟩ := y
    subst e2
    have e3 := y vs (SqL.of h1)
    rw [e1] at e3
    cases e3
    exact ⟨F', .refl g.hm, r1⟩
  · obtain ⟨vs, h1, r⟩ := g.hm.mo a _ st
    exact ⟨vs, SqL.of h1, by rw [r.len]; exact Nat.le_refl _⟩
theorem di_list {tg : Expr} {we : WE} (h : DE G X e we) : DI G X tg e (wiL we) := by
  refine pi_imp (pi_list h) fun σ H R ⟨F, M, δ, Q, EX, hm, rs, h, tk, f⟩ => ?_
  refine ⟨F, M, δ, _, EX, hm, rs, h, tk, fun v d F1 M1 H1 g1 r1 q => ?_⟩
  unfold kiL at q
  split at q
  · cases r1 with
    | lst h r => exact ⟨_, rfl, ⟨_, SqL.of (g1.hm.sub _ _ h)⟩, f _ _ F1 M1 H1 g1 (walks_frz g1.hm (SqL.of h) r) q⟩
  · cases r1 with
    | frl h r => exact ⟨_, rfl, ⟨_, g1.hm.sub.seq h⟩, f _ _ F1 M1 H1 g1 (walks_frz g1.hm h r) q⟩
  · cases r1
    split at q
    · rename_i ds e
      obtain ⟨vs, h1, r⟩ := g1.hm.mo _ _ e
      exact ⟨_, rfl, ⟨_, SqL.of h1⟩, f _ _ F1 M1 H1 g1 walks_mut q⟩
    · exact q.elim
  · exact q.elim
def wiT (we : WE) : WI := fun δ M Q EX => we δ M (fun d M1 => match d with
  | .tup ds => Q { items := ds } M1
  | _ => False) EX
theorem walks_tup {K : PySem.W.Frag} {F : Hp} {M : MM} {H : Hp} {a : Addr} {vs : List V} {ds : List D} (hm : HM G K F M H) (h : SqT K F a vs) (r : RepL G K F vs ds) : Walks G K F M H (Itt K a) { items := ds } := by
  refine ⟨fun F' M' H' i d g st e => ?_, fun F' M' H' g st => ?_⟩
  · obtain ⟨v, e1, r1⟩ := r.get e
    have hs : SqT K H' a vs := sqT_up g.hm.sub (sqT_up g.ext h)
    refine ⟨⟨vs, v, hs, e1⟩, fun x H'' y => ?_⟩
    obtain ⟨e2, y⟩ := y
    subst e2
    have e3 := y vs hs
    rw [e1] at e3
    cases e3
    exact ⟨F', .refl g.hm, r1.mono g.ext⟩
  · exact ⟨vs, sqT_up g.hm.sub (sqT_up g.ext h), by rw [r.len]; exact Nat.le_refl _⟩
theorem di_tup {tg : Expr} {we : WE} (h : DE G X e we) : DI G X tg e (wiT we) := by
  refine pi_imp (pi_tup h) fun σ H R ⟨F, M, δ, Q, EX, hm, rs, h, tk, f⟩ => ?_
  refine ⟨F, M, δ, _, EX, hm, rs, h, tk, fun v d F1 M1 H1 g1 r1 q => ?_⟩
  dsimp only at q
  split at q
  · cases r1 with
    | tup h r => exact ⟨_, rfl, ⟨_, sqT_mono g1.hm.sub h⟩, f _ _ F1 M1 H1 g1 (walks_tup g1.hm (SqT.of h) r) q⟩
  · exact q.elim
def rngL (lo : Int) (n : Nat) : List D := (List.range n).map fun k => D.int (lo + (k : Nat))
theorem rngL_len (lo : Int) (n : Nat) : (rngL lo n).length = n := by unfold rngL; rw [List.length_map, List.length_range]
theorem walks_rng {K : PySem.W.Frag} {F : Hp} {M : MM} {H : Hp} (lo : Int) (n : Nat) : Walks G K F M H (Itr lo n) { items := rngL lo n } := by
  refine ⟨fun F' M' H' i d g st e => ?_, fun F' M' H' g st => ?_⟩
  · have l : i < n := by
      have z := (List.getElem?_eq_some_iff.mp e).1
      rw [show ({ items := rngL lo n } : IT).items.length = n from rngL_len lo n] at z
      exact z
    have ed : d = .int (lo + (i : Nat)) := by
      have z : (rngL lo n)[i]? = some d := e
      unfold rngL at z
      rw [List.getElem?_map, List.getElem?_range l] at z
      exact (Option.some.inj z).symm
    subst ed
    refine ⟨l, fun x H'' y => ?_⟩
    obtain ⟨e2, y⟩ := y
    subst e2 y
    exact ⟨F', .refl g.hm, .int _⟩
  · show n ≤ (rngL lo n).length
    rw [rngL_len]
    exact Nat.le_refl _
def kiR1 (Q : IT → MM → Prop) (ds : List D) (M1 : MM) : Prop := match ds with
  | [.int j] => (-(2 ^ 62) ≤ j ∧ j < 2 ^ 62) ∧ Q { items := rngL 0 j.toNat } M1
  | _ => False
def wiR1 (wa : WA) : WI := fun δ M Q EX => wa δ M (kiR1 Q) EX
def kiR2 (Q : IT → MM → Prop) (ds : List D) (M1 : MM) : Prop := match ds with
  | [.int i, .int j] => (-(2 ^ 62) ≤ i ∧ i < 2 ^ 62 ∧ -(2 ^ 62) ≤ j ∧ j < 2 ^ 62) ∧ Q { items := rngL i (j - i).toNat } M1
  | _ => False
def wiR2 (wa : WA) : WI := fun δ M Q EX => wa δ M (kiR2 Q) EX
theorem di_range1 {tg a : Expr} {wa : WA} {p pos : Pos} (hm : X.mg "range" = none) (ha : DA G X [a] wa) (hg : Gl X "range" := by rfl) (hs : starEach [a] X.env = [(false, eval a X.env)] := by rfl) : DI G X tg (.Call (.Name "range" p) [a] [] pos) (wiR1 wa) := by
  refine pi_imp (pi_range1 hg hm ha hs) fun σ H R ⟨F, M, δ, Q, EX, hm, rs, h, tk, f⟩ => ?_
  refine ⟨F, M, δ, _, EX, hm, rs, h, tk, fun vs ds F1 M1 H1 g1 r1 q => ?_⟩
  unfold kiR1 at q
  split at q
  · obtain ⟨v, rfl, r2⟩ := one_rep r1
    cases r2
    exact ⟨_, rfl, q.1.1, q.1.2, f _ _ F1 M1 H1 g1 (walks_rng _ _) q.2⟩
  · exact q.elim
theorem di_range2 {tg a b : Expr} {wa : WA} {p pos : Pos} (hm : X.mg "range" = none) (ha : DA G X [a, b] wa) (hg : Gl X "range" := by rfl) (hs : starEach [a, b] X.env = [(false, eval a X.env), (false, eval b X.env)] := by rfl) (hs2 : starEach [b] X.env = [(false, eval b X.env)] := by rfl) :
    DI G X tg (.Call (.Name "range" p) [a, b] [] pos) (wiR2 wa) := by
  refine pi_imp (pi_range2 hg hm ha hs hs2) fun σ H R ⟨F, M, δ, Q, EX, hm, rs, h, tk, f⟩ => ?_
  refine ⟨F, M, δ, _, EX, hm, rs, h, tk, fun vs ds F1 M1 H1 g1 r1 q => ?_⟩
  unfold kiR2 at q
  split at q
  · cases r1 with
    | cons ra t =>
      obtain ⟨v, rfl, r2⟩ := one_rep t
      cases ra
      cases r2
      exact ⟨_, _, rfl, q.1, f _ _ F1 M1 H1 g1 (walks_rng _ _) q.2⟩
  · exact q.elim

/-! ### for -/
def wLoop (src : Option (Addr × List D)) (b : BD) (wb : WS) : List D → ED → XK' → DS → MM → Prop
  | [], E, _, δ, M => stay src M ∧ E.nx δ M
  | d :: ds, E, EX, δ, M => stay src M ∧ match b d δ with
    | some δ' => wb { nx := wLoop src b wb ds E EX, rt := E.rt, bk := E.nx, ct := wLoop src b wb ds E EX } EX δ' M
    | none => False
def wFor (wi : WI) (b : BD) (wb : WS) : WS := fun E EX δ M => wi δ M (fun it M1 => wLoop it.src b wb it.items E EX δ M1) EX
theorem ds_for {tg iter : Expr} {body : List Stmt} {wi : WI} {g : TG} {b : BD} {wb : WS} {pos} (hp : PassesOwn (model X.prog X.w) X.A X.env X.xe) (hc : X.calm = true) (hi : DI G X tg iter wi) (hg : PG X tg g) (sg : SimG G X.K g b) (hb : DSs G X body wb)
    (hs : ∀ x, foldedSetIterable iter X.env x = pure x := by intro _; rfl) : DSt G X (.For tg iter body [] pos) (wFor wi b wb) := by
  refine ps_imp (ps_for hp hc hi hg hb hs) fun D σ H ⟨F, M, δ, E, EX, hm, rs, h, tk, n, r, bk, c⟩ => ?_
  refine ⟨F, M, δ, _, EX, hm, rs, h, tk, fun J it F1 M1 H1 g1 wk h1 => ?_⟩
  refine ⟨fun i m σ' H' => m = it.items.length - i ∧ i ≤ it.items.length ∧ ∃ F' M' δ', Grow G X.K F1 M1 H1 F' M' H' ∧ RS G X.K F' σ' δ' ∧ wLoop it.src b wb (it.items.drop i) E EX δ' M',
    ⟨it.items.length, by simp, Nat.zero_le _, F1, M1, δ, .refl g1.hm, rs.mono g1.ext, h1⟩, ?_⟩
  rintro i m σ' H' ⟨em, hi, F', M', δ', g', rs', h'⟩
  subst em
  by_cases hlt : i < it.items.length
  · rw [List.drop_eq_getElem_cons hlt] at h'
    unfold wLoop at h'
    obtain ⟨st, h'⟩ := h'
    split at h'
    · rename_i δ2 eb
      obtain ⟨go, yl⟩ := wk.step F' M' H' i it.items[i] g' st (List.getElem?_eq_getElem hlt)
      refine .inr ⟨go, fun σ2 H2 => ∃ F2 M2 δ2, Grow G X.K F1 M1 H1 F2 M2 H2 ∧ RS G X.K F2 σ2 δ2 ∧ wLoop it.src b wb (it.items.drop (i + 1)) E EX δ2 M2, fun σ2 H2 w2 => ⟨it.items.length - (i + 1), by omega, rfl, hlt, w2⟩, fun x H'' y => ?_⟩
      obtain ⟨F3, g3, r3⟩ := yl x H'' y
      refine sg F3 M' H'' σ' δ' δ2 x _ _ g3.hm (rs'.mono g3.ext) r3 eb fun σ4 rs4 => ?_
      have gt := (g1.trans g').trans g3
      refine ⟨F3, M', δ2, _, EX, g3.hm, rs4, h', tk.imp (wX_mono gt), fun s2 d2 F2 M2 H2 g2 r2 q => ⟨F2, M2, d2, (g'.trans g3).trans g2, r2, q⟩, fun v d F2 M2 H2 g2 r2 q => r v d F2 M2 H2 (gt.trans g2) r2 q,
        fun s2 d2 F2 M2 H2 g2 r2 q => n s2 d2 F2 M2 H2 (gt.trans g2) r2 q, fun s2 d2 F2 M2 H2 g2 r2 q => ⟨F2, M2, d2, (g'.trans g3).trans g2, r2, q⟩⟩
    · exact h'.elim
  · have e : i = it.items.length := by omega
    subst e
    rw [List.drop_length] at h'
    unfold wLoop at h'
    exact .inl ⟨wk.stop F' M' H' g' h'.1, n σ' δ' F' M' H' (g1.trans g') rs' h'.2⟩
/-! ### while -/
def wWh (p : WT) (wb : WS) : Nat → ED → XK' → DS → MM → Prop
  | 0, _, _, _, _ => False
  | n + 1, E, EX, δ, M => p δ M (fun k M1 => if k = true then wb { nx := wWh p wb n E EX, rt := E.rt, bk := E.nx, ct := wWh p wb n E EX } EX δ M1 else E.nx δ M1) EX
def wWhile (p : WT) (wb : WS) : WS := fun E EX δ M => ∃ n, wWh p wb n E EX δ M
theorem ds_while {c : Expr} {body : List Stmt} {p : WT} {wb : WS} {pos} (hp : PassesOwn (model X.prog X.w) X.A X.env X.xe) (hc : DT G X c p) (hb : DSs G X body wb) : DSt G X (.While c body [] pos) (wWhile p wb) := by
  refine ps_imp (ps_while hp hc hb) fun D σ H ⟨F, M, δ, E, EX, hm, rs, ⟨n0, h⟩, tk, n, r, bk, c⟩ => ?_
  refine ⟨fun m σ' H' => ∃ F' M' δ', Grow G X.K F M H F' M' H' ∧ RS G X.K F' σ' δ' ∧ wWh p wb m E EX δ' M', ⟨n0, F, M, δ, .refl hm, rs, h⟩, ?_⟩
  rintro m σ' H' ⟨F', M', δ', g', rs', h'⟩
  cases m with
  | zero => exact h'.elim
  | succ m =>
    unfold wWh at h'
    refine ⟨F', M', δ', _, EX, g'.hm, rs', h', tk.imp (wX_mono g'), fun k F2 M2 H2 g2 q => ?_⟩
    have gt := g'.trans g2
    cases k with
    | true =>
      refine ⟨fun σ3 H3 => ∃ F3 M3 δ3, Grow G X.K F M H F3 M3 H3 ∧ RS G X.K F3 σ3 δ3 ∧ wWh p wb m E EX δ3 M3, fun σ3 H3 w3 => ⟨m, Nat.lt_succ_self _, w3⟩, ?_⟩
      exact ⟨F2, M2, δ', _, EX, g2.hm, rs'.mono g2.ext, q, tk.imp (wX_mono gt), fun s2 d2 F3 M3 H3 g3 r2 q => ⟨F3, M3, d2, gt.trans g3, r2, q⟩, fun v d F3 M3 H3 g3 r2 q => r v d F3 M3 H3 (gt.trans g3) r2 q,
        fun s2 d2 F3 M3 H3 g3 r2 q => n s2 d2 F3 M3 H3 (gt.trans g3) r2 q, fun s2 d2 F3 M3 H3 g3 r2 q => ⟨F3, M3, d2, gt.trans g3, r2, q⟩⟩
    | false => exact n σ' δ' F2 M2 H2 gt (rs'.mono g2.ext) q

/-! ### xs[i] = e -/
/-- of a changing list -/
@[irreducible] def kPutL (nx : MM → Prop) (v o i : D) (M3 : MM) : Prop := match o, i with
  | .raw (.ref a), .int j => match M3 a with
    | some (.lst xs) => match ixN xs.length j with
      | some k => nx (updM M3 a (.lst (xs.set k v)))
      | none => False
    | _ => False
  | _, _ => False
def wPutL (wv wo wi : WE) : WS := fun E EX δ M => wv δ M (fun v M1 => wo δ M1 (fun o M2 => wi δ M2 (fun i M3 => kPutL (E.nx δ) v o i M3) EX) EX) EX
end
end DL

set_option Elab.async false
set_option linter.all false
set_option maxRecDepth 100000
namespace DL
open PySem PySem.Spec L2
open PyProof.Rows hiding St

section
variable {G : Cfg} {X : Cx} {e o i value : Expr}
/-! ### stores into lists and dicts -/
theorem ds_putL {wv wo wi : WE} {pos spos} (he : DE G X value wv) (ho : DE G X o wo) (hi : DE G X i wi) (hs : swapsWithSole [.Subscript o i spos] value pos.line X.env = pure false := by rfl) (hw : swappedStores [.Subscript o i spos] value X.env = pure none := by rfl)
    (h1 : List.map (fun x => x.snd) (assignEach [.Subscript o i spos] X.env) = [assign (.Subscript o i spos) X.env] := by rfl)
    (h2 : ∀ v, assign (.Subscript o i spos) X.env v = (do
      let ov ← holding [v] (eval o X.env)
      let iv ← holding [v, ov] (eval i X.env)
      standAt spos
      holding [v, ov, iv] (setItem ov iv v)
      release [v, ov, iv] []) := by intro _; rfl) : DSt G X (.Assign [.Subscript o i spos] value pos) (wPutL wv wo wi) := by
  refine ps_imp (ps_asg he (pg_sub ho hi set_list h2) hs hw h1) fun D σ H ⟨F, M, δ, E, EX, hm, rs, h, tk, n, r, b, c⟩ => ?_
  refine ⟨F, M, δ, _, EX, hm, rs, h, tk, fun v d F1 M1 H1 g1 r1 h1 => ?_⟩
  refine ⟨F1, M1, δ, _, EX, g1.hm, rs.mono g1.ext, h1, tk.imp (wX_mono g1), fun v2 d2 F2 M2 H2 g2 r2 h2 => ?_⟩
  have g12 := g1.trans g2
  refine ⟨F2, M2, δ, _, EX, g2.hm, rs.mono g12.ext, h2, tk.imp (wX_mono g12), fun v3 d3 F3 M3 H3 g3 r3 h3 => ?_⟩
  have g123 := g12.trans g3
  try dsimp only at h3
  unfold kPutL at h3
  split at h3
  · rename_i a j
    cases r2
    cases r3
    split at h3
    · rename_i xs ea
      split at h3
      · rename_i k ek
        obtain ⟨zs, hz, rz⟩ := g3.hm.mo a _ ea
        refine ⟨a, zs, j, k, rfl, rfl, hz, by rw [rz.len]; exact ek, ?_⟩
        have g4 := g3.hm.put (o := .lst (zs.set k v)) (m' := .lst (xs.set k d)) ea ⟨_, upd_same, rz.set (r1.mono ((g2.trans g3).ext)) k⟩
        exact n σ δ _ _ _ (g123.trans g4) (rs.mono g123.ext) h3
      · exact h3.elim
    · exact h3.elim
  · exact h3.elim
/-- keys -/
def keyD : D → Option Key
  | .int i => some (.inl i)
  | .str x => some (.inr x)
  | _ => none
theorem keyD_rep {K : PySem.W.Frag} {F : Hp} {v : V} {d : D} {k : Key} (r : Rep G K F v d) (e : keyD d = some k) : v = kV k := by
  cases r <;> simp only [keyD, Option.some.injEq, reduceCtorEq] at e <;> subst e <;> rfl
def valD (kvs : List (Key × D)) (k : Key) : Option D := (kvs.find? fun kv => decide (kv.1 = k)).map (·.2)
def putD (kvs : List (Key × D)) (k : Key) (v : D) : List (Key × D) := if (kvs.any fun kv => decide (kv.1 = k)) = true then kvs.map (fun kv => if kv.1 = k then (kv.1, v) else kv) else kvs ++ [(k, v)]
theorem RepK.val {K : PySem.W.Frag} {F : Hp} {k : Key} : ∀ {vs : List (Key × V)} {ds : List (Key × D)} {d : D}, RepK G K F vs ds → valD ds k = some d → ∃ v, valV vs k = some v ∧ Rep G K F v d
  | _, _, _, .nil, e => by cases e
  | (k', v) :: vs, (_, d') :: ds, d, .cons r t, e => by
    unfold valD at e
    unfold valV
    by_cases h : k' = k
    · rw [List.find?_cons_of_pos (by simpa using h)] at e ⊢
      cases e
      exact ⟨v, rfl, r⟩
    · rw [List.find?_cons_of_neg (by simpa using h)] at e ⊢
      exact RepK.val t e
theorem RepK.none {K : PySem.W.Frag} {F : Hp} {k : Key} : ∀ {vs : List (Key × V)} {ds : List (Key × D)}, RepK G K F vs ds → valD ds k = none → valV vs k = none
  | _, _, .nil, e => rfl
  | (k', v) :: vs, (_, d') :: ds, .cons r t, e => by
    unfold valD at e
    unfold valV
    by_cases h : k' = k
    · rw [List.find?_cons_of_pos (by simpa using h)] at e; cases e
    · rw [List.find?_cons_of_neg (by simpa using h)] at e ⊢
      exact RepK.none t e
theorem RepK.len {K : PySem.W.Frag} {F : Hp} : ∀ {vs : List (Key × V)} {ds : List (Key × D)}, RepK G K F vs ds → vs.length = ds.length
  | _, _, .nil => rfl
  | _, _, .cons _ t => congrArg Nat.succ (RepK.len t)
theorem RepK.app {K : PySem.W.Frag} {F : Hp} : ∀ {vs ws : List (Key × V)} {ds es : List (Key × D)}, RepK G K F vs ds → RepK G K F ws es → RepK G K F (vs ++ ws) (ds ++ es)
  | _, _, _, _, .nil, s => s
  | _, _, _, _, .cons r t, s => .cons r (RepK.app t s)
theorem RepK.any {K : PySem.W.Frag} {F : Hp} {k : Key} : ∀ {vs : List (Key × V)} {ds : List (Key × D)}, RepK G K F vs ds → (vs.any fun kv => decide (kv.1 = k)) = ds.any fun kv => decide (kv.1 = k)
  | _, _, .nil => rfl
  | _, _, .cons _ t => by rw [List.any_cons, List.any_cons, RepK.any t]
theorem RepK.map {K : PySem.W.Frag} {F : Hp} {k : Key} {v : V} {d : D} (rv : Rep G K F v d) : ∀ {vs : List (Key × V)} {ds : List (Key × D)}, RepK G K F vs ds → RepK G K F (vs.map fun kv => if kv.1 = k then (kv.1, v) else kv) (ds.map fun kv => if kv.1 = k then (kv.1, d) else kv)
  | _, _, .nil => .nil
  | (k', v') :: vs, (_, d') :: ds, .cons r t => by
    rw [List.map_cons, List.map_cons]
    by_cases h : k' = k
    · rw [if_pos h, if_pos h]; exact .cons rv (RepK.map rv t)
    · rw [if_neg h, if_neg h]; exact .cons r (RepK.map rv t)
theorem RepK.put {K : PySem.W.Frag} {F : Hp} {k : Key} {v : V} {d : D} {vs : List (Key × V)} {ds : List (Key × D)} (r : RepK G K F vs ds) (rv : Rep G K F v d) : RepK G K F (putK vs k v) (putD ds k d) := by
  unfold putK putD
  rw [r.any]
  split
  · exact r.map rv
  · exact r.app (.cons rv .nil)
def dctOf (M : MM) : D → Option (List (Key × D))
  | .dct kvs => some kvs
  | .raw (.ref a) => match M a with
    | some (.dct kvs) => some kvs
    | _ => none
  | _ => none
theorem dctOf_rep {K : PySem.W.Frag} {F : Hp} {M : MM} {H : Hp} {v : V} {d : D} {ds : List (Key × D)} (hm : HM G K F M H) (r : Rep G K F v d) (e : dctOf M d = some ds) : ∃ a vs, v = .ref a ∧ H a = some (.dK vs) ∧ RepK G K F vs ds := by
  unfold dctOf at e
  split at e
  · cases e
    cases r with
    | dct h r => exact ⟨_, _, rfl, hm.sub _ _ h, r⟩
  · rename_i a
    split at e
    · rename_i q
      cases e
      cases r
      obtain ⟨vs, h1, r1⟩ := hm.mo a _ q
      exact ⟨a, vs, rfl, h1, r1⟩
    · cases e
  · cases e
@[irreducible] def kDGet (Q : D → MM → Prop) (o i : D) (M2 : MM) : Prop := match dctOf M2 o, keyD i with
  | some kvs, some k => match valD kvs k with
    | some d => Q d M2
    | none => False
  | _, _ => False
def wDGet (wo wi : WE) : WE := fun δ M Q EX => wo δ M (fun o M1 => wi δ M1 (fun i M2 => kDGet Q o i M2) EX) EX
theorem de_dget {wo wi : WE} {pos} (hu : X.A.units + 1 < cLine) (ho : DE G X o wo) (hi : DE G X i wi) (hs : NoSl i) : DE G X (.Subscript o i pos) (wDGet wo wi) := by
  refine pe_imp (pe_dget hu ho hi hs) fun σ H P ⟨F, M, δ, Q, EX, hm, rs, h, tk, f⟩ => ?_
  refine ⟨F, M, δ, _, EX, hm, rs, h, tk, fun v d F1 M1 H1 g1 r1 h1 => ?_⟩
  refine ⟨F1, M1, δ, _, EX, g1.hm, rs.mono g1.ext, h1, tk.imp (wX_mono g1), fun v2 d2 F2 M2 H2 g2 r2 h2 => ?_⟩
  try dsimp only at h2
  unfold kDGet at h2
  split at h2
  · rename_i kvs k e1 e2
    split at h2
    · rename_i d3 e3
      obtain ⟨a, vs, rfl, hz, rk⟩ := dctOf_rep g2.hm (r1.mono g2.ext) e1
      have e4 := keyD_rep r2 e2
      subst e4
      obtain ⟨v3, e5, r3⟩ := rk.val e3
      refine ⟨a, v3, rfl, ?_, f _ _ _ _ _ (g1.trans g2) r3 h2⟩
      rw [← e5]
      exact DGet.k hz
    · exact h2.elim
  · exact h2.elim
@[irreducible] def kDPut (nx : MM → Prop) (v o i : D) (M3 : MM) : Prop := match o, keyD i with
  | .raw (.ref a), some k => match M3 a with
    | some (.dct kvs) => kvs.length < sizeLine ∧ nx (updM M3 a (.dct (putD kvs k v)))
    | _ => False
  | _, _ => False
def wDPut (wv wo wi : WE) : WS := fun E EX δ M => wv δ M (fun v M1 => wo δ M1 (fun o M2 => wi δ M2 (fun i M3 => kDPut (E.nx δ) v o i M3) EX) EX) EX
theorem ds_dput {wv wo wi : WE} {pos pos'} (hu : X.A.units + 1 < cLine) (he : DE G X value wv) (ho : DE G X o wo) (hi : DE G X i wi) (hs : swapsWith value (some (.Subscript o i pos')) pos.line X.env = pure false := by rfl) : DSt G X (.Assign [.Subscript o i pos'] value pos) (wDPut wv wo wi) := by
  refine ps_imp (ps_dput hu ho hi he hs) fun D σ H ⟨F, M, δ, E, EX, hm, rs, h, tk, n, r, b, c⟩ => ?_
  refine ⟨F, M, δ, _, EX, hm, rs, h, tk, fun v d F1 M1 H1 g1 r1 h1 => ?_⟩
  refine ⟨F1, M1, δ, _, EX, g1.hm, rs.mono g1.ext, h1, tk.imp (wX_mono g1), fun v2 d2 F2 M2 H2 g2 r2 h2 => ?_⟩
  have g12 := g1.trans g2
  refine ⟨F2, M2, δ, _, EX, g2.hm, rs.mono g12.ext, h2, tk.imp (wX_mono g12), fun v3 d3 F3 M3 H3 g3 r3 h3 => ?_⟩
  have g123 := g12.trans g3
  try dsimp only at h3
  unfold kDPut at h3
  split at h3
  · rename_i a k ek
    cases r2
    split at h3
    · rename_i kvs ea
      have e4 := keyD_rep r3 ek
      subst e4
      obtain ⟨zs, hz, rz⟩ := g3.hm.mo a _ ea
      refine ⟨a, _, rfl, .inl ⟨zs, k, hz, rfl, by rw [rz.len]; exact h3.1, rfl⟩, ?_⟩
      have g4 := g3.hm.put (o := .dK (putK zs k v)) (m' := .dct (putD kvs k d)) ea ⟨_, upd_same, rz.put (r1.mono ((g2.trans g3).ext))⟩
      exact n σ δ _ _ _ (g123.trans g4) (rs.mono g123.ext) h3.2
    · exact h3.elim
  · exact h3.elim

/-! ### instances and their attributes -/
def insOf (M : MM) : D → Option (Nat × List D)
  | .ins c fs => some (c, fs)
  | .raw (.ref a) => match M a with
    | some (.ins c fs) => some (c, fs)
    | _ => none
  | _ => none
theorem insOf_rep {K : PySem.W.Frag} {F : Hp} {M : MM} {H : Hp} {v : V} {d : D} {c : Nat} {fs : List D} (hm : HM G K F M H) (r : Rep G K F v d) (e : insOf M d = some (c, fs)) :
    ∃ a dx vs, v = .ref a ∧ H a = some (.ins (G.cl c) dx ((G.nm c).zip vs)) ∧ vs.length ≤ (G.nm c).length ∧ RepL G K F vs fs := by
  unfold insOf at e
  split at e
  · cases e
    cases r with
    | ins h l r => exact ⟨_, _, _, rfl, hm.sub _ _ h, by rw [l]; exact Nat.le_refl _, r⟩
  · rename_i a
    split at e
    · rename_i q
      cases e
      cases r
      obtain ⟨dx, vs, h1, l, r1⟩ := hm.mo a _ q
      exact ⟨a, dx, vs, rfl, h1, l, r1⟩
    · cases e
  · cases e
/-- the class c has the attribute f as its i-th -/
structure FldAt (G : Cfg) (K : PySem.W.Frag) (c i : Nat) (f : Str) : Prop where
  cls : Cls K (G.cl c)
  no : NoAttr K (G.cl c) f
  nd : (G.nm c).Nodup
  at_ : (G.nm c)[i]? = some f
theorem zip_lookup : ∀ {ns : List Str} {vs : List V} {i : Nat} {f : Str} {v : V}, ns.Nodup → ns[i]? = some f → vs[i]? = some v → (ns.zip vs).lookup f = some v
  | [], _, _, _, _, _, h, _ => by simp at h
  | n :: ns, [], _, _, _, _, _, h => by simp at h
  | n :: ns, w :: vs, 0, f, v, nd, h1, h2 => by
    simp only [List.getElem?_cons_zero, Option.some.injEq] at h1 h2
    subst h1 h2
    simp [List.zip_cons_cons, List.lookup]
  | n :: ns, w :: vs, i + 1, f, v, nd, h1, h2 => by
    rw [List.getElem?_cons_succ] at h1 h2
    obtain ⟨h3, h4⟩ := List.nodup_cons.mp nd
    have ne : (f == n) = false := by
      have z : f ≠ n := fun q => h3 (by rw [← q]; exact List.mem_of_getElem? h1)
      simpa using z
    rw [List.zip_cons_cons, List.lookup_cons, ne]
    exact zip_lookup h4 h1 h2
theorem zip_lookup_none : ∀ {ns : List Str} {vs : List V} {f : Str}, f ∉ ns → (ns.zip vs).lookup f = none
  | [], _, _, _ => rfl
  | n :: ns, [], _, _ => rfl
  | n :: ns, w :: vs, f, h => by
    have ne : (f == n) = false := by
      have z : f ≠ n := fun q => h (by rw [q]; exact List.mem_cons_self)
      simpa using z
    rw [List.zip_cons_cons, List.lookup_cons, ne]
    exact zip_lookup_none (fun q => h (List.mem_cons_of_mem _ q))
theorem zip_put : ∀ {ns : List Str} {vs : List V} {i : Nat} {f : Str} {v : V}, ns.Nodup → ns[i]? = some f → i < vs.length → putF f v (ns.zip vs) = ns.zip (vs.set i v)
  | [], _, _, _, _, _, h, _ => by simp at h
  | n :: ns, [], _, _, _, _, _, h => absurd h (Nat.not_lt_zero _)
  | n :: ns, w :: vs, 0, f, v, nd, h1, h2 => by
    simp only [List.getElem?_cons_zero, Option.some.injEq] at h1
    subst h1
    simp [List.zip_cons_cons, putF]
  | n :: ns, w :: vs, i + 1, f, v, nd, h1, h2 => by
    rw [List.getElem?_cons_succ] at h1
    obtain ⟨h3, h4⟩ := List.nodup_cons.mp nd
    have z : ¬ n = f := fun q => h3 (by rw [q]; exact List.mem_of_getElem? h1)
    rw [List.zip_cons_cons, List.set_cons_succ, List.zip_cons_cons]
    show (if n = f then _ else _) = _
    rw [if_neg z, zip_put h4 h1 (Nat.lt_of_succ_lt_succ h2)]
theorem zip_push : ∀ {ns : List Str} {vs : List V} {f : Str} {v : V}, ns.Nodup → ns[vs.length]? = some f → putF f v (ns.zip vs) = ns.zip (vs ++ [v])
  | [], _, _, _, _, h => by simp at h
  | n :: ns, [], f, v, nd, h1 => by
    simp only [List.length_nil, List.getElem?_cons_zero, Option.some.injEq] at h1
    subst h1
    simp [putF]
  | n :: ns, w :: vs, f, v, nd, h1 => by
    rw [List.length_cons, List.getElem?_cons_succ] at h1
    obtain ⟨h3, h4⟩ := List.nodup_cons.mp nd
    have z : ¬ n = f := fun q => h3 (by rw [q]; exact List.mem_of_getElem? h1)
    rw [List.cons_append, List.zip_cons_cons, List.zip_cons_cons]
    show (if n = f then _ else _) = _
    rw [if_neg z, zip_push h4 h1]
/-- e.f: cs tells for each class at which place the attribute stands -/
@[irreducible] def kFld (cs : List (Nat × Nat)) (Q : D → MM → Prop) (d : D) (M1 : MM) : Prop := match insOf M1 d with
  | some (c, fs) => match cs.lookup c with
    | some i => match fs[i]? with
      | some x => Q x M1
      | none => False
    | none => False
  | none => False
def wFld (cs : List (Nat × Nat)) (we : WE) : WE := fun δ M Q EX => we δ M (kFld cs Q) EX
theorem lookup_mem {α : Type} : ∀ {cs : List (Nat × α)} {c : Nat} {i : α}, cs.lookup c = some i → (c, i) ∈ cs
  | [], _, _, e => by cases e
  | (k, j) :: cs, c, i, e => by
    rw [List.lookup_cons] at e
    cases h : c == k with
    | true => rw [h] at e; cases e; rw [eq_of_beq h]; exact List.mem_cons_self
    | false => rw [h] at e; exact List.mem_cons_of_mem _ (lookup_mem e)
theorem de_fld {we : WE} {f : Str} {pos} (cs : List (Nat × Nat)) (hc : ∀ p ∈ cs, FldAt G X.K p.1 p.2 f) (h : DE G X e we) (hb : attributeBase e f X.env (eval e X.env) = eval e X.env := by rfl) : DE G X (.Attribute e f pos) (wFld cs we) := by
  refine pe_imp (pe_fld h hb) fun σ H P ⟨F, M, δ, Q, EX, hm, rs, h, tk, fi⟩ => ?_
  refine ⟨F, M, δ, _, EX, hm, rs, h, tk, fun v d F1 M1 H1 g1 r1 h1 => ?_⟩
  try dsimp only at h1
  unfold kFld at h1
  split at h1
  · rename_i c fs e1
    split at h1
    · rename_i i e2
      split at h1
      · rename_i x e3
        obtain ⟨a, dx, vs, rfl, hz, l, r⟩ := insOf_rep g1.hm r1 e1
        have fa := hc _ (lookup_mem e2)
        obtain ⟨w, e4, r4⟩ := r.get e3
        exact ⟨a, _, dx, _, w, rfl, hz, fa.cls, fa.no, zip_lookup fa.nd fa.at_ e4, fi _ _ _ _ _ g1 r4 h1⟩
      · exact h1.elim
    · exact h1.elim
  · exact h1.elim
/-- e.f = v, e a changing instance: set, or made as the next one -/
@[irreducible] def kFldPut (cs : List (Nat × Nat)) (nx : MM → Prop) (v o : D) (M2 : MM) : Prop := match o with
  | .raw (.ref a) => match M2 a with
    | some (.ins c fs) => match cs.lookup c with
      | some i => (i < fs.length ∧ nx (updM M2 a (.ins c (fs.set i v)))) ∨ (i = fs.length ∧ nx (updM M2 a (.ins c (fs ++ [v]))))
      | none => False
    | _ => False
  | _ => False
def wFldPut (cs : List (Nat × Nat)) (wo wv : WE) : WS := fun E EX δ M => wv δ M (fun v M1 => wo δ M1 (fun o M2 => kFldPut cs (E.nx δ) v o M2) EX) EX
theorem ds_fld {wo wv : WE} {f : Str} {pos pos'} (cs : List (Nat × Nat)) (hc : ∀ p ∈ cs, FldAt G X.K p.1 p.2 f ∧ (G.nm p.1).length < 1000) (ho : DE G X o wo) (hv : DE G X value wv) (hs : swapsWith value (some (.Attribute o f pos')) pos.line X.env = pure false := by rfl) :
    DSt G X (.Assign [.Attribute o f pos'] value pos) (wFldPut cs wo wv) := by
  refine ps_imp (ps_fld ho hv hs) fun D σ H ⟨F, M, δ, E, EX, hm, rs, h, tk, n, r, b, c⟩ => ?_
  refine ⟨F, M, δ, _, EX, hm, rs, h, tk, fun v d F1 M1 H1 g1 r1 h1 => ?_⟩
  refine ⟨F1, M1, δ, _, EX, g1.hm, rs.mono g1.ext, h1, tk.imp (wX_mono g1), fun v2 d2 F2 M2 H2 g2 r2 h2 => ?_⟩
  have g12 := g1.trans g2
  try dsimp only at h2
  unfold kFldPut at h2
  split at h2
  · rename_i a
    cases r2
    split at h2
    · rename_i c fs ea
      split at h2
      · rename_i i e2
        obtain ⟨fa, fl⟩ := hc _ (lookup_mem e2)
        obtain ⟨dx, vs, hz, l, rz⟩ := g2.hm.mo a _ ea
        have lz : ((G.nm c).zip vs).length < 1000 := by
          rw [List.length_zip]
          exact Nat.lt_of_le_of_lt (Nat.min_le_left _ _) fl
        refine ⟨a, _, dx, _, rfl, hz, fa.cls, fa.no, lz, ?_⟩
        have il : i < (G.nm c).length := (List.getElem?_eq_some_iff.mp fa.at_).1
        rcases h2 with ⟨hi, h2⟩ | ⟨hi, h2⟩
        · rw [zip_put fa.nd fa.at_ (by rw [rz.len]; exact hi)]
          have g4 := g2.hm.put (o := .ins (G.cl c) dx ((G.nm c).zip (vs.set i v))) (m' := .ins c (fs.set i d)) ea ⟨dx, vs.set i v, upd_same, by rw [List.length_set]; exact l, rz.set (r1.mono g2.ext) i⟩
          exact n σ δ _ _ _ (g12.trans g4) (rs.mono g12.ext) h2
        · rw [zip_push fa.nd (by rw [rz.len, ← hi]; exact fa.at_)]
          have g4 := g2.hm.put (o := .ins (G.cl c) dx ((G.nm c).zip (vs ++ [v]))) (m' := .ins c (fs ++ [d])) ea ⟨dx, vs ++ [v], upd_same, by rw [List.length_append, List.length_singleton, rz.len, ← hi]; exact il, rz.app (.cons (r1.mono g2.ext) .nil)⟩
          exact n σ δ _ _ _ (g12.trans g4) (rs.mono g12.ext) h2
      · exact h2.elim
    · exact h2.elim
  · exact h2.elim

/-! ### a chain a op b op c -/
def wChain (w w' : WR2) (wa wb wc : WE) : WE := fun δ M Q EX => wa δ M (fun x M1 => wb δ M1 (fun y M2 => w x y M2 (fun z M3 => ∃ k, z = .bl k ∧ if k = true then wc δ M3 (fun u M4 => w' y u M4 Q) EX else Q (.bl false) M3)) EX) EX
theorem up_chain {r r' : R2} {w w' : WR2} {wa wb wc : WE} (s : Sim2 G X.K r w) (s' : Sim2 G X.K r' w') (σ : St) (H : Hp) (P : VK) (h : up G X (wChain w w' wa wb wc) σ H P) : tChain r r' (up G X wa) (up G X wb) (up G X wc) σ H P := by
  obtain ⟨F, M, δ, Q, EX, hm, rs, h, tk, f⟩ := h
  refine ⟨F, M, δ, _, EX, hm, rs, h, tk, fun x dx F1 M1 H1 g1 r1 h1 => ?_⟩
  refine ⟨F1, M1, δ, _, EX, g1.hm, rs.mono g1.ext, h1, tk.imp (wX_mono g1), fun y dy F2 M2 H2 g2 r2 h2 => ?_⟩
  have g12 := g1.trans g2
  refine s F2 M2 H2 x y dx dy _ _ g2.hm (r1.mono g2.ext) r2 h2 fun v d F3 M3 H3 g3 r3 ⟨k, e, h3⟩ => ?_
  subst e
  cases r3
  refine ⟨k, rfl, ?_⟩
  have g123 := g12.trans g3
  cases k with
  | true =>
    refine ⟨F3, M3, δ, _, EX, g3.hm, rs.mono g123.ext, h3, tk.imp (wX_mono g123), fun u du F4 M4 H4 g4 r4 h4 => ?_⟩
    exact s' F4 M4 H4 y u dy du Q P g4.hm (r2.mono (g3.trans g4).ext) r4 h4 fun v d F5 M5 H5 g5 r5 q => f v d F5 M5 H5 ((g123.trans g4).trans g5) r5 q
  | false => exact f _ _ F3 M3 H3 g123 (.bl false) h3
theorem de_chain {a b c : Expr} {op op' : CmpOp} {r r' : R2} {w w' : WR2} {wa wb wc : WE} {pos} (ho : OpR X (compareOp op) r) (s : Sim2 G X.K r w) (ho' : OpR X (compareOp op') r') (s' : Sim2 G X.K r' w') (ha : DE G X a wa) (hb : DE G X b wb) (hc : DE G X c wc)
    (hm : lastMarks [op, op'] [b, c] = false := by with_unfolding_all rfl) : DE G X (.Compare a [op, op'] [b, c] pos) (wChain w w' wa wb wc) := pe_imp (pe_chain ho ho' ha hb hc hm) (up_chain s s')
theorem dt_chain {a b c : Expr} {op op' : CmpOp} {r r' : R2} {w w' : WR2} {wa wb wc : WE} {pos} (ho : OpR X (compareOp op) r) (s : Sim2 G X.K r w) (ho' : OpR X (compareOp op') r') (s' : Sim2 G X.K r' w') (ha : DE G X a wa) (hb : DE G X b wb) (hc : DE G X c wc)
    (hm : lastMarks [op, op'] [b, c] = false := by with_unfolding_all rfl) : DT G X (.Compare a [op, op'] [b, c] pos) (wTst (wChain w w' wa wb wc)) := by
  refine pt_imp (pt_chain ho ho' ha hb hc hm) fun σ H P ⟨F, M, δ, Q, EX, hm, rs, h, tk, f⟩ => ?_
  refine up_chain s s' σ H _ ⟨F, M, δ, _, EX, hm, rs, h, tk, fun v d F' M' H' g r ⟨c, e, q⟩ => ?_⟩
  subst e
  cases r
  exact ⟨c, rfl, f c F' M' H' g q⟩

/-! ### a def's promise by trees -/
def lift (G : Cfg) (K : PySem.W.Frag) (sp : SpD) : Sp := fun vs H P E => ∃ F M ds Q EX, HM G K F M H ∧ RepL G K F vs ds ∧ sp ds M Q EX ∧ Fin G K F M H Q P ∧
  ∀ cls dop xd F' M' H', Grow G K F M H F' M' H' → RX G K F' H' cls dop xd → EX xd M' → E cls dop H'
def startD (n : Nat) (ds : List D) : DS := ds.map some ++ List.replicate (n - ds.length) none
/-- the promise that a body is: n parameters, m names in all -/
def spOf (n m : Nat) (w : WS) : SpD := fun ds M Q EX => ds.length = n ∧ w { nx := fun _ M' => Q .non M', rt := Q } (fun xd _ M' => EX xd M') (startD m ds) M
theorem rs_start {K : PySem.W.Frag} {F : Hp} {N : List Str} {vs : List V} {ds : List D} (r : RepL G K F vs ds) : RS G K F (L2.start N vs) (startD N.length ds) := by
  unfold L2.start startD
  refine ⟨by simp [r.len], fun i d e => ?_⟩
  by_cases h : i < ds.length
  · rw [List.getElem?_append_left (by simpa using h), List.getElem?_map] at e
    cases q : ds[i]? with
    | none => rw [q] at e; cases e
    | some d' =>
      rw [q] at e
      cases e
      obtain ⟨v, e1, r1⟩ := r.get q
      refine ⟨v, ?_, r1⟩
      rw [List.getElem?_append_left (by simp [r.len]; exact h), List.getElem?_map, e1]
      rfl
  · rw [List.getElem?_append_right (by simpa using h), List.getElem?_replicate] at e
    split at e <;> cases e
/-- a def keeps its promise where no repr is under way around it -/
structure FnG (P : Program) (w : World) (K : PySem.W.Frag) (mg : Str → Option Value) (base : Heap) (gd : Bool) (k : Nat) (f : Addr) (fd : FuncData) (ps : List Str) (sp : Sp) : Prop where
  len : ∀ vs H Q E, sp vs H Q E → vs.length = ps.length
  run : ∀ (A : Around) (out : List Env) (s : Shared) (H : Hp) (args : Args) (us : List Value) (vs : List V) (Q : VK) (E : XK), Room k A → (gd = true → A.guards = some []) → Env0 P w K mg base A out s H → BindsTo s fd args (ps.zip us) → Vals vs us → sp vs H Q E →
    codeAny (PySem.model P w) A (.call (.ref f) args) (CR (L2.CX P w) out P w H s Q E) s
theorem FnG.up {P : Program} {w : World} {K : PySem.W.Frag} {mg : Str → Option Value} {base : Heap} {gd : Bool} {j k : Nat} {f : Addr} {fd : FuncData} {ps : List Str} {sp : Sp} (F : FnG P w K mg base gd j f fd ps sp) (h : j ≤ k) : FnG P w K mg base gd k f fd ps sp :=
  ⟨F.len, fun A out s H args us vs Q E hr => F.run A out s H args us vs Q E (hr.mono h)⟩
theorem guards_deeper {A : Around} {env : Env} (h : A.guards = some []) : (A.deeper env).guards = some [] := by
  first | exact h | (show (Around.deeper A env).guards = some []; simp [Around.deeper, h])
theorem ce_of {Y : Cx} {out : List Env} {P : Program} {w : World} {H H' : Hp} {s s' : Shared} {Q : VK} {σ : St} {v : V} {u : Value} (eo : Y.s_0 = s) (eh : Y.H_0 = H) (ep : Y.prog = P) (ew : Y.w = w) (ef : Y.fs = frs out) (ex : Y.ex = []) (J : Inv Y [] σ H' s') (rv : RelV v u) (q : Q v H') : CE out P w H s Q u s' := by
  subst eo eh ep ew
  refine ⟨v, H', J.os, J.bare, ?_, J.hok, rv, q⟩
  have z := J.base
  rw [ef, ex] at z
  exact z
theorem fn_g {P : Program} {w : World} {K : PySem.W.Frag} {mg : Str → Option Value} {base : Heap} {gd : Bool} {x qual : Str} {st : Stmt} {f : Addr} {fd : FuncData} {N ps : List Str} {k : Nat} {sp : Sp} (F : Fun K x qual st f fd) (S : FnScope N ps (defScope st)) (len : ∀ vs H Q E, sp vs H Q E → vs.length = ps.length)
    (hb : ∀ (cdv : Value) (A : Around) (out : List Env) (s : Shared) (H : Hp) (vs : List V) (Q : VK) (E : XK), Room k (A.deeper (envOfC qual (defScope st) s.heap.objs.size f cdv)) → (gd = true → A.guards = some []) → sp vs H Q E →
      ∃ t, PSs (cxOf (L2.CX P w) P w K mg base N qual (defScope st) f cdv A out s H E) (defBody st) t ∧ t { nx := fun _ H' => Q .non H', rt := Q } (L2.start N vs) H) : FnG P w K mg base gd (k + 1) f fd ps sp := by
  obtain ⟨oc, od, kV, doc, pm, an, cdv, ct, osl, efd, lk, hcd⟩ := F.ex
  rw [efd] at lk
  subst efd
  refine ⟨len, fun A out s H args us vs Q E hr hg e0 hbi rv hsp => ?_⟩
  have hl := len _ _ _ _ hsp
  have inK : K.In s.heap := e0.mod.kin.keeps (fun b o z => (e0.bs b o z).left)
  have nolim : s.heap.NoLimit := e0.mod.nolimit.keeps (fun b o z => (e0.bs b o z).left)
  have kinds : ∀ y ∈ ps.zip us, (defScope st).names.lookup y.1 = some .local ∨ ((defScope st).names.lookup y.1 = some .cell ∧ ((cellsFrom (s.heap.objs.size + 1) (defScope st).names []).lookup y.1).isSome = true) := by
    intro y hy
    cases S.par y.1 (List.of_mem_zip (a := y.1) (b := y.2) hy).1 with
    | inl z => exact Or.inl z
    | inr z => exact Or.inr ⟨z, PySem.W.cellsFrom_some _ _ _ (Or.inl z)⟩
  refine codeAny_call_function hr.depth (inK _ _ lk) rfl S.co S.gen rfl (PySem.W.codeRec_of inK hcd) (hbi _ _ _ _ ?_)
  refine wpAny_newFunctionEnv_cells S.kind kinds (fun env heq s1 ic => ?_)
  subst heq
  refine ⟨nolim.keeps ic.toInCall.keep, codeAny_func ?_⟩
  obtain ⟨t, ht, hq⟩ := hb cdv A out s H vs Q E (hr.deeper _) hg hsp
  refine wpAny_mono (ht.run [] s1 (L2.start N vs) H _ (inv_start S hr.hd e0 hl rv ic) hq) (fun fl s' hs => ?_) (fun _ _ hs => hs)
  cases fl with
  | ret u =>
    obtain ⟨v, σ', H', J, r1, q⟩ := hs
    exact ce_of rfl rfl rfl rfl rfl rfl J r1 q
  | next =>
    obtain ⟨σ', H', J, q⟩ := hs
    exact ce_of (v := V.non) (u := Value.none) rfl rfl rfl rfl rfl rfl J rfl q
  | brk => exact hs.elim fun _ z => z.elim fun _ z => z.2.elim
  | cont => exact hs.elim fun _ z => z.elim fun _ z => z.2.elim
theorem okD {P : Program} {w : World} {K : PySem.W.Frag} {mg : Str → Option Value} {base : Heap} {gd : Bool} {x qual : Str} {st : Stmt} {f : Addr} {fd : FuncData} {N ps : List Str} {k : Nat} {wb : WS} (F : Fun K x qual st f fd) (S : FnScope N ps (defScope st))
    (hb : ∀ (cdv : Value) (A : Around) (out : List Env) (s : Shared) (H : Hp) (E : XK), Room k (A.deeper (envOfC qual (defScope st) s.heap.objs.size f cdv)) → (gd = true → (A.deeper (envOfC qual (defScope st) s.heap.objs.size f cdv)).guards = some []) → DSs G (cxOf (L2.CX P w) P w K mg base N qual (defScope st) f cdv A out s H E) (defBody st) wb) :
    FnG P w K mg base gd (k + 1) f fd ps (lift G K (spOf ps.length N.length wb)) := by
  refine fn_g F S (fun vs H Q E h => ?_) (fun cdv A out s H vs Q E hr hg h => ⟨_, hb cdv A out s H E hr (fun z => guards_deeper (hg z)), ?_⟩)
  · obtain ⟨F', M, ds, Q', EX, hm, r, ⟨h1, _⟩, _⟩ := h
    rw [r.len]; exact h1
  · obtain ⟨F', M, ds, Q', EX, hm, r, ⟨h1, h2⟩, fin, hx⟩ := h
    refine ⟨F', M, _, _, _, hm, rs_start r, h2, ?_, fun σ' δ' F1 M1 H1 g1 r1 q => fin _ _ F1 M1 H1 g1 .non q, fun v d F1 M1 H1 g1 r1 q => fin v d F1 M1 H1 g1 r1 q, fun _ _ _ _ _ _ _ q => q.elim, fun _ _ _ _ _ _ _ q => q.elim⟩
    have t : Takes (cxOf (L2.CX P w) P w K mg base N qual (defScope st) f cdv A out s H E) (fun cls d _ H => E cls d H) := takes_of rfl rfl rfl rfl
    exact t.imp fun c d σ' H' ⟨xd, δ', F1, M1, g1, r1, rx, q⟩ => hx c d xd F1 M1 H' g1 rx q

/-! ### calls of defs -/
theorem lift_at {sp : SpD} {σ : St} {H : Hp} {P : VK} {F : Hp} {M : MM} {δ : DS} {vs : List V} {ds : List D} {Q : D → MM → Prop} {EX : XK'} (hm : HM G X.K F M H) (rs : RS G X.K F σ δ) (r : RepL G X.K F vs ds) (h : sp ds M Q (fun xd M' => EX xd δ M')) (f : Fin G X.K F M H Q P) :
    lift G X.K sp vs H P (L2.WE (wX G X.K F M H EX) σ) :=
  ⟨F, M, ds, Q, _, hm, r, h, f, fun cls dop xd F' M' H' g rx q => ⟨xd, δ, F', M', g, rs.mono g.ext, rx, q⟩⟩
def wCall (sp : SpD) (dds : List D) (wa : WA) : WE := fun δ M Q EX => wa δ M (fun ds M1 => sp (ds ++ dds) M1 Q (fun xd M2 => EX xd δ M2)) EX
/-- values that stand for their trees in any heap: defaults -/
def Flat (G : Cfg) (K : PySem.W.Frag) (vs : List V) (ds : List D) : Prop := ∀ F, RepL G K F vs ds
theorem Flat.nil {K : PySem.W.Frag} : Flat G K [] [] := fun _ => .nil
variable {gd : Bool} {k : Nat} {f : Addr} {fd : FuncData} {ps : List Str} {sp : SpD} {dvs : List V} {dus : List Value} {dds : List D} {x m : Str} {p pos apos : Pos} {es : List Expr} {wa : WA} {wo : WE}
theorem da_run {F1 : Hp} {M1 : MM} {δ : DS} {QA : List D → MM → Prop} {EX : XK'} {pins : List (Addr × Obj)} {s : Shared} {σ : St} {H : Hp} (ha : DA G X es wa) (pos : Pos) (I : Inv X pins σ H s) (hm : HM G X.K F1 M1 H) (rs : RS G X.K F1 σ δ) (h : wa δ M1 QA EX) (tk : Takes X (wX G X.K F1 M1 H EX)) :
    wpAny (model X.prog X.w) X.A (spliced (backTo pos (starEach es X.env))) (AP X pins σ (fun vs H2 => ∃ ds F2 M2, Grow G X.K F1 M1 H F2 M2 H2 ∧ RepL G X.K F2 vs ds ∧ QA ds M2)) X.xe s :=
  ha.run pos pins s σ H _ I ⟨F1, M1, δ, QA, EX, hm, rs, h, tk, fun vs ds F2 M2 H2 g r q => ⟨ds, F2, M2, g, r, q⟩⟩
theorem de_run {we : WE} {F1 : Hp} {M1 : MM} {δ : DS} {Q : D → MM → Prop} {EX : XK'} {pins : List (Addr × Obj)} {s : Shared} {σ : St} {H : Hp} (ha : DE G X e we) (I : Inv X pins σ H s) (hm : HM G X.K F1 M1 H) (rs : RS G X.K F1 σ δ) (h : we δ M1 Q EX) (tk : Takes X (wX G X.K F1 M1 H EX)) :
    wpAny (model X.prog X.w) X.A (eval e X.env) (EP X pins σ (fun v H2 => ∃ d F2 M2, Grow G X.K F1 M1 H F2 M2 H2 ∧ Rep G X.K F2 v d ∧ Q d M2)) X.xe s :=
  ha.run pins s σ H _ I ⟨F1, M1, δ, Q, EX, hm, rs, h, tk, fun v d F2 M2 H2 g r q => ⟨d, F2, M2, g, r, q⟩⟩
theorem run_at (F : FnG X.prog X.w X.K X.mg X.base gd k f fd ps (lift G X.K sp)) (hr : Room k X.A) (hgd : gd = true → X.A.guards = some []) (hb : Binds X.K fd ps dus) (hd : Vals dvs dus) (hf : Flat G X.K dvs dds) {pins : List (Addr × Obj)} {σ : St} {H : Hp} {s : Shared} {us : List Value} {vs : List V} {ds : List D} {F1 : Hp} {M1 : MM} {δ : DS} {Q : D → MM → Prop} {EX : XK'} {P : VK}
    (I : Inv X pins σ H s) (r : Vals vs us) (hm : HM G X.K F1 M1 H) (rs : RS G X.K F1 σ δ) (rl : RepL G X.K F1 vs ds) (h : sp (ds ++ dds) M1 Q (fun xd M' => EX xd δ M')) (tk : Takes X (wX G X.K F1 M1 H EX)) (f' : Fin G X.K F1 M1 H Q P) :
    wpAny (model X.prog X.w) X.A (call (.ref f) us) (EP X pins σ P) X.xe s := by
  have hl' := lift_at (P := P) hm rs (rl.app (hf F1)) h f'
  have r2 : Vals (vs ++ dvs) (us ++ dus) := r.append hd
  have hn : (us ++ dus).length = ps.length := r2.length.symm.trans (F.len _ _ _ _ hl')
  refine wpAny_call (codeAny_mono (F.run X.A X.stack s H ⟨us, []⟩ _ _ P _ hr hgd I.env0 (hb s us I.kIn hn) r2 hl') (fun res s' hq => ?_))
  match res, hq with
  | .error z, hq => exact passAt tk σ pins H s z s' I hq
  | .ok (.ret u), hq => exact I.after hq
theorem de_call (F : FnG X.prog X.w X.K X.mg X.base gd k f fd ps (lift G X.K sp)) (hr : Room k X.A) (hgd : gd = true → X.A.guards = some []) (hm : X.mg x = some (.ref f)) (hk : PySem.W.keepIn X.K (.ref f) = true) (hb : Binds X.K fd ps dus) (hd : Vals dvs dus) (hf : Flat G X.K dvs dds)
    (ha : DA G X (e :: es) wa) (hg : Gl X x := by rfl) (hdb : (x == ("__debug__" : Str)) = false := by decide) (he : starEach (e :: es) X.env = (false, eval e X.env) :: starEach es X.env := by rfl) (hpl : (backTo pos (starEach es X.env)).any (·.1) = false := by rfl) :
    DE G X (.Call (.Name x p) (e :: es) [] pos) (wCall sp dds wa) := by
  refine ⟨fun pins s σ H Q I ⟨F1, M1, δ, Q', EX, hm1, rs, h, tk, fin⟩ => ?_⟩
  refine wpAny_Call_Name_kw (ld_glob I hg hm ?_ hdb)
  refine PySem.W.callWith_K (h₀ := X.base) I.ok.mod.kin hk (thn (da_run ha pos I hm1 rs h tk) fun us s1 ⟨vs, H2, I2, r, ds, F2, M2, g, rl, q⟩ => ⟨I2.kIn, ?_⟩) he hpl
  exact run_at F hr hgd hb hd hf I2 r g.hm (rs.mono g.ext) rl q (tk.imp (wX_mono g)) fun v d F3 M3 H3 g3 r3 q3 => fin v d F3 M3 H3 (g.trans g3) r3 q3
theorem de_call0 (F : FnG X.prog X.w X.K X.mg X.base gd k f fd ps (lift G X.K sp)) (hr : Room k X.A) (hgd : gd = true → X.A.guards = some []) (hm : X.mg x = some (.ref f)) (hk : PySem.W.keepIn X.K (.ref f) = true) (hb : Binds X.K fd ps dus) (hd : Vals dvs dus) (hf : Flat G X.K dvs dds)
    (hg : Gl X x := by rfl) (hdb : (x == ("__debug__" : Str)) = false := by decide) : DE G X (.Call (.Name x p) [] [] pos) (wCall sp dds wNil) := by
  refine ⟨fun pins s σ H Q I ⟨F1, M1, δ, Q', EX, hm1, rs, h, tk, fin⟩ => ?_⟩
  refine wpAny_Call_Name_kw (ld_glob I hg hm ?_ hdb)
  exact PySem.W.callWith_K0 I.kIn hk (run_at (us := []) (ds := []) F hr hgd hb hd hf I .nil hm1 rs .nil h tk fin)
/-- how a def is called as the method m of an instance of c -/
structure MethD (G : Cfg) (X : Cx) (c : Nat) (m : Str) (dds : List D) (sp : SpD) : Prop where
  cls : Cls X.K (G.cl c)
  noat : m ∉ G.nm c
  ex : ∃ (gd : Bool) (k : Nat) (f : Addr) (fd : FuncData) (ps : List Str) (dvs : List V) (dus : List Value), Meth X.K (G.cl c) m f ∧ FnG X.prog X.w X.K X.mg X.base gd k f fd ps (lift G X.K sp) ∧ Room k X.A ∧ (gd = true → X.A.guards = some []) ∧ Binds X.K fd ps dus ∧ Vals dvs dus ∧ Flat G X.K dvs dds
def wMeth (tb : List (Nat × SpD)) (dds : List D) (wo : WE) (wa : WA) : WE := fun δ M Q EX => wo δ M (fun d M1 => ∃ c fs sp, insOf M1 d = some (c, fs) ∧ tb.lookup c = some sp ∧ wa δ M1 (fun ds M2 => sp (d :: (ds ++ dds)) M2 Q (fun xd M3 => EX xd δ M3)) EX) EX
theorem de_meth {pl : Sem Bool} (tb : List (Nat × SpD)) (ht : ∀ q ∈ tb, MethD G X q.1 m dds q.2) (ho : DE G X o wo) (ha : DA G X (e :: es) wa)
    (hst : starEach (e :: es) X.env = (false, eval e X.env) :: starEach es X.env := by rfl) (hpl : (backTo pos (starEach es X.env)).any (·.1) = false := by rfl)
    (hv : eval (.Call (.Attribute o m apos) (e :: es) [] pos) X.env = (do
      let ov ← eval o X.env
      standAt apos.atName
      let (f, first) ← holding [ov] (getMethod ov m pl)
      callWith pos f first (backTo pos (starEach (e :: es) X.env)) (backToKw pos (keywordEach [] X.env))) := by rfl) :
    DE G X (.Call (.Attribute o m apos) (e :: es) [] pos) (wMeth tb dds wo wa) := by
  refine ⟨fun pins s σ H Q I ⟨F1, M1, δ, Q', EX, hm1, rs, h, tk, fin⟩ => ?_⟩
  refine PySem.W.methodCall_KW (pl := pl) (thn (de_run ho I hm1 rs h tk) fun u s1 ⟨v, H2, I2, rv, d, F2, M2, g, rd, c, fs, sp, e1, e2, q⟩ => ?_) hv
  obtain ⟨a, dx, ws, rfl, hz, l, rz⟩ := insOf_rep g.hm rd e1
  obtain ⟨cls, noat, gd, k, f, fd, ps, dvs, dus, hmt, F, hr, hgd, hb, hd, hf⟩ := ht _ (lookup_mem e2)
  obtain rfl : u = Value.ref a := rv
  refine getmeth_ok I2 hz cls hmt (zip_lookup_none noat) ?_
  refine PySem.W.callWith_K (first := [.ref a]) (h₀ := X.base) I.ok.mod.kin hmt.kp (thn (da_run ha pos I2 g.hm (rs.mono g.ext) q (tk.imp (wX_mono g))) fun us s2 ⟨vs, H3, I3, r, ds, F3, M3, g3, rl, q3⟩ => ⟨I3.kIn, ?_⟩) hst hpl
  have gt := g.trans g3
  exact run_at (us := .ref a :: us) (vs := .ref a :: vs) (ds := d :: ds) F hr hgd hb hd hf I3 (.cons rfl r) g3.hm (rs.mono gt.ext) (.cons (rd.mono g3.ext) rl) q3 (tk.imp (wX_mono gt)) fun v d F4 M4 H4 g4 r4 q4 => fin v d F4 M4 H4 (gt.trans g4) r4 q4
theorem de_meth0 {pl : Sem Bool} (tb : List (Nat × SpD)) (ht : ∀ q ∈ tb, MethD G X q.1 m dds q.2) (ho : DE G X o wo)
    (hv : eval (.Call (.Attribute o m apos) [] [] pos) X.env = (do
      let ov ← eval o X.env
      standAt apos.atName
      let (f, first) ← holding [ov] (getMethod ov m pl)
      callWith pos f first (backTo pos (starEach [] X.env)) (backToKw pos (keywordEach [] X.env))) := by rfl) :
    DE G X (.Call (.Attribute o m apos) [] [] pos) (wMeth tb dds wo wNil) := by
  refine ⟨fun pins s σ H Q I ⟨F1, M1, δ, Q', EX, hm1, rs, h, tk, fin⟩ => ?_⟩
  refine PySem.W.methodCall_KW (pl := pl) (thn (de_run ho I hm1 rs h tk) fun u s1 ⟨v, H2, I2, rv, d, F2, M2, g, rd, c, fs, sp, e1, e2, q⟩ => ?_) hv
  obtain ⟨a, dx, ws, rfl, hz, l, rz⟩ := insOf_rep g.hm rd e1
  obtain ⟨cls, noat, gd, k, f, fd, ps, dvs, dus, hmt, F, hr, hgd, hb, hd, hf⟩ := ht _ (lookup_mem e2)
  obtain rfl : u = Value.ref a := rv
  refine getmeth_ok I2 hz cls hmt (zip_lookup_none noat) ?_
  exact PySem.W.callWith_K0 (first := [.ref a]) I2.kIn hmt.kp (run_at (us := [.ref a]) (vs := [.ref a]) (ds := [d]) F hr hgd hb hd hf I2 (.cons rfl .nil) g.hm (rs.mono g.ext) (.cons rd .nil) q (tk.imp (wX_mono g)) fun v d F4 M4 H4 g4 r4 q4 => fin v d F4 M4 H4 (g.trans g4) r4 q4)
/-! ### C(..): a new instance, its __init__ -/
theorem HM.own {K : PySem.W.Frag} {F : Hp} {M : MM} {H : Hp} {dx : Addr} {u : HO} (h : HM G K F M H) (n : H dx = none) : Grow G K F M H F M (upd H dx u) := by
  have ne : ∀ b o, H b = some o → b ≠ dx := fun b o e q => by subst q; rw [n] at e; cases e
  refine ⟨⟨fun b o e => ?_, h.dis, fun b m e => ?_, h.tbU (Same.refl _) (h.ntab0 n) (fun _ _ z => z) (fun _ _ z => z)⟩, Same.refl _, fun b o e f m => .inr ⟨by rw [upd_ne (ne b o e)]; exact e, .inl f, m⟩, h.tab0⟩
  · have z := h.sub b o e
    rw [upd_ne (ne b o z)]; exact z
  · obtain ⟨o, z⟩ := (h.mo b m e).some
    exact (h.mo b m e).mono (Same.refl _) (upd_ne (ne b o z))
/-- the new instance may change -/
def wMake (c : Nat) (sp : SpD) (dds : List D) (wa : WA) : WE := fun δ M Q EX => wa δ M (fun ds M1 => ∀ p, M1 p = none → sp (.raw (.ref p) :: (ds ++ dds)) (updM M1 p (.ins c [])) (fun d M2 => d = .non ∧ Q (.raw (.ref p)) M2) (fun xd M2 => EX xd δ M2)) EX
theorem guards_make {A : Around} {C : Addr} {us : List Value} {kw : List (Str × Value)} (h : A.guards = some []) : (A.under (.builtin "type.__call__" ⟨.ref C :: us, kw⟩)).guards = some [] := by
  simp [Around.under, h, Code.guards, Code.isGuard, guardIds, pushGuards]
theorem run_makeD {C : Nat} (Mk' : Mk X.K (G.cl C) f) (F : FnG X.prog X.w X.K X.mg X.base gd k f fd ps (lift G X.K sp)) (hr : Room (k + 1) X.A) (hgd : gd = true → X.A.guards = some []) (hb : Binds X.K fd ps dus) (hd : Vals dvs dus) (hf : Flat G X.K dvs dds) {pins : List (Addr × Obj)} {σ : St} {H : Hp} {s : Shared} {us : List Value} {vs : List V} {ds : List D} {F1 : Hp} {M1 : MM} {δ : DS} {Q : D → MM → Prop} {EX : XK'} {P : VK}
    (I : Inv X pins σ H s) (r : Vals vs us) (hm : HM G X.K F1 M1 H) (rs : RS G X.K F1 σ δ) (rl : RepL G X.K F1 vs ds)
    (h : ∀ p, M1 p = none → sp (.raw (.ref p) :: (ds ++ dds)) (updM M1 p (.ins C [])) (fun d M2 => d = .non ∧ Q (.raw (.ref p)) M2) (fun xd M2 => EX xd δ M2)) (tk : Takes X (wX G X.K F1 M1 H EX)) (f' : Fin G X.K F1 M1 H Q P) :
    wpAny (model X.prog X.w) X.A (call (.ref (G.cl C)) us) (EP X pins σ P) X.xe s := by
  have n1 : H s.heap.objs.size = none := I.hok.fresh (Nat.le_refl _)
  have n2 : H (s.heap.objs.size + 1) = none := I.hok.fresh (Nat.le_succ _)
  have ne : s.heap.objs.size + 1 ≠ s.heap.objs.size := Nat.succ_ne_self _
  have I2 := Inv.made (C := G.cl C) I
  have g1 : Grow G X.K F1 M1 H F1 M1 (upd H s.heap.objs.size (.own (s.heap.objs.size + 1))) := hm.own n1
  have n3 : upd H s.heap.objs.size (.own (s.heap.objs.size + 1)) (s.heap.objs.size + 1) = none := by rw [upd_ne ne]; exact n2
  have g2 := g1.hm.newM (p := s.heap.objs.size + 1) (o := .ins (G.cl C) s.heap.objs.size []) (m := .ins C []) n3 ⟨s.heap.objs.size, [], by rw [upd_same]; simp, by simp, .nil⟩
  have g := g1.trans g2
  have hq := h (s.heap.objs.size + 1) (hm.free n2).2
  have r2 : Vals (V.ref (s.heap.objs.size + 1) :: (vs ++ dvs)) (Value.ref (s.heap.objs.size + 1) :: (us ++ dus)) := .cons rfl (r.append hd)
  have rl2 : RepL G X.K F1 (V.ref (s.heap.objs.size + 1) :: (vs ++ dvs)) (D.raw (.ref (s.heap.objs.size + 1)) :: (ds ++ dds)) := .cons (.raw _) (rl.app (hf F1))
  have hl' := lift_at (P := fun v H' => v = .non ∧ P (.ref (s.heap.objs.size + 1)) H') g.hm rs rl2 hq (fun v d F3 M3 H3 g3 r3 q3 => by
    obtain ⟨e, q3⟩ := q3
    subst e
    cases r3
    exact ⟨rfl, f' _ _ F3 M3 H3 (g.trans g3) (.raw _) q3⟩)
  have hl : (Value.ref (s.heap.objs.size + 1) :: us ++ dus).length = ps.length := by
    have e := r2.length
    rw [F.len _ _ _ _ hl'] at e
    exact e.symm
  have tk2 : Takes X (wX G X.K F1 (updM M1 (s.heap.objs.size + 1) (.ins C [])) (upd (upd H s.heap.objs.size (.own (s.heap.objs.size + 1))) (s.heap.objs.size + 1) (.ins (G.cl C) s.heap.objs.size [])) EX) := tk.imp (wX_mono g)
  refine wpAny_call (make_map (f := f) I.kIn Mk'.makes Mk'.init (beq_iff_eq.mp Mk'.fn) (codeAny_mono (F.run _ X.stack _ _ ⟨Value.ref (s.heap.objs.size + 1) :: us, []⟩ (Value.ref (s.heap.objs.size + 1) :: (us ++ dus)) _ _ _ (hr.make _ us []) (fun z => guards_make (hgd z))
    (I2.env0.make _ us []) (hb _ (Value.ref (s.heap.objs.size + 1) :: us) I2.kIn hl) r2 hl') fun r s' hq' => ?_))
  cases r with
  | error e => exact passAt tk2 σ pins _ _ e s' I2 hq'
  | ok fl =>
    cases fl with
    | ret u =>
      obtain ⟨v, H', I3, rv, ev, q3⟩ := I2.after hq'
      subst ev
      exact ⟨rv, ⟨V.ref (s.heap.objs.size + 1), H', I3, rfl, q3⟩⟩
    | next => exact False.elim hq'
    | brk => exact False.elim hq'
    | cont => exact False.elim hq'
theorem de_make {C : Nat} (Mk' : Mk X.K (G.cl C) f) (F : FnG X.prog X.w X.K X.mg X.base gd k f fd ps (lift G X.K sp)) (hr : Room (k + 1) X.A) (hgd : gd = true → X.A.guards = some []) (hm : X.mg x = some (.ref (G.cl C))) (hb : Binds X.K fd ps dus) (hd : Vals dvs dus) (hf : Flat G X.K dvs dds)
    (ha : DA G X (e :: es) wa) (hg : Gl X x := by rfl) (hdb : (x == ("__debug__" : Str)) = false := by decide) (he : starEach (e :: es) X.env = (false, eval e X.env) :: starEach es X.env := by rfl) (hpl : (backTo pos (starEach es X.env)).any (·.1) = false := by rfl) :
    DE G X (.Call (.Name x p) (e :: es) [] pos) (wMake C sp dds wa) := by
  refine ⟨fun pins s σ H Q I ⟨F1, M1, δ, Q', EX, hm1, rs, h, tk, fin⟩ => ?_⟩
  refine wpAny_Call_Name_kw (ld_glob I hg hm ?_ hdb)
  refine PySem.W.callWith_K (h₀ := X.base) I.ok.mod.kin Mk'.kp (thn (da_run ha pos I hm1 rs h tk) fun us s1 ⟨vs, H2, I2, r, ds, F2, M2, g, rl, q⟩ => ⟨I2.kIn, ?_⟩) he hpl
  exact run_makeD Mk' F hr hgd hb hd hf I2 r g.hm (rs.mono g.ext) rl q (tk.imp (wX_mono g)) fun v d F3 M3 H3 g3 r3 q3 => fin v d F3 M3 H3 (g.trans g3) r3 q3
theorem de_make0 {C : Nat} (Mk' : Mk X.K (G.cl C) f) (F : FnG X.prog X.w X.K X.mg X.base gd k f fd ps (lift G X.K sp)) (hr : Room (k + 1) X.A) (hgd : gd = true → X.A.guards = some []) (hm : X.mg x = some (.ref (G.cl C))) (hb : Binds X.K fd ps dus) (hd : Vals dvs dus) (hf : Flat G X.K dvs dds)
    (hg : Gl X x := by rfl) (hdb : (x == ("__debug__" : Str)) = false := by decide) : DE G X (.Call (.Name x p) [] [] pos) (wMake C sp dds wNil) := by
  refine ⟨fun pins s σ H Q I ⟨F1, M1, δ, Q', EX, hm1, rs, h, tk, fin⟩ => ?_⟩
  refine wpAny_Call_Name_kw (ld_glob I hg hm ?_ hdb)
  exact PySem.W.callWith_K0 I.kIn Mk'.kp (run_makeD (us := []) (ds := []) Mk' F hr hgd hb hd hf I .nil hm1 rs .nil h tk fin)
/-- the instance changes no more -/
def wFrzI (c n : Nat) (we : WE) : WE := fun δ M Q EX => we δ M (fun d M1 => ∃ p fs, d = .raw (.ref p) ∧ M1 p = some (.ins c fs) ∧ fs.length = n ∧ Q (.ins c fs) (delM M1 p)) EX
theorem de_frzI {c n : Nat} {we : WE} (hn : (G.nm c).length = n) (h : DE G X e we) : DE G X e (wFrzI c n we) := by
  refine pe_imp h fun σ H P ⟨F, M, δ, Q, EX, hm, rs, h, tk, f⟩ => ?_
  refine ⟨F, M, δ, _, EX, hm, rs, h, tk, fun v d F1 M1 H1 g1 r1 h1 => ?_⟩
  obtain ⟨p, fs, rfl, ep, hl, q⟩ := h1
  cases r1
  obtain ⟨F2, g2, r2⟩ := g1.hm.settle ep (fun c' fs' z => by cases z; rw [hl, hn])
  exact f _ _ _ _ _ (g1.trans g2) r2 q
end
end DL

set_option Elab.async false
set_option linter.all false
set_option maxRecDepth 100000
namespace DL
open PySem PySem.Spec L2
open PyProof.Rows hiding St

section
variable {G : Cfg} {X : Cx} {e o i value : Expr}
theorem HM.other {K : PySem.W.Frag} {F : Hp} {M : MM} {H : Hp} {p : Addr} {u : HO} (h : HM G K F M H) (nf : F p = none) (nm : M p = none) (np : ∀ q ∈ G.tabs, q.1 ≠ p) : HM G K F M (upd H p u) := by
  refine ⟨fun b o e => ?_, h.dis, fun b m e => ?_, h.tbU (Same.refl _) np (fun _ _ z => z) (fun _ _ z => z)⟩
  · have z : b ≠ p := fun z => by subst z; rw [nf] at e; cases e
    rw [upd_ne z]; exact h.sub b o e
  · have z : b ≠ p := fun z => by subst z; rw [nm] at e; cases e
    exact (h.mo b m e).mono (Same.refl _) (upd_ne z)
theorem Grow.side {K : PySem.W.Frag} {F F' : Hp} {M M' : MM} {H H' : Hp} {p : Addr} {u : HO} (g : Grow G K F M H F' M' H') (n : H p = none) (nf : F' p = none) (nm : M' p = none) : Grow G K F M H F' M' (upd H' p u) :=
  ⟨g.hm.other nf nm (fun q hq z => by obtain ⟨ps, y⟩ := g.tab0 q hq; rw [z, n] at y; cases y), g.ext, fun b o e f m => by
    have z : b ≠ p := fun z => by subst z; rw [n] at e; cases e
    rcases g.kept b o e f m with ⟨t, ps, h1, h2, h3⟩ | ⟨h1, h2, h3⟩
    · exact .inl ⟨t, ps, by rw [upd_ne z]; exact h1, h2, h3⟩
    · exact .inr ⟨by rw [upd_ne z]; exact h1, h2, h3⟩, g.tab0⟩
theorem HM.adopt {K : PySem.W.Frag} {F : Hp} {M : MM} {H : Hp} {p : Addr} {u : HO} (h : HM G K F M H) (e : H p = some u) (nf : F p = none) (nm : M p = none) (nb : ∀ ps, u ≠ .tbl ps := by exact fun _ z => by cases z) : HM G K (upd F p u) M H ∧ Same F (upd F p u) := by
  have s1 : Same F (upd F p u) := fun b o q => by
    have z : b ≠ p := fun z => by subst z; rw [nf] at q; cases q
    rw [upd_ne z]; exact q
  refine ⟨⟨fun b o q => ?_, fun b m q => ?_, fun b m q => (h.mo b m q).mono s1 rfl, h.tbS s1 (h.ntab e nb) (fun b => updF_ne b) (fun _ _ z => z)⟩, s1⟩
  · by_cases z : b = p
    · subst z; rw [upd_same] at q; cases q; exact e
    · rw [upd_ne z] at q; exact h.sub b o q
  · have z : b ≠ p := fun z => by subst z; rw [nm] at q; cases q
    rw [upd_ne z]; exact h.dis b m q
theorem HM.adoptM {K : PySem.W.Frag} {F : Hp} {M : MM} {H : Hp} {p : Addr} {m : MO} (h : HM G K F M H) (r : RepM G K F H p m) (nf : F p = none) (nm : M p = none) : HM G K F (updM M p m) H := by
  obtain ⟨u, hu⟩ := r.some
  refine ⟨h.sub, fun b m' q => ?_, fun b m' q => ?_, h.tbS (Same.refl _) (h.ntab hu (repM_nt r hu)) (fun _ _ z => z) (fun b => updM_nn b)⟩
  · by_cases z : b = p
    · subst z; exact nf
    · rw [updM_ne z] at q; exact h.dis b m' q
  · by_cases z : b = p
    · subst z; rw [updM_same] at q; cases q; exact r
    · rw [updM_ne z] at q; exact h.mo b m' q
/-! ### comprehensions -/
def wipeD (δ : DS) : List Nat → DS
  | [] => δ
  | v :: vs => (wipeD δ vs).set v none
theorem rs_wipe {K : PySem.W.Frag} {F : Hp} {σ : St} {δ : DS} (h : RS G K F σ δ) : ∀ vs, RS G K F (wipe σ vs) (wipeD δ vs)
  | [] => h
  | v :: vs => by
    have ih := rs_wipe h vs
    unfold wipe wipeD
    refine ⟨by rw [List.length_set, List.length_set]; exact ih.1, fun j d q => ?_⟩
    by_cases z : v = j
    · subst z
      by_cases l : v < (wipeD δ vs).length
      · rw [List.getElem?_set_self l] at q; cases q
      · rw [List.getElem?_eq_none_iff.mpr (by rw [List.length_set]; omega)] at q; cases q
    · rw [List.getElem?_set_ne z] at q ⊢
      exact ih.2 j d q
def wYes : WT := fun _ M Q _ => Q true M
abbrev noX : XK' := fun _ _ _ => False
def wLcL (src : Option (Addr × List D)) (b : BD) (wt : WT) (we : WE) (δ : DS) (fin : List D → MM → Prop) : List D → List D → MM → Prop
  | [], acc, M => stay src M ∧ fin acc M
  | d :: ds, acc, M => stay src M ∧ match b d δ with
    | some δ' => wt δ' M (fun c M1 => if c = true then we δ' M1 (fun y M2 => acc.length < sizeLine ∧ wLcL src b wt we δ fin ds (acc ++ [y]) M2) noX else wLcL src b wt we δ fin ds acc M1) noX
    | none => False
def wLc (wi : WI) (b : BD) (wt : WT) (we : WE) (vs : List Nat) : WE := fun δ M Q EX => wi δ M (fun it M1 => wLcL it.src b wt we (wipeD δ vs) (fun acc M2 => Q (.lst acc) M2) it.items [] M1) EX
def wLcM (wi : WI) (b : BD) (wt : WT) (we : WE) (vs : List Nat) : WE := fun δ M Q EX => wi δ M (fun it M1 => wLcL it.src b wt we (wipeD δ vs) (fun acc M2 => ∀ p, M2 p = none → Q (.raw (.ref p)) (updM M2 p (.lst acc))) it.items [] M1) EX
/-- the target's places are the block's own -/
def InOwn (b : BD) (vs : List Nat) : Prop := ∀ d δ δ', b d δ = some δ' → ∀ σ : St, ∀ (x : DS → St → Prop), True
def SimGw (G : Cfg) (K : PySem.W.Frag) (g : TG) (b : BD) (vs : List Nat) : Prop := ∀ F M H σ δ δ' v d (Q : St → Hp → Prop), HM G K F M H → RS G K F σ δ → Rep G K F v d → b d δ = some δ' → (∀ σ', RS G K F σ' δ' → wipe σ' vs = wipe σ vs → Q σ' H) → g v σ H Q
theorem set_set_none {σ : St} : ∀ {vs : List Nat} {i : Nat} {x : Option V}, i ∈ vs → wipe (σ.set i x) vs = wipe σ vs
  | [], _, _, h => by simp at h
  | v :: vs, i, x, h => by
    unfold wipe
    by_cases hi : i ∈ vs
    · rw [set_set_none hi]
    · have e : i = v := by
        rcases List.mem_cons.mp h with z | z
        · exact z
        · exact absurd z hi
      subst e
      have z : ∀ (ws : List Nat), i ∉ ws → wipe (σ.set i x) ws = (wipe σ ws).set i x := by
        intro ws
        induction ws with
        | nil => intro _; rfl
        | cons w ws ih =>
          intro hw
          simp only [List.mem_cons, not_or] at hw
          unfold wipe
          rw [ih hw.2, List.set_comm _ _ hw.1]
      rw [z vs hi, List.set_set]
theorem simGw_nm {K : PySem.W.Frag} {i : Nat} {vs : List Nat} (h : i ∈ vs) : SimGw G K (gName i) (bNm i) vs := by
  intro F M H σ δ δ' v d Q hm rs r e q
  unfold bNm at e
  cases e
  exact q _ (rs.set i r) (set_set_none h)
theorem simGw_sets {K : PySem.W.Frag} {F : Hp} {H : Hp} {vs : List Nat} {Q : St → Hp → Prop} : ∀ (is : List Nat) (ws : List V) (ds : List D) (σ : St) (δ δ' : DS), (∀ i ∈ is, i ∈ vs) → RS G K F σ δ → RepL G K F ws ds → bSets is ds δ = some δ' → (∀ σ', RS G K F σ' δ' → wipe σ' vs = wipe σ vs → Q σ' H) → gsOf is ws σ H Q
  | [], _, _, σ, δ, δ', hi, rs, .nil, e, q => by
    unfold bSets at e
    cases e
    exact ⟨rfl, q _ rs rfl⟩
  | [], _, _, σ, δ, δ', hi, rs, .cons _ _, e, q => by unfold bSets at e; cases e
  | i :: is, _, _, σ, δ, δ', hi, rs, .nil, e, q => by unfold bSets at e; cases e
  | i :: is, _, _, σ, δ, δ', hi, rs, .cons r t, e, q => by
    unfold bSets at e
    exact ⟨_, _, rfl, simGw_sets is _ _ _ _ _ (fun j hj => hi j (List.mem_cons_of_mem _ hj)) (rs.set i r) t e fun σ' h1 h2 => q σ' h1 (h2.trans (set_set_none (hi i List.mem_cons_self)))⟩
theorem simGw_tup {K : PySem.W.Frag} {vs : List Nat} (is : List Nat) (hi : ∀ i ∈ is, i ∈ vs) : SimGw G K (gTup K is.length (gsOf is)) (bTup is) vs := by
  intro F M H σ δ δ' v d Q hm rs r e q
  unfold bTup at e
  split at e
  · cases r with
    | tup h r => exact ⟨_, _, rfl, sqT_mono hm.sub h, by rw [r.len]; exact bSets_len _ _ _ _ e, simGw_sets is _ _ _ _ _ hi rs r e q⟩
  · cases e
abbrev DPTs (G : Cfg) (X : Cx) (ifs : List Expr) (w : WT) : Prop := PTs X ifs (upT G X w)
theorem pts_imp {ifs : List Expr} {t t' : TT} (h : PTs X ifs t) (i : ∀ σ H P, t' σ H P → t σ H P) : PTs X ifs t' := ⟨fun pins s σ H Q I q => h.run pins s σ H Q I (i σ H Q q)⟩
theorem dpts_nil : DPTs G X [] wYes := pts_imp pts_nil fun σ H P ⟨F, M, δ, Q, EX, hm, rs, h, tk, f⟩ => f true F M H (.refl hm) h
theorem dpts_one {c : Expr} {w : WT} (h : DT G X c w) : DPTs G X [c] w := pts_one h
theorem takes_no {Y : Cx} {F : Hp} {M : MM} {H : Hp} : Takes Y (wX G Y.K F M H noX) := takes0.imp fun c d σ H ⟨xd, δ, F', M', g, a, b, z⟩ => z.elim
/-- where nothing is raised -/
def upN (G : Cfg) (K : PySem.W.Frag) (w : WE) : TE := fun σ H P => ∃ F M δ Q, HM G K F M H ∧ RS G K F σ δ ∧ w δ M Q noX ∧ Fin G K F M H Q P
def upTN (G : Cfg) (K : PySem.W.Frag) (w : WT) : TT := fun σ H P => ∃ F M δ Q, HM G K F M H ∧ RS G K F σ δ ∧ w δ M Q noX ∧ ∀ b F' M' H', Grow G K F M H F' M' H' → Q b M' → P b H'
theorem upN_up (Y : Cx) {K : PySem.W.Frag} (hY : Y.K = K) {w : WE} (σ : St) (H : Hp) (P : VK) (h : upN G K w σ H P) : up G Y w σ H P := by
  subst hY
  obtain ⟨F, M, δ, Q, hm, rs, h, f⟩ := h
  exact ⟨F, M, δ, Q, noX, hm, rs, h, takes_no, f⟩
theorem upTN_up (Y : Cx) {K : PySem.W.Frag} (hY : Y.K = K) {w : WT} (σ : St) (H : Hp) (P : Bool → Hp → Prop) (h : upTN G K w σ H P) : upT G Y w σ H P := by
  subst hY
  obtain ⟨F, M, δ, Q, hm, rs, h, f⟩ := h
  exact ⟨F, M, δ, Q, noX, hm, rs, h, takes_no, f⟩
theorem lc_up {wi : WI} {g : TG} {b : BD} {wt : WT} {we : WE} {vs : List Nat} {fin : (D → MM → Prop) → List D → MM → Prop} (sg : SimGw G X.K g b vs)
    (hfin : ∀ {F M H Q P F2 M2 H2 Dn acc ws}, Fin G X.K F M H Q P → Grow G X.K F M H F2 M2 H2 → (∀ o, H Dn = some o → F Dn = none → M Dn = none → False) → H2 Dn = some (.lst ws) → F2 Dn = none → M2 Dn = none → RepL G X.K F2 ws acc → fin Q acc M2 → P (.ref Dn) H2)
    (σ : St) (H : Hp) (P : VK) (h : up G X (fun δ M Q EX => wi δ M (fun it M1 => wLcL it.src b wt we (wipeD δ vs) (fin Q) it.items [] M1) EX) σ H P) : tLc (upI G X wi) g (upTN G X.K wt) (upN G X.K we) vs σ H P := by
  obtain ⟨F, M, δ, Q, EX, hm, rs, h, tk, f⟩ := h
  refine ⟨F, M, δ, _, EX, hm, rs, h, tk, fun J it F1 M1 H1 g1 wk h1 => ?_⟩
  intro Dn hDn
  refine ⟨fun i m H' => m = it.items.length - i ∧ i ≤ it.items.length ∧ ∃ F' M' acc ws, Grow G X.K F1 M1 H1 F' M' H' ∧ H' Dn = some (.lst ws) ∧ F' Dn = none ∧ M' Dn = none ∧ RepL G X.K F' ws acc ∧ wLcL it.src b wt we (wipeD δ vs) (fin Q) (it.items.drop i) acc M',
    ⟨it.items.length, by simp, Nat.zero_le _, F1, M1, [], [], (Grow.refl g1.hm).side hDn (g1.hm.free hDn).1 (g1.hm.free hDn).2, upd_same, (g1.hm.free hDn).1, (g1.hm.free hDn).2, .nil, h1⟩, ?_⟩
  rintro i m H' ⟨em, hi, F', M', acc, ws, g', hD, fD, mD, ra, h'⟩
  subst em
  by_cases hlt : i < it.items.length
  · rw [List.drop_eq_getElem_cons hlt] at h'
    unfold wLcL at h'
    obtain ⟨st, h'⟩ := h'
    split at h'
    · rename_i δ2 eb
      obtain ⟨go, yl⟩ := wk.step F' M' H' i it.items[i] g' st (List.getElem?_eq_getElem hlt)
      refine .inr ⟨go, fun H2 => ∃ F2 M2 acc2 ws2, Grow G X.K F1 M1 H1 F2 M2 H2 ∧ H2 Dn = some (.lst ws2) ∧ F2 Dn = none ∧ M2 Dn = none ∧ RepL G X.K F2 ws2 acc2 ∧ wLcL it.src b wt we (wipeD δ vs) (fin Q) (it.items.drop (i + 1)) acc2 M2, fun H2 w2 => ⟨it.items.length - (i + 1), by omega, rfl, hlt, w2⟩, fun x H'' y => ?_⟩
      obtain ⟨F3, g3, r3⟩ := yl x H'' y
      obtain ⟨hD3, fD3, mD3⟩ := g3.keep Dn _ hD fD mD
      have gt := g1.trans (g'.trans g3)
      refine sg F3 M' H'' (wipe σ vs) (wipeD δ vs) δ2 x _ _ g3.hm (rs_wipe (rs.mono gt.ext) vs) r3 eb fun σ4 rs4 ew => ⟨?_, ?_⟩
      · exact ew.trans (by
          have z : ∀ (ws : List Nat), (∀ w ∈ ws, w ∈ vs) → wipe (wipe σ vs) ws = wipe σ vs := by
            intro ws
            induction ws with
            | nil => intro _; rfl
            | cons w ws ih =>
              intro hw
              show (wipe (wipe σ vs) ws).set w none = wipe σ vs
              rw [ih fun v hv => hw v (List.mem_cons_of_mem _ hv)]
              have e1 : wipe (σ.set w none) vs = wipe σ vs := set_set_none (hw w List.mem_cons_self)
              have e2 : ∀ (us : List Nat), w ∈ us → (wipe σ us).set w none = wipe σ us := by
                intro us
                induction us with
                | nil => intro h; simp at h
                | cons u us ih2 =>
                  intro h
                  unfold wipe
                  by_cases q : w = u
                  · subst q; rw [List.set_set]
                  · have h' : w ∈ us := by
                      rcases List.mem_cons.mp h with z | z
                      · exact absurd z q
                      · exact z
                    rw [List.set_comm _ _ (fun z => q z.symm), ih2 h']
              exact e2 vs (hw w List.mem_cons_self)
          exact z vs fun _ h => h)
      · refine ⟨F3, M', δ2, _, g3.hm, rs4, h', fun k F4 M4 H4 g4 q4 => ?_⟩
        obtain ⟨hD4, fD4, mD4⟩ := g4.keep Dn _ hD3 fD3 mD3
        cases k with
        | true =>
          refine ⟨F4, M4, δ2, _, g4.hm, rs4.mono g4.ext, q4, fun v d F5 M5 H5 g5 r5 q5 => ?_⟩
          obtain ⟨hD5, fD5, mD5⟩ := g5.keep Dn _ hD4 fD4 mD4
          have g345 := (g3.trans g4).trans g5
          refine ⟨ws, hD5, by rw [ra.len]; exact q5.1, F5, M5, acc ++ [d], ws ++ [v], (g'.trans g345).side hDn fD5 mD5, upd_same, fD5, mD5, (ra.mono g345.ext).app (.cons r5 .nil), q5.2⟩
        | false => exact ⟨F4, M4, acc, ws, g'.trans (g3.trans g4), hD4, fD4, mD4, ra.mono (g3.trans g4).ext, q4⟩
    · exact h'.elim
  · have e : i = it.items.length := by omega
    subst e
    rw [List.drop_length] at h'
    unfold wLcL at h'
    have hH : ∀ o, H Dn = some o → F Dn = none → M Dn = none → False := fun o q qf qm => by
      rcases g1.kept Dn o q qf qm with ⟨_, _, z, _⟩ | ⟨z, _⟩ <;> (rw [hDn] at z; cases z)
    exact .inl ⟨wk.stop F' M' H' g' h'.1, hfin f (g1.trans g') hH hD fD mD ra h'.2⟩
theorem fin_frz {F : Hp} {M : MM} {H : Hp} {Q : D → MM → Prop} {P : VK} {F2 : Hp} {M2 : MM} {H2 : Hp} {Dn : Addr} {acc : List D} {ws : List V} {K : PySem.W.Frag} (f : Fin G K F M H Q P) (g : Grow G K F M H F2 M2 H2) (hH : ∀ o, H Dn = some o → F Dn = none → M Dn = none → False)
    (hD : H2 Dn = some (.lst ws)) (fD : F2 Dn = none) (mD : M2 Dn = none) (ra : RepL G K F2 ws acc) (q : Q (.lst acc) M2) : P (.ref Dn) H2 := by
  obtain ⟨hm, s1⟩ := g.hm.adopt hD fD mD
  refine f _ _ (upd F2 Dn (.lst ws)) M2 H2 ⟨hm, g.ext.trans s1, fun b o e fb mb => ?_, g.tab0⟩ (.lst upd_same (ra.mono s1)) q
  have z : b ≠ Dn := fun z => by subst z; exact hH o e fb mb
  rcases g.kept b o e fb mb with ⟨t, ps, h1, h2, h3⟩ | ⟨h1, h2, h3⟩
  · exact .inl ⟨t, ps, h1, by rw [upd_ne z]; exact h2, h3⟩
  exact .inr ⟨h1, by rw [upd_ne z]; exact h2, h3⟩
theorem fin_mut {F : Hp} {M : MM} {H : Hp} {Q : D → MM → Prop} {P : VK} {F2 : Hp} {M2 : MM} {H2 : Hp} {Dn : Addr} {acc : List D} {ws : List V} {K : PySem.W.Frag} (f : Fin G K F M H Q P) (g : Grow G K F M H F2 M2 H2) (hH : ∀ o, H Dn = some o → F Dn = none → M Dn = none → False)
    (hD : H2 Dn = some (.lst ws)) (fD : F2 Dn = none) (mD : M2 Dn = none) (ra : RepL G K F2 ws acc) (q : ∀ p, M2 p = none → Q (.raw (.ref p)) (updM M2 p (.lst acc))) : P (.ref Dn) H2 := by
  have hm := g.hm.adoptM (m := .lst acc) ⟨ws, hD, ra⟩ fD mD
  refine f _ _ F2 (updM M2 Dn (.lst acc)) H2 ⟨hm, g.ext, fun b o e fb mb => ?_, g.tab0⟩ (.raw _) (q Dn mD)
  have z : b ≠ Dn := fun z => by subst z; exact hH o e fb mb
  rcases g.kept b o e fb mb with ⟨t, ps, h1, h2, h3⟩ | ⟨h1, h2, h3⟩
  · exact .inl ⟨t, ps, h1, h2, by rw [updM_ne z]; exact h3⟩
  exact .inr ⟨h1, h2, by rw [updM_ne z]; exact h3⟩
abbrev Blk (X : Cx) (scope : Scope) (P : Cx → Prop) : Prop := ∀ (s : Shared) (H : Hp) (C : Addr) (cl : List (Str × Addr)) (fp : List Addr), P (X.blk s H scope (compEnvC scope cl C X.env) fp)
theorem de_lc {elt tg iter : Expr} {ifs : List Expr} {scope : Scope} {pos : Pos} {wi : WI} {g : TG} {b : BD} {wt : WT} {we : WE} (own : List (Str × Nat)) (hc : X.calm = true) (hN : X.N.Nodup) (ok : BlkOk X.N X.env.scope scope own) (hi : DI G X tg iter wi) (sg : SimGw G X.K g b (own.map (·.2)))
    (hg : Blk X scope fun Y => PG Y tg g) (ht : Blk X scope fun Y => DPTs G Y ifs wt) (he : Blk X scope fun Y => DE G Y elt we) (hs : ∀ x, foldedSetIterable iter X.env x = pure x := by intro _; rfl) :
    DE G X (.ListComp elt [⟨tg, iter, ifs, 0⟩] scope pos) (wLc wi b wt we (own.map (·.2))) := by
  refine pe_imp (pe_lc (te := upN G X.K we) (tt := upTN G X.K wt) hc hN hi ok hg (fun s H C cl fp => pts_imp (ht s H C cl fp) (upTN_up (X.blk s H scope (compEnvC scope cl C X.env) fp) rfl)) (fun s H C cl fp => pe_imp (he s H C cl fp) (upN_up (X.blk s H scope (compEnvC scope cl C X.env) fp) rfl)) hs) fun σ H P h => ?_
  exact lc_up (fin := fun Q acc M2 => Q (.lst acc) M2) sg (fun f g hH hD fD mD ra q => fin_frz f g hH hD fD mD ra q) σ H P h
theorem de_lcM {elt tg iter : Expr} {ifs : List Expr} {scope : Scope} {pos : Pos} {wi : WI} {g : TG} {b : BD} {wt : WT} {we : WE} (own : List (Str × Nat)) (hc : X.calm = true) (hN : X.N.Nodup) (ok : BlkOk X.N X.env.scope scope own) (hi : DI G X tg iter wi) (sg : SimGw G X.K g b (own.map (·.2)))
    (hg : Blk X scope fun Y => PG Y tg g) (ht : Blk X scope fun Y => DPTs G Y ifs wt) (he : Blk X scope fun Y => DE G Y elt we) (hs : ∀ x, foldedSetIterable iter X.env x = pure x := by intro _; rfl) :
    DE G X (.ListComp elt [⟨tg, iter, ifs, 0⟩] scope pos) (wLcM wi b wt we (own.map (·.2))) := by
  refine pe_imp (pe_lc (te := upN G X.K we) (tt := upTN G X.K wt) hc hN hi ok hg (fun s H C cl fp => pts_imp (ht s H C cl fp) (upTN_up (X.blk s H scope (compEnvC scope cl C X.env) fp) rfl)) (fun s H C cl fp => pe_imp (he s H C cl fp) (upN_up (X.blk s H scope (compEnvC scope cl C X.env) fp) rfl)) hs) fun σ H P h => ?_
  exact lc_up (fin := fun Q acc M2 => ∀ p, M2 p = none → Q (.raw (.ref p)) (updM M2 p (.lst acc))) sg (fun f g hH hD fD mD ra q => fin_mut f g hH hD fD mD ra q) σ H P h
/-- name = [..] on one line -/
theorem ds_setLc {elt tg iter : Expr} {ifs : List Expr} {scope : Scope} {pos spos py : Pos} {wi : WI} {g : TG} {b : BD} {wt : WT} {we : WE} (i : Nat) {y : Str} (own : List (Str × Nat)) (hc : X.calm = true) (hN : X.N.Nodup) (ok : BlkOk X.N X.env.scope scope own) (hi : DI G X tg iter wi) (sg : SimGw G X.K g b (own.map (·.2)))
    (hg : Blk X scope fun Y => PG Y tg g) (ht : Blk X scope fun Y => DPTs G Y ifs wt) (he : Blk X scope fun Y => DE G Y elt we) (hsw : swapsWith (.ListComp elt [⟨tg, iter, ifs, 0⟩] scope pos) (some (.Name y py)) spos.line X.env = pure true)
    (hy : X.N[i]? = some y := by rfl) (hyl : X.env.scope.names.lookup y = some .local := by rfl) (hs : ∀ x, foldedSetIterable iter X.env x = pure x := by intro _; rfl) :
    DSt G X (.Assign [.Name y py] (.ListComp elt [⟨tg, iter, ifs, 0⟩] scope pos) spos) (wSet i (wLc wi b wt we (own.map (·.2)))) := by
  refine ps_imp (ps_setLc (te := upN G X.K we) (tt := upTN G X.K wt) hc hN hy hyl hsw hi ok hg (fun s H C cl fp => pts_imp (ht s H C cl fp) (upTN_up (X.blk s H scope (compEnvC scope cl C X.env) fp) rfl)) (fun s H C cl fp => pe_imp (he s H C cl fp) (upN_up (X.blk s H scope (compEnvC scope cl C X.env) fp) rfl)) hs) fun D σ H ⟨F, M, δ, E, EX, hm, rs, h, tk, n, r, bk, c⟩ => ?_
  refine lc_up (fin := fun Q acc M2 => Q (.lst acc) M2) sg (fun f g hH hD fD mD ra q => fin_frz f g hH hD fD mD ra q) σ H _ ⟨F, M, δ, fun d M1 => E.nx (δ.set i (some d)) M1, EX, hm, rs, h, tk, fun v d F1 M1 H1 g1 r1 q => ?_⟩
  exact n _ _ F1 M1 H1 g1 ((rs.mono g1.ext).set i r1) q
theorem ds_setLcM {elt tg iter : Expr} {ifs : List Expr} {scope : Scope} {pos spos py : Pos} {wi : WI} {g : TG} {b : BD} {wt : WT} {we : WE} (i : Nat) {y : Str} (own : List (Str × Nat)) (hc : X.calm = true) (hN : X.N.Nodup) (ok : BlkOk X.N X.env.scope scope own) (hi : DI G X tg iter wi) (sg : SimGw G X.K g b (own.map (·.2)))
    (hg : Blk X scope fun Y => PG Y tg g) (ht : Blk X scope fun Y => DPTs G Y ifs wt) (he : Blk X scope fun Y => DE G Y elt we) (hsw : swapsWith (.ListComp elt [⟨tg, iter, ifs, 0⟩] scope pos) (some (.Name y py)) spos.line X.env = pure true)
    (hy : X.N[i]? = some y := by rfl) (hyl : X.env.scope.names.lookup y = some .local := by rfl) (hs : ∀ x, foldedSetIterable iter X.env x = pure x := by intro _; rfl) :
    DSt G X (.Assign [.Name y py] (.ListComp elt [⟨tg, iter, ifs, 0⟩] scope pos) spos) (wSet i (wLcM wi b wt we (own.map (·.2)))) := by
  refine ps_imp (ps_setLc (te := upN G X.K we) (tt := upTN G X.K wt) hc hN hy hyl hsw hi ok hg (fun s H C cl fp => pts_imp (ht s H C cl fp) (upTN_up (X.blk s H scope (compEnvC scope cl C X.env) fp) rfl)) (fun s H C cl fp => pe_imp (he s H C cl fp) (upN_up (X.blk s H scope (compEnvC scope cl C X.env) fp) rfl)) hs) fun D σ H ⟨F, M, δ, E, EX, hm, rs, h, tk, n, r, bk, c⟩ => ?_
  refine lc_up (fin := fun Q acc M2 => ∀ p, M2 p = none → Q (.raw (.ref p)) (updM M2 p (.lst acc))) sg (fun f g hH hD fD mD ra q => fin_mut f g hH hD fD mD ra q) σ H _ ⟨F, M, δ, fun d M1 => E.nx (δ.set i (some d)) M1, EX, hm, rs, h, tk, fun v d F1 M1 H1 g1 r1 q => ?_⟩
  exact n _ _ F1 M1 H1 g1 ((rs.mono g1.ext).set i r1) q

/-! ### properties -/
structure PropD (G : Cfg) (X : Cx) (c : Nat) (f : Str) (sp : SpD) : Prop where
  cls : Cls X.K (G.cl c)
  ex : ∃ (gd : Bool) (p g k : Nat) (fd : FuncData) (ps : List Str), PropOf X.K (G.cl c) f p g ∧ FnG X.prog X.w X.K X.mg X.base gd k g fd ps (lift G X.K sp) ∧ Room (k + 1) X.A ∧ (gd = true → X.A.guards = some []) ∧ Binds X.K fd ps []
/-- e.f, a property whose def raises nothing -/
def wProp (tb : List (Nat × SpD)) (wo : WE) : WE := fun δ M Q EX => wo δ M (fun d M1 => ∃ c fs sp, insOf M1 d = some (c, fs) ∧ tb.lookup c = some sp ∧ sp [d] M1 Q (fun _ _ => False)) EX
theorem de_prop {f : Str} {wo : WE} {pos} (tb : List (Nat × SpD)) (ht : ∀ q ∈ tb, PropD G X q.1 f q.2) (ho : DE G X e wo) (hab : attributeBase e f X.env (eval e X.env) = eval e X.env := by rfl) : DE G X (.Attribute e f pos) (wProp tb wo) := by
  refine ⟨fun pins s σ H Q I ⟨F1, M1, δ, Q', EX, hm1, rs, h, tk, fin⟩ => ?_⟩
  refine attr_of hab (thn (de_run ho I hm1 rs h tk) fun u s1 ⟨v, H2, I2, rv, d, F2, M2, g, rd, c, fs, sp, e1, e2, q⟩ => ?_)
  obtain ⟨a, dx, ws, rfl, hz, l, rz⟩ := insOf_rep g.hm rd e1
  obtain ⟨cls, gd, p, ga, k, fd, ps, hp, F, hr, hgd, hb⟩ := ht _ (lookup_mem e2)
  obtain rfl : u = Value.ref a := rv
  obtain ⟨mA, O, _, _, _, _⟩ := ins_get I2.hok hz
  obtain ⟨od, J, _⟩ := O.look
  obtain ⟨more, hrec⟩ := hp.rec_
  have It := I2.tok (s1.toks + 1)
  have hl' : lift G X.K sp [V.ref a] H2 Q E0 := ⟨F2, M2, [d], Q', _, g.hm, .cons rd .nil, q, fun v d F3 M3 H3 g3 r3 q3 => fin v d F3 M3 H3 (g.trans g3) r3 q3, fun _ _ _ _ _ _ _ _ z => z⟩
  have isC : (PySem.W.clsIn X.K (G.cl c)).isSome = true := by
    obtain ⟨cd, ec, _⟩ := PySem.W.any_some cls.hd
    rw [ec]; rfl
  refine PySem.W.get_bind I2.kIn J (PySem.W.plainGet_of (cls.get f)).1 (PySem.W.findObj_data isC hp.at_ hp.get hp.tak) (PySem.W.plainGet_of (cls.get f)).2 (wpAny_call (PySem.W.prop_get (s := { s1 with toks := s1.toks + 1 }) I2.kIn hrec ?_))
  refine codeAny_mono (F.run X.A.in1 X.stack { s1 with toks := s1.toks + 1 } H2 ⟨[.ref a], []⟩ [.ref a] [.ref a] Q E0 hr.in1 hgd It.env0.in1 (hb _ [.ref a] It.kIn (F.len _ _ _ _ hl')) (.cons rfl .nil) hl') (fun res s' hq => ?_)
  match res, hq with
  | .error er, hq => exact False.elim (passL (X := X.nox) pins σ H2 { s1 with toks := s1.toks + 1 } er s' (It.wish _) hq)
  | .ok (.ret u), hq =>
    obtain ⟨v, H', I3, rv, q3⟩ := It.after hq
    show wpAny _ _ (handedOut u) _ _ _
    rw [PySem.W.handedOut_of (handed_of rv)]
    exact wpAny_pure ⟨v, H', I3, rv, q3⟩
end
end DL

set_option Elab.async false
set_option linter.all false
set_option maxRecDepth 100000
namespace DL
open PySem PySem.Spec L2
open PyProof.Rows hiding St

section
variable {G : Cfg} {X : Cx} {e o i value : Expr}
/-! ### repr -/
def rRepr (K : PySem.W.Frag) : List V → Hp → VK → Prop := fun xs H Q => ∃ x p, xs = [x] ∧ Dp K H x p ∧ p.showable = true ∧ p.hasDict = false ∧ p.depth ≤ 64 ∧ p.shown.length ≤ sizeLine ∧ Q (.str p.shown) H
theorem call_reprD (hg : X.A.guards = some []) (hu : X.A.units + 66 < cLine) : CallR X (.builtin "repr") (rRepr X.K) := by
  intro pins s σ H xs us Q I r h
  obtain ⟨x, p, rfl, hd, h1, h2, h3, h4, q⟩ := h
  cases r with
  | cons r t =>
    cases t
    rename_i u
    have big : ∀ {a : Addr}, u = .ref a → wpAny (PySem.model X.prog X.w) X.A (call (.builtin "repr") [u]) (EP X pins σ Q) X.xe s := fun {a} e => by
      subst e
      obtain ⟨as, rd⟩ := Dp.reads I p x (.ref a) hd r
      exact repr_of_reads' rd h1 (PyData.noDict_hsm h2) hg (by omega) (fun _ _ e => e) (fun h' u tk hk => ⟨.str p.shown, H, I.kept (t' := tk) hk, ⟨_, rfl⟩, q⟩) h4
    cases hd with
    | non =>
      cases (show u = Value.none from r)
      have e : (PyData.none).shown = ("None" : Str) := PyData.shown_none
      rw [e] at q
      exact PySem.P.repr_of_none ⟨.str _, H, I.tok _, ⟨_, rfl⟩, q⟩
    | bl b =>
      cases (show u = Value.bool b from r)
      rw [PyData.shown_bool] at q
      exact PySem.P.repr_of_bool ⟨.str _, H, I.tok _, ⟨_, rfl⟩, q⟩
    | int i =>
      obtain ⟨t, rfl⟩ := (show ∃ t, u = Value.int i t from r)
      rw [PyData.shown_int] at q
      have h5 : i.natAbs.log2 < 1920 := by simpa [PyData.showable] using h1
      exact PySem.P.repr_of_int h5 ⟨.str _, H, I.tok _, ⟨_, rfl⟩, q⟩
    | str z =>
      obtain ⟨t, rfl⟩ := (show ∃ t, u = Value.str z t from r)
      rw [PyData.shown_str] at q h4
      exact PySem.P.repr_of_str ⟨.str _, H, I.tok _, ⟨_, rfl⟩, q⟩ h4
    | lst hs ha => exact big (show u = Value.ref _ from r)
    | tup hs ha => exact big (show u = Value.ref _ from r)
@[irreducible] def wRepr : WR1 := fun ds M Q => match ds with
  | [d] => ∃ p, py M d = some p ∧ p.showable = true ∧ p.hasDict = false ∧ p.depth ≤ 64 ∧ p.shown.length ≤ sizeLine ∧ Q (.str p.shown) M
  | _ => False
theorem sim_repr {K : PySem.W.Frag} : SimC G K (rRepr K) wRepr := by
  intro F M H vs ds Q P hm r w f
  unfold wRepr at w
  split at w
  · obtain ⟨p, h1, h2, h3, h4, h5, w⟩ := w
    obtain ⟨v, rfl, r1⟩ := one_rep r
    exact ⟨v, p, rfl, py_dp hm r1 h1, h2, h3, h4, h5, f _ _ F M H (.refl hm) (.str _) w⟩
  · exact w.elim

/-! ### what is walked: a list or a tuple; enumerate -/
def iSeq (K : PySem.W.Frag) (tl : TE) : TI := fun σ H R => tl σ H fun x H1 => ∃ a, x = .ref a ∧ (((∃ xs, SqL K H1 a xs) ∧ R (Itl K a) H1) ∨ ((∃ xs, SqT K H1 a xs) ∧ R (Itt K a) H1))
theorem pi_seq {tg : Expr} {tl : TE} (hl : PE X e tl) : PI X tg e (iSeq X.K tl) := by
  refine ⟨fun pins s σ H R I h => ?_⟩
  have key : ∀ (v : Value) (s1 : Shared) (x : V) (H1 : Hp), Inv X pins σ H1 s1 → RelV x v → (∃ a, x = .ref a ∧ (((∃ xs, SqL X.K H1 a xs) ∧ R (Itl X.K a) H1) ∨ ((∃ xs, SqT X.K H1 a xs) ∧ R (Itt X.K a) H1))) →
      wpAny (PySem.model X.prog X.w) X.A (pyIter v) (PIE X pins σ tg R) X.xe s1 := by
    rintro v s1 x H1 I1 r1 ⟨a, rfl, q⟩
    cases r1
    have new : ∀ b ∈ [s1.heap.objs.size], FpOk X pins H1 b := fun b hb => by
      have eb : b = s1.heap.objs.size := by simpa using hb
      subst eb
      exact I1.fpOk (Nat.le_refl _) (I1.hok.fresh (Nat.le_refl _))
    rcases q with ⟨⟨xs, hq⟩, q⟩ | ⟨⟨xs, hq⟩, q⟩
    · obtain ⟨its, rv, p, hz⟩ := I1.list hq
      exact wpAny_pyIter_list p.isList ⟨_, _, _, _, H1, rfl, I1.kept (t' := s1.toks) (fun b o z => Heap.get?_push_of_some _ z), turn_list a _, ⟨_, Heap.get?_push_size _ rfl, rfl, rfl⟩, new, q⟩
    · obtain ⟨its, rv, p, hz⟩ := I1.tuple hq
      exact wpAny_pyIter_tuple (show s1.heap.IsTuple a its.toArray from p) ⟨_, _, _, _, H1, rfl, I1.kept (t' := s1.toks) (fun b o z => Heap.get?_push_of_some _ z), turn_tuple a _, ⟨_, Heap.get?_push_size _ rfl, rfl, rfl⟩, new, q⟩
  exact thn (hl.run pins s σ H _ I h) fun v s1 ⟨x, H1, I1, r1, q1⟩ => key v s1 x H1 I1 r1 q1
@[irreducible] def kiS (Q : IT → MM → Prop) (d : D) (M1 : MM) : Prop := match d with
  | .tup ds => Q { items := ds } M1
  | .lst ds => Q { items := ds } M1
  | .frl ds => Q { items := ds } M1
  | .raw (.ref a) => match M1 a with
    | some (.lst ds) => Q { items := ds, src := some (a, ds) } M1
    | _ => False
  | _ => False
def wiS (we : WE) : WI := fun δ M Q EX => we δ M (kiS Q) EX
theorem di_seq {tg : Expr} {we : WE} (h : DE G X e we) : DI G X tg e (wiS we) := by
  refine pi_imp (pi_seq h) fun σ H R ⟨F, M, δ, Q, EX, hm, rs, h, tk, f⟩ => ?_
  refine ⟨F, M, δ, _, EX, hm, rs, h, tk, fun v d F1 M1 H1 g1 r1 q => ?_⟩
  unfold kiS at q
  split at q
  · cases r1 with
    | tup h r => exact ⟨_, rfl, .inr ⟨⟨_, sqT_mono g1.hm.sub h⟩, f _ _ F1 M1 H1 g1 (walks_tup g1.hm (SqT.of h) r) q⟩⟩
  · cases r1 with
    | lst h r => exact ⟨_, rfl, .inl ⟨⟨_, SqL.of (g1.hm.sub _ _ h)⟩, f _ _ F1 M1 H1 g1 (walks_frz g1.hm (SqL.of h) r) q⟩⟩
  · cases r1 with
    | frl h r => exact ⟨_, rfl, .inl ⟨⟨_, g1.hm.sub.seq h⟩, f _ _ F1 M1 H1 g1 (walks_frz g1.hm h r) q⟩⟩
  · cases r1
    split at q
    · rename_i ds e
      obtain ⟨vs, h1, r⟩ := g1.hm.mo _ _ e
      exact ⟨_, rfl, .inl ⟨⟨_, SqL.of h1⟩, f _ _ F1 M1 H1 g1 walks_mut q⟩⟩
    · exact q.elim
  · exact q.elim
def enumL : Nat → List D → List D
  | _, [] => []
  | n, d :: ds => .tup [.int (n : Nat), d] :: enumL (n + 1) ds
theorem enumL_get : ∀ {ds : List D} {n i : Nat} {x : D}, (enumL n ds)[i]? = some x → ∃ d, ds[i]? = some d ∧ x = .tup [.int ((n + i : Nat)), d]
  | [], _, _, _, h => by simp [enumL] at h
  | d :: ds, n, 0, x, h => by
    simp only [enumL, List.getElem?_cons_zero, Option.some.injEq] at h
    exact ⟨d, rfl, h.symm⟩
  | d :: ds, n, i + 1, x, h => by
    simp only [enumL, List.getElem?_cons_succ] at h
    obtain ⟨d', e1, e2⟩ := enumL_get h
    exact ⟨d', by simpa using e1, by rw [e2]; congr 4; omega⟩
theorem enumL_len : ∀ (ds : List D) (n : Nat), (enumL n ds).length = ds.length
  | [], _ => rfl
  | d :: ds, n => congrArg Nat.succ (enumL_len ds (n + 1))
@[irreducible] def kiE (Q : IT → MM → Prop) (as : List D) (M1 : MM) : Prop := match as with
  | [.lst ds] => Q { items := enumL 0 ds } M1
  | [.frl ds] => Q { items := enumL 0 ds } M1
  | [.raw (.ref a)] => match M1 a with
    | some (.lst ds) => Q { items := enumL 0 ds, src := some (a, ds) } M1
    | _ => False
  | _ => False
def wiE (wa : WA) : WI := fun δ M Q EX => wa δ M (kiE Q) EX
theorem enum_step {K : PySem.W.Frag} {F' : Hp} {M' : MM} {H' : Hp} {a : Addr} {vs : List V} {ds : List D} {i : Nat} {d : D} (hm : HM G K F' M' H') (hs : SqL K H' a vs) (r : RepL G K F' vs ds) (e : (enumL 0 ds)[i]? = some d) :
    (Ite K a).go i H' ∧ ∀ x H'', (Ite K a).yld i H' x H'' → ∃ F'', Grow G K F' M' H' F'' M' H'' ∧ Rep G K F'' x d := by
  obtain ⟨d1, e1, rfl⟩ := enumL_get e
  obtain ⟨v, e2, r1⟩ := r.get e1
  refine ⟨⟨vs, v, hs, e2⟩, fun x H'' ⟨T, y, ex, nT, eH, yy⟩ => ?_⟩
  subst ex eH
  have e3 := yy vs hs
  rw [e2] at e3
  cases e3
  have g := hm.new (o := .tup [.int (i : Nat), v]) nT
  exact ⟨_, g, .tup upd_same (.cons (by rw [Nat.zero_add]; exact .int _) (.cons (r1.mono g.ext) .nil))⟩
theorem walksE_frz {K : PySem.W.Frag} {F : Hp} {M : MM} {H : Hp} {a : Addr} {vs : List V} {ds : List D} (hm : HM G K F M H) (h : SqL K F a vs) (r : RepL G K F vs ds) : Walks G K F M H (Ite K a) { items := enumL 0 ds } :=
  ⟨fun F' M' H' i d g st e => enum_step g.hm (g.hm.sub.seq (g.ext.seq h)) (r.mono g.ext) e, fun F' M' H' g st => ⟨vs, g.hm.sub.seq (g.ext.seq h), by show _ ≤ (enumL 0 ds).length; rw [enumL_len, r.len]; exact Nat.le_refl _⟩⟩
theorem walksE_mut {K : PySem.W.Frag} {F : Hp} {M : MM} {H : Hp} {a : Addr} {ds : List D} : Walks G K F M H (Ite K a) { items := enumL 0 ds, src := some (a, ds) } := by
  refine ⟨fun F' M' H' i d g st e => ?_, fun F' M' H' g st => ?_⟩
  · obtain ⟨vs, h1, r⟩ := g.hm.mo a _ st
    exact enum_step g.hm (SqL.of h1) r e
  · obtain ⟨vs, h1, r⟩ := g.hm.mo a _ st
    exact ⟨vs, SqL.of h1, by show _ ≤ (enumL 0 ds).length; rw [enumL_len, r.len]; exact Nat.le_refl _⟩
theorem di_enum {wa : WA} {p pos tpos : Pos} {elts : List Expr} {kk : Nat} (hm : X.mg "enumerate" = none) (ha : DA G X [e] wa) (hg : Gl X "enumerate" := by rfl) (hs : starEach [e] X.env = [(false, eval e X.env)] := by rfl) :
    DI G X (.Tuple elts kk tpos) (.Call (.Name "enumerate" p) [e] [] pos) (wiE wa) := by
  refine pi_imp (pi_enum hg hm ha hs) fun σ H R ⟨F, M, δ, Q, EX, hm, rs, h, tk, f⟩ => ?_
  refine ⟨F, M, δ, _, EX, hm, rs, h, tk, fun vs ds F1 M1 H1 g1 r1 q => ?_⟩
  unfold kiE at q
  split at q
  · obtain ⟨v, rfl, r2⟩ := one_rep r1
    cases r2 with
    | lst h r => exact ⟨_, _, rfl, SqL.of (g1.hm.sub _ _ h), f _ _ F1 M1 H1 g1 (walksE_frz g1.hm (SqL.of h) r) q⟩
  · obtain ⟨v, rfl, r2⟩ := one_rep r1
    cases r2 with
    | frl h r => exact ⟨_, _, rfl, g1.hm.sub.seq h, f _ _ F1 M1 H1 g1 (walksE_frz g1.hm h r) q⟩
  · obtain ⟨v, rfl, r2⟩ := one_rep r1
    cases r2
    split at q
    · rename_i ds e
      obtain ⟨vs, h1, r⟩ := g1.hm.mo _ _ e
      exact ⟨_, _, rfl, SqL.of h1, f _ _ F1 M1 H1 g1 walksE_mut q⟩
    · exact q.elim
  · exact q.elim

/-! ### operators that look at what they are given -/
def orR (r r' : R2) : R2 := fun x y H Q => r x y H Q ∨ r' x y H Q
theorem op_or {f : Value → Value → Sem Value} {r r' : R2} (a : OpR X f r) (b : OpR X f r') : OpR X f (orR r r') := fun pins s σ H x y v u Q I rx ry h => h.elim (a pins s σ H x y v u Q I rx ry) (b pins s σ H x y v u Q I rx ry)
theorem ix_or {r r' : R2} (a : IxR X r) (b : IxR X r') : IxR X (orR r r') := by
  intro va sl pins s σ H x y v u Q I rx ry h hs
  rcases h with h | h
  · exact a va sl pins s σ H x y v u Q I rx ry h hs
  · exact b va sl pins s σ H x y v u Q I rx ry h hs
def orW (w w' : WR2) : WR2 := fun x y M Q => w x y M Q ∨ w' x y M Q
/-- + of ints, of texts, of tuples, of lists -/
def wStrCat : WR2 := fun x y M Q => match x, y with
  | .str a, .str b => a.length + b.length ≤ sizeLine ∧ Q (.str (a ++ b)) M
  | _, _ => False
def wPlus : WR2 := fun x y M Q => match x, y with
  | .int i, .int j => Q (.int (i + j)) M
  | .str a, .str b => a.length + b.length ≤ sizeLine ∧ Q (.str (a ++ b)) M
  | .tup xs, .tup ys => xs.length + ys.length ≤ sizeLine ∧ Q (.tup (xs ++ ys)) M
  | x, y => wCat x y M Q
theorem sim_plus {K : PySem.W.Frag} : Sim2 G K (orR (rI0 fun i j => .int (i + j)) (orR (fun x y H Q => ∃ a b, x = .str a ∧ y = .str b ∧ a.length + b.length ≤ sizeLine ∧ Q (.str (a ++ b)) H) (orR (rCatA K) rCat))) wPlus := by
  intro F M H x y dx dy Q P hm rx ry w f
  unfold wPlus at w
  split at w
  · exact .inl (sim_I0 (g := fun i j => D.int (i + j)) int_rep F M H x y _ _ Q P hm rx ry w f)
  · cases rx; cases ry
    exact .inr (.inl ⟨_, _, rfl, rfl, w.1, f _ _ F M H (.refl hm) (.str _) w.2⟩)
  · exact .inr (.inr (.inl (sim_catT F M H x y _ _ Q P hm rx ry w f)))
  · exact .inr (.inr (.inr (sim_cat F M H x y _ _ Q P hm rx ry w f)))
/-- * of ints, of a list and an int -/
def wTimes : WR2 := fun x y M Q => match x, y with
  | .int i, .int j => (CMul i j ∨ i.natAbs.log2 + j.natAbs.log2 < 1000000) ∧ Q (.int (i * j)) M
  | .tup xs, .int k => (xs ≠ [] ∧ (2 ≤ k ∧ k ≤ 1000) ∧ xs.length ≤ 1000) ∧ Q (.tup (repL k xs)) M
  | x, y => wRep x y M Q
theorem sim_times {K : PySem.W.Frag} : Sim2 G K (orR (orR (rI CMul fun i j => .int (i * j)) (rI CMulW fun i j => .int (i * j))) (orR (rRepT K) rRep)) wTimes := by
  intro F M H x y dx dy Q P hm rx ry w f
  unfold wTimes at w
  split at w
  · cases rx; cases ry
    rcases w with ⟨w1 | w1, w⟩
    · exact .inl (.inl ⟨_, _, rfl, rfl, w1, f _ _ F M H (.refl hm) (.int _) w⟩)
    · exact .inl (.inr ⟨_, _, rfl, rfl, w1, f _ _ F M H (.refl hm) (.int _) w⟩)
  · rename_i xs k
    cases rx with
    | tup h r =>
      rename_i a vs
      cases ry
      refine .inr (.inl ⟨a, k, vs, rfl, rfl, sqT_mono hm.sub h, fun e => w.1.1 (r.nil_iff.mp e), w.1.2.1.1, w.1.2.1.2, by rw [r.len]; exact w.1.2.2, fun p hp => ?_⟩)
      have g := hm.new (o := .tup (List.replicate k.toNat vs).flatten) hp
      exact f _ _ _ _ _ g (.tup upd_same ((r.repL k).mono g.ext)) w.2
  · exact .inr (.inr (sim_rep F M H x y _ _ Q P hm rx ry w f))
/-- an item of a list or of a tuple -/
theorem sim_ix {K : PySem.W.Frag} : Sim2 G K (orR (rIxL K) (rIxT K)) wIx := by
  intro F M H x y dx dy Q P hm rx ry w f
  unfold wIx at w
  split at w
  · rename_i xs i e1
    split at w
    · rename_i d e2
      obtain ⟨a, vs, rfl, h1, r1⟩ := seqOf_rep hm rx e1
      cases ry
      obtain ⟨v, e3, r3⟩ := atD_rep r1 e2
      rcases h1 with h1 | h1
      · exact .inl ⟨a, vs, i, v, rfl, rfl, h1, e3, f _ _ F M H (.refl hm) r3 w⟩
      · exact .inr ⟨a, vs, i, v, rfl, rfl, h1, e3, f _ _ F M H (.refl hm) r3 w⟩
    · exact w.elim
  · exact w.elim
/-! ### slices -/
abbrev WO := DS → MM → (Option Int → MM → Prop) → XK' → Prop
def upO (G : Cfg) (X : Cx) (w : WO) : TO := fun σ H P => ∃ F M δ Q EX, HM G X.K F M H ∧ RS G X.K F σ δ ∧ w δ M Q EX ∧ Takes X (wX G X.K F M H EX) ∧ ∀ o F' M' H', Grow G X.K F M H F' M' H' → Q o M' → P o H'
abbrev DO (G : Cfg) (X : Cx) (e : Option Expr) (w : WO) : Prop := PO X e (upO G X w)
theorem po_imp {e : Option Expr} {t t' : TO} (h : PO X e t) (i : ∀ σ H P, t' σ H P → t σ H P) : PO X e t' := ⟨fun pins s σ H Q I q => h.run pins s σ H Q I (i σ H Q q)⟩
def woN : WO := fun _ M Q _ => Q none M
def woS (we : WE) : WO := fun δ M Q EX => we δ M (fun d M1 => match d with
  | .int i => Q (some i) M1
  | _ => False) EX
theorem do_none : DO G X none woN := po_imp po_none fun σ H P ⟨F, M, δ, Q, EX, hm, rs, h, tk, f⟩ => f none F M H (.refl hm) h
theorem do_some {we : WE} (h : DE G X e we) : DO G X (some e) (woS we) := by
  refine po_imp (po_some h) fun σ H P ⟨F, M, δ, Q, EX, hm, rs, h, tk, f⟩ => ?_
  refine ⟨F, M, δ, _, EX, hm, rs, h, tk, fun v d F1 M1 H1 g r q => ?_⟩
  try dsimp only at q
  split at q
  · cases r; exact ⟨_, rfl, f _ F1 M1 H1 g q⟩
  · exact q.elim
def cutD (xs : List D) (lo hi : Option Int) : List D := (xs.drop (HT.sIx xs.length 0 lo)).take (HT.sIx xs.length xs.length hi - HT.sIx xs.length 0 lo)
theorem cut_rep {K : PySem.W.Frag} {F : Hp} {vs : List V} {ds : List D} (r : RepL G K F vs ds) (lo hi : Option Int) : RepL G K F (cutV vs lo hi) (cutD ds lo hi) := by
  unfold cutV cutD
  rw [r.len]
  exact (r.drop _).take _
@[irreducible] def kCut (Q : D → MM → Prop) (d : D) (lo hi : Option Int) (M3 : MM) : Prop := match d with
  | .tup xs => Q (.tup (cutD xs lo hi)) M3
  | d => match lstOf M3 d with
    | some xs => Q (.lst (cutD xs lo hi)) M3
    | none => False
def wCut (wo : WE) (wl wh : WO) : WE := fun δ M Q EX => wo δ M (fun d M1 => wl δ M1 (fun lo M2 => wh δ M2 (fun hi M3 => kCut Q d lo hi M3) EX) EX) EX
abbrev rSlX (K : PySem.W.Frag) : V → Option Int → Option Int → Hp → VK → Prop := fun x lo hi H Q => rSlL K x lo hi H Q ∨ rSlA K x lo hi H Q
theorem sl_X : SlR X (rSlX X.K) := SlR.or sl_list sl_tupA
theorem de_cut {wo : WE} {wl wh : WO} {lo hi : Option Expr} {pos p2 : Pos} (he : DE G X e wo) (hl : DO G X lo wl) (hu : DO G X hi wh) : DE G X (.Subscript e (.Slice lo hi none p2) pos) (wCut wo wl wh) := by
  refine pe_imp (pe_slice sl_X he hl hu) fun σ H P ⟨F, M, δ, Q, EX, hm, rs, h, tk, f⟩ => ?_
  refine ⟨F, M, δ, _, EX, hm, rs, h, tk, fun v d F1 M1 H1 g1 r1 h1 => ?_⟩
  refine ⟨F1, M1, δ, _, EX, g1.hm, rs.mono g1.ext, h1, tk.imp (wX_mono g1), fun l F2 M2 H2 g2 h2 => ?_⟩
  have g12 := g1.trans g2
  refine ⟨F2, M2, δ, _, EX, g2.hm, rs.mono g12.ext, h2, tk.imp (wX_mono g12), fun u F3 M3 H3 g3 h3 => ?_⟩
  have g123 := g12.trans g3
  have r3 := r1.mono (g2.trans g3).ext
  try dsimp only at h3
  unfold kCut at h3
  split at h3
  · rename_i xs
    cases r3 with
    | tup ht r =>
      rename_i a vs
      refine .inr ⟨a, vs, rfl, sqT_mono g3.hm.sub ht, fun hw => ?_, fun _ p hp => ?_⟩
      · have e : cutD xs l u = xs := by
          unfold cutD
          rw [← r.len, hw.1, hw.2, List.drop_zero, Nat.sub_zero, r.len, List.take_length]
        rw [e] at h3
        exact f _ _ F3 M3 H3 g123 (.tup ht r) h3
      · have g := g3.hm.new (o := .tup (cutV vs l u)) hp
        exact f _ _ _ _ _ (g123.trans g) (.tup upd_same ((cut_rep r l u).mono g.ext)) h3
  · rename_i d' _
    split at h3
    · rename_i xs ex
      obtain ⟨a, vs, rfl, hz, r⟩ := lstOf_rep g3.hm r3 ex
      refine .inl ⟨a, vs, rfl, SqL.of hz, fun p hp => ?_⟩
      have g := g3.hm.new (o := .lst (cutV vs l u)) hp
      exact f _ _ _ _ _ (g123.trans g) (.lst upd_same ((cut_rep r l u).mono g.ext)) h3
    · exact h3.elim
/-! ### constants of the module, of a class -/
theorem de_glob {x : Str} {i : Int} {pos} (hm : ∃ t, X.mg x = some (.int i t)) (hg : Gl X x := by rfl) (hd : (x == ("__debug__" : Str)) = false := by decide) : DE G X (.Name x pos) (wC (.int i)) := by
  obtain ⟨t, hm⟩ := hm
  exact pe_imp (pe_glob (v := .int i) hg hm ⟨t, rfl⟩ hd) (up_c fun _ _ => .int i)
def wNeg (we : WE) : WE := fun δ M Q EX => we δ M (fun d M1 => match d with
  | .int i => Q (.int (-i)) M1
  | _ => False) EX
theorem de_neg {we : WE} {pos} (h : DE G X e we) : DE G X (.UnaryOp .USub e pos) (wNeg we) := by
  refine pe_imp (pe_un un_neg h) fun σ H P ⟨F, M, δ, Q, EX, hm, rs, h, tk, f⟩ => ?_
  refine ⟨F, M, δ, _, EX, hm, rs, h, tk, fun v d F1 M1 H1 g r q => ?_⟩
  try dsimp only at q
  split at q
  · cases r; exact ⟨_, rfl, f _ _ F1 M1 H1 g (.int _) q⟩
  · exact q.elim
end
end DL

set_option Elab.async false
set_option linter.all false
set_option maxRecDepth 100000
namespace DL
open PySem PySem.Spec L2
open PyProof.Rows hiding St

section
variable {G : Cfg} {X : Cx} {e o i value : Expr}
/-! ### {k: v, ..}, the keys written -/
def wDct (ks : List Key) (wa : WA) : WE := fun δ M Q EX => wa δ M (fun ds M1 => ds.length = ks.length ∧ ds.length ≤ 15 ∧ Q (.dct (ks.zip ds)) M1) EX
def wDctM (ks : List Key) (wa : WA) : WE := fun δ M Q EX => wa δ M (fun ds M1 => ds.length = ks.length ∧ ds.length ≤ 15 ∧ ∀ p, M1 p = none → Q (.raw (.ref p)) (updM M1 p (.dct (ks.zip ds)))) EX
/-- the values of a display, its written keys beside them -/
structure DP (G : Cfg) (X : Cx) (pos : Pos) (keys : List (Option Expr)) (values : List Expr) (ks : List Key) (wa : WA) : Prop where
  ex : ∃ trs, PPs X pos keys values trs ∧ ∀ (σ : St) (H : Hp) (F : Hp) (M : MM) (δ : DS) (Q : List D → MM → Prop) (EX : XK') (P : List (V × V) → Hp → Prop), HM G X.K F M H → RS G X.K F σ δ → wa δ M Q EX → Takes X (wX G X.K F M H EX) →
    (∀ vs ds F' M' H', Grow G X.K F M H F' M' H' → vs.length = ks.length → RepL G X.K F' vs ds → Q ds M' → P ((ks.zip vs).map fun q => (kV q.1, q.2)) H') → tPairs trs σ H P
theorem dp_nil {pos : Pos} : DP G X pos [] [] [] wNil := ⟨[], pps_nil, fun σ H F M δ Q EX P hm rs h tk f => f [] [] F M H (.refl hm) rfl .nil h⟩
theorem dp_cons {pos kp : Pos} {v : Expr} {keys : List (Option Expr)} {values : List Expr} {ks : List Key} {wv : WE} {wr : WA} {k : Key} {c : Const} {j : Nat} (hk : PE X (.Constant c j kp) (tC (kV k))) (hv : DE G X v wv) (hr : DP G X pos keys values ks wr) :
    DP G X pos (some (.Constant c j kp) :: keys) (v :: values) (k :: ks) (wCons wv wr) := by
  obtain ⟨trs, hp, hs⟩ := hr
  refine ⟨_, pps_cons hk hv hp, fun σ H F M δ Q EX P hm rs h tk f => ?_⟩
  show up G X wv σ H _
  refine ⟨F, M, δ, _, EX, hm, rs, h, tk, fun x d F1 M1 H1 g1 r1 h1 => ?_⟩
  refine hs σ H1 F1 M1 δ _ EX _ g1.hm (rs.mono g1.ext) h1 (tk.imp (wX_mono g1)) fun vs ds F2 M2 H2 g2 l2 r2 q => ?_
  exact f (x :: vs) (d :: ds) F2 M2 H2 (g1.trans g2) (congrArg Nat.succ l2) (.cons (r1.mono g2.ext) r2) q
theorem zip_repK {K : PySem.W.Frag} {F : Hp} : ∀ {ks : List Key} {vs : List V} {ds : List D}, RepL G K F vs ds → RepK G K F (ks.zip vs) (ks.zip ds)
  | [], _, _, _ => .nil
  | k :: ks, _, _, .nil => .nil
  | k :: ks, _, _, .cons r t => .cons r (zip_repK t)
theorem putK_end {kvs : List (Key × V)} {k : Key} {v : V} (h : k ∉ kvs.map (·.1)) : putK kvs k v = kvs ++ [(k, v)] := by
  unfold putK
  rw [if_neg]
  intro h2
  obtain ⟨q, hq, e⟩ := List.any_eq_true.mp h2
  have e' : q.1 = k := by simpa using e
  exact h (by rw [← e']; exact List.mem_map_of_mem hq)
theorem merge_end : ∀ {more kvs : List (Key × V)}, (kvs.map (·.1) ++ more.map (·.1)).Nodup → mergeK kvs more = kvs ++ more
  | [], kvs, _ => by unfold mergeK; simp
  | (k, v) :: more, kvs, h => by
    have nk : k ∉ kvs.map (·.1) := by
      intro hm
      rw [List.map_cons, List.nodup_append] at h
      exact h.2.2 k hm k List.mem_cons_self rfl
    have ih := merge_end (more := more) (kvs := kvs ++ [(k, v)]) (by
      rw [List.map_append, List.append_assoc]
      exact h)
    unfold mergeK at ih ⊢
    rw [List.foldl_cons, putK_end nk, ih, List.append_assoc]
    rfl
theorem map_zip_fst : ∀ {ks : List Key} {vs : List V}, ks.length = vs.length → (ks.zip vs).map (·.1) = ks
  | [], [], _ => rfl
  | k :: ks, v :: vs, h => by
    rw [List.zip_cons_cons, List.map_cons, map_zip_fst (Nat.succ.inj h)]
  | [], _ :: _, h => by cases h
  | _ :: _, [], h => by cases h
theorem disp_up {ks : List Key} {wa : WA} {trs : List (TE × TE)} {fin : (D → MM → Prop) → List D → MM → Prop} (hnd : ks.Nodup)
    (hs : ∀ (σ : St) (H : Hp) (F : Hp) (M : MM) (δ : DS) (Q : List D → MM → Prop) (EX : XK') (P : List (V × V) → Hp → Prop), HM G X.K F M H → RS G X.K F σ δ → wa δ M Q EX → Takes X (wX G X.K F M H EX) →
      (∀ vs ds F' M' H', Grow G X.K F M H F' M' H' → vs.length = ks.length → RepL G X.K F' vs ds → Q ds M' → P ((ks.zip vs).map fun q => (kV q.1, q.2)) H') → tPairs trs σ H P)
    (hfin : ∀ {F M H Q P F2 M2 H2 p ds vs}, Fin G X.K F M H Q P → Grow G X.K F M H F2 M2 H2 → H p = none → F2 p = none → M2 p = none → RepK G X.K F2 (ks.zip vs) (ks.zip ds) → fin Q ds M2 → P (.ref p) (upd H2 p (.dK (ks.zip vs))))
    (σ : St) (H : Hp) (P : VK) (h : up G X (fun δ M Q EX => wa δ M (fun ds M1 => ds.length = ks.length ∧ ds.length ≤ 15 ∧ fin Q ds M1) EX) σ H P) : tDisp trs σ H P := by
  obtain ⟨F, M, δ, Q, EX, hm, rs, h, tk, f⟩ := h
  intro p hp
  have nf := (hm.free hp).1
  have nm := (hm.free hp).2
  have g0 : Grow G X.K F M H F M (upd H p (.dK [])) := (Grow.refl hm).side hp nf nm
  refine hs σ _ F M δ _ EX _ g0.hm rs h (tk.imp (wX_mono g0)) fun vs ds F2 M2 H2 g2 lv r2 q => ?_
  obtain ⟨l1, l2, q⟩ := q
  obtain ⟨hp2, nf2, nm2⟩ := g2.keep p _ upd_same nf nm
  refine ⟨hp2, ks.zip vs, rfl, ?_, ?_⟩
  · rw [List.length_zip, lv, Nat.min_self]
    omega
  · have e : mergeK [] (ks.zip vs) = ks.zip vs := by
      rw [merge_end (kvs := []) (by rw [List.map_nil, List.nil_append, map_zip_fst lv.symm]; exact hnd)]
      rfl
    rw [e]
    exact hfin f (g0.trans g2) hp nf2 nm2 (zip_repK r2) q
theorem de_dct {pos : Pos} {keys : List (Option Expr)} {values : List Expr} {ks : List Key} {wa : WA} (h : DP G X pos keys values ks wa) (hnd : ks.Nodup := by decide) (hall : keys.all (·.isSome) = true := by rfl) (hl : keys.length = values.length := by rfl) (h0 : keys ≠ [] := by (intro z; cases z)) (h15 : keys.length ≤ 15 := by decide) :
    DE G X (.Dict keys values pos) (wDct ks wa) := by
  obtain ⟨trs, hp, hs⟩ := h
  refine pe_imp (pe_disp hp hall hl h0 h15) (disp_up (fin := fun Q ds M1 => Q (.dct (ks.zip ds)) M1) hnd hs ?_)
  intro F M H Q P F2 M2 H2 p ds vs f g np nf nm r q
  have g2 := g.side (u := .dK (ks.zip vs)) np nf nm
  obtain ⟨hm, s1⟩ := g2.hm.adopt upd_same nf nm
  refine f _ _ (upd F2 p (.dK (ks.zip vs))) M2 _ ⟨hm, g2.ext.trans s1, fun b u e fb mb => ?_, g2.tab0⟩ (.dct upd_same (r.mono s1)) q
  have z : b ≠ p := fun z => by subst z; rw [np] at e; cases e
  rcases g2.kept b u e fb mb with ⟨t, ps, h1, h2, h3⟩ | ⟨h1, h2, h3⟩
  · exact .inl ⟨t, ps, h1, by rw [upd_ne z]; exact h2, h3⟩
  exact .inr ⟨h1, by rw [upd_ne z]; exact h2, h3⟩
theorem de_dctM {pos : Pos} {keys : List (Option Expr)} {values : List Expr} {ks : List Key} {wa : WA} (h : DP G X pos keys values ks wa) (hnd : ks.Nodup := by decide) (hall : keys.all (·.isSome) = true := by rfl) (hl : keys.length = values.length := by rfl) (h0 : keys ≠ [] := by (intro z; cases z)) (h15 : keys.length ≤ 15 := by decide) :
    DE G X (.Dict keys values pos) (wDctM ks wa) := by
  obtain ⟨trs, hp, hs⟩ := h
  refine pe_imp (pe_disp hp hall hl h0 h15) (disp_up (fin := fun Q ds M1 => ∀ p, M1 p = none → Q (.raw (.ref p)) (updM M1 p (.dct (ks.zip ds)))) hnd hs ?_)
  intro F M H Q P F2 M2 H2 p ds vs f g np nf nm r q
  have g2 := g.side (u := .dK (ks.zip vs)) np nf nm
  have hm := g2.hm.adoptM (p := p) (m := .dct (ks.zip ds)) ⟨_, upd_same, r⟩ nf nm
  refine f _ _ F2 (updM M2 p (.dct (ks.zip ds))) _ ⟨hm, g2.ext, fun b u e fb mb => ?_, g2.tab0⟩ (.raw _) (q p nm)
  have z : b ≠ p := fun z => by subst z; rw [np] at e; cases e
  rcases g2.kept b u e fb mb with ⟨t, ps, h1, h2, h3⟩ | ⟨h1, h2, h3⟩
  · exact .inl ⟨t, ps, h1, h2, by rw [updM_ne z]; exact h3⟩
  exact .inr ⟨h1, h2, by rw [updM_ne z]; exact h3⟩

/-! ### a def of the text, called by its name -/
/-- what the text has of the def x -/
structure Gd (K : PySem.W.Frag) (mg : Str → Option Value) (x : Str) (st : Stmt) (f : Addr) (ps : List Str) : Prop where
  gl : mg x = some (.ref f)
  ex : ∃ fd, Fun K x x st f fd ∧ Binds K fd ps []
/-- it keeps its promise -/
structure OkG (P : Program) (w : World) (K : PySem.W.Frag) (mg : Str → Option Value) (base : Heap) (gd : Bool) (k : Nat) (x : Str) (ps : List Str) (sp : Sp) : Prop where
  ex : ∃ f fd, mg x = some (.ref f) ∧ PySem.W.keepIn K (.ref f) = true ∧ Binds K fd ps [] ∧ FnG P w K mg base gd k f fd ps sp
theorem okG {P : Program} {w : World} {K : PySem.W.Frag} {mg : Str → Option Value} {base : Heap} {gd : Bool} {x : Str} {st : Stmt} {f : Addr} {N ps : List Str} {k : Nat} {wb : WS} (g : Gd K mg x st f ps) (S : FnScope N ps (defScope st))
    (hb : ∀ (cdv : Value) (A : Around) (out : List Env) (s : Shared) (H : Hp) (E : XK), Room k (A.deeper (envOfC x (defScope st) s.heap.objs.size f cdv)) → (gd = true → (A.deeper (envOfC x (defScope st) s.heap.objs.size f cdv)).guards = some []) → DSs G (cxOf (L2.CX P w) P w K mg base N x (defScope st) f cdv A out s H E) (defBody st) wb) :
    OkG P w K mg base gd (k + 1) x ps (lift G K (spOf ps.length N.length wb)) := by
  obtain ⟨gl, fd, F, b⟩ := g
  exact ⟨f, fd, gl, F.kp, b, okD F S hb⟩
theorem nog {p : Prop} (h : false = true) : p := nomatch h
variable {gd : Bool} {k : Nat} {sp : SpD} {x : Str} {p pos apos : Pos} {es : List Expr} {wa : WA} {ps : List Str}
theorem de_f (g : OkG X.prog X.w X.K X.mg X.base gd k x ps (lift G X.K sp)) (hr : Room k X.A) (hgd : gd = true → X.A.guards = some []) (ha : DA G X (e :: es) wa) (hg : Gl X x := by rfl) (hdb : (x == ("__debug__" : Str)) = false := by decide) (he : starEach (e :: es) X.env = (false, eval e X.env) :: starEach es X.env := by rfl) (hpl : (backTo pos (starEach es X.env)).any (·.1) = false := by rfl) :
    DE G X (.Call (.Name x p) (e :: es) [] pos) (wCall sp [] wa) := by
  obtain ⟨f, fd, gl, kp, b, F⟩ := g
  exact de_call F hr hgd gl kp b .nil Flat.nil ha hg hdb he hpl
theorem de_f0 (g : OkG X.prog X.w X.K X.mg X.base gd k x ps (lift G X.K sp)) (hr : Room k X.A) (hgd : gd = true → X.A.guards = some []) (hg : Gl X x := by rfl) (hdb : (x == ("__debug__" : Str)) = false := by decide) : DE G X (.Call (.Name x p) [] [] pos) (wCall sp [] wNil) := by
  obtain ⟨f, fd, gl, kp, b, F⟩ := g
  exact de_call0 F hr hgd gl kp b .nil Flat.nil hg hdb
end
end DL

set_option Elab.async false
set_option linter.all false
set_option maxRecDepth 100000
/-! t[::-1] of a tuple -/
namespace DLR
open PySem PySem.Spec PyProof.Rows L2 PySem.Builtin
section
variable {prog : Program} {w : World} {A : Around} {E : Value → Shared → Prop} {s : Shared}
theorem places_rev (n : Nat) : Builtin.Slice.slicePlaces ((n : Int) - 1) (-1) (-1) = n := by
  unfold Builtin.Slice.slicePlaces
  have h1 : ¬ ((-1 : Int) > 0) := by omega
  simp only [h1, if_false]
  by_cases h : n = 0
  · subst h; rfl
  · have h2 : (n : Int) - 1 > -1 := by omega
    simp only [h2, if_true]
    have e : (-(-1) : Int) = 1 := rfl
    rw [e, Int.ediv_one]
    omega
theorem sliceApplied_rev {sl : Addr} {vl vu vs : Value} {n : Nat} {Q : Int × Int × Nat → Shared → Prop} (hs : s.heap.IsSliceOf sl vl vu vs) (pl : IsPart vl none) (pu : IsPart vu none) (ps : IsPart vs (some (-1)))
    (h : Q ((n : Int) - 1, -1, n) s) : wpAny (model prog w) A (Builtin.Slice.sliceApplied (.ref sl) (pure (n : Int))) Q E s := by
  obtain ⟨os, hos, hcs, hds⟩ := id hs
  unfold Builtin.Slice.sliceApplied Builtin.Slice.sliceFields
  refine wpAny_bind (wpAny_bind (wpAny_field hos hds (x := vl) rfl (wpAny_bind (wpAny_field hos hds (x := vu) rfl (wpAny_bind (wpAny_field hos hds (x := vs) rfl (wpAny_pure ?_)))))))
  refine wpAny_bind (HT.slicePart_ ps ?_)
  show wpAny _ _ (if ((-1 : Int) == 0) = true then _ else _) _ _ s
  rw [if_neg (by decide)]
  refine wpAny_bind (HT.slicePart_ pl (wpAny_bind (HT.slicePart_ pu (wpAny_bind (wpAny_pure ?_)))))
  have e : Builtin.Slice.sliceAdjust none none (-1) (n : Int) = ((n : Int) - 1, -1) := by
    unfold Builtin.Slice.sliceAdjust
    rfl
  show wpAny _ _ (match Builtin.Slice.sliceAdjust none none (-1) (n : Int) with | (lo, hi) => pure (lo, (-1 : Int), Builtin.Slice.slicePlaces lo hi (-1))) _ _ s
  rw [e]
  show wpAny _ _ (pure ((n : Int) - 1, (-1 : Int), Builtin.Slice.slicePlaces ((n : Int) - 1) (-1) (-1))) _ _ s
  rw [places_rev]
  exact wpAny_pure h
theorem pick_rev (xs : Array Value) : ((List.range xs.size).filterMap fun (m : Nat) => xs[(((xs.size : Int) - 1) + (m : Int) * (-1)).toNat]?).toArray = xs.toList.reverse.toArray := by
  congr 1
  have key : ∀ m ∈ List.range xs.size, xs[(((xs.size : Int) - 1) + (m : Int) * (-1)).toNat]? = some (xs.toList.reverse.getD m .none) := by
    intro m hm
    have hm := List.mem_range.mp hm
    have e : (((xs.size : Int) - 1) + (m : Int) * (-1)).toNat = xs.size - 1 - m := by omega
    rw [e, List.getD_eq_getElem?_getD, List.getElem?_reverse (by simpa using hm)]
    rw [Array.length_toList, Array.getElem?_toList, Array.getElem?_eq_getElem (by omega)]
    rfl
  have fm : ∀ {l : List Nat} {f : Nat → Option Value} {g : Nat → Value}, (∀ m ∈ l, f m = some (g m)) → l.filterMap f = l.map g := by
    intro l f g
    induction l with
    | nil => intro _; rfl
    | cons a l ih =>
      intro h
      rw [List.filterMap_cons, h a List.mem_cons_self, List.map_cons, ih fun m hm => h m (List.mem_cons_of_mem _ hm)]
  rw [fm key]
  apply List.ext_getElem
  · simp
  · intro i h1 h2
    rw [List.getElem_map, List.getElem_range, List.getD_eq_getElem?_getD, List.getElem?_eq_getElem h2]
    rfl
theorem getItem_tuple_rev {t sl : Addr} {items : Array Value} {vl vu vs : Value} {Q : Value → Shared → Prop} (ht : IsTup s.heap t items) (hs : s.heap.IsSliceOf sl vl vu vs) (pl : IsPart vl none) (pu : IsPart vu none) (ps : IsPart vs (some (-1)))
    (h : Q (.ref s.heap.objs.size) { s with heap := s.heap.push { cls := .type "tuple", data := .seq items.toList.reverse.toArray } })
    (hsz : items.size ≤ sizeLine) : wpAny (model prog w) A (getItem (.ref t) (.ref sl)) Q E s := by
  have htake : sizeOk (.seq items.toList.reverse.toArray) := by
    show items.toList.reverse.toArray.size ≤ sizeLine
    rw [List.size_toArray, List.length_reverse, Array.length_toList]
    omega
  obtain ⟨os, hos, hcs, hds⟩ := id hs
  have hTs : s.TypeIs (.ref sl) "slice" := ⟨os, hos, hcs⟩
  unfold getItem
  try with_reducible refine wpAny_holding ?_
  first | refine wpAny_bind (wpAny_pure ?_) | skip
  refine wpAny_bind (wpAny_sequenceKey ht.typeIs (by decide) ?_)
  refine wpAny_bind (wpAny_callSpecial?_slot (name := Str.ofString "__getitem__") ht.typeIs PyProof.Rows.slot_tuple_getitem
    (wpAny_call_entry PyProof.Rows.slot_tuple_getitem ht.typeIs entry_tuple_getitem ?_ (args_tuple_getitem _ _)))
  show wpAny _ _ (Builtin.Tuple.tupleItemsOf (.ref t) >>= _) _ _ s
  refine wpAny_bind (tupleItemsOf_ ht ?_)
  refine wpAny_bind (wpAny_typeOf hTs ?_)
  rw [if_pos (by decide)]
  refine wpAny_bind (sliceApplied_rev hs pl pu ps ?_)
  have hno : ¬ (((((items.size : Nat) : Int) - 1) == 0 && (-1 : Int) == 1 && items.size == items.size) = true) := by
    intro q
    rw [Bool.and_eq_true, Bool.and_eq_true] at q
    exact absurd q.1.2 (by decide)
  show wpAny _ _ (if ((((items.size : Nat) : Int) - 1) == 0 && (-1 : Int) == 1 && items.size == items.size) = true then _ else _) _ _ s
  rw [if_neg hno, pick_rev]
  first
    | exact wpAny_bind (m := Builtin.Tuple.tupleExact _) (wpAny_newObj_type (wpAny_pure ⟨_, rfl, wpAny_pure h⟩) htake)
    | exact wpAny_bind (m := Builtin.Tuple.tupleExact _) (wpAny_newObj_type (wpAny_bind (wpAny_pure (wpAny_pure ⟨_, rfl, wpAny_pure h⟩))) htake)
    | exact wpAny_bind (wpAny_bind (m := Builtin.Tuple.tupleExact _) (wpAny_newObj_type (wpAny_pure (wpAny_pure ⟨_, rfl, wpAny_pure h⟩)) htake))
    | exact wpAny_bind (wpAny_bind (m := Builtin.Tuple.tupleExact _) (wpAny_newObj_type (wpAny_pure ⟨_, rfl, wpAny_pure h⟩) htake))
end
end DLR
namespace DLR
open PySem PySem.Spec PyProof.Rows L2
/-- xs[::-1], t[::-1] -/
def tRevA (K : PySem.W.Frag) (te : TE) : TE := fun σ H Q => te σ H fun x H1 => (∃ a xs, x = .ref a ∧ SqL K H1 a xs ∧ ∀ p, H1 p = none → Q (.ref p) (upd H1 p (.lst xs.reverse))) ∨ (∃ a xs, x = .ref a ∧ SqT K H1 a xs ∧ ∀ p, H1 p = none → Q (.ref p) (upd H1 p (.tup xs.reverse)))
section
variable {X : Cx}
theorem pe_revA {e : Expr} {te : TE} {k : Nat} {p1 p2 p3 pos : Pos} (he : PE X e te) : PE X (.Subscript e (.Slice none none (some (.UnaryOp .USub (.Constant (.int 1) k p1) p2)) p3) pos) (tRevA X.K te) := by
  refine ⟨fun pins s σ H Q I h => ?_⟩
  refine Subscript_ (thn (he.run pins s σ H _ I h) fun v s1 ⟨x, H1, I1, r1, q1⟩ => ?_)
  have hst : PO X (some (.UnaryOp .USub (.Constant (.int 1) k p1) p2)) (tPart (tUn (rU fun i => .int (-i)) (tC (.int 1)))) := po_some (pe_un un_neg pe_int)
  refine wpAny_Slice (thn (po_none.run pins s1 σ H1 (fun o H2 => o = none ∧ H2 = H1) I1 ⟨rfl, rfl⟩) fun vl s2 ⟨l, H2, I2, pl, el, e2⟩ => ?_)
  subst el e2
  refine thn (po_none.run pins s2 σ H2 (fun o H3 => o = none ∧ H3 = H2) I2 ⟨rfl, rfl⟩) fun vu s3 ⟨u, H3, I3, pu, eu, e3⟩ => ?_
  subst eu e3
  refine thn (hst.run pins s3 σ H3 (fun o H4 => o = some (-1) ∧ H4 = H3) I3 ⟨1, rfl, -1, rfl, rfl, rfl⟩) fun vs s4 ⟨o, H4, I4, ps, eo, e4⟩ => ?_
  subst eo e4
  have I5 : Inv X pins σ H4 { s4 with heap := s4.heap.push { cls := .type "slice", data := .fields #[vl, vu, vs] } } := I4.kept (t' := s4.toks) fun b ob q => Heap.get?_push_of_some _ q
  rcases q1 with ⟨a, xs, ex, hx, q⟩ | ⟨a, xs, ex, hx, q⟩
  · subst ex
    cases r1
    obtain ⟨its, r, ht, hz⟩ := I5.list hx
    have hlen := r.length
    show wpAny (model X.prog X.w) X.A (subscriptTail e (.Slice none none (some (.UnaryOp .USub (.Constant (.int 1) k p1) p2)) p3) (.ref a) (.ref s4.heap.objs.size)) (EP X pins σ Q) X.xe { s4 with heap := s4.heap.push { cls := .type "slice", data := .fields #[vl, vu, vs] } }
    refine tail_any (ops := [.ref a, .ref s4.heap.objs.size]) ht.isList.typeIs (PySem.slot_list_getitem.lookup) ?_ (by with_unfolding_all rfl)
    refine wpAny_getItem_list_slice ht.isList (Heap.IsSliceOf.new _ vl vu vs) pl pu ps (by decide) ?_ (by rw [List.size_toArray]; omega)
    rw [PySem.W.krv_pick]
    refine ⟨.ref _, _, I5.laid (t' := s4.toks) (o := .lst xs.reverse) (fun b ob q => Heap.get?_push_of_some _ q) (Nat.le_refl _) ?_, rfl, q _ (I5.hok.fresh (Nat.le_refl _))⟩
    exact ⟨by rw [List.length_reverse]; exact hz, _, 0, r.reverse, Heap.get?_push_size _ rfl⟩
  · subst ex
    cases r1
    obtain ⟨its, r, ht, hz⟩ := I5.tuple hx
    have hlen := r.length
    show wpAny (model X.prog X.w) X.A (subscriptTail e (.Slice none none (some (.UnaryOp .USub (.Constant (.int 1) k p1) p2)) p3) (.ref a) (.ref s4.heap.objs.size)) (EP X pins σ Q) X.xe { s4 with heap := s4.heap.push { cls := .type "slice", data := .fields #[vl, vu, vs] } }
    refine tail_any (ops := [.ref a, .ref s4.heap.objs.size]) ht.typeIs (PyProof.Rows.slot_tuple_getitem.lookup) ?_ (by with_unfolding_all rfl)
    refine getItem_tuple_rev ht (Heap.IsSliceOf.new _ vl vu vs) pl pu ps ?_ (by rw [List.size_toArray]; omega)
    refine ⟨.ref _, _, I5.laid (t' := s4.toks) (o := .tup xs.reverse) (fun b ob q => Heap.get?_push_of_some _ q) (Nat.le_refl _) ?_, rfl, q _ (I5.hok.fresh (Nat.le_refl _))⟩
    exact ⟨by rw [List.length_reverse]; omega, _, by simpa using r.reverse, IsTup.new _ _⟩
end
end DLR

set_option Elab.async false
set_option linter.all false
set_option maxRecDepth 100000
namespace DL
open PySem PySem.Spec L2
open PyProof.Rows hiding St

section
variable {G : Cfg} {X : Cx} {e o i value : Expr}
theorem ds_par (i j : Nat) {x y : Str} {a b : Expr} {wa : WA} {px py pt pos : Pos} {kt k2 pt2} (hN : X.N.Nodup) (ha : DA G X [a, b] wa) (hc : X.calm = true := by rfl) (hi : X.N[i]? = some x := by rfl) (hj : X.N[j]? = some y := by rfl) (hij : i ≠ j := by decide)
    (hx : X.env.scope.names.lookup x = some .local := by rfl) (hy : X.env.scope.names.lookup y = some .local := by rfl)
    (hw : swappedStores [.Tuple [.Name x px, .Name y py] kt pt] (.Tuple [a, b] k2 pt2) X.env = pure (some [x, y]) := by rfl)
    (hs : swapsWithSole [.Tuple [.Name x px, .Name y py] kt pt] (.Tuple [a, b] k2 pt2) pos.line X.env = pure false := by rfl) :
    DSt G X (.Assign [.Tuple [.Name x px, .Name y py] kt pt] (.Tuple [a, b] k2 pt2) pos) (wPar i j wa) := ps_imp (ps_par hc hN hi hj hij hx hy ha hw hs) up_par
/-- list(range(..)) -/
def rgD (a b : Int) : List D := (List.range (b - a).toNat).map fun i => D.int (a + (i : Nat))
theorem rg_rep {K : PySem.W.Frag} {F : Hp} (a b : Int) : RepL G K F (rgV a b) (rgD a b) := by
  unfold rgV rgD
  generalize List.range (b - a).toNat = l
  induction l with
  | nil => exact .nil
  | cons n l ih => exact .cons (.int _) ih
def wLRg (wa : WA) : WE := fun δ M Q EX => wa δ M (fun ds M1 => match ds with
  | [.int n] => RgOk 0 n ∧ Q (.lst (rgD 0 n)) M1
  | [.int a, .int b] => RgOk a b ∧ Q (.lst (rgD a b)) M1
  | _ => False) EX
def wLRgM (wa : WA) : WE := fun δ M Q EX => wa δ M (fun ds M1 => match ds with
  | [.int n] => RgOk 0 n ∧ ∀ p, M1 p = none → Q (.raw (.ref p)) (updM M1 p (.lst (rgD 0 n)))
  | [.int a, .int b] => RgOk a b ∧ ∀ p, M1 p = none → Q (.raw (.ref p)) (updM M1 p (.lst (rgD a b)))
  | _ => False) EX
variable {p pos p2 pos2 : Pos} {a b : Expr} {wa wb : WE}
theorem de_lrg1 (hl : X.mg "list" = none) (hr : X.mg "range" = none) (ha : DE G X a wa) (hc : X.calm = true := by rfl) (g1 : Gl X "list" := by rfl) (g2 : Gl X "range" := by rfl) (na : starEach [a] X.env = (false, eval a X.env) :: starEach [] X.env := by rfl)
    (nb : starEach [.Call (.Name "range" p) [a] [] pos] X.env = (false, eval (.Call (.Name "range" p) [a] [] pos) X.env) :: starEach [] X.env := by rfl) : DE G X (.Call (.Name "list" p2) [.Call (.Name "range" p) [a] [] pos] [] pos2) (wLRg (wCons wa wNil)) := by
  refine pe_imp (pe_listRg hc g1 hl (prg_1 g2 hr ha na) nb) fun σ H P ⟨F, M, δ, Q, EX, hm, rs, h, tk, f⟩ => ?_
  refine ⟨F, M, δ, _, EX, hm, rs, h, tk, fun v d F1 M1 H1 g1 r1 h1 => ?_⟩
  dsimp only [wNil] at h1
  split at h1
  · rename_i n e
    cases e
    cases r1
    refine ⟨n, rfl, h1.1, fun q hq => ?_⟩
    have g := g1.hm.new (o := .lst (rgV 0 n)) hq
    exact f _ _ _ _ _ (g1.trans g) (.lst upd_same (rg_rep _ _)) h1.2
  · rename_i e; cases e
  · exact h1.elim
theorem de_lrg1M (hl : X.mg "list" = none) (hr : X.mg "range" = none) (ha : DE G X a wa) (hc : X.calm = true := by rfl) (g1 : Gl X "list" := by rfl) (g2 : Gl X "range" := by rfl) (na : starEach [a] X.env = (false, eval a X.env) :: starEach [] X.env := by rfl)
    (nb : starEach [.Call (.Name "range" p) [a] [] pos] X.env = (false, eval (.Call (.Name "range" p) [a] [] pos) X.env) :: starEach [] X.env := by rfl) : DE G X (.Call (.Name "list" p2) [.Call (.Name "range" p) [a] [] pos] [] pos2) (wLRgM (wCons wa wNil)) := by
  refine pe_imp (pe_listRg hc g1 hl (prg_1 g2 hr ha na) nb) fun σ H P ⟨F, M, δ, Q, EX, hm, rs, h, tk, f⟩ => ?_
  refine ⟨F, M, δ, _, EX, hm, rs, h, tk, fun v d F1 M1 H1 g1 r1 h1 => ?_⟩
  dsimp only [wNil] at h1
  split at h1
  · rename_i n e
    cases e
    cases r1
    refine ⟨n, rfl, h1.1, fun q hq => ?_⟩
    have g := g1.hm.newM (o := .lst (rgV 0 n)) (m := .lst (rgD 0 n)) hq ⟨_, upd_same, rg_rep _ _⟩
    exact f _ _ _ _ _ (g1.trans g) (.raw _) (h1.2 q (g1.hm.free hq).2)
  · rename_i e; cases e
  · exact h1.elim
theorem de_lrg2 (hl : X.mg "list" = none) (hr : X.mg "range" = none) (ha : DE G X a wa) (hb : DE G X b wb) (hc : X.calm = true := by rfl) (g1 : Gl X "list" := by rfl) (g2 : Gl X "range" := by rfl) (n1 : starEach [a, b] X.env = (false, eval a X.env) :: starEach [b] X.env := by rfl)
    (n2 : starEach [b] X.env = (false, eval b X.env) :: starEach [] X.env := by rfl) (n3 : (backTo pos (starEach [b] X.env)).any (·.1) = false := by rfl) (nb : starEach [.Call (.Name "range" p) [a, b] [] pos] X.env = (false, eval (.Call (.Name "range" p) [a, b] [] pos) X.env) :: starEach [] X.env := by rfl) :
    DE G X (.Call (.Name "list" p2) [.Call (.Name "range" p) [a, b] [] pos] [] pos2) (wLRg (wCons wa (wCons wb wNil))) := by
  refine pe_imp (pe_listRg hc g1 hl (prg_2 g2 hr ha hb n1 n2 n3) nb) fun σ H P ⟨F, M, δ, Q, EX, hm, rs, h, tk, f⟩ => ?_
  refine ⟨F, M, δ, _, EX, hm, rs, h, tk, fun v d F1 M1 H1 g1 r1 h1 => ?_⟩
  refine ⟨F1, M1, δ, _, EX, g1.hm, rs.mono g1.ext, h1, tk.imp (wX_mono g1), fun v2 d2 F2 M2 H2 g2 r2 h2 => ?_⟩
  have g12 := g1.trans g2
  dsimp only [wNil] at h2
  split at h2
  · rename_i e; cases e
  · rename_i n m e
    cases e
    cases r1; cases r2
    refine ⟨n, m, rfl, rfl, h2.1, fun q hq => ?_⟩
    have g := g2.hm.new (o := .lst (rgV n m)) hq
    exact f _ _ _ _ _ (g12.trans g) (.lst upd_same (rg_rep _ _)) h2.2
  · exact h2.elim
/-- xs[::-1] -/
@[irreducible] def kRev (Q : D → MM → Prop) (d : D) (M1 : MM) : Prop := match lstOf M1 d with
  | some xs => Q (.lst xs.reverse) M1
  | none => match d with
    | .tup xs => Q (.tup xs.reverse) M1
    | _ => False
def wRev (we : WE) : WE := fun δ M Q EX => we δ M (kRev Q) EX
theorem de_rev {we : WE} {k : Nat} {p1 p2 p3 pos : Pos} (h : DE G X e we) : DE G X (.Subscript e (.Slice none none (some (.UnaryOp .USub (.Constant (.int 1) k p1) p2)) p3) pos) (wRev we) := by
  refine pe_imp (DLR.pe_revA h) fun σ H P ⟨F, M, δ, Q, EX, hm, rs, h, tk, f⟩ => ?_
  refine ⟨F, M, δ, _, EX, hm, rs, h, tk, fun v d F1 M1 H1 g1 r1 h1 => ?_⟩
  unfold kRev at h1
  split at h1
  · rename_i xs ex
    obtain ⟨a, vs, rfl, hz, r⟩ := lstOf_rep g1.hm r1 ex
    refine .inl ⟨a, vs, rfl, SqL.of hz, fun q hq => ?_⟩
    have g := g1.hm.new (o := .lst vs.reverse) hq
    exact f _ _ _ _ _ (g1.trans g) (.lst upd_same (r.rev.mono g.ext)) h1
  · split at h1
    · cases r1 with
      | @tup a vs _ ht r =>
        refine .inr ⟨_, _, rfl, SqT.of (g1.hm.sub _ _ ht), fun q hq => ?_⟩
        have g := g1.hm.new (o := .tup vs.reverse) hq
        exact f _ _ _ _ _ (g1.trans g) (.tup upd_same (r.rev.mono g.ext)) h1
    · exact h1.elim
end
end DL

set_option Elab.async false
set_option linter.all false
set_option maxRecDepth 100000
namespace DL
open PySem PySem.Spec L2
open PyProof.Rows hiding St
section
variable {M : MM} {Q : D → MM → Prop} {nx : MM → Prop} {o i v x y d : D} {a p : Addr} {xs ds : List D} {kvs : List (Key × D)} {k : Key} {j n : Nat} {z : Int}
theorem at_dget (h1 : dctOf M o = some kvs) (h2 : keyD i = some k) (h3 : valD kvs k = some d) (q : Q d M) : kDGet Q o i M := by
  unfold kDGet; rw [h1, h2]; dsimp only; rw [h3]; exact q
theorem at_dput (h1 : M a = some (.dct kvs)) (h2 : keyD i = some k) (hz : kvs.length < sizeLine) (q : nx (updM M a (.dct (putD kvs k v)))) : kDPut nx v (.raw (.ref a)) i M := by
  unfold kDPut; rw [h2]; dsimp only; rw [h1]; exact ⟨hz, q⟩
theorem at_putL (h1 : M a = some (.lst xs)) (h2 : ixN xs.length z = some j) (q : nx (updM M a (.lst (xs.set j v)))) : kPutL nx v (.raw (.ref a)) (.int z) M := by
  unfold kPutL; dsimp only; rw [h1]; dsimp only; rw [h2]; exact q
theorem at_ix (h1 : seqOf M x = some xs) (h2 : atD xs z = some d) (q : Q d M) : wIx x (.int z) M Q := by
  unfold wIx; rw [h1]; dsimp only; rw [h2]; exact q
theorem at_len (h1 : seqOf M d = some xs) (q : Q (.int xs.length) M) : wLen [d] M Q := by
  unfold wLen; dsimp only; rw [h1]; exact q
theorem at_frz (h1 : M p = some (.lst ds)) (q : Q (.lst ds) (delM M p)) : kFrz Q (.raw (.ref p)) M := by
  unfold kFrz; dsimp only; rw [h1]; exact q
theorem at_frzD (h1 : M p = some (.dct kvs)) (q : Q (.dct kvs) (delM M p)) : kFrz Q (.raw (.ref p)) M := by
  unfold kFrz; dsimp only; rw [h1]; exact q
theorem at_lst {w : Addr → List D → List D → MM → (D → MM → Prop) → Prop} (h1 : M a = some (.lst xs)) (q : w a xs ds M Q) : onL w (.raw (.ref a)) ds M Q := by
  unfold onL; dsimp only; rw [h1]; exact q
theorem at_enumF {Q : IT → MM → Prop} (q : Q { items := enumL 0 ds } M) : kiE Q [.frl ds] M := by
  unfold kiE; exact q
theorem at_iterM {Q : IT → MM → Prop} (h1 : M a = some (.lst ds)) (q : Q { items := ds, src := some (a, ds) } M) : kiS Q (.raw (.ref a)) M := by
  unfold kiS; dsimp only; rw [h1]; exact q
theorem at_enumM {Q : IT → MM → Prop} (h1 : M a = some (.lst ds)) (q : Q { items := enumL 0 ds, src := some (a, ds) } M) : kiE Q [.raw (.ref a)] M := by
  unfold kiE; dsimp only; rw [h1]; exact q
theorem seq_mut (h : M a = some (.lst xs)) : seqOf M (.raw (.ref a)) = some xs := by
  unfold seqOf lstOf; dsimp only; rw [h]
theorem lst_mut (h : M a = some (.lst xs)) : lstOf M (.raw (.ref a)) = some xs := by
  unfold lstOf; dsimp only; rw [h]
theorem dct_mut (h : M a = some (.dct kvs)) : dctOf M (.raw (.ref a)) = some kvs := by
  unfold dctOf; dsimp only; rw [h]
theorem py_mut (h : M a = some (.lst xs)) : py M (.raw (.ref a)) = toPy (.lst xs) := by
  unfold py; dsimp only; rw [h]
theorem toPys_ints : ∀ (ns : List Int), toPys (ns.map D.int) = some (ns.map PyData.int)
  | [] => rfl
  | n :: ns => by simp only [List.map_cons, toPys, toPy, toPys_ints ns]
theorem ixN_nat {n : Nat} {z : Int} (h : 0 ≤ z) (h2 : z < n) : ixN n z = some z.toNat := by
  unfold ixN
  rw [if_pos h, if_pos h2]
theorem atD_nat {z : Int} (h : 0 ≤ z) (h2 : z < xs.length) : atD xs z = xs[z.toNat]? := by
  unfold atD; rw [ixN_nat h h2]; rfl
/-- a for, by a word of the turn -/
theorem loop_inv {src : Option (Addr × List D)} {b : BD} {wb : WS} {E : ED} {EX : XK'} : ∀ {ds : List D} {δ : DS} {M : MM} (I : Nat → DS → MM → Prop), I 0 δ M → (∀ i δ M, I i δ M → stay src M) →
    (∀ i d δ M, ds[i]? = some d → I i δ M → ∃ δ', b d δ = some δ' ∧ ∀ nx : DS → MM → Prop, (∀ δ2 M2, I (i + 1) δ2 M2 → nx δ2 M2) → wb { nx := nx, rt := E.rt, bk := E.nx, ct := nx } EX δ' M) → (∀ δ M, I ds.length δ M → E.nx δ M) → wLoop src b wb ds E EX δ M
  | [], δ, M, I, h0, hst, hs, hd => by
    unfold wLoop
    exact ⟨hst _ _ _ h0, hd _ _ h0⟩
  | d :: ds, δ, M, I, h0, hst, hs, hd => by
    obtain ⟨δ', e, h⟩ := hs 0 d δ M rfl h0
    unfold wLoop
    refine ⟨hst _ _ _ h0, ?_⟩
    rw [e]
    refine h _ fun δ2 M2 h2 => ?_
    exact loop_inv (fun i => I (i + 1)) h2 (fun i δ M => hst (i + 1) δ M) (fun i d δ M hi => hs (i + 1) d δ M (by simpa using hi)) hd
/-- a comprehension, by a word of the turn and the list so far -/
theorem lc_inv {src : Option (Addr × List D)} {b : BD} {wt : WT} {we : WE} {δ : DS} {fin : List D → MM → Prop} : ∀ {ds acc : List D} {M : MM} (I : Nat → List D → MM → Prop), I 0 acc M → (∀ i acc M, I i acc M → stay src M) →
    (∀ i d acc M, ds[i]? = some d → I i acc M → ∃ δ', b d δ = some δ' ∧ ∀ nx : List D → MM → Prop, (∀ acc2 M2, I (i + 1) acc2 M2 → nx acc2 M2) → wt δ' M (fun c M1 => if c = true then we δ' M1 (fun y M2 => acc.length < sizeLine ∧ nx (acc ++ [y]) M2) noX else nx acc M1) noX) →
    (∀ acc M, I ds.length acc M → fin acc M) → wLcL src b wt we δ fin ds acc M
  | [], acc, M, I, h0, hst, hs, hd => by
    unfold wLcL
    exact ⟨hst _ _ _ h0, hd _ _ h0⟩
  | d :: ds, acc, M, I, h0, hst, hs, hd => by
    obtain ⟨δ', e, h⟩ := hs 0 d acc M rfl h0
    unfold wLcL
    refine ⟨hst _ _ _ h0, ?_⟩
    rw [e]
    refine h (fun acc M => wLcL src b wt we δ fin ds acc M) fun acc2 M2 h2 => ?_
    exact lc_inv (fun i => I (i + 1)) h2 (fun i acc M => hst (i + 1) acc M) (fun i d acc M hi => hs (i + 1) d acc M (by simpa using hi)) hd
theorem rngL_get {lo : Int} {n i : Nat} {d : D} (h : (rngL lo n)[i]? = some d) : i < n ∧ d = .int (lo + (i : Nat)) := by
  have l : i < n := by
    have z := (List.getElem?_eq_some_iff.mp h).1
    rwa [rngL_len] at z
  unfold rngL at h
  rw [List.getElem?_map, List.getElem?_range l] at h
  exact ⟨l, (Option.some.inj h).symm⟩
/-! ### data of ints -/
theorem canAll_ints : ∀ ns : List Int, PyData.canLayAll0 (ns.map PyData.int) = true
  | [] => by simp [PyData.canLayAll0]
  | n :: ns => by simp [PyData.canLayAll0, PyData.canLay0, canAll_ints ns]
theorem depth_ints : ∀ ns : List Int, PyData.depthAll (ns.map PyData.int) = 0
  | [] => by simp [PyData.depthAll]
  | n :: ns => by simp [PyData.depthAll, PyData.depth, depth_ints ns]
theorem shaped_ints (ns : List Int) : SeqAt.shaped (.list (ns.map .int)) = true := by
  simp [SeqAt.shaped, PyData.canLay0, canAll_ints, PyData.depth, depth_ints]
theorem shaped_intsT (ns : List Int) : SeqAt.shaped (.tuple (ns.map .int)) = true := by
  simp [SeqAt.shaped, PyData.canLay0, canAll_ints, PyData.depth, depth_ints]
theorem toPy_lst {xs : List D} {ps : List PyData} (h : toPys xs = some ps) : toPy (.lst xs) = some (.list ps) := by simp only [toPy, h, Option.map_some]
theorem toPy_tup {xs : List D} {ps : List PyData} (h : toPys xs = some ps) : toPy (.tup xs) = some (.tuple ps) := by simp only [toPy, h, Option.map_some]
theorem eqv_nil : ∀ (ps : List PyData), PyData.eqv (.list ps) (.list []) = ps.isEmpty
  | [] => by simp [PyData.eqv, PyData.eqvAll]
  | p :: ps => by simp [PyData.eqv, PyData.eqvAll]
theorem at_ne {p q : PyData} (h1 : py M x = some p) (h2 : py M y = some q) (h3 : SeqAt.shaped p = true) (h4 : SeqAt.shaped q = true) (k : Q (.bl (!PyData.eqv p q)) M) : wNe x y M Q := by
  unfold wNe; exact ⟨p, q, h1, h2, h3, h4, k⟩
theorem at_eq {p q : PyData} (h1 : py M x = some p) (h2 : py M y = some q) (h3 : SeqAt.shaped p = true) (h4 : SeqAt.shaped q = true) (k : Q (.bl (PyData.eqv p q)) M) : wEq x y M Q := by
  unfold wEq; exact ⟨p, q, h1, h2, h3, h4, k⟩
theorem ifT {c : Bool} {A B : Prop} (hc : c = true) (h : A) : if c = true then A else B := by rw [if_pos hc]; exact h
theorem ifF {c : Bool} {A B : Prop} (hc : c = false) (h : B) : if c = true then A else B := by rw [hc, if_neg Bool.false_ne_true]; exact h
theorem if2 {p : Prop} [Decidable p] {A B : Prop} (h1 : p → A) (h2 : ¬ p → B) : if decide p = true then A else B := by
  by_cases h : p
  · exact ifT (decide_eq_true h) (h1 h)
  · exact ifF (decide_eq_false h) (h2 h)
theorem ifB {c : Bool} {A B : Prop} (h1 : c = true → A) (h2 : c = false → B) : if c = true then A else B := by
  cases c
  · exact ifF rfl (h2 rfl)
  · exact ifT rfl (h1 rfl)
end
end DL

set_option Elab.async false
set_option linter.all false
set_option maxRecDepth 100000
namespace DL
open PySem PySem.Spec L2
open PyProof.Rows hiding St
section
variable {G : Cfg} {X : Cx} {e o i value : Expr}
/-! ### truth -/
def truD (M : MM) : D → Option Bool
  | .non => some false
  | .bl b => some b
  | .int i => some (i != 0)
  | .lst ds => some (!ds.isEmpty)
  | .tup ds => some (!ds.isEmpty)
  | .raw (.ref a) => match M a with
    | some (.lst ds) => some (!ds.isEmpty)
    | _ => none
  | _ => none
theorem RepL.empty {K : PySem.W.Frag} {F : Hp} {vs : List V} {ds : List D} (r : RepL G K F vs ds) : vs.isEmpty = ds.isEmpty := by
  cases r with
  | nil => rfl
  | cons _ _ => rfl
theorem truD_rep {K : PySem.W.Frag} {F : Hp} {M : MM} {H : Hp} {v : V} {d : D} {k : Bool} (hm : HM G K F M H) (r : Rep G K F v d) (e : truD M d = some k) : TruV K v H k := by
  unfold truD at e
  split at e
  · cases r; cases e; rfl
  · cases r; cases e; rfl
  · cases r; cases e; rfl
  · cases r with
    | lst h r => cases e; exact .inl ⟨_, SqL.of (hm.sub _ _ h), by rw [r.empty]⟩
  · cases r with
    | tup h r => cases e; exact .inr (.inl ⟨_, sqT_mono hm.sub h, by rw [r.empty]⟩)
  · cases r
    split at e
    · rename_i q
      cases e
      obtain ⟨vs, h1, r1⟩ := hm.mo _ _ q
      exact .inl ⟨vs, SqL.of h1, by rw [r1.empty]⟩
    · cases e
  · cases e
@[irreducible] def kTru (Q : Bool → MM → Prop) (d : D) (M1 : MM) : Prop := match truD M1 d with
  | some k => Q k M1
  | none => False
def wTru (we : WE) : WT := fun δ M Q EX => we δ M (kTru Q) EX
theorem at_tru {Q : Bool → MM → Prop} {d : D} {M1 : MM} {k : Bool} (h : truD M1 d = some k) (q : Q k M1) : kTru Q d M1 := by unfold kTru; rw [h]; exact q
theorem dt_tru {we : WE} (h : DE G X e we) (he : ∀ whole, isTrue e X.env whole = (do let v ← whole; standAt e.pos; holding [v] (truthy v)) := by intro _; rfl) : DT G X e (wTru we) := by
  refine pt_imp (pt_truth h he) fun σ H P ⟨F, M, δ, Q, EX, hm, rs, h, tk, f⟩ => ?_
  refine ⟨F, M, δ, _, EX, hm, rs, h, tk, fun v d F1 M1 H1 g r q => ?_⟩
  unfold kTru at q
  split at q
  · rename_i k ek
    exact ⟨k, truD_rep g.hm r ek, f _ _ _ _ g q⟩
  · exact q.elim
/-! ### generators: the list of what is handed out -/
structure GED where
  nx : List D → DS → MM → Prop
  rt : List D → D → MM → Prop
  bk : List D → DS → MM → Prop := fun _ _ _ => False
  ct : List D → DS → MM → Prop := fun _ _ _ => False
abbrev WG := GED → List D → DS → MM → Prop
def upG (G : Cfg) (X : Cx) (w : WG) : TGn := fun D ys σ H => ∃ F M δ E dys, HM G X.K F M H ∧ RS G X.K F σ δ ∧ RepL G X.K F ys dys ∧ w E dys δ M ∧
  (∀ ys' dys' σ' δ' F' M' H', Grow G X.K F M H F' M' H' → RS G X.K F' σ' δ' → RepL G X.K F' ys' dys' → E.nx dys' δ' M' → D.nx ys' σ' H') ∧
  (∀ ys' dys' v d F' M' H', Grow G X.K F M H F' M' H' → Rep G X.K F' v d → RepL G X.K F' ys' dys' → E.rt dys' d M' → D.rt ys' v H') ∧
  (∀ ys' dys' σ' δ' F' M' H', Grow G X.K F M H F' M' H' → RS G X.K F' σ' δ' → RepL G X.K F' ys' dys' → E.bk dys' δ' M' → D.bk ys' σ' H') ∧
  (∀ ys' dys' σ' δ' F' M' H', Grow G X.K F M H F' M' H' → RS G X.K F' σ' δ' → RepL G X.K F' ys' dys' → E.ct dys' δ' M' → D.ct ys' σ' H')
abbrev DG (G : Cfg) (X : Cx) (st : Stmt) (w : WG) : Prop := GS X st (upG G X w)
abbrev DGs (G : Cfg) (X : Cx) (st : List Stmt) (w : WG) : Prop := GSs X st (upG G X w)
theorem gs_imp {st : Stmt} {t t' : TGn} (h : GS X st t) (i : ∀ D ys σ H, t' D ys σ H → t D ys σ H) : GS X st t' := ⟨fun A S ip R n ys s₀ c fs K J gd lv s σ H D g hn k hI ht => h.run A S ip R n ys s₀ c fs K J gd lv s σ H D g hn k hI (i D ys σ H ht)⟩
theorem gss_imp {st : List Stmt} {t t' : TGn} (h : GSs X st t) (i : ∀ D ys σ H, t' D ys σ H → t D ys σ H) : GSs X st t' := ⟨fun A S ip R n ys s₀ c fs K J gd lv s σ H D g hn k hI ht => h.run A S ip R n ys s₀ c fs K J gd lv s σ H D g hn k hI (i D ys σ H ht)⟩
def wgNil : WG := fun E ys δ M => E.nx ys δ M
theorem dg_nil : DGs G X [] wgNil := gss_imp gss_nil fun D ys σ H ⟨F, M, δ, E, dys, hm, rs, ry, h, n, r, b, c⟩ => n ys dys σ δ F M H (.refl hm) rs ry h
def wgSeq (w u : WG) : WG := fun E ys δ M => w { E with nx := fun ys' δ' M' => u E ys' δ' M' } ys δ M
theorem dg_cons {st : Stmt} {rest : List Stmt} {w u : WG} (h1 : DG G X st w) (h2 : DGs G X rest u) : DGs G X (st :: rest) (wgSeq w u) := by
  refine gss_imp (gss_cons h1 h2) fun D ys σ H ⟨F, M, δ, E, dys, hm, rs, ry, h, n, r, b, c⟩ => ?_
  refine ⟨F, M, δ, _, dys, hm, rs, ry, h, fun ys' dys' σ' δ' F' M' H' g rs' ry' h' => ?_, r, b, c⟩
  exact ⟨F', M', δ', E, dys', g.hm, rs', ry', h', fun y2 d2 s2 e2 F2 M2 H2 g2 a2 b2 q => n y2 d2 s2 e2 F2 M2 H2 (g.trans g2) a2 b2 q, fun y2 d2 s2 e2 F2 M2 H2 g2 a2 b2 q => r y2 d2 s2 e2 F2 M2 H2 (g.trans g2) a2 b2 q,
    fun y2 d2 s2 e2 F2 M2 H2 g2 a2 b2 q => b y2 d2 s2 e2 F2 M2 H2 (g.trans g2) a2 b2 q, fun y2 d2 s2 e2 F2 M2 H2 g2 a2 b2 q => c y2 d2 s2 e2 F2 M2 H2 (g.trans g2) a2 b2 q⟩
/-- a statement that hands out nothing and raises nothing -/
def wgS (w : WS) : WG := fun E ys δ M => w { nx := E.nx ys, rt := E.rt ys, bk := E.bk ys, ct := E.ct ys } noX δ M
theorem dg_s {st : Stmt} {w : WS} (h : DSt G X st w) : DG G X st (wgS w) := by
  refine gs_imp (gs_ps h) fun D ys σ H ⟨F, M, δ, E, dys, hm, rs, ry, h, n, r, b, c⟩ => ?_
  exact ⟨F, M, δ, _, noX, hm, rs, h, takes_no, fun σ' δ' F' M' H' g rs' q => n ys dys σ' δ' F' M' H' g rs' (ry.mono g.ext) q, fun v d F' M' H' g r' q => r ys dys v d F' M' H' g r' (ry.mono g.ext) q,
    fun σ' δ' F' M' H' g rs' q => b ys dys σ' δ' F' M' H' g rs' (ry.mono g.ext) q, fun σ' δ' F' M' H' g rs' q => c ys dys σ' δ' F' M' H' g rs' (ry.mono g.ext) q⟩
def wgYield (we : WE) : WG := fun E ys δ M => ys.length < sizeLine ∧ we δ M (fun d M1 => E.nx (ys ++ [d]) δ M1) noX
theorem dg_yield {we : WE} {yp pos : Pos} (h : DE G X e we) (hco : X.env.scope.isCoroutine = false := by rfl) (hi : interactive X.env = false := by rfl) : DG G X (.Expr (.Yield (some e) yp) pos) (wgYield we) := by
  refine gs_imp (gs_yield h hco hi) fun D ys σ H ⟨F, M, δ, E, dys, hm, rs, ry, h, n, r, b, c⟩ => ?_
  refine ⟨by rw [ry.len]; exact h.1, F, M, δ, _, noX, hm, rs, h.2, takes_no, fun v d F1 M1 H1 g r1 q => ?_⟩
  exact n _ _ σ δ F1 M1 H1 g (rs.mono g.ext) ((ry.mono g.ext).app (.cons r1 .nil)) q
def wgWh (p : WT) (wb : WG) : Nat → GED → List D → DS → MM → Prop
  | 0, _, _, _, _ => False
  | n + 1, E, ys, δ, M => p δ M (fun k M1 => if k = true then wb { nx := wgWh p wb n E, rt := E.rt, bk := E.nx, ct := wgWh p wb n E } ys δ M1 else E.nx ys δ M1) noX
def wgWhile (p : WT) (wb : WG) : WG := fun E ys δ M => ∃ n, wgWh p wb n E ys δ M
theorem dg_while {c : Expr} {body : List Stmt} {p : WT} {wb : WG} {pos} (hp : PassesOwn (model X.prog X.w) X.A X.env X.xe) (hc : DT G X c p) (hb : DGs G X body wb) : DG G X (.While c body [] pos) (wgWhile p wb) := by
  refine gs_imp (gs_while hp hc hb) fun D ys σ H ⟨F, M, δ, E, dys, hm, rs, ry, ⟨n0, h⟩, n, r, bk, c⟩ => ?_
  refine ⟨fun m ys' σ' H' => ∃ F' M' δ' dys', Grow G X.K F M H F' M' H' ∧ RS G X.K F' σ' δ' ∧ RepL G X.K F' ys' dys' ∧ wgWh p wb m E dys' δ' M', ⟨n0, F, M, δ, dys, .refl hm, rs, ry, h⟩, ?_⟩
  rintro m ys' σ' H' ⟨F', M', δ', dys', g', rs', ry', h'⟩
  cases m with
  | zero => exact h'.elim
  | succ m =>
    unfold wgWh at h'
    refine ⟨F', M', δ', _, noX, g'.hm, rs', h', takes_no, fun k F2 M2 H2 g2 q => ?_⟩
    have gt := g'.trans g2
    cases k with
    | true =>
      refine ⟨fun y3 s3 H3 => ∃ F3 M3 d3 dy3, Grow G X.K F M H F3 M3 H3 ∧ RS G X.K F3 s3 d3 ∧ RepL G X.K F3 y3 dy3 ∧ wgWh p wb m E dy3 d3 M3, fun y3 s3 H3 w3 => ⟨m, Nat.lt_succ_self _, w3⟩, ?_⟩
      exact ⟨F2, M2, δ', _, dys', g2.hm, rs'.mono g2.ext, ry'.mono g2.ext, q, fun y3 d3 s3 e3 F3 M3 H3 g3 a3 b3 q3 => ⟨F3, M3, e3, d3, gt.trans g3, a3, b3, q3⟩, fun y3 d3 s3 e3 F3 M3 H3 g3 a3 b3 q3 => r y3 d3 s3 e3 F3 M3 H3 (gt.trans g3) a3 b3 q3,
        fun y3 d3 s3 e3 F3 M3 H3 g3 a3 b3 q3 => n y3 d3 s3 e3 F3 M3 H3 (gt.trans g3) a3 b3 q3, fun y3 d3 s3 e3 F3 M3 H3 g3 a3 b3 q3 => ⟨F3, M3, e3, d3, gt.trans g3, a3, b3, q3⟩⟩
    | false => exact n ys' dys' σ' δ' F2 M2 H2 gt (rs'.mono g2.ext) (ry'.mono g2.ext) q
/-- a generator def's promise by trees -/
abbrev SpGD := List D → MM → (List D → MM → Prop) → Prop
def liftG (G : Cfg) (K : PySem.W.Frag) (sp : SpGD) : SpG := fun vs H P E => ∃ F M ds Q, HM G K F M H ∧ RepL G K F vs ds ∧ sp ds M Q ∧ ∀ ws es F' M' H', Grow G K F M H F' M' H' → RepL G K F' ws es → Q es M' → P ws H'
def spGOf (n m : Nat) (w : WG) : SpGD := fun ds M Q => ds.length = n ∧ w { nx := fun ys _ M' => Q ys M', rt := fun ys d M' => d = .non ∧ Q ys M' } [] (startD m ds) M
theorem okGen {P : Program} {w : World} {K : PySem.W.Frag} {mg : Str → Option Value} {base : Heap} {x qual : Str} {st : Stmt} {f : Addr} {fd : FuncData} {N ps : List Str} {k : Nat} {wb : WG} (F : Fun K x qual st f fd) (S : GScope N ps (defScope st))
    (hb : ∀ (cdv : Value) (A : Around) (out : List Env) (s : Shared) (H : Hp) (E : XK) (pn : List (Addr × Obj)), Room k (A.deeper (envOfC qual (defScope st) s.heap.objs.size f cdv)) → DGs G (gcxOf P w K mg base N qual (defScope st) f cdv A out s H E pn) (defBody st) wb) :
    GFn P w K mg base (k + 1) f fd ps (liftG G K (spGOf ps.length N.length wb)) := by
  obtain ⟨oc, od, kV, doc, pm, an, cdv, ct, osl, efd, lk, hcd⟩ := F.ex
  subst efd
  refine gfn_of lk hcd S (fun vs H Q E h => ?_) (fun A out s H vs Q E pn hr h => ⟨_, hb cdv A out s H E pn hr, ?_⟩)
  · obtain ⟨F', M, ds, Q', hm, r, ⟨h1, _⟩, _⟩ := h
    rw [r.len]; exact h1
  · obtain ⟨F', M, ds, Q', hm, r, ⟨h1, h2⟩, fin⟩ := h
    refine ⟨F', M, _, _, [], hm, rs_start r, .nil, h2, fun ys' dys' σ' δ' F1 M1 H1 g1 _ ry q => fin ys' dys' F1 M1 H1 g1 ry q, fun ys' dys' v d F1 M1 H1 g1 rv ry q => ?_, fun _ _ _ _ _ _ _ _ _ _ q => q.elim, fun _ _ _ _ _ _ _ _ _ _ q => q.elim⟩
    obtain ⟨ed, q⟩ := q
    subst ed
    cases rv
    exact ⟨rfl, fin ys' dys' F1 M1 H1 g1 ry q⟩
/-- list(o.m()), m a generator method -/
structure MethG (G : Cfg) (X : Cx) (c : Nat) (m : Str) (sp : SpGD) : Prop where
  cls : Cls X.K (G.cl c)
  noat : m ∉ G.nm c
  ex : ∃ (k : Nat) (f : Addr) (fd : FuncData) (ps : List Str), Meth X.K (G.cl c) m f ∧ GFn X.prog X.w X.K X.mg X.base k f fd ps (liftG G X.K sp) ∧ Room (k + 3) X.A ∧ Binds X.K fd ps []
def wListG (c : Nat) (sp : SpGD) (wo : WE) : WE := fun δ M Q EX => wo δ M (fun d M1 => ∃ fs, insOf M1 d = some (c, fs) ∧ sp [d] M1 (fun ys M2 => Q (.lst ys) M2)) EX
def wListGM (c : Nat) (sp : SpGD) (wo : WE) : WE := fun δ M Q EX => wo δ M (fun d M1 => ∃ fs, insOf M1 d = some (c, fs) ∧ sp [d] M1 (fun ys M2 => ∀ p, M2 p = none → Q (.raw (.ref p)) (updM M2 p (.lst ys)))) EX
variable {c : Nat} {m : Str} {sp : SpGD} {wo : WE} {p pos apos : Pos} {pl : Sem Bool}
theorem noStop0 {K : PySem.W.Frag} : NoStop K E0 := fun _ _ _ h => h.elim
theorem de_listG (mt : MethG G X c m sp) (ho : DE G X o wo) (hmg : X.mg "list" = none) (hg : Gl X "list" := by rfl)
    (hv : eval (.Call (.Attribute o m apos) [] [] pos) X.env = (do
      let ov ← eval o X.env
      standAt apos.atName
      let (f, first) ← holding [ov] (getMethod ov m pl)
      callWith pos f first (backTo pos (starEach [] X.env)) (backToKw pos (keywordEach [] X.env))) := by rfl)
    (he : starEach [.Call (.Attribute o m apos) [] [] pos] X.env = (false, eval (.Call (.Attribute o m apos) [] [] pos) X.env) :: starEach [] X.env := by rfl) {p2 : Pos} :
    DE G X (.Call (.Name "list" p) [.Call (.Attribute o m apos) [] [] pos] [] p2) (wListG c sp wo) := by
  obtain ⟨cls, noat, k, f, fd, ps, hmt, F, hr, hb⟩ := mt
  refine pe_imp (pe_listG (E := E0) (pgen_meth0 (dvs := []) (ds := []) ho cls hmt F (hr.mono (by omega)) hb .nil hv) passL noStop0 hr hg hmg (by decide +kernel) (by decide) (by decide) he) fun σ H P ⟨F', M, δ, Q, EX, hm, rs, h, tk, f'⟩ => ?_
  refine ⟨F', M, δ, _, EX, hm, rs, h, tk, fun v d F1 M1 H1 g1 r1 h1 => ?_⟩
  obtain ⟨fs, e1, q⟩ := h1
  obtain ⟨a, dx, ws, rfl, hz, l, rz⟩ := insOf_rep g1.hm r1 e1
  refine ⟨a, dx, _, rfl, hz, zip_lookup_none noat, F1, M1, [d], _, g1.hm, .cons r1 .nil, q, fun ys dys F2 M2 H2 g2 ry q2 q3 hq => ?_⟩
  have g := g2.hm.new (o := .lst ys) hq
  exact f' _ _ _ _ _ ((g1.trans g2).trans g) (.lst upd_same (ry.mono g.ext)) q2
end
end DL

set_option Elab.async false
set_option linter.all false
set_option maxRecDepth 100000
namespace DL
open PySem PySem.Spec L2
open PyProof.Rows hiding St
section
variable {G : Cfg} {X : Cx} {e o i value : Expr}
/-! ### isinstance -/
inductive Ty where
  | non | bl | int | str | tup | lst | dct
  | own (k : Nat)
deriving DecidableEq
def Ty.nm : Ty → String
  | .non => "NoneType" | .bl => "bool" | .int => "int" | .str => "str" | .tup => "tuple" | .lst => "list" | .dct => "dict" | .own _ => "object"
def tyD (M : MM) : D → Option Ty
  | .non => some .non
  | .bl _ => some .bl
  | .int _ => some .int
  | .str _ => some .str
  | .tup _ => some .tup
  | .lst _ => some .lst
  | .dct _ => some .dct
  | .ins c _ => some (.own c)
  | .raw (.ref a) => match M a with
    | some (.lst _) => some .lst
    | some (.dct _) => some .dct
    | some (.ins c _) => some (.own c)
    | _ => none
  | _ => none
/-- what isinstance answers for the class value u -/
structure IsiT (G : Cfg) (K : PySem.W.Frag) (u : Value) (tb : Ty → Option Bool) : Prop where
  bt : ∀ t b, (∀ k, t ≠ .own k) → tb t = some b → PySem.W.kitOne K (.type t.nm) u = some b
  ow : ∀ k b, tb (.own k) = some b → PySem.W.kitOne K (.ref (G.cl k)) u = some b ∧ Cls K (G.cl k) ∧ PySem.W.findIn K (.ref (G.cl k)) "__class__" = some (some (.builtin "object.__class__")) ∧
    PySem.W.specialIn K (.builtin "object.__class__") "__get__" = some (some (.builtin "getset_descriptor.__get__")) ∧ PySem.W.takesIn K (.builtin "object.__class__") = some true ∧ PySem.W.mroIn K (G.cl k) (.type "object") = some true
def tbB (u : Ty) (own : Nat → Option Bool) : Ty → Option Bool
  | .own k => own k
  | t => some (decide (t = u) || (decide (u = .int) && decide (t = .bl)))
theorem isi_b {K : PySem.W.Frag} (u : Ty) (hu : ∀ k, u ≠ .own k) : IsiT G K (.type u.nm) (tbB u fun _ => none) := by
  refine ⟨fun t b ht h => ?_, fun k b h => by cases h⟩
  refine kit_ty ?_
  cases u <;> cases t <;> first
    | exact absurd rfl (ht _)
    | exact absurd rfl (hu _)
    | (cases h; decide +kernel)
theorem tyD_rep {K : PySem.W.Frag} {F : Hp} {M : MM} {H : Hp} {v : V} {d : D} {t : Ty} {tb : Ty → Option Bool} {b : Bool} {u : Value} (T : IsiT G K u tb) (hm : HM G K F M H) (r : Rep G K F v d) (e : tyD M d = some t) (q : tb t = some b) :
    ∃ tv, TyX K H v tv ∧ PySem.W.kitOne K tv u = some b := by
  unfold tyD at e
  split at e
  · cases r; cases e; exact ⟨_, .base .non, T.bt _ _ (fun _ z => Ty.noConfusion z) q⟩
  · cases r; cases e; exact ⟨_, .base (.bl _), T.bt _ _ (fun _ z => Ty.noConfusion z) q⟩
  · cases r; cases e; exact ⟨_, .base (.int _), T.bt _ _ (fun _ z => Ty.noConfusion z) q⟩
  · cases r; cases e; exact ⟨_, .base (.str _), T.bt _ _ (fun _ z => Ty.noConfusion z) q⟩
  · cases e
    cases r with
    | tup h r =>
      refine ⟨_, ?_, T.bt _ _ (fun _ z => Ty.noConfusion z) q⟩
      rcases sqT_mono hm.sub h with z | ⟨o, its, n, h1, h2, _⟩
      · rcases z with z | ⟨o, z⟩
        · exact .base (.tup z)
        · exact .fTuple z
      · exact .kTuple h1 h2
    
  · cases e
    cases r with
    | lst h r => exact ⟨_, .base (.lst (hm.sub _ _ h)), T.bt _ _ (fun _ z => Ty.noConfusion z) q⟩
  · cases e
    cases r with
    | dct h r => exact ⟨_, .base (.dK (hm.sub _ _ h)), T.bt _ _ (fun _ z => Ty.noConfusion z) q⟩
  · cases e
    cases r with
    | ins h l r =>
      obtain ⟨h1, h2, h3, h4, h5, h6⟩ := T.ow _ _ q
      exact ⟨_, .base (.ins (hm.sub _ _ h) h2 h3 h4 h5 h6), h1⟩
  · cases r
    split at e
    · rename_i z
      cases e
      obtain ⟨vs, h1, r1⟩ := hm.mo _ _ z
      exact ⟨_, .base (.lst h1), T.bt _ _ (fun _ z => Ty.noConfusion z) q⟩
    · rename_i z
      cases e
      obtain ⟨vs, h1, r1⟩ := hm.mo _ _ z
      exact ⟨_, .base (.dK h1), T.bt _ _ (fun _ z => Ty.noConfusion z) q⟩
    · rename_i z
      cases e
      obtain ⟨dx, vs, h1, l, r1⟩ := hm.mo _ _ z
      obtain ⟨h1', h2, h3, h4, h5, h6⟩ := T.ow _ _ q
      exact ⟨_, .base (.ins h1 h2 h3 h4 h5 h6), h1'⟩
    · cases e
  · cases e
@[irreducible] def kIsi (tb : Ty → Option Bool) (Q : D → MM → Prop) (d : D) (M1 : MM) : Prop := match tyD M1 d with
  | some t => match tb t with
    | some b => Q (.bl b) M1
    | none => False
  | none => False
theorem at_isi {tb : Ty → Option Bool} {Q : D → MM → Prop} {d : D} {M1 : MM} {t : Ty} {b : Bool} (h : tyD M1 d = some t) (h2 : tb t = some b) (q : Q (.bl b) M1) : kIsi tb Q d M1 := by unfold kIsi; rw [h]; dsimp only; rw [h2]; exact q
def wIsi (cv : V) (tb : Ty → Option Bool) : WR1 := fun ds M Q => match ds with
  | [d, .raw v] => v = cv ∧ kIsi tb Q d M
  | _ => False
theorem sim_isi {K : PySem.W.Frag} {cv : V} {u : Value} {tb : Ty → Option Bool} (k : ClsV cv u) (T : IsiT G K u tb) : SimC G K (rIsi K) (wIsi cv tb) := by
  intro F M H vs ds Q P hm r w f
  unfold wIsi at w
  split at w
  · rename_i d v
    obtain ⟨ev, w⟩ := w
    subst ev
    cases r with
    | cons r1 r2 =>
      cases r2 with
      | cons r2 r3 =>
        cases r3
        cases r2
        unfold kIsi at w
        split at w
        · rename_i t e1
          split at w
          · rename_i b e2
            obtain ⟨tv, ty, kk⟩ := tyD_rep T hm r1 e1 e2
            exact ⟨_, _, tv, u, b, rfl, k, ty, kk, f _ _ F M H (.refl hm) (.bl b) w⟩
          · exact w.elim
        · exact w.elim
  · exact w.elim
/-- a type, a class as a value -/
theorem de_cls {x : Str} {v : V} {u : Value} {pos : Pos} (hm : X.mg x = some u) (r : RelV v u) (hg : Gl X x := by rfl) (hd : (x == ("__debug__" : Str)) = false := by decide) : DE G X (.Name x pos) (wC (.raw v)) := pe_imp (pe_glob hg hm r hd) (up_c fun _ _ => .raw v)
theorem de_ty {x : Str} {T : String} {pos : Pos} (hm : X.mg x = none) (hv : bootBuiltins x = some (.type T)) (hg : Gl X x := by rfl) (hn : x ≠ "__name__" := by decide) (hd : (x == ("__debug__" : Str)) = false := by decide) : DE G X (.Name x pos) (wC (.raw (.ty T))) := pe_imp (pe_bltn hg hm hv (r := show RelV (.ty T) (.type T) from rfl) hn hd) (up_c fun _ _ => .raw _)
/-! ### C.f, a constant of the class -/
/-- the text has the constant: its tree -/
structure CK (G : Cfg) (K : PySem.W.Frag) (C : Addr) (f : Str) (d : D) : Prop where
  ex : ∃ mc v u, ClX.CRead K C mc ∧ ClX.CVal K C mc f v u ∧ ∀ F, Rep G K F v d
def wCv (v : V) (we : WE) (d : D) : WE := fun δ M Q EX => we δ M (fun x M1 => x = .raw v ∧ Q d M1) EX
theorem de_cval {C : Addr} {f : Str} {we : WE} {d : D} {pos : Pos} (k : CK G X.K C f d) (h : DE G X e we) (hb : attributeBase e f X.env (eval e X.env) = eval e X.env := by rfl) : DE G X (.Attribute e f pos) (wCv (.ref C) we d) := by
  obtain ⟨mc, v, u, h1, h2, h3⟩ := k
  refine pe_imp (ClX.pe_cval h hb) fun σ H P ⟨F, M, δ, Q, EX, hm, rs, h, tk, f⟩ => ?_
  refine ⟨F, M, δ, _, EX, hm, rs, h, tk, fun w x F1 M1 H1 g r q => ?_⟩
  obtain ⟨ex, q⟩ := q
  subst ex
  cases r
  exact ⟨C, mc, v, u, rfl, h1, h2, f v d F1 M1 H1 g (h3 F1) q⟩
/-! ### C(e, .., k = v, ..) -/
/-- what such a call binds, by trees -/
structure KBD (G : Cfg) (K : PySem.W.Frag) (fd : FuncData) (ps : List Str) (n : Nat) (ks : List Str) (gD : List D → List D → List D) : Prop where
  ex : ∃ g gV, KBn K fd ps n ks g gV ∧ (∀ F vs ds zs es, RepL G K F vs ds → RepL G K F zs es → RepL G K F (gV vs zs) (gD ds es))
abbrev DK (G : Cfg) (X : Cx) (kws : List Keyword) (w : WA) : Prop := PK X kws (upA G X w)
theorem pk_imp {kws : List Keyword} {t t' : TA} (h : PK X kws t) (i : ∀ σ H Q, t' σ H Q → t σ H Q) : PK X kws t' := ⟨fun pos pins s σ H Q I ht => h.run pos pins s σ H Q I (i σ H Q ht)⟩
theorem dk_nil : DK G X [] wNil := pk_imp pk_nil fun σ H P ⟨F, M, δ, Q, EX, hm, rs, h, tk, f⟩ => f [] [] F M H (.refl hm) .nil h
theorem dk_cons {nm : Option Str} {kpos : Pos} {kws : List Keyword} {we : WE} {wr : WA} (h : DE G X e we) (hr : DK G X kws wr) : DK G X (⟨nm, e, kpos⟩ :: kws) (wCons we wr) := by
  refine pk_imp (pk_cons h hr) fun σ H P ⟨F, M, δ, Q, EX, hm, rs, h, tk, f⟩ => ?_
  refine ⟨F, M, δ, _, EX, hm, rs, h, tk, fun x d F1 M1 H1 g1 r1 h1 => ?_⟩
  refine ⟨F1, M1, δ, _, EX, g1.hm, rs.mono g1.ext, h1, tk.imp (wX_mono g1), fun vs ds F2 M2 H2 g2 r2 q => ?_⟩
  exact f (x :: vs) (d :: ds) F2 M2 H2 (g1.trans g2) (.cons (r1.mono g2.ext) r2) q
def wMakeK (c n m : Nat) (gD : List D → List D → List D) (sp : SpD) (wa wk : WA) : WE := fun δ M Q EX => wa δ M (fun ds M1 => wk δ M1 (fun es M2 => ds.length = n ∧ es.length = m ∧ ∀ p, M2 p = none →
  sp (gD (.raw (.ref p) :: ds) es) (updM M2 p (.ins c [])) (fun d M3 => d = .non ∧ Q (.raw (.ref p)) M3) (fun xd M3 => EX xd δ M3)) EX) EX
variable {gd : Bool} {k : Nat} {f : Addr} {fd : FuncData} {ps ks : List Str} {sp : SpD} {x m : Str} {p pos apos : Pos} {es : List Expr} {wa wk : WA} {wo : WE} {kws : List Keyword} {gD : List D → List D → List D}
theorem run_makeKD {C n : Nat} (Mk' : Mk X.K (G.cl C) f) (F : FnG X.prog X.w X.K X.mg X.base gd k f fd ps (lift G X.K sp)) (hr : Room (k + 1) X.A) (hgd : gd = true → X.A.guards = some []) (hb : KBD G X.K fd ps (n + 1) ks gD) {pins : List (Addr × Obj)} {σ : St} {H : Hp} {s : Shared} {us ws : List Value} {vs zs : List V} {ds es : List D} {F1 : Hp} {M1 : MM} {δ : DS} {Q : D → MM → Prop} {EX : XK'} {P : VK}
    (I : Inv X pins σ H s) (r : Vals vs us) (rz : Vals zs ws) (hm : HM G X.K F1 M1 H) (rs : RS G X.K F1 σ δ) (rl : RepL G X.K F1 vs ds) (rk : RepL G X.K F1 zs es) (l1 : ds.length = n) (l2 : es.length = ks.length)
    (h : ∀ p, M1 p = none → sp (gD (.raw (.ref p) :: ds) es) (updM M1 p (.ins C [])) (fun d M2 => d = .non ∧ Q (.raw (.ref p)) M2) (fun xd M2 => EX xd δ M2)) (tk : Takes X (wX G X.K F1 M1 H EX)) (f' : Fin G X.K F1 M1 H Q P) :
    wpAny (model X.prog X.w) X.A (call (.ref (G.cl C)) us (ks.zip ws)) (EP X pins σ P) X.xe s := by
  obtain ⟨g0, gV, kb, hg⟩ := hb
  have n1 : H s.heap.objs.size = none := I.hok.fresh (Nat.le_refl _)
  have n2 : H (s.heap.objs.size + 1) = none := I.hok.fresh (Nat.le_succ _)
  have ne : s.heap.objs.size + 1 ≠ s.heap.objs.size := Nat.succ_ne_self _
  have I2 := Inv.made (C := G.cl C) I
  have g1 : Grow G X.K F1 M1 H F1 M1 (upd H s.heap.objs.size (.own (s.heap.objs.size + 1))) := hm.own n1
  have n3 : upd H s.heap.objs.size (.own (s.heap.objs.size + 1)) (s.heap.objs.size + 1) = none := by rw [upd_ne ne]; exact n2
  have g2 := g1.hm.newM (p := s.heap.objs.size + 1) (o := .ins (G.cl C) s.heap.objs.size []) (m := .ins C []) n3 ⟨s.heap.objs.size, [], by rw [upd_same]; simp, by simp, .nil⟩
  have g := g1.trans g2
  have hq := h (s.heap.objs.size + 1) (hm.free n2).2
  have r1 : Vals (V.ref (s.heap.objs.size + 1) :: vs) (Value.ref (s.heap.objs.size + 1) :: us) := .cons rfl r
  have r2 := kb.rel r1 rz
  have rl2 : RepL G X.K F1 (gV (V.ref (s.heap.objs.size + 1) :: vs) zs) (gD (D.raw (.ref (s.heap.objs.size + 1)) :: ds) es) := hg _ _ _ _ _ (.cons (.raw _) rl) rk
  have hl' := lift_at (P := fun v H' => v = .non ∧ P (.ref (s.heap.objs.size + 1)) H') g.hm rs rl2 hq (fun v d F3 M3 H3 g3 r3 q3 => by
    obtain ⟨e, q3⟩ := q3
    subst e
    cases r3
    exact ⟨rfl, f' _ _ F3 M3 H3 (g.trans g3) (.raw _) q3⟩)
  have nn : (Value.ref (s.heap.objs.size + 1) :: us).length = n + 1 := by
    rw [List.length_cons, ← r.length, rl.len, l1]
  have nk : ws.length = ks.length := by rw [← rz.length, rk.len, l2]
  have tk2 : Takes X (wX G X.K F1 (updM M1 (s.heap.objs.size + 1) (.ins C [])) (upd (upd H s.heap.objs.size (.own (s.heap.objs.size + 1))) (s.heap.objs.size + 1) (.ins (G.cl C) s.heap.objs.size [])) EX) := tk.imp (wX_mono g)
  refine wpAny_call (make_map (f := f) I.kIn Mk'.makes Mk'.init (beq_iff_eq.mp Mk'.fn) (codeAny_mono (F.run _ X.stack _ _ ⟨Value.ref (s.heap.objs.size + 1) :: us, ks.zip ws⟩ (g0 (Value.ref (s.heap.objs.size + 1) :: us) ws) _ _ _ (hr.make _ us (ks.zip ws)) (fun z => guards_make (hgd z))
    (I2.env0.make _ us (ks.zip ws)) (kb.to _ (Value.ref (s.heap.objs.size + 1) :: us) ws I2.kIn nn nk) r2 hl') fun r s' hq' => ?_))
  cases r with
  | error e => exact passAt tk2 σ pins _ _ e s' I2 hq'
  | ok fl =>
    cases fl with
    | ret u =>
      obtain ⟨v, H', I3, rv, ev, q3⟩ := I2.after hq'
      subst ev
      exact ⟨rv, ⟨V.ref (s.heap.objs.size + 1), H', I3, rfl, q3⟩⟩
    | next => exact False.elim hq'
    | brk => exact False.elim hq'
    | cont => exact False.elim hq'
theorem dk_run {F1 : Hp} {M1 : MM} {δ : DS} {QA : List D → MM → Prop} {EX : XK'} {pins : List (Addr × Obj)} {s : Shared} {σ : St} {H : Hp} (ha : DK G X kws wk) (pos : Pos) (I : Inv X pins σ H s) (hm : HM G X.K F1 M1 H) (rs : RS G X.K F1 σ δ) (h : wk δ M1 QA EX) (tk : Takes X (wX G X.K F1 M1 H EX)) :
    wpAny (model X.prog X.w) X.A (evalAll ((backToKw pos (keywordEach kws X.env)).map (·.2))) (AP X pins σ (fun vs H2 => ∃ ds F2 M2, Grow G X.K F1 M1 H F2 M2 H2 ∧ RepL G X.K F2 vs ds ∧ QA ds M2)) X.xe s :=
  ha.run pos pins s σ H _ I ⟨F1, M1, δ, QA, EX, hm, rs, h, tk, fun vs ds F2 M2 H2 g r q => ⟨ds, F2, M2, g, r, q⟩⟩
theorem de_makeK {C n : Nat} (Mk' : Mk X.K (G.cl C) f) (F : FnG X.prog X.w X.K X.mg X.base gd k f fd ps (lift G X.K sp)) (hr : Room (k + 1) X.A) (hgd : gd = true → X.A.guards = some []) (hm : X.mg x = some (.ref (G.cl C))) (hb : KBD G X.K fd ps (n + 1) ks gD)
    (ha : DA G X (e :: es) wa) (hkw : DK G X kws wk) (hg : Gl X x := by rfl)
    (hall : (backToKw pos (keywordEach kws X.env)).all (·.1.isSome) = true := by rfl) (hks : (backToKw pos (keywordEach kws X.env)).filterMap (·.1) = ks := by rfl) (hdb : (x == ("__debug__" : Str)) = false := by decide)
    (he : starEach (e :: es) X.env = (false, eval e X.env) :: starEach es X.env := by rfl) (hpl : ((backTo pos (starEach (e :: es) X.env)).any (·.1) || (backToKw pos (keywordEach kws X.env)).any (·.1.isNone)) = false := by rfl) :
    DE G X (.Call (.Name x p) (e :: es) kws pos) (wMakeK C n ks.length gD sp wa wk) := by
  refine ⟨fun pins s σ H Q I ⟨F1, M1, δ, Q', EX, hm1, rs, h, tk, fin⟩ => ?_⟩
  refine wpAny_Call_Name_kw (ld_glob I hg hm ?_ hdb)
  refine PySem.W.callWith_KW (h₀ := X.base) I.ok.mod.kin Mk'.kp hall (thn (da_run ha pos I hm1 rs h tk) fun us s1 ⟨vs, H1, I1, r, ds, F2, M2, g, rl, q⟩ => ?_) hpl he
  refine thn (dk_run hkw pos I1 g.hm (rs.mono g.ext) q (tk.imp (wX_mono g))) fun ws s2 ⟨zs, H2, I2, rz, es', F3, M3, g2, rk, l1, l2, q2⟩ => ⟨I2.kIn, ?_⟩
  rw [hks]
  have gt := g.trans g2
  exact run_makeKD Mk' F hr hgd hb I2 r rz g2.hm (rs.mono gt.ext) (rl.mono g2.ext) rk l1 l2 q2 (tk.imp (wX_mono gt)) fun v d F4 M4 H4 g4 r4 q4 => fin v d F4 M4 H4 (gt.trans g4) r4 q4
/-! ### hand(x): an instance is called -/
structure CallD (G : Cfg) (X : Cx) (c : Nat) (sp : SpD) : Prop where
  ex : ∃ (gd : Bool) (k : Nat) (f : Addr) (fd : FuncData) (ps : List Str), StX.CallO X.K (G.cl c) f ∧ FnG X.prog X.w X.K X.mg X.base gd k f fd ps (lift G X.K sp) ∧ Room k X.A ∧ (gd = true → X.A.guards = some []) ∧ Binds X.K fd ps []
def wCallO (tb : List (Nat × SpD)) (wf : WE) (wa : WA) : WE := fun δ M Q EX => wf δ M (fun d M1 => (insOf M1 d).isSome = true ∧ wa δ M1 (fun ds M2 => ∃ c fs sp, insOf M2 d = some (c, fs) ∧ tb.lookup c = some sp ∧ sp (d :: ds) M2 Q (fun xd M3 => EX xd δ M3)) EX) EX
theorem de_callO {fe : Expr} {wf : WE} (tb : List (Nat × SpD)) (ht : ∀ q ∈ tb, CallD G X q.1 q.2) (hf : DE G X fe wf) (ha : DA G X (e :: es) wa)
    (hv : eval (.Call fe (e :: es) [] pos) X.env = (do callWith pos (← eval fe X.env) [] (backTo pos (starEach (e :: es) X.env)) (backToKw pos (keywordEach [] X.env))) := by rfl)
    (he : starEach (e :: es) X.env = (false, eval e X.env) :: starEach es X.env := by rfl) (hpl : (backTo pos (starEach es X.env)).any (·.1) = false := by rfl) : DE G X (.Call fe (e :: es) [] pos) (wCallO tb wf wa) := by
  refine ⟨fun pins s σ H Q I ⟨F1, M1, δ, Q', EX, hm1, rs, h, tk, fin⟩ => ?_⟩
  refine Call_ (thn (de_run hf I hm1 rs h tk) fun u s1 ⟨v, H1, I1, rv, d, F2, M2, g, rd, qi, q⟩ => ?_) hv
  have key : ∃ a, v = .ref a := by
    obtain ⟨⟨c, fs⟩, e0⟩ := Option.isSome_iff_exists.mp qi
    obtain ⟨a, _, _, z, _⟩ := insOf_rep g.hm rd e0
    exact ⟨a, z⟩
  obtain ⟨a, rfl⟩ := key
  obtain rfl : u = Value.ref a := rv
  refine StX.callO_with (thn (da_run ha pos I1 g.hm (rs.mono g.ext) q (tk.imp (wX_mono g))) fun us s2 ⟨vs, H2, I2, r, ds, F3, M3, g2, rl, c, fs, sp, e1, e2, q2⟩ => ?_) he hpl
  obtain ⟨a', dx, ws, ea, hz, l, rz⟩ := insOf_rep g2.hm (rd.mono g2.ext) e1
  cases ea
  obtain ⟨gd, k, f, fd, ps, co, F, hr, hgd, hb⟩ := ht _ (lookup_mem e2)
  obtain ⟨ox, od, J, hd⟩ := StX.insC_at I2 (.inr ⟨_, _, hz⟩)
  have gt := g.trans g2
  refine ⟨⟨_, ox, od, J, hd⟩, ?_⟩
  have rl3 : RepL G X.K F3 (V.ref a :: vs) (d :: ds) := .cons (rd.mono g2.ext) rl
  have f2 : Fin G X.K F3 M3 H2 Q' Q := fun v d F4 M4 H4 g4 r4 q4 => fin v d F4 M4 H4 (gt.trans g4) r4 q4
  have hl' := lift_at (P := Q) g2.hm (rs.mono gt.ext) rl3 q2 f2
  have r2 : Vals (V.ref a :: vs) (Value.ref a :: us) := .cons rfl r
  have hn : (Value.ref a :: us).length = ps.length := r2.length.symm.trans (F.len _ _ _ _ hl')
  refine wpAny_call (PySem.W.kco_code I2.kIn J hd co.at_ co.fn co.fi (codeAny_mono (F.run X.A X.stack s2 H2 ⟨Value.ref a :: us, []⟩ (Value.ref a :: us) _ Q _ hr hgd I2.env0 ?_ r2 hl') (fun res s' hq => ?_)))
  · have z := hb s2 (Value.ref a :: us) I2.kIn (by simpa using hn)
    simpa using z
  · match res, hq with
    | .error z, hq => exact passAt (tk.imp (wX_mono gt)) σ pins H2 s2 z s' I2 hq
    | .ok (.ret u), hq => exact I2.after hq
end
end DL

set_option Elab.async false
set_option linter.all false
set_option maxRecDepth 100000
namespace DL
open PySem PySem.Spec L2
open PyProof.Rows hiding St
section
variable {G : Cfg}
/-! ### the law's own call -/
theorem rep_ints {K : PySem.W.Frag} {F : Hp} : ∀ ns : List Int, RepL G K F (ns.map V.int) (ns.map D.int)
  | [] => .nil
  | n :: ns => .cons (.int n) (rep_ints ns)
theorem not_cx {P : Program} {w : World} {H : Hp} {s : Shared} {e : Value} {s' : Shared} (h : L2.CX P w [] H s (fun _ _ _ => False) e s') : False := by
  obtain ⟨_, _, _, _, _, _, _, _, _, _, _, _, z⟩ := h
  exact z
section
variable {P : Program} {w : World} {K : PySem.W.Frag} {mg mb : Str → Option Value} {gd : Bool} {k : Nat} {fa a : Addr} {nm x : Str} {sp : SpD} {s₁ : Shared} {vs : List Value} {ns : List Int}
/-- from a heap H in which at most the script (at a) is tracked -/
theorem law_at (KX : K.In s₁.heap) (hns : s₁.heap.Ns mainGlobals mg) (hb : s₁.heap.Ns builtinsNs mb) (hbb : ∀ x : Str, x ≠ "__name__" → mb x = bootBuiltins x) (hlim : s₁.heap.NoLimit) (hg : s₁.gens = #[])
    (ha : s₁.heap.get? a = some { cls := .type "list", data := .seq vs.toArray }) (hr : Room k callerA) (hgd : callerA.guards = some [])
    (F : ∀ base : Heap, K.In base → base.Ns mainGlobals mg → OkG P w K mg base gd k nm [x] (lift G K sp)) (hmg : mg nm = some (.ref fa)) (hT : G.tabs = [])
    (hsp : sp [.frl (ns.map D.int)] (fun _ => none) (fun d _ => d = .bl true) fun _ _ => False)
    {H : Hp} (hS : SqL K H a (ns.map V.int)) (hok : HOk P w H s₁.heap) (hA : ∀ b, H b ≠ none → b = a ∧ K.lookup a = none ∧ ∃ o xs, H b = some (.frz o (.lst xs))) :
    codeAny (model P w) callerA (.call (.ref fa) ⟨[.ref a], []⟩) (fun r s' => r = .ok (.ret (.bool true)) ∧ OldK s₁.heap s'.heap ∧ s'.os = s₁.os ∧ AllBare s'.gens) s₁ := by
  have free : ∀ {b : Addr} {o : Obj}, s₁.heap.get? b = some o → (b = a → False) → H b = none := fun {b o} _ nb => by
    cases q : H b with
    | none => rfl
    | some u => exact (nb (hA b (by rw [q]; simp)).1).elim
  have nsK : ∀ {b : Addr} {m : Str → Option Value}, s₁.heap.Ns b m → (hidT s₁.heap H).Ns b m := fun {b m} ⟨o, es, ep, e, d, r⟩ => by
    refine ⟨o, es, ep, hidT_get e (free e fun z => ?_), d, r⟩
    subst z
    rw [ha] at e
    cases e
    have d' : Data.seq vs.toArray _ = Data.dict es ep := d
    cases d'
  have hKb : K.In (hidT s₁.heap H) := fun b o e => hidT_get (KX b o e) (by
    cases q : H b with
    | none => rfl
    | some u =>
      obtain ⟨z, n, _⟩ := hA b (by rw [q]; simp)
      subst z
      rw [n] at e; cases e)
  have hM : Mod K mg (hidT s₁.heap H) := ⟨hKb, nsK hns, ⟨mb, nsK hb, hbb⟩, let ⟨mc, h1, h2⟩ := hlim; ⟨mc, nsK h1, h2⟩⟩
  have e0 : Env0 P w K mg (hidT s₁.heap H) callerA [] s₁ H := ⟨rfl, hM, fun b o e => of_hidT e, Nat.le_of_eq (hidT_size _ _), trivial, fun b hb => absurd (show b ∈ ([] : List Addr) from hb) (by simp), hok, .of_eq hg⟩
  have hm0 : HM G K H (fun _ => none) H := ⟨Same.refl _, fun b m e => (nomatch e), fun b m e => (nomatch e), fun p hp => by rw [hT] at hp; cases hp⟩
  have hl : lift G K sp [.ref a] H (fun v _ => v = .bl true) (fun _ _ _ => False) :=
    ⟨H, fun _ => none, [.frl (ns.map D.int)], _, _, hm0, .cons (.frl hS (rep_ints ns)) .nil, hsp, fun v d F' M' H' g r q => by subst q; cases r; rfl, fun cls dop xd F' M' H' g rx q => q⟩
  obtain ⟨f, fd, hf, _, hb, Fn⟩ := F _ hKb (nsK hns)
  have ef : f = fa := by
    have z := hf.symm.trans hmg
    injection z with z
    injection z
  subst ef
  refine codeAny_mono (Fn.run callerA [] s₁ H ⟨[.ref a], []⟩ [.ref a] [.ref a] _ _ hr (fun _ => hgd) e0 (hb s₁ [.ref a] KX rfl) (.cons rfl .nil) hl) fun r s' h => ?_
  match r, h with
  | .error e, h => exact (not_cx h).elim
  | .ok (.ret u), h =>
    obtain ⟨v, H', os, bare, un, hok', r', q⟩ := h
    have q' : v = .bl true := q
    subst q'
    obtain rfl : u = Value.bool true := r'
    refine ⟨rfl, OldK.of_keep fun b o e => ?_, os, bare⟩
    cases q : H b with
    | none => exact un.keep b o e q (by intro z; exact absurd (show b ∈ ([] : List Addr) from z) (by simp)) (by simp)
    | some u =>
      obtain ⟨_, _, ob, xs, z⟩ := hA b (by rw [q]; simp)
      have z2 := un.frzs b ob _ z
      obtain ⟨e1, _⟩ := hok b _ z
      obtain ⟨e2, _⟩ := hok' b _ z2
      rw [e] at e1; cases e1
      exact e2
end
theorem walkD {l : PySem.W.OpenLaw} {n k : Nat} {gd : Bool} {q : Program} {loose : List Str} {XP : (Str → Option Value) → Heap → Prop} {YP : World → Heap → Prop} {d : DefRec} {K : Params → PySem.W.Frag} {sp : SpD} {x : Str}
    (hn : l.most = some n) (hn2 : n ≤ sizeLine) (hdf : d.params.defaults = []) (hr : Room k callerA) (hgd : callerA.guards = some [])
    (hY : ∀ (w : World) (h : Heap), YP w h → (K w.params).In h)
    (F : ∀ (w : World) (mg : Str → Option Value) (h : Heap), (K w.params).In h → h.Ns mainGlobals mg →
      ∃ G : Cfg, G.tabs = [] ∧ ∀ base : Heap, (K w.params).In base → base.Ns mainGlobals mg → OkG l.prog w (K w.params) mg base gd k d.name [x] (lift G (K w.params) sp))
    (hsp : ∀ ns : List Int, ns.length ≤ n → sp [.frl (ns.map D.int)] (fun _ => none) (fun d _ => d = .bl true) fun _ _ => False) :
    PySem.W.WalkO q loose XP YP l.row.toRowW d [] (fun f vs => PySem.call f vs) := by
  refine Att.attach_call hn hdf fun w s₀ s₁ mg mb fa o pm cd doc a vs ns E Y ho hd hcd hmg hobj hints hlen hg => ?_
  have KX := hY w _ Y
  obtain ⟨G, hT, hF⟩ := F w mg _ KX E.T.g
  have rv := vals_ints hints
  have lenV := hints.length
  have hl := Nat.le_trans hlen hn2
  cases hk : (K w.params).lookup a with
  | some o =>
    have e := KX a o hk
    rw [hobj] at e
    cases e
    exact law_at KX E.T.g E.T.b E.T.builtins E.T.nolimit hg hobj hr hgd hF hmg hT (hsp ns hlen) (H := fun _ => none) (.inr ⟨_, vs.toArray, _, hk, rfl, rfl, rfl, by rw [List.size_toArray, lenV]; exact hl, by simpa using rv⟩) (fun b u z => nomatch (show (none : Option HO) = some u from z)) (fun b z => absurd rfl z)
  | none =>
    refine law_at KX E.T.g E.T.b E.T.builtins E.T.nolimit hg hobj hr hgd hF hmg hT (hsp ns hlen) (H := fun b => if b = a then some (.frz { cls := .type "list", data := .seq vs.toArray } (.lst (ns.map V.int))) else none) (.inl (.inr ⟨{ cls := .type "list", data := .seq vs.toArray }, if_pos rfl⟩)) (fun b u z => ?_) (fun b z => ?_)
    · by_cases hb : b = a
      · have z' := (if_pos hb).symm.trans z
        cases z'
        subst hb
        exact ⟨hobj, by rw [List.length_map]; exact hl, vs, _, rv, hobj⟩
      · have z' := (if_neg hb).symm.trans z
        cases z'
    · by_cases hb : b = a
      · exact ⟨hb, hk, _, _, if_pos hb⟩
      · exact absurd (if_neg hb) z
end
end DL

set_option Elab.async false
set_option linter.all false
set_option maxRecDepth 100000
namespace DL
open PySem PySem.Spec L2
open PyProof.Rows hiding St
section
variable {G : Cfg} {X : Cx} {P : Program} {w : World} {K : PySem.W.Frag} {mg : Str → Option Value} {base : Heap} {gd : Bool} {C : Addr} {c k n : Nat} {m qual : Str} {st : Stmt} {f : Addr} {N ps ks : List Str} {wb : WS} {wg : WG} {sp : SpD} {sg : SpGD} {kws : List (Str × V)} {dds : List D}
/-! ### what the text has of classes; what their defs promise -/
structure GMeth (K : PySem.W.Frag) (C : Addr) (m qual : Str) (st : Stmt) (ps : List Str) : Prop where
  ex : ∃ f fd, Meth K C m f ∧ Fun K m qual st f fd ∧ Binds K fd ps []
structure OkMeth (P : Program) (w : World) (K : PySem.W.Frag) (mg : Str → Option Value) (base : Heap) (gd : Bool) (k : Nat) (C : Addr) (m : Str) (ps : List Str) (sp : Sp) : Prop where
  ex : ∃ f fd, Meth K C m f ∧ Binds K fd ps [] ∧ FnG P w K mg base gd k f fd ps sp
theorem okMeth (g : GMeth K C m qual st ps) (S : FnScope N ps (defScope st))
    (hb : ∀ (f : Addr) (cdv : Value) (A : Around) (out : List Env) (s : Shared) (H : Hp) (E : XK), Room k (A.deeper (envOfC qual (defScope st) s.heap.objs.size f cdv)) → (gd = true → (A.deeper (envOfC qual (defScope st) s.heap.objs.size f cdv)).guards = some []) → DSs G (cxOf (L2.CX P w) P w K mg base N qual (defScope st) f cdv A out s H E) (defBody st) wb) :
    OkMeth P w K mg base gd (k + 1) C m ps (lift G K (spOf ps.length N.length wb)) := by
  obtain ⟨f, fd, h1, F, b⟩ := g
  exact ⟨f, fd, h1, b, okD F S (hb f)⟩
theorem md_of (o : OkMeth X.prog X.w X.K X.mg X.base gd k (G.cl c) m ps (lift G X.K sp)) (cls : Cls X.K (G.cl c)) (noat : m ∉ G.nm c) (hr : Room k X.A) (hgd : gd = true → X.A.guards = some []) : MethD G X c m [] sp := by
  obtain ⟨f, fd, h1, b, F⟩ := o
  exact ⟨cls, noat, gd, k, f, fd, ps, [], [], h1, F, hr, hgd, b, .nil, Flat.nil⟩
structure OkMethG (P : Program) (w : World) (K : PySem.W.Frag) (mg : Str → Option Value) (base : Heap) (k : Nat) (C : Addr) (m : Str) (ps : List Str) (sp : SpG) : Prop where
  ex : ∃ f fd, Meth K C m f ∧ Binds K fd ps [] ∧ GFn P w K mg base k f fd ps sp
theorem okMethG (g : GMeth K C m qual st ps) (S : GScope N ps (defScope st))
    (hb : ∀ (f : Addr) (cdv : Value) (A : Around) (out : List Env) (s : Shared) (H : Hp) (E : XK) (pn : List (Addr × Obj)), Room k (A.deeper (envOfC qual (defScope st) s.heap.objs.size f cdv)) → DGs G (gcxOf P w K mg base N qual (defScope st) f cdv A out s H E pn) (defBody st) wg) :
    OkMethG P w K mg base (k + 1) C m ps (liftG G K (spGOf ps.length N.length wg)) := by
  obtain ⟨f, fd, h1, F, b⟩ := g
  exact ⟨f, fd, h1, b, okGen F S (hb f)⟩
theorem mg_of (o : OkMethG X.prog X.w X.K X.mg X.base k (G.cl c) m ps (liftG G X.K sg)) (cls : Cls X.K (G.cl c)) (noat : m ∉ G.nm c) (hr : Room (k + 3) X.A) : MethG G X c m sg := by
  obtain ⟨f, fd, h1, b, F⟩ := o
  exact ⟨cls, noat, k, f, fd, ps, h1, F, hr, b⟩
structure GCall (K : PySem.W.Frag) (C : Addr) (qual : Str) (st : Stmt) (ps : List Str) : Prop where
  ex : ∃ f fd, StX.CallO K C f ∧ Fun K "__call__" qual st f fd ∧ Binds K fd ps []
structure OkCall (P : Program) (w : World) (K : PySem.W.Frag) (mg : Str → Option Value) (base : Heap) (gd : Bool) (k : Nat) (C : Addr) (ps : List Str) (sp : Sp) : Prop where
  ex : ∃ f fd, StX.CallO K C f ∧ Binds K fd ps [] ∧ FnG P w K mg base gd k f fd ps sp
theorem okCall (g : GCall K C qual st ps) (S : FnScope N ps (defScope st))
    (hb : ∀ (f : Addr) (cdv : Value) (A : Around) (out : List Env) (s : Shared) (H : Hp) (E : XK), Room k (A.deeper (envOfC qual (defScope st) s.heap.objs.size f cdv)) → (gd = true → (A.deeper (envOfC qual (defScope st) s.heap.objs.size f cdv)).guards = some []) → DSs G (cxOf (L2.CX P w) P w K mg base N qual (defScope st) f cdv A out s H E) (defBody st) wb) :
    OkCall P w K mg base gd (k + 1) C ps (lift G K (spOf ps.length N.length wb)) := by
  obtain ⟨f, fd, h1, F, b⟩ := g
  exact ⟨f, fd, h1, b, okD F S (hb f)⟩
theorem cd_of (o : OkCall X.prog X.w X.K X.mg X.base gd k (G.cl c) ps (lift G X.K sp)) (hr : Room k X.A) (hgd : gd = true → X.A.guards = some []) : CallD G X c sp := by
  obtain ⟨f, fd, h1, b, F⟩ := o
  exact ⟨gd, k, f, fd, ps, h1, F, hr, hgd, b⟩
structure GProp (K : PySem.W.Frag) (C : Addr) (m qual : Str) (st : Stmt) (ps : List Str) : Prop where
  ex : ∃ p g fd, PropOf K C m p g ∧ Fun K m qual st g fd ∧ Binds K fd ps []
structure OkProp (P : Program) (w : World) (K : PySem.W.Frag) (mg : Str → Option Value) (base : Heap) (gd : Bool) (k : Nat) (C : Addr) (m : Str) (ps : List Str) (sp : Sp) : Prop where
  ex : ∃ p g fd, PropOf K C m p g ∧ Binds K fd ps [] ∧ FnG P w K mg base gd k g fd ps sp
theorem okProp (g : GProp K C m qual st ps) (S : FnScope N ps (defScope st))
    (hb : ∀ (f : Addr) (cdv : Value) (A : Around) (out : List Env) (s : Shared) (H : Hp) (E : XK), Room k (A.deeper (envOfC qual (defScope st) s.heap.objs.size f cdv)) → (gd = true → (A.deeper (envOfC qual (defScope st) s.heap.objs.size f cdv)).guards = some []) → DSs G (cxOf (L2.CX P w) P w K mg base N qual (defScope st) f cdv A out s H E) (defBody st) wb) :
    OkProp P w K mg base gd (k + 1) C m ps (lift G K (spOf ps.length N.length wb)) := by
  obtain ⟨p, f, fd, h1, F, b⟩ := g
  exact ⟨p, f, fd, h1, b, okD F S (hb f)⟩
theorem pd_of (o : OkProp X.prog X.w X.K X.mg X.base gd k (G.cl c) m ps (lift G X.K sp)) (cls : Cls X.K (G.cl c)) (hr : Room (k + 1) X.A) (hgd : gd = true → X.A.guards = some []) : PropD G X c m sp := by
  obtain ⟨p, f, fd, h1, b, F⟩ := o
  exact ⟨cls, gd, p, f, k, fd, ps, h1, F, hr, hgd, b⟩
/-! ### C(..) -/
structure GInit (K : PySem.W.Frag) (C : Addr) (qual : Str) (st : Stmt) (kws : List (Str × V)) : Prop where
  ex : ∃ f fd, Mk K C f ∧ FunD K "__init__" qual (defArgs st) (defBody st) (defScope st) [] kws f fd
structure OkInit (P : Program) (w : World) (K : PySem.W.Frag) (mg : Str → Option Value) (base : Heap) (gd : Bool) (k : Nat) (C : Addr) (qual : Str) (st : Stmt) (kws : List (Str × V)) (ps : List Str) (sp : Sp) : Prop where
  ex : ∃ f fd, Mk K C f ∧ FunD K "__init__" qual (defArgs st) (defBody st) (defScope st) [] kws f fd ∧ FnG P w K mg base gd k f fd ps sp
theorem funD_fun {x : Str} {f : Addr} {fd : FuncData} (F : FunD K x qual (defArgs st) (defBody st) (defScope st) [] kws f fd) : Fun K x qual st f fd := by
  obtain ⟨oc, od, dV, kV, doc, pm, an, cdv, ct, osl, e, lk, hcd, hD, hK⟩ := F.ex
  rcases hD with ⟨_, z⟩ | ⟨z, _⟩
  · subst z
    exact ⟨⟨oc, od, kV, doc, pm, an, cdv, ct, osl, e, lk, hcd⟩, F.kp⟩
  · exact absurd rfl z
theorem okInit (g : GInit K C qual st kws) (S : FnScope N ps (defScope st))
    (hb : ∀ (f : Addr) (cdv : Value) (A : Around) (out : List Env) (s : Shared) (H : Hp) (E : XK), Room k (A.deeper (envOfC qual (defScope st) s.heap.objs.size f cdv)) → (gd = true → (A.deeper (envOfC qual (defScope st) s.heap.objs.size f cdv)).guards = some []) → DSs G (cxOf (L2.CX P w) P w K mg base N qual (defScope st) f cdv A out s H E) (defBody st) wb) :
    OkInit P w K mg base gd (k + 1) C qual st kws ps (lift G K (spOf ps.length N.length wb)) := by
  obtain ⟨f, fd, h1, F⟩ := g
  exact ⟨f, fd, h1, F, okD (funD_fun F) S (hb f)⟩
variable {x : Str} {p pos : Pos} {e : Expr} {es : List Expr} {wa wk : WA} {kwl : List Keyword}
/-- C(e, ..), every parameter written -/
theorem de_new (o : OkInit X.prog X.w X.K X.mg X.base gd k (G.cl c) qual st [] ps (lift G X.K sp)) (hr : Room (k + 1) X.A) (hgd : gd = true → X.A.guards = some []) (hm : X.mg x = some (.ref (G.cl c)))
    (hch : ∀ (kV doc pm : Value) (an : Option Addr) (cdv ct : Value) (us : List Value), us.length = ps.length → bindArgs (PySem.W.fnOf "__init__" qual (defArgs st) (defBody st) (defScope st) .none kV doc pm an cdv ct) ⟨us, []⟩ = pure (ps.zip us))
    (ha : DA G X (e :: es) wa) (hg : Gl X x := by rfl) (hdb : (x == ("__debug__" : Str)) = false := by decide) (he : starEach (e :: es) X.env = (false, eval e X.env) :: starEach es X.env := by rfl) (hpl : (backTo pos (starEach es X.env)).any (·.1) = false := by rfl) :
    DE G X (.Call (.Name x p) (e :: es) [] pos) (wMake c sp [] wa) := by
  obtain ⟨f, fd, mk, F, Fn⟩ := o
  exact de_make mk Fn hr hgd hm (F.bindsN hch) .nil Flat.nil ha hg hdb he hpl
/-- C(e, ..), the keyword-only ones are left out -/
theorem de_newD (o : OkInit X.prog X.w X.K X.mg X.base gd k (G.cl c) qual st kws ps (lift G X.K sp)) (hr : Room (k + 1) X.A) (hgd : gd = true → X.A.guards = some []) (hm : X.mg x = some (.ref (G.cl c))) (n : Nat) (hk : kws ≠ []) (hn : n + kws.length = ps.length) (hf : Flat G X.K (kws.map (·.2)) dds)
    (hch : ∀ (D : Addr) (doc pm : Value) (an : Option Addr) (cdv ct : Value) (us ks : List Value), us.length = n → ks.length = kws.length → KwChain D ((kws.map (·.1)).zip ks) (bindArgs (PySem.W.fnOf "__init__" qual (defArgs st) (defBody st) (defScope st) .none (.ref D) doc pm an cdv ct) ⟨us, []⟩) (ps.zip (us ++ ks)))
    (ha : DA G X (e :: es) wa) (hg : Gl X x := by rfl) (hdb : (x == ("__debug__" : Str)) = false := by decide) (he : starEach (e :: es) X.env = (false, eval e X.env) :: starEach es X.env := by rfl) (hpl : (backTo pos (starEach es X.env)).any (·.1) = false := by rfl) :
    DE G X (.Call (.Name x p) (e :: es) [] pos) (wMake c sp dds wa) := by
  obtain ⟨f, fd, mk, F, Fn⟩ := o
  obtain ⟨ds, hd, hb⟩ := F.binds0 n hk hn hch
  exact de_make mk Fn hr hgd hm hb hd hf ha hg hdb he hpl
/-- C(e, .., k = v, ..), no keyword-only parameter lacks -/
theorem de_newK (o : OkInit X.prog X.w X.K X.mg X.base gd k (G.cl c) qual st kws ps (lift G X.K sp)) (hr : Room (k + 1) X.A) (hgd : gd = true → X.A.guards = some []) (hm : X.mg x = some (.ref (G.cl c))) (n : Nat) (hk : kws ≠ [])
    (hch : ∀ (D : Addr) (doc pm : Value) (an : Option Addr) (cdv ct : Value) (us ws : List Value), us.length = n + 1 → ws.length = ks.length → bindArgs (PySem.W.fnOf "__init__" qual (defArgs st) (defBody st) (defScope st) .none (.ref D) doc pm an cdv ct) ⟨us, ks.zip ws⟩ = pure (ps.zip (us ++ ws)))
    (ha : DA G X (e :: es) wa) (hkw : DK G X kwl wk) (hks : (backToKw pos (keywordEach kwl X.env)).filterMap (·.1) = ks := by rfl) (hg : Gl X x := by rfl)
    (hall : (backToKw pos (keywordEach kwl X.env)).all (·.1.isSome) = true := by rfl) (hdb : (x == ("__debug__" : Str)) = false := by decide)
    (he : starEach (e :: es) X.env = (false, eval e X.env) :: starEach es X.env := by rfl) (hpl : ((backTo pos (starEach (e :: es) X.env)).any (·.1) || (backToKw pos (keywordEach kwl X.env)).any (·.1.isNone)) = false := by rfl) :
    DE G X (.Call (.Name x p) (e :: es) kwl pos) (wMakeK c n ks.length (fun ds es => ds ++ es) sp wa wk) := by
  obtain ⟨f, fd, mk, F, Fn⟩ := o
  obtain ⟨mv, hb⟩ := F.kbinds0 (ps := ps) (n + 1) ks [] (fun us mv ws => us ++ ws) hk (fun _ z => by cases z) (fun r1 _ r3 => r1.append r3) (fun D doc pm an cdv ct us mv ws l1 _ l3 => by
    have z := hch D doc pm an cdv ct us ws l1 l3
    exact z)
  exact de_makeK mk Fn hr hgd hm ⟨_, _, hb, fun F vs ds zs es r1 r2 => r1.app r2⟩ ha hkw hg hall hks hdb he hpl
end
end DL
namespace DL
open PySem PySem.Spec L2
open PyProof.Rows hiding St
section
variable {G : Cfg} {X : Cx} {e : Expr}
theorem de_weak {w w' : WE} (h : DE G X e w) (i : ∀ δ M Q EX, w' δ M Q EX → w δ M Q EX) : DE G X e w' := pe_imp h fun σ H P ⟨F, M, δ, Q, EX, hm, rs, h, tk, f⟩ => ⟨F, M, δ, Q, EX, hm, rs, i _ _ _ _ h, tk, f⟩
theorem de_cvalN {C : Addr} {x f : Str} {d : D} {p pos : Pos} (k : CK G X.K C f d) (hm : X.mg x = some (.ref C)) (hg : Gl X x := by rfl) (hd : (x == ("__debug__" : Str)) = false := by decide) (hb : attributeBase (.Name x p) f X.env (eval (.Name x p) X.env) = eval (.Name x p) X.env := by rfl) :
    DE G X (.Attribute (.Name x p) f pos) (wC d) := de_weak (de_cval k (de_cls hm (show RelV (.ref C) (.ref C) from rfl) hg hd) hb) fun δ M Q EX h => ⟨rfl, h⟩
def wIsi1 (tb : Ty → Option Bool) (we : WE) : WE := fun δ M Q EX => we δ M (kIsi tb Q) EX
theorem de_isi {we : WE} {cv : V} {u : Value} {tb : Ty → Option Bool} {c : Expr} {p pos : Pos} (k : ClsV cv u) (T : IsiT G X.K u tb) (hm : X.mg "isinstance" = none) (h : DE G X e we) (hc : DE G X c (wC (.raw cv))) (hg : Gl X "isinstance" := by rfl)
    (he : starEach (e :: [c]) X.env = (false, eval e X.env) :: starEach [c] X.env := by rfl) (he2 : starEach [c] X.env = (false, eval c X.env) :: starEach [] X.env := by rfl) (hpl : (backTo pos (starEach [c] X.env)).any (·.1) = false := by rfl) :
    DE G X (.Call (.Name "isinstance" p) [e, c] [] pos) (wIsi1 tb we) := by
  refine de_weak (de_callB (sim_isi k T) call_isi hm (by decide +kernel) (da_cons h (da_cons hc da_nil he2) he) hg (by decide) (by decide) he hpl) fun δ M Q EX h => ?_
  have z : (fun d M1 => cv = cv ∧ kIsi tb Q d M1) = kIsi tb Q := by
    funext d M1
    exact propext ⟨fun h => h.2, fun h => ⟨rfl, h⟩⟩
  show we δ M (fun d M1 => cv = cv ∧ kIsi tb Q d M1) EX
  rw [z]
  exact h
theorem tb_nil {α : Type} {P : α → Prop} : ∀ p ∈ ([] : List α), P p := fun _ h => nomatch h
theorem tb_cons {α : Type} {P : α → Prop} {a : α} {l : List α} (h : P a) (t : ∀ p ∈ l, P p) : ∀ p ∈ a :: l, P p := fun p hp => by
  rcases List.mem_cons.mp hp with e | hp
  · rw [e]; exact h
  · exact t p hp
end
end DL

set_option Elab.async false
set_option linter.all false
set_option maxRecDepth 100000
namespace DL
open PySem PySem.Spec L2
open PyProof.Rows hiding St
/-! ### repr and == of data: what must be shown of the data -/
structure Sho (p : PyData) : Prop where
  sh : p.showable = true
  nd : p.hasDict = false
  dp : p.depth ≤ 64
  le : p.shown.length ≤ sizeLine
/-- ==, != of texts and ints alone; of other data by their data -/
def wEq2 : WR2 := fun x y M Q => match x, y with
  | .str s, .str t => Q (.bl (decide (s = t))) M
  | .int i, .int j => Q (.bl (decide (i = j))) M
  | x, y => wEq x y M Q
def wNe2 : WR2 := fun x y M Q => match x, y with
  | .str s, .str t => Q (.bl (!decide (s = t))) M
  | .int i, .int j => Q (.bl (!decide (i = j))) M
  | x, y => wNe x y M Q
theorem dec_inj {α β : Type} [DecidableEq α] [DecidableEq β] {f : α → β} (hf : ∀ a b, f a = f b → a = b) {a b : α} : decide (f a = f b) = decide (a = b) := by
  by_cases h : a = b
  · subst h; simp
  · rw [decide_eq_false h, decide_eq_false fun z => h (hf _ _ z)]
theorem sim_eq2 {G : Cfg} {K : PySem.W.Frag} : Sim2 G K (orR rEq (rEqD K)) wEq2 := by
  intro F M H x y dx dy Q P hm rx ry hw f
  unfold wEq2 at hw
  split at hw
  · cases rx; cases ry
    refine .inl ⟨rfl, f _ _ F M H (.refl hm) (.bl _) ?_⟩
    rw [dec_inj (f := V.str) (fun a b z => by injection z)]
    exact hw
  · cases rx; cases ry
    refine .inl ⟨rfl, f _ _ F M H (.refl hm) (.bl _) ?_⟩
    rw [dec_inj (f := V.int) (fun a b z => by injection z)]
    exact hw
  · exact .inr (sim_eq F M H x y _ _ Q P hm rx ry hw f)
theorem sim_ne2 {G : Cfg} {K : PySem.W.Frag} : Sim2 G K (orR rNe (rNeD K)) wNe2 := by
  intro F M H x y dx dy Q P hm rx ry hw f
  unfold wNe2 at hw
  split at hw
  · cases rx; cases ry
    refine .inl ⟨rfl, f _ _ F M H (.refl hm) (.bl _) ?_⟩
    rw [dec_inj (f := V.str) (fun a b z => by injection z)]
    exact hw
  · cases rx; cases ry
    refine .inl ⟨rfl, f _ _ F M H (.refl hm) (.bl _) ?_⟩
    rw [dec_inj (f := V.int) (fun a b z => by injection z)]
    exact hw
  · exact .inr (sim_ne F M H x y _ _ Q P hm rx ry hw f)
theorem sho_none : Sho .none := ⟨by decide +kernel, by decide +kernel, by decide +kernel, by decide +kernel⟩
theorem int_lt {x : Int} (h : -(2 ^ 100) < x ∧ x < 2 ^ 100) : x.natAbs.log2 < 100 := by
  by_cases h0 : x.natAbs = 0
  · rw [h0]; decide
  · exact (Nat.log2_lt h0).mpr (by omega)
theorem shown_int_le {x : Int} (h : -(2 ^ 100) < x ∧ x < 2 ^ 100) : (PyData.shown (.int x)).length ≤ 101 := by
  have z := int_text_length_le (k := 100) (by decide) (int_lt h)
  simp only [PyData.shown]
  rw [PySem.ofString_length]
  exact z
theorem leavesAll_ints : ∀ {ns : List Int}, (∀ x ∈ ns, -(2 ^ 100) < x ∧ x < 2 ^ 100) → PyData.leavesShortAll 101 (ns.map .int) = true
  | [], _ => by simp only [List.map_nil, PyData.leavesShortAll]
  | n :: ns, h => by
    simp only [List.map_cons, PyData.leavesShortAll, PyData.leavesShort, Bool.and_eq_true, decide_eq_true_eq]
    exact ⟨shown_int_le (h n List.mem_cons_self), leavesAll_ints fun x hx => h x (List.mem_cons_of_mem _ hx)⟩
theorem bulkAll_ints : ∀ ns : List Int, PyData.bulkAll (ns.map .int) = ns.length
  | [] => by simp only [List.map_nil, PyData.bulkAll, List.length_nil]
  | n :: ns => by simp only [List.map_cons, PyData.bulkAll, PyData.bulk, bulkAll_ints ns, List.length_cons]; omega
theorem noDictAll_ints : ∀ ns : List Int, PyData.hasDictAll (ns.map .int) = false
  | [] => by simp only [List.map_nil, PyData.hasDictAll]
  | n :: ns => by simp only [List.map_cons, PyData.hasDictAll, PyData.hasDict, noDictAll_ints ns, Bool.or_self]
theorem sho_int {x : Int} (h : -(2 ^ 100) < x ∧ x < 2 ^ 100) : Sho (.int x) := ⟨by
  simp only [PyData.showable, decide_eq_true_eq]
  exact Nat.lt_trans (int_lt h) (by decide), by simp only [PyData.hasDict], by simp only [PyData.depth]; omega, by
  have := shown_int_le h
  rw [sizeLine_eq]; omega⟩
theorem sho_list {ns : List Int} (h : ∀ x ∈ ns, -(2 ^ 100) < x ∧ x < 2 ^ 100) (hl : ns.length ≤ 10000) : Sho (.list (ns.map .int)) := by
  refine ⟨?_, ?_, ?_, ?_⟩
  · simp only [PyData.showable]
    exact PyData.showableAll_ints ns fun x hx => Nat.lt_trans (int_lt (h x hx)) (by decide)
  · simp only [PyData.hasDict, noDictAll_ints]
  · simp only [PyData.depth, depth_ints]; omega
  · have z := PyData.shown_le_bulk 101 (by decide) (.list (ns.map .int)) (by simp only [PyData.leavesShort]; exact leavesAll_ints h)
    simp only [PyData.bulk, bulkAll_ints] at z
    rw [sizeLine_eq]; omega
theorem sho_tuple {ns : List Int} (h : ∀ x ∈ ns, -(2 ^ 100) < x ∧ x < 2 ^ 100) (hl : ns.length ≤ 10000) : Sho (.tuple (ns.map .int)) := by
  refine ⟨?_, ?_, ?_, ?_⟩
  · simp only [PyData.showable]
    exact PyData.showableAll_ints ns fun x hx => Nat.lt_trans (int_lt (h x hx)) (by decide)
  · simp only [PyData.hasDict, noDictAll_ints]
  · simp only [PyData.depth, depth_ints]; omega
  · have z := PyData.shown_le_bulk 101 (by decide) (.tuple (ns.map .int)) (by simp only [PyData.leavesShort]; exact leavesAll_ints h)
    simp only [PyData.bulk, bulkAll_ints] at z
    rw [sizeLine_eq]; omega
section
variable {M : MM} {Q : D → MM → Prop} {d x y : D} {p : PyData}
theorem at_repr (h : py M d = some p) (s : Sho p) (q : Q (.str p.shown) M) : wRepr [d] M Q := by
  unfold wRepr
  exact ⟨p, h, s.sh, s.nd, s.dp, s.le, q⟩
theorem py_str {s : Str} : py M (.str s) = some (.str s) := by unfold py; simp only [toPy]
theorem py_int {i : Int} : py M (.int i) = some (.int i) := by unfold py; simp only [toPy]
theorem py_non : py M .non = some .none := by unfold py; simp only [toPy]
theorem py_lst {ns : List Int} : py M (.lst (ns.map D.int)) = some (.list (ns.map .int)) := by unfold py; exact toPy_lst (toPys_ints ns)
theorem py_tup {ns : List Int} : py M (.tup (ns.map D.int)) = some (.tuple (ns.map .int)) := by unfold py; exact toPy_tup (toPys_ints ns)
theorem lints_mut {a : Addr} {ns : List Int} (h : M a = some (.lst (ns.map D.int))) : lintsOf M (.raw (.ref a)) = some ns := by
  unfold lintsOf; rw [lst_mut h]; exact intsOf_ints ns
theorem lints_lst {ns : List Int} : lintsOf M (.lst (ns.map D.int)) = some ns := intsOf_ints ns
theorem at_cat {xs ys : List D} (h1 : lstOf M x = some xs) (h2 : lstOf M y = some ys) (hl : xs.length + ys.length ≤ sizeLine) (q : Q (.lst (xs ++ ys)) M) : wCat x y M Q := by
  unfold wCat; rw [h1, h2]; exact ⟨hl, q⟩
theorem at_sort {ns : List Int} (h : lintsOf M d = some ns) (q : ∀ s : List Int, s.Perm ns → s.Pairwise (· ≤ ·) → Q (.lst (s.map D.int)) M) : wSorted [d] M Q := by
  unfold wSorted; dsimp only; rw [h]; exact q
theorem at_sortM {ns : List Int} (h : lintsOf M d = some ns) (q : ∀ s : List Int, s.Perm ns → s.Pairwise (· ≤ ·) → ∀ p, M p = none → Q (.raw (.ref p)) (updM M p (.lst (s.map D.int)))) : wSortedM [d] M Q := by
  unfold wSortedM; dsimp only; rw [h]; exact q
theorem at_max {ns : List Int} (h : lintsOf M d = some ns) (l : 0 < ns.length) (q : ∀ m, m ∈ ns → (∀ y, y ∈ ns → y ≤ m) → Q (.int m) M) : wMax [d] M Q := by
  unfold wMax; dsimp only; rw [h]; exact ⟨l, q⟩
theorem at_min {ns : List Int} (h : lintsOf M d = some ns) (l : 0 < ns.length) (q : ∀ m, m ∈ ns → (∀ y, y ∈ ns → m ≤ y) → Q (.int m) M) : wMin [d] M Q := by
  unfold wMin; dsimp only; rw [h]; exact ⟨l, q⟩
theorem at_tupOf {xs : List D} (h : seqOf M d = some xs) (q : Q (.tup xs) M) : wTupOf [d] M Q := by
  unfold wTupOf; dsimp only; rw [h]; exact q
theorem at_rev {xs : List D} (h : lstOf M d = some xs) (q : Q (.lst xs.reverse) M) : kRev Q d M := by
  unfold kRev; rw [h]; exact q
theorem at_revT {xs : List D} (q : Q (.tup xs.reverse) M) : kRev Q (.tup xs) M := by
  unfold kRev; exact q
theorem at_pop {a : Addr} {xs : List D} (h : xs[xs.length - 1]? = some d) (q : Q d (updM M a (.lst xs.dropLast))) : wPop a xs [] M Q := by
  unfold wPop; dsimp only; rw [h]; exact q
theorem at_pop0 {a : Addr} {xs : List D} (h : xs[0]? = some d) (q : Q d (updM M a (.lst (xs.eraseIdx 0)))) : wPopAt a xs [.int 0] M Q := by
  have e : seqIndex? 0 xs.length = some 0 := by
    cases xs with
    | nil => cases h
    | cons y ys => simp [seqIndex?]
  unfold wPopAt; dsimp only
  refine ⟨⟨by decide, by decide⟩, ?_⟩
  rw [e]; dsimp only; rw [h]; exact q
theorem ins_mut {a : Addr} {c : Nat} {fs : List D} (h : M a = some (.ins c fs)) : insOf M (.raw (.ref a)) = some (c, fs) := by
  unfold insOf; dsimp only; rw [h]
theorem at_fld {cs : List (Nat × Nat)} {c i : Nat} {fs : List D} (h : insOf M d = some (c, fs)) (h2 : cs.lookup c = some i) (h3 : fs[i]? = some x) (q : Q x M) : kFld cs Q d M := by
  unfold kFld; rw [h]; dsimp only; rw [h2]; dsimp only; rw [h3]; exact q
theorem at_fldSet {cs : List (Nat × Nat)} {nx : MM → Prop} {v : D} {a : Addr} {c i : Nat} {fs : List D} (h : M a = some (.ins c fs)) (h2 : cs.lookup c = some i) (hi : i < fs.length) (q : nx (updM M a (.ins c (fs.set i v)))) : kFldPut cs nx v (.raw (.ref a)) M := by
  unfold kFldPut; dsimp only; rw [h]; dsimp only; rw [h2]; exact .inl ⟨hi, q⟩
theorem at_fldNew {cs : List (Nat × Nat)} {nx : MM → Prop} {v : D} {a : Addr} {c i : Nat} {fs : List D} (h : M a = some (.ins c fs)) (h2 : cs.lookup c = some i) (hi : i = fs.length) (q : nx (updM M a (.ins c (fs ++ [v])))) : kFldPut cs nx v (.raw (.ref a)) M := by
  unfold kFldPut; dsimp only; rw [h]; dsimp only; rw [h2]; exact .inr ⟨hi, q⟩
theorem drop_last {α : Type} : ∀ xs : List α, xs.dropLast = xs.eraseIdx (xs.length - 1)
  | [] => rfl
  | [_] => rfl
  | x :: y :: ys => by
    have z := drop_last (y :: ys)
    show x :: (y :: ys).dropLast = (x :: y :: ys).eraseIdx (ys.length + 1)
    rw [z]
    rfl
theorem map_erase : ∀ (xs : List Int) (i : Nat), (xs.map D.int).eraseIdx i = (xs.eraseIdx i).map D.int
  | [], _ => rfl
  | x :: xs, 0 => rfl
  | x :: xs, i + 1 => by
    show D.int x :: (xs.map D.int).eraseIdx i = D.int x :: (xs.eraseIdx i).map D.int
    rw [map_erase xs i]
end
theorem at_iterF' {Q : IT → MM → Prop} {M : MM} {ds : List D} (q : Q { items := ds } M) : kiS Q (.lst ds) M := by
  unfold kiS; exact q
/-! ### what stays of the changing part -/
/-- M' keeps what was there, but for S, which is there still -/
def Kp (S : List Addr) (M M' : MM) : Prop := ∀ b, M b ≠ none → M' b ≠ none ∧ (b ∉ S → M' b = M b)
theorem Kp.refl {S : List Addr} {M : MM} : Kp S M M := fun _ h => ⟨h, fun _ => rfl⟩
theorem Kp.trans {S : List Addr} {M M1 M2 : MM} (a : Kp S M M1) (b : Kp S M1 M2) : Kp S M M2 := fun c h1 =>
  ⟨(b c (a c h1).1).1, fun h2 => ((b c (a c h1).1).2 h2).trans ((a c h1).2 h2)⟩
theorem Kp.mono {S T : List Addr} {M M' : MM} (a : Kp S M M') (h : ∀ b ∈ S, b ∈ T) : Kp T M M' := fun c h1 => ⟨(a c h1).1, fun h2 => (a c h1).2 fun z => h2 (h c z)⟩
theorem updM_some {M : MM} {p b : Addr} {o : MO} (h : M b ≠ none) : updM M p o b ≠ none := by
  by_cases e : b = p
  · rw [e, updM_same]; simp
  · rw [updM_ne e]; exact h
theorem kp_upd {S : List Addr} {M : MM} {p : Addr} {o : MO} (h : p ∈ S) : Kp S M (updM M p o) := fun b hb => ⟨updM_some hb, fun nb => updM_ne fun z => nb (z ▸ h)⟩
theorem kp_new {S : List Addr} {M : MM} {p : Addr} {o : MO} (h : M p = none) : Kp S M (updM M p o) := fun b hb => ⟨updM_some hb, fun _ => updM_ne fun z => hb (z ▸ h)⟩
theorem Kp.drop {S : List Addr} {M M1 M2 : MM} {q : Addr} (hq : M q = none) (a : Kp S M M1) (b : Kp (q :: S) M1 M2) : Kp S M M2 := fun c h1 => by
  have nq : c ≠ q := fun z => h1 (z ▸ hq)
  exact ⟨(b c (a c h1).1).1, fun h2 => ((b c (a c h1).1).2 (by simp [nq, h2])).trans ((a c h1).2 h2)⟩
theorem Kp.some {S : List Addr} {M M' : MM} {b : Addr} {o : MO} (a : Kp S M M') (h : M b = some o) (n : b ∉ S) : M' b = some o := by rw [(a b (by rw [h]; simp)).2 n]; exact h
theorem Kp.none {S : List Addr} {M M' : MM} {b : Addr} (a : Kp S M M') (h : M' b = none) : M b = none := by
  cases e : M b with
  | none => rfl
  | some o => exact absurd h (a b (by rw [e]; simp)).1
end DL

set_option Elab.async false
set_option linter.all false
set_option maxRecDepth 100000
/-! positional promises; own operators -/
namespace PySem.W
open PySem PySem.Calls PyProof.Rows
/-- none of the classes above C has the number slot -/
def noNum (K : Frag) (C : Addr) (d r : Str) : Bool := (clsIn K C).any fun cd => cd.mro.all fun c => (match c with | .type _ => true | .ref _ => true | _ => false) && (findIn K c d == some none) && (findIn K c r == some none)
theorem looks_noNum {K : Frag} {M : Model} {h : Heap} {C : Addr} {nm : String} (X : K.In h) (e : noNum K C (PySem.dunder nm) (dunderR nm) = true) : Looks M h (fillsNumberSlot (.ref C) nm) false := by
  unfold noNum at e
  obtain ⟨cd, hcd, hm⟩ := any_some e
  intro A Q E s k q
  have Lm : Looks M h (mroOf (.ref C)) cd.mro := (looks_clsIn X hcd).andThen (f := fun cd => pure cd.mro) .now
  unfold fillsNumberSlot
  refine wpAny_bind (Lm A _ E s k ?_)
  have go : ∀ l : List Value, (l.all fun c => (match c with | .type _ => true | .ref _ => true | _ => false) && (findIn K c (PySem.dunder nm) == some none) && (findIn K c (dunderR nm) == some none)) = true →
      wpAny M A (l.anyM fun c => do
        if let .type _ := c then return ← (do
          let f ← typeLookup c (PySem.dunder nm)
          let r ← typeLookup c (dunderR nm)
          return (f.isSome && !isSeqSlot f) || (r.isSome && !isSeqSlot r))
        [PySem.dunder nm, dunderR nm].anyM fun name => do
          let some x ← typeLookup c name | return false
          if !ownNameWrapper x name then return true
          return !(← inheritsSeqSlot c name)) Q E s := by
    intro l
    induction l with
    | nil => intro _; exact wpAny_pure q
    | cons c r ih =>
      intro hall
      rw [List.all_cons] at hall
      obtain ⟨h1, h2⟩ := Bool.and_eq_true_iff.mp hall
      obtain ⟨h3, h4⟩ := Bool.and_eq_true_iff.mp h1
      obtain ⟨h5, h6⟩ := Bool.and_eq_true_iff.mp h3
      have L1 : Looks M h (typeLookup c (PySem.dunder nm)) none := looks_findIn X (beq_iff_eq.mp h6)
      have L2 : Looks M h (typeLookup c (dunderR nm)) none := looks_findIn X (beq_iff_eq.mp h4)
      have L1' := L1.keeps k
      have L2' := L2.keeps k
      have ih' := ih h2
      rw [List.anyM_cons]
      refine wpAny_bind ?_
      cases c with
      | type T =>
        refine wpAny_bind (L1'.here (wpAny_bind (L2'.here ?_)))
        exact wpAny_pure ih'
      | ref a =>
        show wpAny M A (List.anyM _ [PySem.dunder nm, dunderR nm]) _ _ _
        rw [List.anyM_cons]
        refine wpAny_bind (wpAny_bind (L1'.here ?_))
        refine wpAny_pure ?_
        rw [if_neg Bool.false_ne_true, List.anyM_cons]
        refine wpAny_bind (wpAny_bind (L2'.here ?_))
        refine wpAny_pure ?_
        rw [if_neg Bool.false_ne_true]
        exact wpAny_pure ih'
      | _ => exact absurd h5 Bool.false_ne_true
  exact go cd.mro hm
end PySem.W
namespace PySem.W
open PySem PySem.Calls PyProof.Rows
section
variable {prog : Program} {w : World} {A : Around} {E : Value → Shared → Prop} {s : Shared} {K : Frag} {x C C' L f : Addr} {h₀ : Heap} {m : Str → Option Value} {ox : Obj} {od : Option Obj}
theorem kbin_O {op : Operator} {b : Value} {Q : Value → Shared → Prop} (X : K.In s.heap) (I : InstAt s.heap x ox C od) (hb : Looks (model prog w) s.heap (typeOf b) (.ref C')) (hne : C ≠ C') (hc : selfFirst K C = true)
    (hs : findIn K (.ref C) (PySem.dunder op.info.2) = some (some (.ref f))) (hf : isFn K (.ref f) = true) (hn : noNum K C' (PySem.dunder op.info.2) (dunderR op.info.2) = true)
    (h : wpAny (model prog w) A (call (.ref f) [.ref x, b]) (CmpBack Q) E s) : wpAny (model prog w) A (binaryOp op (.ref x) b) Q E s := by
  obtain ⟨cd, rest, hcd, hm⟩ := ksp_first hc
  have hneq : (Value.ref C == Value.ref C') = false := Bool.eq_false_iff.mpr fun q => by cases beq_iff_eq.mp q; exact hne rfl
  unfold binaryOp
  refine wpAny_holding (wpAny_bind ?_)
  unfold binaryOp1
  refine wpAny_bind (I.type.here (wpAny_bind (hb.here (wpAny_bind ((fills_K X hcd hm hs).here ?_)))))
  simp only [hneq, Bool.false_eq_true, if_false]
  refine wpAny_bind ((looks_noNum X hn).here ?_)
  simp only [Bool.and_false, Bool.false_eq_true, if_false, Bool.false_and]
  refine wpAny_bind (wpAny_pure ?_)
  simp only [Bool.false_eq_true, if_false]
  refine wpAny_bind (m := tryMethod (.ref x) _ b) ?_
  unfold tryMethod
  refine wpAny_bind (special_fn X I hs (beq_iff_eq.mp hf) (wpAny_mono h (fun v s' hv => ?_) fun _ _ e => e))
  cases v <;> first | exact hv.elim | exact wpAny_pure (wpAny_pure (wpAny_pure hv))
end
end PySem.W
namespace DL
open PySem PySem.Spec L2
open PyProof.Rows hiding St
/-- a def keeps its promise of positional arguments -/
structure FnP (P : Program) (w : World) (K : PySem.W.Frag) (mg : Str → Option Value) (base : Heap) (gd : Bool) (k : Nat) (f : Addr) (sp : Sp) : Prop where
  run : ∀ (A : Around) (out : List Env) (s : Shared) (H : Hp) (us : List Value) (vs : List V) (Q : VK) (E : XK), Room k A → (gd = true → A.guards = some []) → Env0 P w K mg base A out s H → Vals vs us → sp vs H Q E →
    codeAny (PySem.model P w) A (.call (.ref f) ⟨us, []⟩) (CR (L2.CX P w) out P w H s Q E) s
section
variable {P : Program} {w : World} {K : PySem.W.Frag} {mg : Str → Option Value} {base : Heap} {gd : Bool} {k : Nat} {f : Addr} {fd : FuncData} {ps : List Str} {sp : Sp}
theorem FnG.pos (F : FnG P w K mg base gd k f fd ps sp) (hb : Binds K fd ps []) : FnP P w K mg base gd k f sp := ⟨fun A out s H us vs Q E hr hg e0 r h => by
  have hn : us.length = ps.length := r.length.symm.trans (F.len _ _ _ _ h)
  have inK : K.In s.heap := e0.mod.kin.keeps (fun b o z => (e0.bs b o z).left)
  have b := hb s us inK (by rw [List.append_nil]; exact hn)
  rw [List.append_nil] at b
  exact F.run A out s H ⟨us, []⟩ us vs Q E hr hg e0 b r h⟩
theorem FnP.ofR (F : FnR P w K mg base (L2.CX P w) k f sp) : FnP P w K mg base false k f sp := ⟨fun A out s H us vs Q E hr hg e0 r h => F A out s H us vs Q E hr e0 r h⟩
theorem FnP.toR (F : FnP P w K mg base false k f sp) : FnR P w K mg base (L2.CX P w) k f sp := fun A out s H us vs Q E hr e0 r h => F.run A out s H us vs Q E hr (fun z => nomatch z) e0 r h
end
section
variable {G : Cfg} {X : Cx} {gd : Bool} {k : Nat} {f : Addr} {sp : SpD}
theorem runP_at (F : FnP X.prog X.w X.K X.mg X.base gd k f (lift G X.K sp)) (hr : Room k X.A) (hgd : gd = true → X.A.guards = some []) {pins : List (Addr × Obj)} {σ : St} {H : Hp} {s : Shared} {us : List Value} {vs : List V} {ds : List D} {F1 : Hp} {M1 : MM} {δ : DS} {Q : D → MM → Prop} {EX : XK'} {P : VK}
    (I : Inv X pins σ H s) (r : Vals vs us) (hm : HM G X.K F1 M1 H) (rs : RS G X.K F1 σ δ) (rl : RepL G X.K F1 vs ds) (h : sp ds M1 Q (fun xd M' => EX xd δ M')) (tk : Takes X (wX G X.K F1 M1 H EX)) (f' : Fin G X.K F1 M1 H Q P) :
    codeAny (model X.prog X.w) X.A (.call (.ref f) ⟨us, []⟩) (fun r s' => match r with | .ok (.ret v) => EP X pins σ P v s' | .ok _ => False | .error e => X.xe e s') s := by
  have hl' := lift_at (P := P) hm rs rl h f'
  refine codeAny_mono (F.run X.A X.stack s H us vs P _ hr hgd I.env0 r hl') (fun res s' hq => ?_)
  match res, hq with
  | .error z, hq => exact passAt tk σ pins H s z s' I hq
  | .ok (.ret u), hq => exact I.after hq
theorem callP_at (F : FnP X.prog X.w X.K X.mg X.base gd k f (lift G X.K sp)) (hr : Room k X.A) (hgd : gd = true → X.A.guards = some []) {pins : List (Addr × Obj)} {σ : St} {H : Hp} {s : Shared} {us : List Value} {vs : List V} {ds : List D} {F1 : Hp} {M1 : MM} {δ : DS} {Q : D → MM → Prop} {EX : XK'} {P : VK}
    (I : Inv X pins σ H s) (r : Vals vs us) (hm : HM G X.K F1 M1 H) (rs : RS G X.K F1 σ δ) (rl : RepL G X.K F1 vs ds) (h : sp ds M1 Q (fun xd M' => EX xd δ M')) (tk : Takes X (wX G X.K F1 M1 H EX)) (f' : Fin G X.K F1 M1 H Q P) :
    wpAny (model X.prog X.w) X.A (call (.ref f) us) (EP X pins σ P) X.xe s :=
  wpAny_call (codeAny_mono (runP_at F hr hgd I r hm rs rl h tk f') fun res s' hq => by
    match res, hq with
    | .error z, hq => exact hq
    | .ok (.ret u), hq => exact hq)

/-! ### operators, with what they may raise -/
abbrev WR2X := D → D → DS → MM → (D → MM → Prop) → XK' → Prop
def DOp (G : Cfg) (X : Cx) (f : Value → Value → Sem Value) (w : WR2X) : Prop :=
  ∀ (pins : List (Addr × Obj)) (s : Shared) (σ : St) (H : Hp) (x y : V) (v u : Value) (F : Hp) (M : MM) (δ : DS) (dx dy : D) (Q : D → MM → Prop) (EX : XK') (P : VK), Inv X pins σ H s → RelV x v → RelV y u → HM G X.K F M H → RS G X.K F σ δ → Rep G X.K F x dx → Rep G X.K F y dy →
    w dx dy δ M Q EX → Takes X (wX G X.K F M H EX) → Fin G X.K F M H Q P → wpAny (model X.prog X.w) X.A (f v u) (EP X pins σ P) X.xe s
def wOpX (w : WR2X) (wa wb : WE) : WE := fun δ M Q EX => wa δ M (fun x M1 => wb δ M1 (fun y M2 => w x y δ M2 Q EX) EX) EX
variable {a b : Expr} {wa wb : WE} {pos : Pos} {w : WR2X}
theorem dop_run {f : Value → Value → Sem Value} (ho : DOp G X f w) (ha : DE G X a wa) (hb : DE G X b wb) {pins : List (Addr × Obj)} {σ : St} {H : Hp} {s : Shared} {F1 : Hp} {M1 : MM} {δ : DS} {Q : D → MM → Prop} {EX : XK'} {P : VK}
    (I : Inv X pins σ H s) (hm : HM G X.K F1 M1 H) (rs : RS G X.K F1 σ δ) (h : wOpX w wa wb δ M1 Q EX) (tk : Takes X (wX G X.K F1 M1 H EX)) (f' : Fin G X.K F1 M1 H Q P) :
    wpAny (model X.prog X.w) X.A (eval a X.env) (fun v s1 => wpAny (model X.prog X.w) X.A (eval b X.env) (fun u s2 => wpAny (model X.prog X.w) X.A (f v u) (EP X pins σ P) X.xe s2) X.xe s1) X.xe s := by
  refine thn (de_run ha I hm rs h tk) fun v s1 ⟨x, H1, I1, rx, dx, F2, M2, g2, rdx, h2⟩ => ?_
  refine thn (de_run hb I1 g2.hm (rs.mono g2.ext) h2 (tk.imp (wX_mono g2))) fun u s2 ⟨y, H3, I3, ry, dy, F3, M3, g3, rdy, h3⟩ => ?_
  have g := g2.trans g3
  exact ho pins s2 σ H3 x y v u F3 M3 δ dx dy Q EX P I3 rx ry g3.hm (rs.mono g.ext) (rdx.mono g3.ext) rdy h3 (tk.imp (wX_mono g)) fun v d F' M' H' g' r q => f' v d F' M' H' (g.trans g') r q
theorem de_opX {op : Operator} (ho : DOp G X (binaryOp op) w) (ha : DE G X a wa) (hb : DE G X b wb) : DE G X (.BinOp a op b pos) (wOpX w wa wb) :=
  ⟨fun pins s σ H Q I ⟨F1, M1, δ, Q', EX, hm1, rs, h, tk, fin⟩ => wpAny_BinOp (dop_run ho ha hb I hm1 rs h tk fin)⟩
theorem de_cmpX {op : CmpOp} (ho : DOp G X (compareOp op) w) (ha : DE G X a wa) (hb : DE G X b wb) (hm : behindInMarks op b = false) : DE G X (.Compare a [op] [b] pos) (wOpX w wa wb) :=
  ⟨fun pins s σ H Q I ⟨F1, M1, δ, Q', EX, hm1, rs, h, tk, fin⟩ => wpAny_Compare1 (dop_run ho ha hb I hm1 rs h tk fin) hm⟩
theorem dt_cmpX {op : CmpOp} (ho : DOp G X (compareOp op) w) (ha : DE G X a wa) (hb : DE G X b wb) (hm : behindInMarks op b = false) : DT G X (.Compare a [op] [b] pos) (wTst (wOpX w wa wb)) := by
  refine ⟨fun pins s σ H Q I ⟨F1, M1, δ, Q', EX, hm1, rs, h, tk, fin⟩ => ?_⟩
  have z := dop_run (P := fun v H' => ∃ k, v = .bl k ∧ Q k H') ho ha hb I hm1 rs h tk (fun v d F' M' H' g r ⟨k, e, q⟩ => by
    subst e
    cases r
    exact ⟨k, rfl, fin k F' M' H' g q⟩)
  refine wpAny_isTrue_Compare1 (thn z fun v s1 z1 => thn z1 fun u s2 z2 => thn z2 fun c s3 ⟨y, H3, I3, r3, k, e, q3⟩ => ?_) hm
  subst e
  cases r3
  exact wpAny_truthy_bool ⟨H3, I3, q3⟩
theorem dop_of {f : Value → Value → Sem Value} {r : R2} {w : WR2} (ho : OpR X f r) (s : Sim2 G X.K r w) : DOp G X f (fun x y _ M Q _ => w x y M Q) :=
  fun pins s' σ H x y v u F M δ dx dy Q EX P I rx ry hm rs rdx rdy h tk fin => ho pins s' σ H x y v u P I rx ry (s F M H x y dx dy Q P hm rdx rdy h fin)
/-- own instances on the left, or else -/
def wOwn (tb : List (Nat × (Ty → Bool) × SpD)) (w : WR2) : WR2X := fun x y δ M Q EX => match x with
  | .ins c _ => ∃ al sp t, tb.lookup c = some (al, sp) ∧ tyD M y = some t ∧ al t = true ∧ sp [x, y] M Q (fun xd M3 => EX xd δ M3)
  | _ => w x y M Q
theorem dop_own {f : Value → Value → Sem Value} {w : WR2} {tb : List (Nat × (Ty → Bool) × SpD)} (ho : DOp G X f (fun x y _ M Q _ => w x y M Q))
    (h1 : ∀ p ∈ tb, ∀ t, p.2.1 t = true → DOp G X f (fun x y δ M Q EX => (∃ fs, x = .ins p.1 fs) ∧ tyD M y = some t ∧ p.2.2 [x, y] M Q (fun xd M3 => EX xd δ M3))) : DOp G X f (wOwn tb w) := by
  intro pins s' σ H x y v u F M δ dx dy Q EX P I rx ry hm rs rdx rdy h tk fin
  unfold wOwn at h
  split at h
  · obtain ⟨al, sp, t, e1, e2, e3, q⟩ := h
    exact h1 _ (lookup_mem e1) t e3 pins s' σ H x y v u F M δ _ dy Q EX P I rx ry hm rs rdx rdy ⟨⟨_, rfl⟩, e2, q⟩ tk fin
  · exact ho pins s' σ H x y v u F M δ dx dy Q EX P I rx ry hm rs rdx rdy h tk fin
end
end DL

set_option Elab.async false
set_option linter.all false
set_option maxRecDepth 100000
namespace DL
open PySem PySem.Spec L2
open PyProof.Rows hiding St
section
variable {G : Cfg} {X : Cx} {gd : Bool} {k c : Nat} {f : Addr} {sp : SpD} {m : Str} {ps : List Str}
/-- the class value of a kind -/
def tyV (G : Cfg) : Ty → Value
  | .own k => .ref (G.cl k)
  | t => .type t.nm
theorem tyD_own {M : MM} {d : D} {k : Nat} (e : tyD M d = some (.own k)) : ∃ fs, insOf M d = some (k, fs) := by
  unfold tyD at e
  split at e <;> try (cases e; done)
  · cases e; exact ⟨_, by unfold insOf; rfl⟩
  · split at e <;> try (cases e; done)
    rename_i q fs z
    cases e
    exact ⟨fs, by unfold insOf; simp only [z]⟩
/-- instances look as they are -/
theorem inst_at {pins : List (Addr × Obj)} {σ : St} {H : Hp} {s : Shared} {F : Hp} {M : MM} {x : V} {v : Value} {d : D} {c : Nat} {fs : List D} (I : Inv X pins σ H s) (hm : HM G X.K F M H) (rx : RelV x v) (rd : Rep G X.K F x d) (e : insOf M d = some (c, fs)) :
    ∃ a ox od, x = .ref a ∧ v = .ref a ∧ PySem.W.InstAt s.heap a ox (G.cl c) (some od) := by
  obtain ⟨a, dx, ws, rfl, hz, l, rz⟩ := insOf_rep hm rd e
  obtain rfl : v = Value.ref a := rx
  obtain ⟨mA, O, _⟩ := ins_get I.hok hz
  obtain ⟨od, J, _⟩ := O.look
  exact ⟨a, _, od, rfl, rfl, J⟩
def plainTy : Ty → Bool
  | .non | .bl | .int | .str | .own _ => true
  | _ => false
theorem looks_ty {pins : List (Addr × Obj)} {σ : St} {H : Hp} {s : Shared} {F : Hp} {M : MM} {x : V} {v : Value} {d : D} {t : Ty} (I : Inv X pins σ H s) (hm : HM G X.K F M H) (rx : RelV x v) (rd : Rep G X.K F x d) (e : tyD M d = some t) (hp : plainTy t = true) :
    PySem.W.Looks (model X.prog X.w) s.heap (typeOf v) (tyV G t) := by
  cases t with
  | own k =>
    obtain ⟨fs, e'⟩ := tyD_own e
    obtain ⟨a, ox, od, rfl, rfl, J⟩ := inst_at I hm rx rd e'
    exact J.type
  | non =>
    unfold tyD at e
    split at e <;> try (cases e; done)
    · cases rd; cases (show v = Value.none from rx); exact PySem.W.Looks.of_pure rfl
    · split at e <;> cases e
  | bl =>
    unfold tyD at e
    split at e <;> try (cases e; done)
    · cases rd; cases (show v = Value.bool _ from rx); exact PySem.W.Looks.of_pure rfl
    · split at e <;> cases e
  | int =>
    unfold tyD at e
    split at e <;> try (cases e; done)
    · cases rd; obtain ⟨t, q⟩ := (show ∃ t, v = Value.int _ t from rx); cases q; exact PySem.W.Looks.of_pure rfl
    · split at e <;> cases e
  | str =>
    unfold tyD at e
    split at e <;> try (cases e; done)
    · cases rd; obtain ⟨t, q⟩ := (show ∃ t, v = Value.str _ t from rx); cases q; exact PySem.W.Looks.of_pure rfl
    · split at e <;> cases e
  | _ => cases hp
/-- x op y by x's own def -/
theorem dop_bin {op : Operator} (o : OkMeth X.prog X.w X.K X.mg X.base gd k (G.cl c) m ps (lift G X.K sp)) (hmm : m = PySem.dunder op.info.2) (sf : PySem.W.selfFirst X.K (G.cl c) = true) (hr : Room k X.A) (hgd : gd = true → X.A.guards = some []) {t : Ty}
    (rt : ∃ j, t = .own j ∧ (j = c ∨ (G.cl c ≠ G.cl j ∧ PySem.W.noNum X.K (G.cl j) (PySem.dunder op.info.2) (PySem.dunderR op.info.2) = true))) :
    DOp G X (binaryOp op) (fun x y δ M Q EX => (∃ fs, x = .ins c fs) ∧ tyD M y = some t ∧ sp [x, y] M Q (fun xd M3 => EX xd δ M3)) := by
  subst hmm
  intro pins s σ H x y v u F M δ dx dy Q EX P I rx ry hm rs rdx rdy ⟨⟨fs, ex⟩, et, h⟩ tk fin
  subst ex
  obtain ⟨a, ox, od, rfl, rfl, J⟩ := inst_at I hm rx rdx (c := c) (fs := fs) (by unfold insOf; rfl)
  obtain ⟨f, fd, mt, b, Fn⟩ := o
  have go := wpAny_mono (callP_at (us := [.ref a, u]) (vs := [.ref a, y]) (ds := [.ins c fs, dy]) (Fn.pos b) hr hgd I (.cons rx (.cons ry .nil)) hm rs (.cons rdx (.cons rdy .nil)) h tk fin) (fun w s' z => by
    obtain ⟨z', H', I', rz, qz⟩ := id z
    exact SlX.cmpback (P := EP X pins σ P) rz z) fun _ _ x => x
  obtain ⟨j, rfl, hj⟩ := rt
  have Lb := looks_ty I hm ry rdy et rfl
  obtain ⟨mm, hF⟩ := I.fr
  rcases hj with e | ⟨ne, nn⟩
  · subst e
    exact PySem.W.binop_K hF I.ok.mod.kin J Lb sf mt.at_ mt.fn go
  · exact PySem.W.kbin_O I.kIn J Lb ne sf mt.at_ mt.fn nn go
/-- x == y and the like by x's own def -/
theorem dop_cmp {op : CmpOp} (hop : ∀ a b, compareOp op a b = richCompare op a b) (o : OkMeth X.prog X.w X.K X.mg X.base gd k (G.cl c) m ps (lift G X.K sp)) (hmm : m = (PySem.cmpInfo op).2.1) (hr : Room k X.A) (hgd : gd = true → X.A.guards = some []) {t : Ty} (hp : plainTy t = true)
    (hn : PySem.W.notFirst X.K (G.cl c) (tyV G t) = true) :
    DOp G X (compareOp op) (fun x y δ M Q EX => (∃ fs, x = .ins c fs) ∧ tyD M y = some t ∧ sp [x, y] M Q (fun xd M3 => EX xd δ M3)) := by
  subst hmm
  intro pins s σ H x y v u F M δ dx dy Q EX P I rx ry hm rs rdx rdy ⟨⟨fs, ex⟩, et, h⟩ tk fin
  subst ex
  obtain ⟨a, ox, od, rfl, rfl, J⟩ := inst_at I hm rx rdx (c := c) (fs := fs) (by unfold insOf; rfl)
  obtain ⟨f, fd, mt, b, Fn⟩ := o
  have go := wpAny_mono (callP_at (us := [.ref a, u]) (vs := [.ref a, y]) (ds := [.ins c fs, dy]) (Fn.pos b) hr hgd I (.cons rx (.cons ry .nil)) hm rs (.cons rdx (.cons rdy .nil)) h tk fin) (fun w s' z => by
    obtain ⟨z', H', I', rz, qz⟩ := id z
    exact SlX.cmpback (P := EP X pins σ P) rz z) fun _ _ x => x
  have Lb := looks_ty I hm ry rdy et hp
  obtain ⟨mm, hF⟩ := I.fr
  rw [hop]
  exact PySem.W.cmp_K hr.units0 hF I.ok.mod.kin J Lb hn mt.at_ mt.fn go
end
end DL
namespace DL
open PySem PySem.Spec L2
open PyProof.Rows hiding St
section
variable {prog : Program} {w : World} {A : Around} {E : Value → Shared → Prop} {s : Shared} {K : PySem.W.Frag} {x C L f : Addr} {h₀ : Heap} {m : Str → Option Value} {ox : Obj} {od : Option Obj} {b tb : Value}
open PySem.W in
/-- x != y where the class has its own == alone -/
theorem kne_K {Q : Value → Shared → Prop} (hu : A.units + 1 < cLine) (X : K.In s.heap) (I : InstAt s.heap x ox C od) (hb : Looks (model prog w) s.heap (typeOf b) tb) (hn : notFirst K C tb = true)
    (hne : findIn K (.ref C) "__ne__" = some (some (.builtin "object.__ne__"))) (hob : mroIn K C (.type "object") = some true)
    (hs : findIn K (.ref C) "__eq__" = some (some (.ref f))) (hf : isFn K (.ref f) = true)
    (h : wpAny (model prog w) A.in1 (call (.ref f) [.ref x, b]) (fun v s' => ∃ r, v = .bool r ∧ Q (.bool (!r)) s') E s) : wpAny (model prog w) A (richCompare .NotEq (.ref x) b) Q E s := by
  have one : wpAny (model prog w) A (tryCompare (.ref x) "__ne__" b) (fun r s' => ∃ v, r = some v ∧ Q v s') E s := by
    unfold tryCompare
    refine wpAny_bind ?_
    simp only [callSpecialIfBound?, bindSpecialIfBound?]
    refine wpAny_holding (wpAny_bind (wpAny_bind (wpAny_bind (I.type.here ((looks_findIn X hne).here ?_)))))
    simp only [PySem.F.cmp_object.ne.bind]
    have Lo : Looks (model prog w) s.heap (isInstance (.ref x) (.type "object")) true := I.type.andThen (looks_mroIn X hob)
    have fin : wpAny (model prog w) A (call (.builtin "object.__ne__") ([.ref x] ++ [b]) >>= fun v => pure (some v)) (fun r s' => wpAny (model prog w) A (match r with
        | some .notImplemented | none => pure none
        | some v => pure (some v)) (fun r s' => ∃ v, r = some v ∧ Q v s') E s') E s := by
      refine wpAny_bind (wpAny_call (codeAny_call_builtin PySem.F.cmp_object.ne.plain PySem.F.cmpEntry_ne (check_slot PySem.F.cmpKind_ne PySem.F.cmpSplit_ne Lo (PySem.F.cmpArgs_ne _ _) ?_)))
      unfold Builtin.«object.__ne__»
      refine wpAny_bind (wpAny_of_eq (a := ((Value.ref x : Value), [b])) (by first | rfl | (simp only [slotArgs]; rfl)) ?_)
      refine wpAny_bind (wpAny_cRoomFor (show A.in1.units < cLine by first | exact hu | (simp [Around.in1]; omega)) ?_)
      refine wpAny_bind (ifBound_K X I hs hf (wpAny_mono h (fun v s' hv => ?_) fun _ _ e => e))
      obtain ⟨r, rfl, hq⟩ := hv
      refine wpAny_bind (wpAny_truthy_bool ?_)
      refine wpAny_pure ?_
      exact wpAny_pure (wpAny_pure ⟨_, rfl, hq⟩)
    refine wpAny_bind (wpAny_askSetting (wpAny_ite ?_))
    split
    · exact wpAny_bind (wpAny_pure (wpAny_pure fin))
    · exact wpAny_tryCatch (wpAny_bind (wpAny_pure (wpAny_pure fin)))
  unfold richCompare
  simp only [oneThing_ref]
  refine wpAny_holding (wpAny_bind (wpAny_cRoomFor (by omega) ?_))
  refine wpAny_bind (I.type.here (wpAny_bind (hb.here ?_)))
  split
  · rename_i q
    have e : subIn K tb (.ref C) = some false := by
      rcases Bool.or_eq_true_iff.mp hn with e | e
      · rw [beq_iff_eq.mp e] at q; simp at q
      · exact beq_iff_eq.mp e
    refine wpAny_bind ((looks_subIn X e).here ?_)
    simp only [Bool.false_eq_true, if_false]
    refine wpAny_bind (wpAny_mono one (fun r s' z => ?_) fun _ _ e => e)
    obtain ⟨v, rfl, hq⟩ := z
    exact wpAny_pure hq
  · refine wpAny_bind (wpAny_pure ?_)
    simp only [Bool.false_eq_true, if_false]
    refine wpAny_bind (wpAny_mono one (fun r s' z => ?_) fun _ _ e => e)
    obtain ⟨v, rfl, hq⟩ := z
    exact wpAny_pure hq
end
end DL
namespace DL
open PySem PySem.Spec L2
open PyProof.Rows hiding St
section
variable {G : Cfg} {X : Cx} {gd : Bool} {k c : Nat} {f : Addr} {sp : SpD} {m : Str} {ps : List Str}
theorem callP_in {A : Around} (F : FnP X.prog X.w X.K X.mg X.base gd k f (lift G X.K sp)) (hr : Room k A) (fr : A.frames = X.A.frames) (hgd : gd = true → A.guards = some []) {pins : List (Addr × Obj)} {σ : St} {H : Hp} {s : Shared} {us : List Value} {vs : List V} {ds : List D} {F1 : Hp} {M1 : MM} {δ : DS} {Q : D → MM → Prop} {EX : XK'} {P : VK}
    (I : Inv X pins σ H s) (r : Vals vs us) (hm : HM G X.K F1 M1 H) (rs : RS G X.K F1 σ δ) (rl : RepL G X.K F1 vs ds) (h : sp ds M1 Q (fun xd M' => EX xd δ M')) (tk : Takes X (wX G X.K F1 M1 H EX)) (f' : Fin G X.K F1 M1 H Q P) :
    wpAny (model X.prog X.w) A (call (.ref f) us) (EP X pins σ P) X.xe s := by
  have hl' := lift_at (P := P) hm rs rl h f'
  have e := I.env0
  have e0 : Env0 X.prog X.w X.K X.mg X.base A X.stack s H := ⟨by rw [fr]; exact e.frames, e.mod, e.bs, e.bsz, e.funs, e.frf, e.hok, e.bare⟩
  refine wpAny_call (codeAny_mono (F.run A X.stack s H us vs P _ hr hgd e0 r hl') (fun res s' hq => ?_))
  match res, hq with
  | .error z, hq => exact passAt tk σ pins H s z s' I hq
  | .ok (.ret u), hq => exact I.after hq
/-- x != y by x's own == -/
theorem dop_ne (o : OkMeth X.prog X.w X.K X.mg X.base false k (G.cl c) "__eq__" ps (lift G X.K sp)) (hne : PySem.W.findIn X.K (.ref (G.cl c)) "__ne__" = some (some (.builtin "object.__ne__"))) (hob : PySem.W.mroIn X.K (G.cl c) (.type "object") = some true)
    (hr : Room (k + 1) X.A) {t : Ty} (hp : plainTy t = true) (hn : PySem.W.notFirst X.K (G.cl c) (tyV G t) = true) :
    DOp G X (compareOp .NotEq) (fun x y δ M Q EX => (∃ fs, x = .ins c fs) ∧ tyD M y = some t ∧ sp [x, y] M (fun d M1 => ∃ r, d = .bl r ∧ Q (.bl (!r)) M1) (fun xd M3 => EX xd δ M3)) := by
  intro pins s σ H x y v u F M δ dx dy Q EX P I rx ry hm rs rdx rdy ⟨⟨fs, ex⟩, et, h⟩ tk fin
  subst ex
  obtain ⟨a, ox, od, rfl, rfl, J⟩ := inst_at I hm rx rdx (c := c) (fs := fs) (by unfold insOf; rfl)
  obtain ⟨f, fd, mt, b, Fn⟩ := o
  have go := callP_in (A := X.A.in1) (P := fun v H' => ∃ r, v = .bl r ∧ P (.bl (!r)) H') (us := [.ref a, u]) (vs := [.ref a, y]) (ds := [.ins c fs, dy]) (Fn.pos b) hr.in1 rfl (fun z => nomatch z) I (.cons rx (.cons ry .nil)) hm rs (.cons rdx (.cons rdy .nil)) h tk
    (fun v d F' M' H' g r ⟨b, e, q⟩ => by
      subst e
      cases r
      exact ⟨b, rfl, fin _ _ F' M' H' g (.bl _) q⟩)
  have Lb := looks_ty I hm ry rdy et hp
  have hu : X.A.units + 1 < cLine := by have := hr.un; omega
  show wpAny _ _ (richCompare .NotEq _ _) _ _ _
  refine kne_K hu I.kIn J Lb hn hne hob mt.at_ mt.fn (wpAny_mono go (fun w s' z => ?_) fun _ _ x => x)
  obtain ⟨z', H', I', rz, r, e, qz⟩ := z
  subst e
  cases (show w = Value.bool r from rz)
  exact ⟨r, rfl, .bl (!r), H', I', rfl, qz⟩
/-- != reads the == of the left one -/
def wOwnNe (tb : List (Nat × (Ty → Bool) × SpD)) (w : WR2) : WR2X := fun x y δ M Q EX => match x with
  | .ins c _ => ∃ al sp t, tb.lookup c = some (al, sp) ∧ tyD M y = some t ∧ al t = true ∧ sp [x, y] M (fun d M1 => ∃ r, d = .bl r ∧ Q (.bl (!r)) M1) (fun xd M3 => EX xd δ M3)
  | _ => w x y M Q
theorem dop_ownNe {f : Value → Value → Sem Value} {w : WR2} {tb : List (Nat × (Ty → Bool) × SpD)} (ho : DOp G X f (fun x y _ M Q _ => w x y M Q))
    (h1 : ∀ p ∈ tb, ∀ t, p.2.1 t = true → DOp G X f (fun x y δ M Q EX => (∃ fs, x = .ins p.1 fs) ∧ tyD M y = some t ∧ p.2.2 [x, y] M (fun d M1 => ∃ r, d = .bl r ∧ Q (.bl (!r)) M1) (fun xd M3 => EX xd δ M3))) : DOp G X f (wOwnNe tb w) := by
  intro pins s' σ H x y v u F M δ dx dy Q EX P I rx ry hm rs rdx rdy h tk fin
  unfold wOwnNe at h
  split at h
  · obtain ⟨al, sp, t, e1, e2, e3, q⟩ := h
    exact h1 _ (lookup_mem e1) t e3 pins s' σ H x y v u F M δ _ dy Q EX P I rx ry hm rs rdx rdy ⟨⟨_, rfl⟩, e2, q⟩ tk fin
  · exact ho pins s' σ H x y v u F M δ dx dy Q EX P I rx ry hm rs rdx rdy h tk fin
/-! ### -x -/
def kNegO (tb : List (Nat × SpD)) (δ : DS) (Q : D → MM → Prop) (EX : XK') (d : D) (M1 : MM) : Prop := match d with
  | .int i => Q (.int (-i)) M1
  | .ins c _ => ∃ sp, tb.lookup c = some sp ∧ sp [d] M1 Q (fun xd M2 => EX xd δ M2)
  | _ => False
def wNegO (tb : List (Nat × SpD)) (we : WE) : WE := fun δ M Q EX => we δ M (kNegO tb δ Q EX) EX
theorem de_negO {e : Expr} {we : WE} {pos : Pos} (tb : List (Nat × SpD)) (h1 : ∀ p ∈ tb, ∃ (gd : Bool) (k : Nat) (ps : List Str), OkMeth X.prog X.w X.K X.mg X.base gd k (G.cl p.1) "__neg__" ps (lift G X.K p.2) ∧ Room k X.A ∧ (gd = true → X.A.guards = some [])) (h : DE G X e we) :
    DE G X (.UnaryOp .USub e pos) (wNegO tb we) := by
  refine ⟨fun pins s σ H Q I ⟨F1, M1, δ, Q', EX, hm1, rs, q, tk, fin⟩ => ?_⟩
  refine UnaryOp_ (thn (de_run h I hm1 rs q tk) fun u s1 ⟨x, H1, I1, rx, d, F2, M2, g, rd, q1⟩ => ?_)
  unfold kNegO at q1
  split at q1
  · cases rd
    obtain ⟨t, e⟩ := (show ∃ t, u = Value.int _ t from rx)
    cases e
    have z := un_neg (X := X) pins s1 σ H1 (.int _) (.int _ t) Q I1 ⟨t, rfl⟩ ⟨_, rfl, fin _ _ F2 M2 H1 g (.int _) q1⟩
    exact z
  · rename_i c fs
    obtain ⟨sp, e, q2⟩ := q1
    obtain ⟨gd, k, ps, ⟨f, fd, mt, b, Fn⟩, hr, hgd⟩ := h1 _ (lookup_mem e)
    obtain ⟨a, ox, od, rfl, rfl, J⟩ := inst_at I1 g.hm rx rd (c := c) (fs := fs) (by unfold insOf; rfl)
    obtain ⟨mm, hF⟩ := I1.fr
    exact PySem.W.ksp_neg hF I1.ok.mod.kin J mt.at_ mt.fn (callP_at (us := [.ref a]) (vs := [.ref a]) (ds := [.ins c fs]) (Fn.pos b) hr hgd I1 (.cons rfl .nil) g.hm (rs.mono g.ext) (.cons rd .nil) q2 (tk.imp (wX_mono g)) fun v d F3 M3 H3 g3 r3 q3 => fin v d F3 M3 H3 (g.trans g3) r3 q3)
  · exact q1.elim
end
end DL

set_option Elab.async false
set_option linter.all false
set_option maxRecDepth 100000
namespace DL
open PySem PySem.Spec L2
open PyProof.Rows hiding St
section
variable {G : Cfg} {X : Cx} {P : Program} {w : World} {K : PySem.W.Frag} {mg : Str → Option Value} {base : Heap} {gd : Bool} {C : Addr} {c k n : Nat} {m qual : Str} {st : Stmt} {f : Addr} {N ps : List Str} {wb : WS} {sp : SpD}
/-! ### def __init__(self, *rest) -/
def spStar (sp : SpD) : SpD := fun ds M Q EX => match ds with
  | d :: rest => rest.length ≤ sizeLine ∧ sp [d, .tup rest] M Q EX
  | [] => False
structure GInitS (K : PySem.W.Frag) (C : Addr) (qual : Str) (st : Stmt) (p1 pv : Str) : Prop where
  ex : ∃ f fd, Mk K C f ∧ Fun K "__init__" qual st f fd ∧ ∀ us rest : List Value, us.length = [p1].length → bindArgs fd ⟨us ++ rest, []⟩ = (newTuple rest >>= fun t => pure ([p1].zip us ++ [(pv, t)]))
structure OkInitP (P : Program) (w : World) (K : PySem.W.Frag) (mg : Str → Option Value) (base : Heap) (gd : Bool) (k : Nat) (C : Addr) (sp : Sp) : Prop where
  ex : ∃ f, Mk K C f ∧ FnP P w K mg base gd k f sp
theorem okInitS {p1 pv : Str} (g : GInitS K C qual st p1 pv) (S : FnScope N [p1, pv] (defScope st))
    (hb : ∀ (f : Addr) (cdv : Value) (A : Around) (out : List Env) (s : Shared) (H : Hp) (E : XK), Room k (A.deeper (envOfC qual (defScope st) s.heap.objs.size f cdv)) → (false = true → (A.deeper (envOfC qual (defScope st) s.heap.objs.size f cdv)).guards = some []) → DSs G (cxOf (L2.CX P w) P w K mg base N qual (defScope st) f cdv A out s H E) (defBody st) wb) :
    OkInitP P w K mg base false (k + 1) C (lift G K (spStar (spOf 2 N.length wb))) := by
  obtain ⟨f, fd, mk, F, hbi⟩ := g
  refine ⟨f, mk, FnP.ofR ?_⟩
  obtain ⟨oc, od, kV, doc, pm, an, cdv, ct, osl, efd, lk, hcd⟩ := F.ex
  subst efd
  have z := StX.fn_star (P := P) (w := w) (K := K) (mg := mg) (base := base) (CX := L2.CX P w) (k := k) (ps := [p1]) (pv := pv) (N := N) (sp := lift G K (spOf 2 N.length wb)) lk hcd S StX.cxUp hbi (fun A outer s H vs Q E hr h => by
    refine ⟨_, hb f cdv A outer s H E hr (fun z => nomatch z), ?_⟩
    obtain ⟨F', M, ds, Q', EX, hm, r, ⟨h1, h2⟩, fin, hx⟩ := h
    refine ⟨F', M, _, _, _, hm, rs_start r, h2, ?_, fun σ' δ' F1 M1 H1 g1 r1 q => fin _ _ F1 M1 H1 g1 .non q, fun v d F1 M1 H1 g1 r1 q => fin v d F1 M1 H1 g1 r1 q, fun _ _ _ _ _ _ _ q => q.elim, fun _ _ _ _ _ _ _ q => q.elim⟩
    have t : Takes (cxOf (L2.CX P w) P w K mg base N qual (defScope st) f cdv A outer s H E) (fun cls d _ H => E cls d H) := takes_of rfl rfl rfl rfl
    exact t.imp fun c d σ' H' ⟨xd, δ', F1, M1, g1, r1, rx, q⟩ => hx c d xd F1 M1 H' g1 rx q)
  refine z.imp fun vs H Q E h => ?_
  obtain ⟨F', M, ds, Q', EX, hm, r, h1, fin, hx⟩ := h
  unfold spStar at h1
  split at h1
  · rename_i d rest
    obtain ⟨hz, h2⟩ := h1
    cases r with
    | cons rv rr =>
      rename_i v vs'
      refine ⟨[v], vs', rfl, rfl, by rw [rr.len]; exact hz, fun p hp => ?_⟩
      have g := hm.new (o := .tup vs') hp
      refine ⟨_, M, [d, .tup rest], Q', EX, g.hm, .cons (rv.mono g.ext) (.cons (.tup upd_same (rr.mono g.ext)) .nil), h2, fun v d F3 M3 H3 g3 r3 q3 => fin v d F3 M3 H3 (g.trans g3) r3 q3, fun cls dop xd F3 M3 H3 g3 rx q => hx cls dop xd F3 M3 H3 (g.trans g3) rx q⟩
  · exact h1.elim
theorem OkInit.pos {kws : List (Str × V)} (o : OkInit P w K mg base gd k C qual st kws ps (lift G K sp)) (hk : kws = [])
    (hch : ∀ (kV doc pm : Value) (an : Option Addr) (cdv ct : Value) (us : List Value), us.length = ps.length → bindArgs (PySem.W.fnOf "__init__" qual (defArgs st) (defBody st) (defScope st) .none kV doc pm an cdv ct) ⟨us, []⟩ = pure (ps.zip us)) : OkInitP P w K mg base gd k C (lift G K sp) := by
  subst hk
  obtain ⟨f, fd, mk, F, Fn⟩ := o
  exact ⟨f, mk, Fn.pos (F.bindsN hch)⟩
/-- C(..) runs -/
theorem run_makeP {c : Nat} {f : Addr} (mk : Mk X.K (G.cl c) f) (F : FnP X.prog X.w X.K X.mg X.base gd k f (lift G X.K sp)) (hr : Room (k + 1) X.A) (hgd : gd = true → X.A.guards = some []) {pins : List (Addr × Obj)} {σ : St} {H : Hp} {s : Shared} {us : List Value} {vs : List V} {ds : List D} {F1 : Hp} {M1 : MM} {δ : DS} {Q : D → MM → Prop} {EX : XK'} {P : VK}
    (I : Inv X pins σ H s) (r : Vals vs us) (hm : HM G X.K F1 M1 H) (rs : RS G X.K F1 σ δ) (rl : RepL G X.K F1 vs ds)
    (h : ∀ p, M1 p = none → sp (.raw (.ref p) :: ds) (updM M1 p (.ins c [])) (fun d M2 => d = .non ∧ Q (.raw (.ref p)) M2) (fun xd M2 => EX xd δ M2)) (tk : Takes X (wX G X.K F1 M1 H EX)) (f' : Fin G X.K F1 M1 H Q P) :
    wpAny (model X.prog X.w) X.A (call (.ref (G.cl c)) us) (EP X pins σ P) X.xe s := by
  have n1 : H s.heap.objs.size = none := I.hok.fresh (Nat.le_refl _)
  have n2 : H (s.heap.objs.size + 1) = none := I.hok.fresh (Nat.le_succ _)
  have ne : s.heap.objs.size + 1 ≠ s.heap.objs.size := Nat.succ_ne_self _
  have I2 := Inv.made (C := G.cl c) I
  have g1 : Grow G X.K F1 M1 H F1 M1 (upd H s.heap.objs.size (.own (s.heap.objs.size + 1))) := hm.own n1
  have n3 : upd H s.heap.objs.size (.own (s.heap.objs.size + 1)) (s.heap.objs.size + 1) = none := by rw [upd_ne ne]; exact n2
  have g2 := g1.hm.newM (p := s.heap.objs.size + 1) (o := .ins (G.cl c) s.heap.objs.size []) (m := .ins c []) n3 ⟨s.heap.objs.size, [], by rw [upd_same]; simp, by simp, .nil⟩
  have g := g1.trans g2
  have hq := h (s.heap.objs.size + 1) (hm.free n2).2
  have r2 : Vals (V.ref (s.heap.objs.size + 1) :: vs) (Value.ref (s.heap.objs.size + 1) :: us) := .cons rfl r
  have rl2 : RepL G X.K F1 (V.ref (s.heap.objs.size + 1) :: vs) (D.raw (.ref (s.heap.objs.size + 1)) :: ds) := .cons (.raw _) rl
  have hl' := lift_at (P := fun v H' => v = .non ∧ P (.ref (s.heap.objs.size + 1)) H') g.hm rs rl2 hq (fun v d F3 M3 H3 g3 r3 q3 => by
    obtain ⟨e, q3⟩ := q3
    subst e
    cases r3
    exact ⟨rfl, f' _ _ F3 M3 H3 (g.trans g3) (.raw _) q3⟩)
  have tk2 : Takes X (wX G X.K F1 (updM M1 (s.heap.objs.size + 1) (.ins c [])) (upd (upd H s.heap.objs.size (.own (s.heap.objs.size + 1))) (s.heap.objs.size + 1) (.ins (G.cl c) s.heap.objs.size [])) EX) := tk.imp (wX_mono g)
  refine wpAny_call (make_map (f := f) I.kIn mk.makes mk.init (beq_iff_eq.mp mk.fn) (codeAny_mono (F.run _ X.stack _ _ (Value.ref (s.heap.objs.size + 1) :: us) (V.ref (s.heap.objs.size + 1) :: vs) _ _ (hr.make _ us []) (fun z => guards_make (hgd z))
    (I2.env0.make _ us []) r2 hl') fun r s' hq' => ?_))
  cases r with
  | error e => exact passAt tk2 σ pins _ _ e s' I2 hq'
  | ok fl =>
    cases fl with
    | ret u =>
      obtain ⟨v, H', I3, rv, ev, q3⟩ := I2.after hq'
      subst ev
      exact ⟨rv, ⟨V.ref (s.heap.objs.size + 1), H', I3, rfl, q3⟩⟩
    | next => exact False.elim hq'
    | brk => exact False.elim hq'
    | cont => exact False.elim hq'
variable {x : Str} {p pos apos sp_ : Pos} {e fe : Expr} {es : List Expr} {wa : WA} {we wf : WE}
/-- C(e, ..), by a positional promise -/
theorem de_newP (o : OkInitP X.prog X.w X.K X.mg X.base gd k (G.cl c) (lift G X.K sp)) (hr : Room (k + 1) X.A) (hgd : gd = true → X.A.guards = some []) (hm : X.mg x = some (.ref (G.cl c)))
    (ha : DA G X (e :: es) wa) (hg : Gl X x := by rfl) (hdb : (x == ("__debug__" : Str)) = false := by decide) (he : starEach (e :: es) X.env = (false, eval e X.env) :: starEach es X.env := by rfl) (hpl : (backTo pos (starEach es X.env)).any (·.1) = false := by rfl) :
    DE G X (.Call (.Name x p) (e :: es) [] pos) (wMake c sp [] wa) := by
  refine ⟨fun pins s σ H Q I ⟨F1, M1, δ, Q', EX, hm1, rs, h, tk, fin⟩ => ?_⟩
  obtain ⟨f, mk, F⟩ := o
  refine wpAny_Call_Name_kw (ld_glob I hg hm ?_ hdb)
  refine PySem.W.callWith_K (h₀ := X.base) I.ok.mod.kin mk.kp (thn (da_run ha pos I hm1 rs h tk) fun us s1 ⟨vs, H2, I2, r, ds, F2, M2, g, rl, q⟩ => ⟨I2.kIn, ?_⟩) he hpl
  exact run_makeP mk F hr hgd I2 r g.hm (rs.mono g.ext) rl (fun p hp => by have z := q p hp; rw [List.append_nil] at z; exact z) (tk.imp (wX_mono g)) fun v d F3 M3 H3 g3 r3 q3 => fin v d F3 M3 H3 (g.trans g3) r3 q3
/-- C() -/
theorem de_newP0 (o : OkInitP X.prog X.w X.K X.mg X.base gd k (G.cl c) (lift G X.K sp)) (hr : Room (k + 1) X.A) (hgd : gd = true → X.A.guards = some []) (hm : X.mg x = some (.ref (G.cl c)))
    (hg : Gl X x := by rfl) (hdb : (x == ("__debug__" : Str)) = false := by decide) :
    DE G X (.Call (.Name x p) [] [] pos) (wMake c sp [] wNil) := by
  refine ⟨fun pins s σ H Q I ⟨F1, M1, δ, Q', EX, hm1, rs, h, tk, fin⟩ => ?_⟩
  obtain ⟨f, mk, F⟩ := o
  refine wpAny_Call_Name_kw (ld_glob I hg hm ?_ hdb)
  exact PySem.W.callWith_K0 I.kIn mk.kp (run_makeP (us := []) (ds := []) mk F hr hgd I .nil hm1 rs .nil h tk fin)
/-- what *e gives -/
def kStar (Q : List D → MM → Prop) (d : D) (M : MM) : Prop := ∃ ds, seqOf M d = some ds ∧ Q ds M
theorem star_D {pins : List (Addr × Obj)} {σ : St} {H : Hp} {s : Shared} {F : Hp} {M : MM} {v : V} {u : Value} {d : D} {ds : List D} (I : Inv X pins σ H s) (hm : HM G X.K F M H) (rv : RelV v u) (rd : Rep G X.K F v d) (e : seqOf M d = some ds) {E : Value → Shared → Prop} {Q : List Value → Shared → Prop}
    (hQ : ∀ vs us s', Inv X pins σ H s' → Vals vs us → RepL G X.K F vs ds → Q us s') : PySem.W.StarOf (model X.prog X.w) X.A E u Q s := by
  obtain ⟨a, vs, rfl, hs, rl⟩ := seqOf_rep hm rd e
  obtain rfl : u = Value.ref a := rv
  exact StX.star_any I (hs.elim .inr .inl) fun us s' I' r => hQ vs us s' I' r rl
/-- C(*e) -/
def wMakeS (c : Nat) (sp : SpD) (we : WE) : WE := fun δ M Q EX => we δ M (kStar fun ds M1 => ∀ p, M1 p = none → sp (.raw (.ref p) :: ds) (updM M1 p (.ins c [])) (fun d M2 => d = .non ∧ Q (.raw (.ref p)) M2) (fun xd M2 => EX xd δ M2)) EX
theorem de_newS (o : OkInitP X.prog X.w X.K X.mg X.base gd k (G.cl c) (lift G X.K sp)) (hr : Room (k + 1) X.A) (hgd : gd = true → X.A.guards = some []) (hm : X.mg x = some (.ref (G.cl c)))
    (ha : DE G X e we) (hg : Gl X x := by rfl) (hdb : (x == ("__debug__" : Str)) = false := by decide) (hst : starEach [.Starred e sp_] X.env = [(true, eval e X.env)] := by rfl) :
    DE G X (.Call (.Name x p) [.Starred e sp_] [] pos) (wMakeS c sp we) := by
  refine ⟨fun pins s σ H Q I ⟨F1, M1, δ, Q', EX, hm1, rs, h, tk, fin⟩ => ?_⟩
  obtain ⟨f, mk, F⟩ := o
  refine wpAny_Call_Name_kw (ld_glob I hg hm ?_ hdb)
  refine PySem.W.callWith_S (h₀ := X.base) I.ok.mod.kin mk.kp (thn (de_run ha I hm1 rs h tk) fun v s1 ⟨y, H2, I2, ry, d, F2, M2, g, rd, ds, ed, q⟩ => ?_) hst
  refine star_D I2 g.hm ry rd ed fun vs us s2 I3 r rl => ⟨I3.kIn, ?_⟩
  exact run_makeP mk F hr hgd I3 r g.hm (rs.mono g.ext) rl q (tk.imp (wX_mono g)) fun v d F3 M3 H3 g3 r3 q3 => fin v d F3 M3 H3 (g.trans g3) r3 q3
/-- c(*e), c a class as a value -/
def wMakeSV (tb : List (Nat × SpD)) (wf we : WE) : WE := fun δ M Q EX => wf δ M (fun y M0 => ∃ c sp, y = .cls c ∧ tb.lookup c = some sp ∧ we δ M0 (kStar fun ds M1 => ∀ p, M1 p = none → sp (.raw (.ref p) :: ds) (updM M1 p (.ins c [])) (fun d M2 => d = .non ∧ Q (.raw (.ref p)) M2) (fun xd M2 => EX xd δ M2)) EX) EX
theorem de_newSV (tb : List (Nat × SpD)) (ht : ∀ q ∈ tb, ∃ gd k, OkInitP X.prog X.w X.K X.mg X.base gd k (G.cl q.1) (lift G X.K q.2) ∧ Room (k + 1) X.A ∧ (gd = true → X.A.guards = some [])) (hf : DE G X fe wf) (ha : DE G X e we) (hst : starEach [.Starred e sp_] X.env = [(true, eval e X.env)] := by rfl)
    (hv : eval (.Call fe [.Starred e sp_] [] pos) X.env = (do callWith pos (← eval fe X.env) [] (backTo pos (starEach [.Starred e sp_] X.env)) (backToKw pos (keywordEach [] X.env))) := by rfl) :
    DE G X (.Call fe [.Starred e sp_] [] pos) (wMakeSV tb wf we) := by
  refine ⟨fun pins s σ H Q I ⟨F1, M1, δ, Q', EX, hm1, rs, h, tk, fin⟩ => ?_⟩
  refine Call_ (thn (de_run hf I hm1 rs h tk) fun u s0 ⟨y0, H0, I0, r0, d0, F0, M0, g0, rd0, c, sp, ec, el, h1⟩ => ?_) hv
  subst ec
  cases rd0
  obtain rfl : u = Value.ref (G.cl c) := r0
  obtain ⟨gd, k, ⟨f, mk, F⟩, hr, hgd⟩ := ht _ (lookup_mem el)
  refine PySem.W.callWith_S (h₀ := X.base) I.ok.mod.kin mk.kp (thn (de_run ha I0 g0.hm (rs.mono g0.ext) h1 (tk.imp (wX_mono g0))) fun v s1 ⟨y, H2, I2, ry, d, F2, M2, g2, rd, ds, ed, q⟩ => ?_) hst
  have g := g0.trans g2
  refine star_D I2 g.hm ry rd ed fun vs us s2 I3 r rl => ⟨I3.kIn, ?_⟩
  exact run_makeP mk F hr hgd I3 r g.hm (rs.mono g.ext) rl q (tk.imp (wX_mono g)) fun v d F3 M3 H3 g3 r3 q3 => fin v d F3 M3 H3 (g.trans g3) r3 q3
/-! ### classmethods -/
structure GCm (K : PySem.W.Frag) (C : Addr) (m qual : Str) (st : Stmt) (ps : List Str) : Prop where
  ex : ∃ p f fd, ClX.CRead K C (.type "type") ∧ ClX.CMet K C (.type "type") m p f ∧ Fun K m qual st f fd ∧ Binds K fd ps []
structure OkCm (P : Program) (w : World) (K : PySem.W.Frag) (mg : Str → Option Value) (base : Heap) (gd : Bool) (k : Nat) (C : Addr) (m : Str) (sp : Sp) : Prop where
  ex : ∃ p f, ClX.CRead K C (.type "type") ∧ ClX.CMet K C (.type "type") m p f ∧ FnP P w K mg base gd k f sp
theorem okCm (g : GCm K C m qual st ps) (S : FnScope N ps (defScope st))
    (hb : ∀ (f : Addr) (cdv : Value) (A : Around) (out : List Env) (s : Shared) (H : Hp) (E : XK), Room k (A.deeper (envOfC qual (defScope st) s.heap.objs.size f cdv)) → (gd = true → (A.deeper (envOfC qual (defScope st) s.heap.objs.size f cdv)).guards = some []) → DSs G (cxOf (L2.CX P w) P w K mg base N qual (defScope st) f cdv A out s H E) (defBody st) wb) :
    OkCm P w K mg base gd (k + 1) C m (lift G K (spOf ps.length N.length wb)) := by
  obtain ⟨p, f, fd, h1, h2, F, b⟩ := g
  exact ⟨p, f, h1, h2, (okD F S (hb f)).pos b⟩
def wCm (c : Nat) (sp : SpD) (wa : WA) : WE := fun δ M Q EX => wa δ M (fun ds M1 => sp (.cls c :: ds) M1 Q (fun xd M2 => EX xd δ M2)) EX
theorem de_cm {pl : Sem Bool} (o : OkCm X.prog X.w X.K X.mg X.base gd k (G.cl c) m (lift G X.K sp)) (hr : Room k X.A) (hgd : gd = true → X.A.guards = some []) (hm : X.mg x = some (.ref (G.cl c))) (ha : DA G X (e :: es) wa) (hg : Gl X x := by rfl) (hdb : (x == ("__debug__" : Str)) = false := by decide)
    (hst : starEach (e :: es) X.env = (false, eval e X.env) :: starEach es X.env := by rfl) (hpl : (backTo pos (starEach es X.env)).any (·.1) = false := by rfl)
    (hv : eval (.Call (.Attribute (.Name x p) m apos) (e :: es) [] pos) X.env = (do
      let ov ← eval (.Name x p) X.env
      standAt apos.atName
      let (f, first) ← holding [ov] (getMethod ov m pl)
      callWith pos f first (backTo pos (starEach (e :: es) X.env)) (backToKw pos (keywordEach [] X.env))) := by rfl) :
    DE G X (.Call (.Attribute (.Name x p) m apos) (e :: es) [] pos) (wCm c sp wa) := by
  refine ⟨fun pins s σ H Q I ⟨F1, M1, δ, Q', EX, hm1, rs, h, tk, fin⟩ => ?_⟩
  obtain ⟨q, f, rd, cm, F⟩ := o
  refine PySem.W.methodCall_KW (pl := pl) (ld_glob I hg hm ?_ hdb) hv
  refine ClX.getmethcm_ok I rd cm fun s2 I2 => ?_
  refine ClX.callwith_cm I2 (ClX.base_none I (Nat.le_refl _)) cm.fi (thn (da_run ha pos I2 hm1 rs h tk) fun us s3 ⟨vs, H2, I3, r, ds, F2, M2, g, rl, q2⟩ => ⟨⟨ClX.pin_at I3, I3.kIn⟩, ?_⟩) hst hpl
  have z := PySem.W.method_call (ClX.pin_at I3) (runP_at (us := .ref (G.cl c) :: us) (vs := .ref (G.cl c) :: vs) (ds := .cls c :: ds) F hr hgd I3 (.cons rfl r) g.hm (rs.mono g.ext) (.cons (.cls c) rl) q2 (tk.imp (wX_mono g)) (P := Q) fun v d F3 M3 H3 g3 r3 q3 => fin v d F3 M3 H3 (g.trans g3) r3 q3)
  exact thn (wpAny_call z) fun _ _ y => ClX.unpinE y
end
end DL

set_option Elab.async false
set_option linter.all false
set_option maxRecDepth 100000
/-! set(..) of a list of ints, sorted of it; in; zip; max and min of two -/
namespace DL
open PySem PySem.Spec L2
open PyProof.Rows hiding St
section
variable {P : Program} {w : World} {A : Around} {E : Value → Shared → Prop} {s : Shared}
/-- a new set, and the heap with it -/
abbrev nSet (w : World) : Obj := { cls := .type "set", dict := none, data := .set #[] 0 (.fresh 0 0 (!w.params.followText "set-order")) }
abbrev setH (s : Shared) (w : World) : Heap := s.heap.push (nSet w)
set_option maxHeartbeats 3200000 in
theorem set_of_list {l : Addr} {items : Array Value} (ns : List Int) {Q : Value → Shared → Prop} (hh : A.handled = none) (hl : s.heap.IsList l items) (hit : IntsAre items.toList ns) (hb : ns.length + 1 < scanBound)
    (h : ∀ (h' : Heap) (tk c : Nat), SetR w h' s.heap.objs.size (fun j => decide (j ∈ ns)) c → c ≤ ns.length → (∀ b o, s.heap.get? b = some o → h'.get? b = some o) → Q (.ref s.heap.objs.size) { s with heap := h', toks := tk }) :
    wpAny (model P w) A (call (.type "set") [.ref l]) Q E s := by
  have hisz : items.size = ns.length := by
    have q := IntsAre.length hit
    rw [Array.length_toList] at q
    exact q
  obtain ⟨c, tl, hmro⟩ := F.called_set.mro
  have hmade := F.called_set.made
  have hsub := F.called_set.sub
  refine wpAny_call (codeAny_of_tree ?_)
  show wpAny _ _ (callAny (.type "set") _) _ _ _
  refine wpAny_pure ⟨Code.quiet_builtin _ (by decide +kernel), codeAny_builtin F.entry_type_call ?_⟩
  rw [Around.under_plain (weight_type_call_type "set" [.ref l] []) rfl]
  have h1 := F.called_set.notType
  have h2 := F.called_set.canCreate
  have hct := F.typeCall_set_1 (.ref l)
  repeat (any_goals (first | assumption | wp_step))
  refine codeAny_mono (code_set_led1 (.ref l) (E := E) (Q₁ := fun obj s₁ => obj = .ref s.heap.objs.size ∧ s₁ = { s with heap := setH s w }) ⟨rfl, rfl⟩) fun r s₁ hr => ?_
  cases r with
  | error e => exact hr
  | ok fl =>
    cases fl with
    | ret obj =>
      obtain ⟨rfl, rfl⟩ := hr
      have hS : (setH s w).get? s.heap.objs.size = some (nSet w) := Heap.get?_push_size _ rfl
      have hT : Shared.TypeIs { s with heap := setH s w } (.ref s.heap.objs.size) "set" := ⟨_, hS, rfl⟩
      have hli := F.called_set.init.lookup
      have hbi := F.called_set.init.bind (.ref s.heap.objs.size)
      repeat (any_goals (first | assumption | wp_step))
      refine codeAny_mono (codeAny_call_builtin (R := wants (fun r s₂ => r = .none ∧ ∃ h' tk c, s₂ = { s with heap := h', toks := tk } ∧ SetR w h' s.heap.objs.size (fun j => decide (j ∈ ns)) c ∧ c ≤ ns.length ∧
          (∀ b o, s.heap.get? b = some o → h'.get? b = some o)) E) F.called_set.init.plain F.entry_set_init (check_set_init_1 hT ?_)) fun r₂ s₂ hr₂ => ?_
      · obtain ⟨ol, hol, hcl, nl, hdl⟩ := hl
        obtain ⟨ocls, odict, odata, oslots⟩ := ol
        simp only at hcl hdl
        subst hcl; subst hdl
        have hol' : (setH s w).get? l = some { cls := .type "list", dict := odict, data := .seq items nl, slots := oslots } := Heap.get?_push_of_some _ hol
        have hsls := F.sub_list_set
        have hslf := F.sub_list_frozenset
        have hne : (Value.type "list" == Value.type "dict") = false := by decide
        have hl1 : (setH s w).IsList l items := ⟨_, hol', rfl, nl, rfl⟩
        unfold Builtin.«set.__init__» noKeywords Builtin.Frozenset.updateFrom
        generalize hPI : pyIter = PI
        wp_walk
        subst hPI
        refine wpAny_pyIter_list hl1 ?_
        refine wpAny_bind (wpAny_runValue ?_)
        have hlS : l < s.heap.objs.size := Heap.lt_size hol
        have hh3 : A.in1.in1.in1.handled = none := by simp [hh]
        have hz1 : (setH s w).objs.size = s.heap.objs.size + 1 := Heap.size_push ..
        have hneI : l ≠ (setH s w).objs.size := by
          rw [Heap.size_push]; exact Nat.ne_of_lt (Nat.lt_succ_of_lt hlS)
        have hSf : s.heap.objs.size ∉ [(setH s w).objs.size, l] := by
          rw [Heap.size_push]; simp only [List.mem_cons, List.mem_singleton, List.not_mem_nil, or_false, not_or]
          exact ⟨Nat.ne_of_lt (Nat.lt_succ_self _), Nat.ne_of_gt hlS⟩
        have hval : ∀ (i : Nat) (v : Value), items[i]? = some v → ∃ k t, ns[i]? = some k ∧ v = .int k t := fun i v hv => by
          have hi : i < ns.length := by rw [← hisz]; exact (Array.getElem?_eq_some_iff.mp hv).1
          obtain ⟨t, e⟩ := PyProof.Rows.IntsAre.int_at hit i v (by rw [Array.getElem?_toList]; exact hv)
          refine ⟨ns[i], t, List.getElem?_eq_getElem hi, ?_⟩
          rw [e, List.getD_eq_getElem?_getD, List.getElem?_eq_getElem hi] <;> rfl
        refine set_update_ints ((Walks.list hh3 _ l hneI items).toS) s.heap.objs.size
          hSf ns hisz hb hval (items.size - 0) 0 _ (by omega) (Nat.zero_le _)
          ⟨⟨_, Heap.get?_push_size _ rfl, rfl, rfl⟩, (hl1.push _)⟩ ?hS0 ?hR
        case hS0 =>
          have hget : ((setH s w).push { cls := .type "list_iterator", data := .fields #[.ref l, .int 0 0] }).get? s.heap.objs.size
              = some (nSet w) := Heap.get?_push_of_some _ hS
          exact ⟨0, Nat.le_refl 0, setR_new_at hget⟩
        case hR =>
          intro s' c' hm hc' hS'
          obtain ⟨h', g2, d', tk', os'⟩ := s'
          have eg : g2 = s.gens := hm.gens
          have ed : d' = s.drawn := hm.drawn
          have eo : os' = s.os := hm.os
          subst eg; subst ed; subst eo
          show wpAny _ _ _ _ _ _
          refine wpAny_pure ?_
          show wpAny _ _ (ret Value.none) _ _ _
          rw [hisz] at hc'
          refine wpAny_pure ⟨rfl, h', tk', c', rfl, hS', hc', fun b o e => ?_⟩
          have hb0 : b < s.heap.objs.size := Heap.lt_size e
          have hb1 : b ≠ s.heap.objs.size := Nat.ne_of_lt hb0
          have hb2 : b ≠ (setH s w).objs.size := by
            rw [Heap.size_push]; exact Nat.ne_of_lt (Nat.lt_succ_of_lt hb0)
          exact hm.heap b o (by simp only [List.mem_cons, List.mem_singleton, List.not_mem_nil, or_false, not_or]; exact ⟨hb1, hb2⟩) (Heap.get?_push_of_some _ (Heap.get?_push_of_some _ e))
      · cases r₂ with
        | error e => exact hr₂
        | ok fl₂ =>
          cases fl₂ with
          | ret r =>
            obtain ⟨rfl, h', tk, c', rfl, hS', hc', hk'⟩ := hr₂
            repeat (any_goals (first | assumption | wp_step))
            exact h _ _ _ hS' hc' hk'
          | _ => exact hr₂.elim
    | _ => exact hr.elim
end
end DL
namespace DL
open PySem PySem.Spec L2
open PyProof.Rows hiding St
section
variable {G : Cfg} {X : Cx} {e : Expr}
/-! ### sorted(set(e)) -/
def rSetI (w : World) (K : PySem.W.Frag) : List V → Hp → VK → Prop := fun xs H Q => ∃ (l : Addr) (ns : List Int), xs = [.ref l] ∧ (SqL K H l (ns.map V.int) ∨ SqT K H l (ns.map V.int)) ∧ ns.length < 64 ∧
  ∀ p c, H p = none → c ≤ ns.length → Q (.ref p) (upd H p (SetO w p (fun j => decide (j ∈ ns)) c))
theorem cr_setI (hc : X.calm = true) : CallR X (.type "set") (rSetI X.w X.K) := by
  intro pins s σ H xs us Q I r h
  obtain ⟨l, ns, rfl, hq, hl, q⟩ := h
  obtain ⟨u, rfl, ru⟩ := r.one
  obtain rfl : u = Value.ref l := ru
  have hd := I.ok.hd hc
  have b1 : ns.length + 1 < scanBound := by unfold scanBound; omega
  have fin : ∀ (h' : Heap) (tk c : Nat), SetR X.w h' s.heap.objs.size (fun j => decide (j ∈ ns)) c → c ≤ ns.length → (∀ b o, s.heap.get? b = some o → h'.get? b = some o) → EP X pins σ Q (.ref s.heap.objs.size) { s with heap := h', toks := tk } := fun h' tk c R hcn k =>
    ⟨.ref _, _, I.laid (t' := tk) k (Nat.le_refl _) (setO_new R), rfl, q _ c (I.hok.fresh (Nat.le_refl _)) hcn⟩
  rcases hq with hq | hq
  · obtain ⟨its, rv, pl, hz⟩ := I.list hq
    exact set_of_list ns hd pl.isList (by simpa using rv.ints) b1 fin
  · obtain ⟨its, rv, pt, hz⟩ := I.tuple hq
    exact call_set_tupI ns hd (show s.heap.IsTuple l its.toArray from pt) (by simpa using rv.ints) b1 fin
def kSrtSet (Q : D → MM → Prop) (d : D) (M : MM) : Prop := ∃ ns : List Int, (seqOf M d).bind intsOf = some ns ∧ ns.length < 64 ∧ ∀ ms : List Int, ms.Pairwise (· < ·) → (∀ k, k ∈ ms ↔ k ∈ ns) → Q (.lst (ms.map D.int)) M
def wSrtSet (we : WE) : WE := fun δ M Q EX => we δ M (kSrtSet Q) EX
theorem de_srtSet {we : WE} {p p2 q pos : Pos} (hc : X.calm = true) (hs : X.mg "sorted" = none) (hm : X.mg "set" = none) (h : DE G X e we) (g1 : Gl X "sorted" := by rfl) (g2 : Gl X "set" := by rfl)
    (na : starEach [e] X.env = (false, eval e X.env) :: starEach [] X.env := by rfl) (nb : starEach [.Call (.Name "set" p2) [e] [] q] X.env = (false, eval (.Call (.Name "set" p2) [e] [] q) X.env) :: starEach [] X.env := by rfl) :
    DE G X (.Call (.Name "sorted" p) [.Call (.Name "set" p2) [e] [] q] [] pos) (wSrtSet we) := by
  have z := pe_callB (pos := pos) (p := p) (cr_sortedSet (X := X) hc) g1 hs (by decide +kernel) (pa_cons (pe_callTy (pos := q) (p := p2) (cr_setI hc) g2 hm (by decide +kernel) (pa_cons h pa_nil na) (by decide) (by decide) na rfl) pa_nil nb) (by decide) (by decide) nb rfl
  refine pe_imp z fun σ H P ⟨F, M, δ, Q, EX, hm1, rs, h, tk, f⟩ => ?_
  refine ⟨F, M, δ, _, EX, hm1, rs, h, tk, fun v d F1 M1 H1 g r ⟨ns, en, hl, q⟩ => ?_⟩
  cases es : seqOf M1 d with
  | none => rw [es] at en; cases en
  | some ds =>
    rw [es] at en
    have ed : ds = ns.map D.int := intsOf_map en
    subst ed
    obtain ⟨a, vs, rfl, h1, r1⟩ := seqOf_rep g.hm r es
    have ev := r1.ints
    subst ev
    refine ⟨a, ns, rfl, h1, hl, fun p c hp hc2 => ?_⟩
    refine ⟨p, _, c, rfl, upd_same, by omega, fun ms q2 hs2 hmem hlen hq2 => ?_⟩
    have g2 := g.hm.own (u := SetO X.w p (fun j => decide (j ∈ ns)) c) hp
    have g3 := g2.hm.new (o := .lst (ms.map V.int)) hq2
    exact f _ _ _ _ _ ((g.trans g2).trans g3) (.lst upd_same (.of_ints _)) (q ms hs2 fun k => by rw [hmem k, decide_eq_true_eq])
/-! ### in -/
def toV : D → Option V
  | .non => some .non
  | .bl b => some (.bl b)
  | .int i => some (.int i)
  | .str x => some (.str x)
  | _ => none
def toVs : List D → Option (List V)
  | [] => some []
  | d :: r => (toV d).bind fun v => (toVs r).map (v :: ·)
theorem toV_rep {K : PySem.W.Frag} {F : Hp} {v u : V} {d : D} (r : Rep G K F v d) (e : toV d = some u) : v = u ∧ flatV u = true := by
  unfold toV at e
  split at e <;> cases e <;> cases r <;> exact ⟨rfl, rfl⟩
theorem toVs_rep {K : PySem.W.Frag} {F : Hp} : ∀ {vs us : List V} {ds : List D}, RepL G K F vs ds → toVs ds = some us → vs = us ∧ us.all flatV = true
  | _, _, _, .nil, e => by cases e; exact ⟨rfl, rfl⟩
  | _, _, _, .cons (d := d) (ds := ds) h t, e => by
    unfold toVs at e
    cases e1 : toV d with
    | none => rw [e1] at e; cases e
    | some u =>
      cases e2 : toVs ds with
      | none => rw [e1, e2] at e; cases e
      | some us =>
        rw [e1, e2] at e
        cases e
        obtain ⟨a, b⟩ := toV_rep h e1
        obtain ⟨c, d⟩ := toVs_rep t e2
        exact ⟨by rw [a, c], by rw [List.all_cons, b, d]; rfl⟩
@[irreducible] def wIn (neg : Bool) : WR2 := fun x y M Q => match toV x, (seqOf M y).bind toVs with
  | some v, some vs => Q (.bl (if neg then !inV v vs else inV v vs)) M
  | _, _ => False
theorem sim_in {K : PySem.W.Frag} (neg : Bool) : Sim2 G K (rIn K neg) (wIn neg) := by
  intro F M H x y dx dy Q P hm rx ry w f
  unfold wIn at w
  split at w
  · rename_i v vs e1 e2
    cases es : seqOf M dy with
    | none => rw [es] at e2; cases e2
    | some ds =>
      rw [es] at e2
      obtain ⟨a, ws, rfl, h1, r1⟩ := seqOf_rep hm ry es
      obtain ⟨ex, fx⟩ := toV_rep rx e1
      obtain ⟨ey, fy⟩ := toVs_rep r1 e2
      subst ex ey
      exact ⟨a, _, rfl, h1, fx, fy, f _ _ F M H (.refl hm) (.bl _) w⟩
  · exact w.elim
theorem toVs_ints : ∀ ns : List Int, toVs (ns.map D.int) = some (ns.map V.int)
  | [] => rfl
  | n :: ns => by show (some (V.int n)).bind _ = _; rw [Option.bind_some, toVs_ints ns]; rfl
theorem inV_ints (n : Int) (ns : List Int) : inV (.int n) (ns.map V.int) = decide (n ∈ ns) := by
  unfold inV
  induction ns with
  | nil => rfl
  | cons m ns ih =>
    rw [List.map_cons, List.any_cons, ih]
    show ((m == n) || decide (n ∈ ns)) = decide (n ∈ m :: ns)
    by_cases h : m = n
    · subst h; simp
    · have h' : ¬ n = m := fun z => h z.symm
      simp [h, h']
theorem at_inI {Q : D → MM → Prop} {M : MM} {n : Int} {ns : List Int} {y : D} (h : seqOf M y = some (ns.map D.int)) (q : Q (.bl (decide (n ∈ ns))) M) : wIn false (.int n) y M Q := by
  unfold wIn
  rw [h, Option.bind_some, toVs_ints]
  show Q (.bl (inV (.int n) (ns.map V.int))) M
  rw [inV_ints]; exact q
theorem at_ninI {Q : D → MM → Prop} {M : MM} {n : Int} {ns : List Int} {y : D} (h : seqOf M y = some (ns.map D.int)) (q : Q (.bl (!decide (n ∈ ns))) M) : wIn true (.int n) y M Q := by
  unfold wIn
  rw [h, Option.bind_some, toVs_ints]
  show Q (.bl (!inV (.int n) (ns.map V.int))) M
  rw [inV_ints]; exact q
/-! ### max, min of two -/
@[irreducible] def wMax2 : WR1 := fun ds M Q => match ds with
  | [.int i, .int j] => Q (.int (if j > i then j else i)) M
  | _ => False
@[irreducible] def wMin2 : WR1 := fun ds M Q => match ds with
  | [.int i, .int j] => Q (.int (if j < i then j else i)) M
  | _ => False
theorem two_ints {K : PySem.W.Frag} {F : Hp} {vs : List V} {i j : Int} (r : RepL G K F vs [.int i, .int j]) : vs = [.int i, .int j] := by
  cases r with
  | cons a t =>
    cases a
    cases t with
    | cons b t =>
      cases b
      cases t
      rfl
theorem sim_max2 {K : PySem.W.Frag} : SimC G K (fun xs H Q => ∃ i j, xs = [.int i, .int j] ∧ Q (.int (if j > i then j else i)) H) wMax2 := by
  intro F M H vs ds Q P hm r w f
  unfold wMax2 at w
  split at w
  · exact ⟨_, _, two_ints r, f _ _ F M H (.refl hm) (.int _) w⟩
  · exact w.elim
theorem sim_min2 {K : PySem.W.Frag} : SimC G K (fun xs H Q => ∃ i j, xs = [.int i, .int j] ∧ Q (.int (if j < i then j else i)) H) wMin2 := by
  intro F M H vs ds Q P hm r w f
  unfold wMin2 at w
  split at w
  · exact ⟨_, _, two_ints r, f _ _ F M H (.refl hm) (.int _) w⟩
  · exact w.elim
theorem at_max2 {Q : D → MM → Prop} {M : MM} {i j : Int} (q : Q (.int (max i j)) M) : wMax2 [.int i, .int j] M Q := by
  unfold wMax2
  have e : (if j > i then j else i) = max i j := by
    by_cases h : j > i
    · rw [if_pos h, Int.max_eq_right (by omega)]
    · rw [if_neg h, Int.max_eq_left (by omega)]
  show Q (.int (if j > i then j else i)) M
  rw [e]; exact q
theorem at_min2 {Q : D → MM → Prop} {M : MM} {i j : Int} (q : Q (.int (min i j)) M) : wMin2 [.int i, .int j] M Q := by
  unfold wMin2
  have e : (if j < i then j else i) = min i j := by
    by_cases h : j < i
    · rw [if_pos h, Int.min_eq_right (by omega)]
    · rw [if_neg h, Int.min_eq_left (by omega)]
  show Q (.int (if j < i then j else i)) M
  rw [e]; exact q
/-! ### zip -/
def pairs (xs ys : List D) : List D := (xs.zip ys).map fun p => .tup [p.1, p.2]
/-- a list that does not change -/
def frzOf : D → Option (List D)
  | .lst ds => some ds
  | .frl ds => some ds
  | _ => none
def tupX : D → Option (List D)
  | .tup ds => some ds
  | _ => none
theorem tupX_rep {K : PySem.W.Frag} {F : Hp} {v : V} {d : D} {ds : List D} (r : Rep G K F v d) (e : tupX d = some ds) : ∃ a vs, v = .ref a ∧ SqT K F a vs ∧ RepL G K F vs ds := by
  unfold tupX at e
  split at e <;> cases e
  cases r with
  | tup h r => exact ⟨_, _, rfl, SqT.of h, r⟩
@[irreducible] def kiZ (Q : IT → MM → Prop) (ds : List D) (M : MM) : Prop := match ds with
  | [x, y] => match frzOf x, frzOf y with
    | some xs, some ys => Q { items := pairs xs ys } M
    | _, _ => match tupX x, tupX y with
      | some xs, some ys => Q { items := pairs xs ys } M
      | _, _ => False
  | _ => False
def wiZ (wa : WA) : WI := fun δ M Q EX => wa δ M (kiZ Q) EX
theorem frz_rep {K : PySem.W.Frag} {F : Hp} {v : V} {d : D} {ds : List D} (r : Rep G K F v d) (e : frzOf d = some ds) : ∃ a vs, v = .ref a ∧ SqL K F a vs ∧ RepL G K F vs ds := by
  unfold frzOf at e
  split at e <;> cases e
  · cases r with
    | lst h r => exact ⟨_, _, rfl, SqL.of h, r⟩
  · cases r with
    | frl h r => exact ⟨_, _, rfl, h, r⟩
theorem pairs_get {xs ys : List D} {i : Nat} {d : D} (h : (pairs xs ys)[i]? = some d) : ∃ x y, xs[i]? = some x ∧ ys[i]? = some y ∧ d = .tup [x, y] := by
  unfold pairs at h
  rw [List.getElem?_map] at h
  cases q : (xs.zip ys)[i]? with
  | none => rw [q] at h; cases h
  | some p =>
    rw [q] at h
    obtain ⟨a, b⟩ := List.getElem?_zip_eq_some.mp q
    exact ⟨p.1, p.2, a, b, (Option.some.inj h).symm⟩
theorem pairs_len (xs ys : List D) : (pairs xs ys).length = min xs.length ys.length := by unfold pairs; rw [List.length_map, List.length_zip]
theorem di_zip {elts : List Expr} {kk : Nat} {e2 : Expr} {wa : WA} {p pos tpos : Pos} (hm : X.mg "zip" = none) (ha : DA G X [e, e2] wa) (hg : Gl X "zip" := by rfl)
    (hs : starEach [e, e2] X.env = (false, eval e X.env) :: starEach [e2] X.env := by rfl) (hpl : (backTo pos (starEach [e2] X.env)).any (·.1) = false := by rfl) :
    DI G X (.Tuple elts kk tpos) (.Call (.Name "zip" p) [e, e2] [] pos) (wiZ wa) := by
  refine pi_imp (RZ.pi_zipA hg hm ha hs hpl) fun σ H R ⟨F, M, δ, Q, EX, hm1, rs, h, tk, f⟩ => ?_
  refine ⟨F, M, δ, _, EX, hm1, rs, h, tk, fun vs ds F1 M1 H1 g1 r1 q => ?_⟩
  unfold kiZ at q
  split at q
  · rename_i x y
    cases r1 with
    | cons rx t =>
      obtain ⟨vy, rfl, ry⟩ := one_rep t
      split at q
      · rename_i xs ys e1 e2
        obtain ⟨a, us, rfl, ha, ra⟩ := frz_rep rx e1
        obtain ⟨b, ws, rfl, hb, rb⟩ := frz_rep ry e2
        refine ⟨a, b, us, ws, rfl, .inl ⟨g1.hm.sub.seq ha, g1.hm.sub.seq hb, f _ { items := pairs xs ys } F1 M1 H1 g1 ⟨fun F' M' H' i d g st e => ?_, fun F' M' H' g st => ?_⟩ q⟩⟩
        · obtain ⟨x, y, ex, ey, rfl⟩ := pairs_get e
          obtain ⟨u, eu, ru⟩ := ra.get ex
          obtain ⟨w, ew, rw'⟩ := rb.get ey
          have hsa : SqL X.K H' a us := g.hm.sub.seq (g.ext.seq ha)
          have hsb : SqL X.K H' b ws := g.hm.sub.seq (g.ext.seq hb)
          refine ⟨⟨us, ws, u, w, hsa, hsb, eu, ew⟩, fun z H'' ⟨T, u', w', ez, hT, eH, k1, k2⟩ => ?_⟩
          have e3 := k1 us hsa
          have e4 := k2 ws hsb
          rw [eu] at e3
          rw [ew] at e4
          cases e3
          cases e4
          subst ez eH
          have gn := g.hm.new (o := .tup [u, w]) hT
          exact ⟨_, gn, .tup upd_same (.cons ((ru.mono g.ext).mono gn.ext) (.cons ((rw'.mono g.ext).mono gn.ext) .nil))⟩
        · refine ⟨us, ws, g.hm.sub.seq (g.ext.seq ha), g.hm.sub.seq (g.ext.seq hb), ?_⟩
          rw [show ({ items := pairs xs ys } : IT).items.length = min xs.length ys.length from pairs_len _ _, ra.len, rb.len]
          omega
      · split at q
        · rename_i xs ys e1 e2
          obtain ⟨a, us, rfl, ha, ra⟩ := tupX_rep rx e1
          obtain ⟨b, ws, rfl, hb, rb⟩ := tupX_rep ry e2
          · · refine ⟨a, b, us, ws, rfl, .inr ⟨sqT_up g1.hm.sub ha, sqT_up g1.hm.sub hb, f _ { items := pairs xs ys } F1 M1 H1 g1 ⟨fun F' M' H' i d g st e => ?_, fun F' M' H' g st => ?_⟩ q⟩⟩
              · obtain ⟨x, y, ex, ey, rfl⟩ := pairs_get e
                obtain ⟨u, eu, ru⟩ := ra.get ex
                obtain ⟨w, ew, rw'⟩ := rb.get ey
                have hsa : SqT X.K H' a us := sqT_up g.hm.sub (sqT_up g.ext ha)
                have hsb : SqT X.K H' b ws := sqT_up g.hm.sub (sqT_up g.ext hb)
                refine ⟨⟨us, ws, u, w, hsa, hsb, eu, ew⟩, fun z H'' ⟨T, u', w', ez, hT, eH, k1, k2⟩ => ?_⟩
                have e3 := k1 us hsa
                have e4 := k2 ws hsb
                rw [eu] at e3
                rw [ew] at e4
                cases e3
                cases e4
                subst ez eH
                have gn := g.hm.new (o := .tup [u, w]) hT
                exact ⟨_, gn, .tup upd_same (.cons ((ru.mono g.ext).mono gn.ext) (.cons ((rw'.mono g.ext).mono gn.ext) .nil))⟩
              · refine ⟨us, ws, sqT_up g.hm.sub (sqT_up g.ext ha), sqT_up g.hm.sub (sqT_up g.ext hb), ?_⟩
                rw [show ({ items := pairs xs ys } : IT).items.length = min xs.length ys.length from pairs_len _ _, ra.len, rb.len]
                omega
        · exact q.elim
  · exact q.elim
end
end DL

set_option Elab.async false
set_option linter.all false
set_option maxRecDepth 100000
namespace DL
open PySem PySem.Spec L2
open PyProof.Rows hiding St
section
variable {G : Cfg} {X : Cx} {K : PySem.W.Frag}
def alIn (ks : List Nat) : Ty → Bool
  | .own k => ks.contains k
  | _ => false
theorem alIn_of {ks : List Nat} {P : Nat → Prop} (h : ∀ k ∈ ks, P k) (t : Ty) (ht : alIn ks t = true) : ∃ j, t = .own j ∧ P j := by
  cases t with
  | own k => exact ⟨k, rfl, h k (by simpa [alIn] using ht)⟩
  | _ => cases ht
theorem alIn_plain {ks : List Nat} (t : Ty) (ht : alIn ks t = true) : plainTy t = true := by
  cases t <;> first | rfl | cases ht
theorem alIn_nf {ks : List Nat} {C : Addr} (h : ∀ k ∈ ks, PySem.W.notFirst K C (.ref (G.cl k)) = true) (t : Ty) (ht : alIn ks t = true) : PySem.W.notFirst K C (tyV G t) = true := by
  obtain ⟨j, rfl, hj⟩ := alIn_of h t ht
  exact hj
def wNo2 : WR2 := fun _ _ _ _ => False
theorem dop_no2 {f : Value → Value → Sem Value} : DOp G X f (fun x y _ M Q _ => wNo2 x y M Q) := fun _ _ _ _ _ _ _ _ _ _ _ _ _ _ _ _ _ _ _ _ _ _ _ h => h.elim
/-! ### isinstance with an own class -/
def tbO (own : List (Nat × Bool)) : Ty → Option Bool
  | .own k => own.lookup k
  | _ => some false
/-- builtin values are none of it -/
def noBlt (K : PySem.W.Frag) (u : Value) : Bool := ["NoneType", "bool", "int", "str", "tuple", "list", "dict"].all fun n => PySem.W.kitOne K (.type n) u == some false
structure CgOk (K : PySem.W.Frag) : Prop where
  get : PySem.W.specialIn K (.builtin "object.__class__") "__get__" = some (some (.builtin "getset_descriptor.__get__"))
  tk : PySem.W.takesIn K (.builtin "object.__class__") = some true
structure CcOk (K : PySem.W.Frag) (C : Addr) : Prop where
  at_ : PySem.W.findIn K (.ref C) "__class__" = some (some (.builtin "object.__class__"))
  mo : PySem.W.mroIn K C (.type "object") = some true
theorem isi_o (own : List (Nat × Bool)) {u : Value} (kb : noBlt K u = true) (cg : CgOk K) (h : ∀ p ∈ own, PySem.W.kitOne K (.ref (G.cl p.1)) u = some p.2 ∧ Cls K (G.cl p.1) ∧ CcOk K (G.cl p.1)) : IsiT G K u (tbO own) := by
  have nb : ∀ n ∈ ["NoneType", "bool", "int", "str", "tuple", "list", "dict"], PySem.W.kitOne K (.type n) u = some false := fun n hn => beq_iff_eq.mp (List.all_eq_true.mp kb n hn)
  refine ⟨fun t b ht e => ?_, fun k b e => ?_⟩
  · cases t with
    | own k => exact absurd rfl (ht k)
    | _ => cases e; exact nb _ (by simp [Ty.nm])
  · have z := lookup_mem (show own.lookup k = some b from e)
    obtain ⟨h1, h2, h3⟩ := h _ z
    exact ⟨h1, h2, h3.at_, cg.get, cg.tk, h3.mo⟩
/-! ### what is asked -/
theorem at_srtSet {Q : D → MM → Prop} {M : MM} {d : D} {ns : List Int} (h : seqOf M d = some (ns.map D.int)) (hl : ns.length < 64) (q : ∀ ms : List Int, ms.Pairwise (· < ·) → (∀ k, k ∈ ms ↔ k ∈ ns) → Q (.lst (ms.map D.int)) M) : kSrtSet Q d M :=
  ⟨ns, by rw [h, Option.bind_some, intsOf_ints], hl, q⟩
theorem at_zipF {Q : IT → MM → Prop} {M : MM} {xs ys : List D} {x y : D} (h1 : frzOf x = some xs) (h2 : frzOf y = some ys) (q : Q { items := pairs xs ys } M) : kiZ Q [x, y] M := by
  unfold kiZ
  dsimp only
  rw [h1, h2]
  exact q
theorem at_zipT {Q : IT → MM → Prop} {M : MM} {xs ys : List D} (q : Q { items := pairs xs ys } M) : kiZ Q [.tup xs, .tup ys] M := by
  unfold kiZ
  exact q
theorem at_star {Q : List D → MM → Prop} {M : MM} {d : D} {ds : List D} (h : seqOf M d = some ds) (q : Q ds M) : kStar Q d M := ⟨ds, h, q⟩
end
end DL

set_option Elab.async false
set_option linter.all false
set_option maxRecDepth 100000
/-! enumerate of a tuple -/
namespace DL
open PySem PySem.Spec L2
open AutoSeq1 (wpAny_loadPart')
section
open PyProof.Rows hiding St
variable {prog : Program} {w : World} {A : Around} {E : Value → Shared → Prop} {s : Shared}
abbrev tIter (t : Addr) : Obj := { cls := .type "tuple_iterator", data := .fields #[.ref t, .int 0 0] }
abbrev eIter (n : Addr) : Obj := { cls := .type "enumerate", data := .fields #[.none, .bool false, .ref n, rawInt 0, .none, .none] }
theorem enum_newT (t : Addr) (items : Array Value) (n : Nat) (dct : Option Addr) (sl : Array (Option Value)) :
    Meets (Builtin.«enumerate.__new__» ⟨[.type "enumerate", .ref t], []⟩) (fun _ R s => s.heap.get? t = some { cls := .type "tuple", dict := dct, data := .seq items n, slots := sl } ∧
      R (.ok (.ret (.ref (s.heap.push (tIter t)).objs.size))) { s with heap := (s.heap.push (tIter t)).push (eIter s.heap.objs.size) }) :=
  .of_wp fun prog w A R s h => by
    obtain ⟨hp, g, d, tk, os⟩ := s
    obtain ⟨ht, h⟩ := h
    have sb := sub_enumerate
    have it : Heap.IsTuple (Shared.heap ⟨hp, g, d, tk, os⟩) t items := ⟨_, ht, rfl, n, rfl⟩
    wp_walk using wpAny_loadPart' ht
    refine wpAny_stack_any fun st => wpAny_pure ?_
    split
    · rename_i c _ _ _ _ _
      cases (c == Value.type "enumerate") <;> (wp_walk using wpAny_loadPart' ht, wpAny_pyIter_tuple it) <;> exact ⟨_, rfl, h⟩
    · wp_walk using wpAny_loadPart' ht, wpAny_pyIter_tuple it
      exact ⟨_, rfl, h⟩
theorem call_enumT {t : Addr} {items : Array Value} {Q : Value → Shared → Prop} (it : s.heap.IsTuple t items)
    (h : ∀ h', IsEnum h' (s.heap.objs.size + 1) s.heap.objs.size 0 .none → h'.IsTupleIter s.heap.objs.size t 0 → (∀ b o, s.heap.get? b = some o → h'.get? b = some o) → Q (.ref (s.heap.objs.size + 1)) { s with heap := h' }) :
    wpAny (model prog w) A (call (.type "enumerate") [.ref t]) Q E s := by
  obtain ⟨⟨c, dct, dt, sl⟩, hl, hc, n, hd⟩ := it
  obtain rfl : c = .type "tuple" := hc
  obtain rfl : dt = .seq items n := hd
  refine callType_new F.called_enumerate (by decide) (F.typeCall_enumerate_1 _) (F.newCall_enumerate_1 _) (fun obj => F.args_object_init_2 obj _) F.entry_enumerate_new (enum_newT t items n dct sl) ⟨hl, ?_⟩
  have z : (s.heap.push (tIter t)).objs.size = s.heap.objs.size + 1 := Heap.size_push ..
  show _ ∧ _
  rw [z]
  have e : IsEnum ((s.heap.push (tIter t)).push (eIter s.heap.objs.size)) (s.heap.objs.size + 1) s.heap.objs.size 0 .none := by
    have q := Heap.get?_push_size (s.heap.push (tIter t)) (o := eIter s.heap.objs.size) rfl
    rw [z] at q
    exact q
  exact ⟨⟨_, e, rfl⟩, h _ e ⟨_, Heap.get?_push_of_some _ (Heap.get?_push_size _ rfl), rfl, rfl⟩ fun b o x => Heap.get?_push_of_some _ (Heap.get?_push_of_some _ x)⟩
end
open PyProof.Rows hiding St
/-- the tuple at a, each item in a new pair -/
def IteT (K : PySem.W.Frag) (a : Addr) : It :=
  ⟨fun i H => ∃ (xs : List V) (x : V), SqT K H a xs ∧ xs[i]? = some x, fun i H v H' => ∃ T x, v = .ref T ∧ H T = none ∧ H' = upd H T (.tup [.int (i : Nat), x]) ∧ ∀ xs, SqT K H a xs → xs[i]? = some x, fun i H => ∃ xs : List V, SqT K H a xs ∧ xs.length = i⟩
theorem turn_enumT {P : Program} {w : World} {K : PySem.W.Frag} {elts : List Expr} {kk : Nat} {tpos : Pos} (a e it : Addr) :
    Turn P w K (.Tuple elts kk tpos) (IteT K a) [e, it] e (fun i h => (∃ old, IsEnum h e it ((i : Nat) : Int) old) ∧ h.IsTupleIter it a i ∧ e ≠ it ∧ a ≠ it ∧ a ≠ e) where
  mem := by simp
  obj := fun i h ⟨⟨old, he⟩, ⟨o, ho, hc, hd⟩, _⟩ b hb => by
    rcases List.mem_cons.mp hb with z | hb
    · subst z; exact ⟨_, he, fun v q => nomatch q⟩
    · rw [List.mem_singleton.mp hb]; exact ⟨o, ho, fun v q => by rw [hd] at q; cases q⟩
  keep := fun i h h' ⟨⟨old, he⟩, hi, ne⟩ k => ⟨⟨old, k e (by simp) _ he⟩, hi.at fun o q => k it (by simp) o q, ne⟩
  item := by
    intro X hP hw hK hc i pins s σ H E I hf ⟨⟨old, he⟩, hit, ne, na, nb⟩ ⟨xs, x, hq, hx⟩
    subst hP hw hK
    obtain ⟨its, rv, p, hz⟩ := I.tuple hq
    obtain ⟨u, hu, ru⟩ := rv.get hx
    have el : e < s.heap.objs.size := Heap.lt_size he
    have il : it < s.heap.objs.size := by obtain ⟨_, q, _⟩ := hit; exact Heap.lt_size q
    have D := Draws.tuple (prog := X.prog) (w := X.w) (A := X.A.in1) (I.ok.hd hc) it a na its.toArray
    have lt : i < its.toArray.size := by
      have z := (List.getElem?_eq_some_iff.mp hu).1
      simpa using z
    refine wpAny_pyNext_enum_itemD D he ⟨hit, p⟩ lt ne (by simp [ne, Ne.symm nb]) fun y h' tk hy ho st hT hsz hk => ?_
    have ey : y = u := by
      have z : its[i]? = some y := by simpa using hy
      rw [hu] at z
      exact (Option.some.inj z).symm
    subst ey
    refine ⟨_, rfl, wpAny_letOwnedTupleGo_enum (s := { s with heap := h', toks := tk + 1 }) ho fun h2 he2 sb => ?_⟩
    have hT2 : h2.get? s.heap.objs.size = some { cls := .type "tuple", data := .seq #[.int i tk, y] } := (sb.2 _ (Nat.ne_of_gt el)).trans hT
    have new : ObjOk X.prog X.w (upd H s.heap.objs.size (.tup [.int (i : Nat), x])) h2 s.heap.objs.size (.tup [.int (i : Nat), x]) := ⟨by show 2 ≤ sizeLine; decide, [.int i tk, y], .cons ⟨_, rfl⟩ (.cons ru .nil), ⟨_, hT2, rfl, _, rfl⟩⟩
    have I1 : Inv X pins σ (upd H s.heap.objs.size (.tup [.int (i : Nat), x])) { s with heap := h2, toks := tk + 1 } :=
      I.turnedNew (ch := [e, it]) (fun b ob hb q => (sb.2 b (fun z => hb (by simp [z]))).trans (hk b ob (fun z => hb (by simp [z])) (fun z => hb (by simp [z])) q)) hf (Nat.le_refl _) new
    refine ⟨.ref s.heap.objs.size, _, I1, rfl, ⟨_, x, rfl, I.hok.fresh (Nat.le_refl _), rfl, fun ys hy => by rw [I.tuple_inj hy hq]; exact hx⟩, ⟨⟨y, ?_⟩, st.1.at fun o q => (sb.2 it (Ne.symm ne)).trans q, ne, na, nb⟩, fun b hb => ?_⟩
    · rw [show ((i + 1 : Nat) : Int) = (i : Int) + 1 from by omega]; exact he2
    · have hb' : b < s.heap.objs.size := by
        rcases List.mem_cons.mp hb with z | z
        · rw [z]; exact el
        · rw [List.mem_singleton.mp z]; exact il
      rw [upd_ne (Nat.ne_of_lt hb')]
      exact (hf b hb).1
  done := by
    intro X hP hw hK hc i pins s σ H E I hf ⟨⟨old, he⟩, hit, ne, na, nb⟩ ⟨xs, hq, hx⟩
    subst hP hw hK
    obtain ⟨its, rv, p, hz⟩ := I.tuple hq
    obtain ⟨f0, f1, f2, f3, f4, f5⟩ := hf it (by simp)
    have hl := rv.length
    have es : its.toArray.size = i := by rw [List.size_toArray, ← hl, hx]
    have D := Draws.tuple (prog := X.prog) (w := X.w) (A := X.A.in1) (I.ok.hd hc) it a na its.toArray
    refine wpAny_pyNext_enum_endD D he ⟨?_, p⟩ fun h' eb => ⟨rfl, I.turned (t' := s.toks) (fun b o hb q => eb b o hb q) f0 f1 f3 f4 f5⟩
    rw [es]; exact hit
  self := fun A i s Q E ⟨⟨_, he⟩, _⟩ h => wpAny_pyIter_enum he h
section
variable {G : Cfg} {X : Cx} {e : Expr}
theorem walks_enumT {K : PySem.W.Frag} {F : Hp} {M : MM} {H : Hp} {a : Addr} {vs : List V} {ds : List D} (hm : HM G K F M H) (h : SqT K F a vs) (r : RepL G K F vs ds) : Walks G K F M H (IteT K a) { items := enumL 0 ds } := by
  have len : ∀ (n : Nat) (l : List D), (enumL n l).length = l.length := by
    intro n l
    induction l generalizing n with
    | nil => rfl
    | cons d l ih => show (enumL (n + 1) l).length + 1 = _; rw [ih]; rfl
  refine ⟨fun F' M' H' i d g st e => ?_, fun F' M' H' g st => ?_⟩
  · obtain ⟨d1, e1, rfl⟩ := enumL_get e
    obtain ⟨v, e2, r1⟩ := r.get e1
    have hs : SqT K H' a vs := sqT_up g.hm.sub (sqT_up g.ext h)
    refine ⟨⟨vs, v, hs, e2⟩, fun x H2 ⟨T, u, ex, hT, eH, k⟩ => ?_⟩
    have e3 := k vs hs
    rw [e2] at e3
    cases e3
    subst ex eH
    have gn := g.hm.new (o := .tup [.int (i : Nat), v]) hT
    refine ⟨_, gn, .tup upd_same (.cons ?_ (.cons ((r1.mono g.ext).mono gn.ext) .nil))⟩
    rw [Nat.zero_add]; exact .int _
  · exact ⟨vs, sqT_up g.hm.sub (sqT_up g.ext h), by rw [r.len]; exact (len 0 ds).symm⟩
@[irreducible] def kiET (Q : IT → MM → Prop) (ds : List D) (M : MM) : Prop := match ds with
  | [.tup xs] => Q { items := enumL 0 xs } M
  | _ => False
def wiET (wa : WA) : WI := fun δ M Q EX => wa δ M (kiET Q) EX
theorem at_enumT {Q : IT → MM → Prop} {M : MM} {xs : List D} (q : Q { items := enumL 0 xs } M) : kiET Q [.tup xs] M := by
  unfold kiET; exact q
theorem di_enumT {elts : List Expr} {kk : Nat} {wa : WA} {p pos tpos : Pos} (hm : X.mg "enumerate" = none) (ha : DA G X [e] wa) (hg : Gl X "enumerate" := by rfl) (hs : starEach [e] X.env = [(false, eval e X.env)] := by rfl) :
    DI G X (.Tuple elts kk tpos) (.Call (.Name "enumerate" p) [e] [] pos) (wiET wa) := by
  refine ⟨fun pins s σ H R I ⟨F, M, δ, Q, EX, hm1, rs, h, tk, f⟩ => ?_⟩
  refine Call_ (ld_blt I hg hm boot_enumerate (PyProof.Rows.callWith_type1 (thn (da_run ha pos I hm1 rs h tk) fun us s1 ⟨vs, H1, I1, r1, ds, F1, M1, g1, rl, q⟩ => ?_) hs rfl))
  unfold kiET at q
  split at q
  · rename_i xs
    obtain ⟨v, rfl, rv⟩ := one_rep rl
    cases rv with
    | tup ht rt =>
      rename_i a vs
      obtain ⟨u, rfl, ru⟩ := r1.one
      obtain rfl : u = Value.ref a := ru
      have hq : SqT X.K H1 a vs := sqT_mono g1.hm.sub ht
      obtain ⟨its, rv2, p2, hz⟩ := I1.tuple hq
      refine call_enumT p2 fun h' he hit hk => wpAny_pyIter_enum he ?_
      have I2 : Inv X pins σ H1 { s1 with heap := h' } := I1.kept (t' := s1.toks) hk
      have al : a < s1.heap.objs.size := by obtain ⟨_, q, _⟩ := p2; exact Heap.lt_size q
      refine ⟨s1.heap.objs.size + 1, [s1.heap.objs.size + 1, s1.heap.objs.size], _, IteT X.K a, H1, rfl, I2, turn_enumT a (s1.heap.objs.size + 1) s1.heap.objs.size, ⟨⟨.none, he⟩, hit, Nat.succ_ne_self _, Nat.ne_of_lt al, Nat.ne_of_lt (Nat.lt_succ_of_lt al)⟩, fun b hb => ?_, f _ _ F1 M1 H1 g1 (walks_enumT g1.hm (SqT.of ht) rt) q⟩
      have le : s1.heap.objs.size ≤ b := by
        rcases List.mem_cons.mp hb with z | z
        · rw [z]; exact Nat.le_succ _
        · rw [List.mem_singleton.mp z]; exact Nat.le_refl _
      exact I1.fpOk le (I1.hok.fresh le)
  · exact q.elim
end
end DL

set_option Elab.async false
set_option linter.all false
set_option maxRecDepth 100000
/-! def __init__(self, x): super().__init__(x) -/
namespace DL
open PySem PySem.Spec L2
open PyProof.Rows hiding St
section
variable {G : Cfg} {P : Program} {w : World} {K : PySem.W.Frag} {mg : Str → Option Value} {base : Heap} {C : Addr} {c k : Nat} {qual : Str} {st : Stmt} {f f2 cc cda : Addr} {x1 x2 : Str} {sp2 : SpD}
def spSup (c : Nat) (sp2 : SpD) : SpD := fun ds M Q EX => match ds with
  | [d0, d1] => (∃ fs, insOf M d0 = some (c, fs)) ∧ sp2 [d0, d1] M (fun _ M' => Q .non M') EX
  | _ => False
theorem look1 {k y : Str} {b b2 : Addr} (h : List.lookup y [(k, b)] = some b2) : y = k ∧ b2 = b := by
  unfold List.lookup at h
  split at h
  · rename_i z
    exact ⟨eq_of_beq z, (Option.some.inj h).symm⟩
  · cases h
theorem looks_bound {M : Model} {h : Heap} {m f2 : Addr} {x : Value} {o2 : Obj} {fd2 : FuncData} (e1 : h.get? m = some { cls := .type "method", data := .fields #[.ref f2, x] }) (e2 : h.get? f2 = some o2) (e3 : o2.data = .func fd2) : PySem.W.Looks M h (keeperOf (.ref m)) .boundFrame := by
  intro A Q E s k q
  unfold keeperOf
  refine wpAny_bind (wpAny_load (k _ _ e1) ?_)
  show wpAny M A (load f2 >>= _) Q E s
  refine wpAny_bind (wpAny_load (k _ _ e2) ?_)
  rw [e3]
  exact wpAny_pure q
abbrev plOf (o : Expr) (env : Env) : Sem Bool := do
  let r ← importBound o env
  pure (r.getD true)
theorem ev_super {env : Env} {x2 : Str} {p0 p1 p2 p3 p4 : Pos} (h : (p2.endLine == p4.line) = true) : eval (.Call (.Attribute (.Call (.Name "super" p0) [] [] p1) "__init__" p2) [.Name x2 p3] [] p4) env = (do
    let ov ← attributeBase (.Call (.Name "super" p0) [] [] p1) "__init__" env (eval (.Call (.Name "super" p0) [] [] p1) env)
    standAt p2.atName
    let __x ← holding [ov] (getMethod ov "__init__" (plOf (.Call (.Name "super" p0) [] [] p1) env))
    match __x with
      | (f, first) => callWith p4 f first (backTo p4 (starEach [.Name x2 p3] env)) []) := by
  rw [eval]
  unfold methodCall
  have e : methodCallForm ([Expr.Name x2 p3].length + ([] : List Keyword).length) (backTo p4 (starEach [Expr.Name x2 p3] env)) (backToKw p4 (keywordEach [] env)) = true := rfl
  have e2 : ∀ o, methodCallPos true o env p2 p4 = pure p4 := by
    intro o
    unfold methodCallPos
    rw [h]; rfl
  have e3 : ∀ o ov, calleeOf true o env ov "__init__" = getMethod ov "__init__" (plOf o env) := by
    intro o ov
    unfold calleeOf
    rfl
  simp only [e, e2, e3]
  rfl
theorem cls_at {K : PySem.W.Frag} {C : Addr} {cd : ClassData} (h : PySem.W.clsIn K C = some cd) : ∃ o, List.lookup C K = some o ∧ o.data = .cls cd := by
  unfold PySem.W.clsIn at h
  split at h
  · rename_i e
    cases h
    exact ⟨_, e, rfl⟩
  · cases h
theorem look_first {x1 x2 : Str} {a b : Value} (h : x1 ≠ x2) : List.lookup x1 ([x1, x2].zip [a, b]).reverse = some a := by
  show List.lookup x1 [(x2, b), (x1, a)] = some a
  have e : (x1 == x2) = false := beq_false_of_ne h
  unfold List.lookup
  rw [e]
  exact List.lookup_cons_self
theorem look_last {x1 x2 : Str} {a b : Value} : List.lookup x2 ([x1, x2].zip [a, b]).reverse = some b := List.lookup_cons_self
structure SupOk (P : Program) (K : PySem.W.Frag) (C : Addr) (qual : Str) (st : Stmt) (f f2 : Addr) (x1 x2 : Str) : Prop where
  mkf : Mk K C f
  fn : ∃ oc od kV doc pm an ct osl cda cc, List.lookup f K = some { cls := oc, dict := od, data := .func (PySem.W.fnX "__init__" qual (defArgs st) (defBody st) (defScope st) [("__class__", cc)] .none kV doc pm an (.ref cda) ct), slots := osl } ∧
    PySem.W.codeIn K (.ref cda) qual = true ∧ (∃ ccl cdd vs ccs file tf, List.lookup cda K = some { cls := ccl, dict := cdd, data := .fields vs, slots := ccs } ∧ vs[2]? = some (.str file tf) ∧ (P.main.file == file) = true) ∧
    (∃ cl cld csl, List.lookup cc K = some { cls := cl, dict := cld, data := .cell (some (.ref C)), slots := csl }) ∧
    ∀ us : List Value, us.length = 2 → bindArgs (PySem.W.fnX "__init__" qual (defArgs st) (defBody st) (defScope st) [("__class__", cc)] .none kV doc pm an (.ref cda) ct) ⟨us, []⟩ = pure ([x1, x2].zip us)
  cd : ∃ cd, PySem.W.clsIn K C = some cd
  mro : PySem.W.mroIn K C (.ref C) = some true
  zs : PySem.W.nsIn K mainGlobals "super" = some none
  zt : PySem.W.nsIn K cStatics "thirdparty.any" = some none
  sup : PySem.W.ks_superIn K C C "__init__" = some (some (.ref f2))
  fn2 : ∃ od fd2 sl, List.lookup f2 K = some { cls := .type "function", dict := od, data := .func fd2, slots := sl }
  pm : (List.lookup ("super" : Str) P.main.scope.names).isSome = false
structure SupSt (st : Stmt) (x1 x2 : Str) : Prop where
  sc : NdefX.NScope [x1, x2, "__class__"] [x1, x2] ["__class__"] (defScope st)
  su : List.lookup ("super" : Str) (defScope st).names = some .globalImplicit
  ar : ∃ ar, ((defArgs st).posonlyargs ++ (defArgs st).args).head? = some ar ∧ ar.arg = x1
  body : ∃ p0 p1 p2 p3 p4 p5, defBody st = [.Expr (.Call (.Attribute (.Call (.Name "super" p0) [] [] p1) "__init__" p2) [.Name x2 p3] [] p4) p5] ∧ (p2.endLine == p4.line) = true
  db : (x2 == ("__debug__" : Str)) = false
  dc : (x2 == ("__classdict__" : Str)) = false
theorem okInitSup (g : SupOk P K C qual st f f2 x1 x2) (S : SupSt st x1 x2) (hC : G.cl c = C) (F2 : FnP P w K mg base false k f2 (lift G K sp2)) : OkInitP P w K mg base false (k + 1) C (lift G K (spSup c sp2)) := by
  subst hC
  obtain ⟨mk, ⟨oc, od, kV, doc, pm, an, ct, osl, cda, cc, lk, hcd, ⟨ccl, cdd, vs0, ccs, file, tf, lcd, hfile, hmain⟩, ⟨cl, cld, csl, lcc⟩, hbind⟩, ⟨cd, hcl⟩, hmro, zs, zt, hsup, ⟨od2, fd2, sl2, lk2⟩, hpm⟩ := g
  obtain ⟨hsc, hsu, ⟨ar, har, hax⟩, ⟨p0, p1, p2, p3, p4, p5, hbody, hpos⟩, hdb, hdc⟩ := S
  refine ⟨f, mk, ⟨fun A out s H us vs Q E hr hg e0 r h => ?_⟩⟩
  obtain ⟨F', M, ds, Q', EX, hm, rl, h1, fin, hx⟩ := h
  unfold spSup at h1
  split at h1
  case h_2 => exact h1.elim
  rename_i d0 d1
  obtain ⟨⟨fs, ei⟩, h2⟩ := h1
  obtain ⟨v0, v1, rfl⟩ : ∃ v0 v1, vs = [v0, v1] := by
    have := rl.len
    match vs, this with
    | [a, b], _ => exact ⟨a, b, rfl⟩
  obtain ⟨u0, u1, rfl⟩ : ∃ u0 u1, us = [u0, u1] := by
    have := r.length
    match us, this with
    | [a, b], _ => exact ⟨a, b, rfl⟩
  have inK : K.In s.heap := e0.mod.kin.keeps (fun b o z => (e0.bs b o z).left)
  have hfree : ∀ (b : Addr) (o : Obj), List.lookup b K = some o → H b = none := fun b o z => (e0.bs b o (e0.mod.kin b o z)).right
  let NF : NdefX.NF := ⟨"__init__", qual, defArgs st, defBody st, defScope st, [("__class__", cc)], cda⟩
  have cells : NdefX.CellsAt NF.cl ["__class__"] [none] s.heap H := by
    refine ⟨rfl, fun y b hb => ?_, fun x y b hx hy => ?_, fun i y hi => ?_⟩
    · obtain ⟨_, rfl⟩ := look1 hb
      exact ⟨hfree _ _ lcc, _, _, inK _ _ lcc, rfl⟩
    · rw [(look1 hx).1, (look1 hy).1]
    · match i, hi with
      | 0, hi =>
        cases hi
        refine ⟨cc, (show List.lookup ("__class__" : Str) [(("__class__" : Str), cc)] = some cc from List.lookup_cons_self), fun v hv => ?_⟩
        cases hv
      | i + 1, hi => cases hi
  refine ks_codeAny_call_defAt (binds := [x1, x2].zip [u0, u1]) (by have := hr.dp; omega) (inK f _ lk) rfl (e0.mod.nolimit.keeps fun b o z => (e0.bs b o z).left) (PySem.W.codeRec_of inK hcd) rfl ?_ hsc.nocell ?_ ?_ hsc.co hsc.gen hsc.kind
  · intro M1 A1 E1 Q1 q
    rw [hbind [u0, u1] rfl]
    exact wpAny_pure q
  · intro z hz
    simp only [List.zip_cons_cons, List.zip_nil_right, List.mem_cons, List.not_mem_nil, or_false] at hz
    rcases hz with e | e
    · rw [e]; exact hsc.par x1 (by simp)
    · rw [e]; exact hsc.par x2 (by simp)
  intro h₀ ns keep
  have I : Inv (NdefX.ncx (L2.CX P w) P w K mg base [x1, x2, "__class__"] NF f A out s H E) [] (NdefX.startF [x1, x2, "__class__"] [v0, v1] [none]) H { heap := h₀, gens := s.gens, drawn := s.drawn, toks := s.toks + 2, os := s.os } :=
    NdefX.inv_startN hsc hr.hd e0 rfl r cells ns keep
  have inK0 : K.In h₀ := fun b o z => keep b o (inK b o z)
  have ne12 : x1 ≠ x2 := by
    have := hsc.nd
    simp only [List.nodup_cons, List.mem_cons, not_or] at this
    exact this.1.1
  -- the instance
  obtain ⟨a, ox, od0, rfl, rfl, J⟩ : ∃ a ox od, v0 = .ref a ∧ u0 = .ref a ∧ PySem.W.InstAt h₀ a ox (G.cl c) (some od) := by
    cases rl with
    | cons rd0 _ =>
      cases r with
      | cons rv0 _ => exact inst_at (X := NdefX.ncx (L2.CX P w) P w K mg base [x1, x2, "__class__"] NF f A out s H E) I hm rv0 rd0 ei
  show PySem.wpAt (model P w) (A.deeper (NdefX.envF NF f s.heap.objs.size)) (Code.func (defBody st) (NdefX.envF NF f s.heap.objs.size)) (execs (defBody st) (NdefX.envF NF f s.heap.objs.size)) _ _ _
  obtain ⟨env, eE⟩ : ∃ env, env = NdefX.envF NF f s.heap.objs.size := ⟨_, rfl⟩
  obtain ⟨body, eB⟩ : ∃ body, body = defBody st := ⟨_, rfl⟩
  rw [← eB]
  rw [hbody] at eB
  have eB2 := eB
  subst eB
  rw [← eE]
  refine ks_wpAt_execs_cons (ks_wpAt_Expr_any (ks_wpAt_MethodCall (ks_wpAt_super_base (f := f) (cc := cda) (ar := ar) ?_ ?_ (by decide) ?_ (keep _ _ (inK _ _ lk)) rfl har ?_ (keep _ _ (inK _ _ lcd)) rfl hfile hmain hpm ?_) (ev_super hpos)) ?_ rfl)
  · rw [eE]; exact hsu
  · rw [eE]; exact hsc.frk _ (by simp)
  · rw [eE]
  · rw [eE]
  · have kd : env.scope.kind = .function := by rw [eE]; exact hsc.kind
    obtain ⟨mb, nb, hb⟩ := e0.mod.blt
    obtain ⟨oC, eC, dC⟩ := cls_at hcl
    refine PySem.W.ks_loadName_global kd (by rw [eE]; exact hsu) ?_
    refine Calls.loadGlobal_builtin (mg := mg) (mb := mb) (v := .type "super") ?_ (PySem.W.mg_none_of e0.mod.kin e0.mod.glob zs) ?_ ?_ ⟨rfl, ?_⟩
    · rw [eE]; exact e0.mod.glob.keeps fun b o z => keep b o (e0.bs b o z).1
    · rw [eE]; exact nb.keeps fun b o z => keep b o (e0.bs b o z).1
    · rw [hb _ (by decide)]; decide +kernel
    refine wpAny_loadName_free (c := cc) kd (by rw [eE]; exact hsc.frk _ (by simp)) (by rw [eE]; exact List.lookup_cons_self) ⟨_, keep _ _ (inK _ _ lcc), rfl⟩ ?_ (by decide)
    refine wpAny_loadName_local (m := fun x => List.lookup x ([x1, x2].zip [Value.ref a, u1]).reverse) (v := .ref a) kd (by rw [eE, hax]; exact hsc.par _ (by simp)) (by rw [eE]; exact ns) ?_ ?_
    · rw [hax]
      exact look_first ne12
    refine ks_wpAny_isType_cls (inK0 _ _ eC) dC ⟨rfl, ?_⟩
    refine ks_wpAny_call_super (inK0 _ _ eC) dC J.at_ J.cls ?_ (PySem.W.looks_mroIn inK0 hmro) fun h' e1 keep1 => ?_
    · intro z hz
      have := J.no
      unfold PySem.W.notCls at this
      rw [hz] at this
      cases this
    have inK1 : K.In h' := fun b o z => keep1 b o (inK0 b o z)
    refine ks_wpAny_getMethod_super (f := f2) e1 (PySem.W.looks_opaque inK1 zt) ((PySem.W.looks_clsIn inK1 hcl).andThen (f := fun cd => pure cd.mro) .now) rfl inK1 ?_ (inK1 _ _ lk2) rfl (PySem.W.ks_ne inK0 J hcl) (by decide) ?_
    · have z := hsup
      unfold PySem.W.ks_superIn at z
      rw [hcl] at z
      exact z
    have k2 : ∀ (b : Addr) (o : Obj), h₀.get? b = some o → (h'.push { cls := .type "method", data := .fields #[.ref f2, .ref a] }).get? b = some o := fun b o z => Heap.get?_push_of_some _ (keep1 b o z)
    have gm : (h'.push { cls := .type "method", data := .fields #[.ref f2, .ref a] }).get? h'.objs.size = some { cls := .type "method", data := .fields #[.ref f2, .ref a] } := Heap.get?_push_size h' rfl
    refine PySem.W.callWith_of (P := fun hh => hh.get? h'.objs.size = some { cls := .type "method", data := .fields #[.ref f2, .ref a] } ∧ hh.get? f2 = some { cls := .type "function", dict := od2, data := .func fd2, slots := sl2 }) rfl (fun hh z => ⟨.boundFrame, .inr (.inr rfl), looks_bound z.1 z.2 rfl⟩) ?_
    refine FK.evalArgs_any rfl ?_
    refine Calls.spliced_cons (wpAny_Name (wpAny_loadName_local (m := fun x => List.lookup x ([x1, x2].zip [Value.ref a, u1]).reverse) (v := u1) kd (by rw [eE]; exact hsc.par _ (by simp)) (by rw [eE]; exact ns.keeps k2) look_last ?_) hdb)
    refine Calls.spliced_nil ⟨⟨gm, k2 _ _ (inK0 _ _ lk2)⟩, ?_⟩
    refine wpAny_call (ks_codeAny_call_bound gm ?_)
    subst eE
    have I2 : Inv (NdefX.ncx (L2.CX P w) P w K mg base [x1, x2, "__class__"] NF f A out s H E) [] (NdefX.startF [x1, x2, "__class__"] [V.ref a, v1] [none]) H { heap := h'.push { cls := .type "method", data := .fields #[.ref f2, .ref a] }, gens := s.gens, drawn := s.drawn, toks := s.toks + 2 + 1, os := s.os } := I.kept k2
    have rs : RS G K F' (NdefX.startF [x1, x2, "__class__"] [V.ref a, v1] [none]) [some d0, some d1, none] := by
      refine ⟨rfl, fun i d hd => ?_⟩
      cases rl with
      | cons rd0 rr =>
        cases rr with
        | cons rd1 _ =>
          match i, hd with
          | 0, hd => cases hd; exact ⟨_, rfl, rd0⟩
          | 1, hd => cases hd; exact ⟨_, rfl, rd1⟩
          | 2, hd => cases hd
          | i + 3, hd => cases hd
    have tk0 : Takes (NdefX.ncx (L2.CX P w) P w K mg base [x1, x2, "__class__"] NF f A out s H E) (fun cls d _ H => E cls d H) := takes_of rfl rfl rfl rfl
    have tk : Takes (NdefX.ncx (L2.CX P w) P w K mg base [x1, x2, "__class__"] NF f A out s H E) (wX G K F' M H (fun xd _ M' => EX xd M')) := tk0.imp fun c d σ' H' ⟨xd, δ', F1, M1, g1, r1, rx, q⟩ => hx c d xd F1 M1 H' g1 rx q
    have run := runP_at (X := NdefX.ncx (L2.CX P w) P w K mg base [x1, x2, "__class__"] NF f A out s H E) (P := fun _ H' => Q .non H') F2 (hr.deeper _) (fun z => nomatch z) I2 r hm rs rl (Q := fun _ M' => Q' .non M') (EX := fun xd _ M' => EX xd M') h2 tk (fun v d F1 M1 H1 g _ q => fin .non .non F1 M1 H1 g .non q)
    refine codeAny_mono run fun res s' hq => ?_
    match res, hq with
    | .error z, hq => exact hq
    | .ok (.ret u), ⟨v, H', I3, _, q⟩ =>
      refine wpAt_of_wpAny (wpAny_execs_nil ?_)
      exact ⟨.non, H', I3.os, I3.bare, I3.base, I3.hok, rfl, q⟩
  · rw [eE]
    show (NF.scope.kind == ScopeKind.module && _) = false
    rw [hsc.kind]; rfl
end
end DL

set_option Elab.async false
set_option linter.all false
set_option maxRecDepth 100000
/-! three names at once -/
namespace DL
open PySem PySem.Spec L2
open PyProof.Rows hiding St
theorem ps_par3 {X : Cx} {i j k : Nat} {x y z : Str} {a b c : Expr} {ta : TA} {px py pz pt pos : Pos} {kt k2 : Nat} {pt2 : Pos} (hc : X.calm = true) (hN : X.N.Nodup) (hi : X.N[i]? = some x) (hj : X.N[j]? = some y) (hk : X.N[k]? = some z)
    (lx : X.env.scope.names.lookup x = some .local) (ly : X.env.scope.names.lookup y = some .local) (lz : X.env.scope.names.lookup z = some .local) (ha : PA X [a, b, c] ta)
    (hw : swappedStores [.Tuple [.Name x px, .Name y py, .Name z pz] kt pt] (.Tuple [a, b, c] k2 pt2) X.env = pure (some [x, y, z])) (hs : swapsWithSole [.Tuple [.Name x px, .Name y py, .Name z pz] kt pt] (.Tuple [a, b, c] k2 pt2) pos.line X.env = pure false) :
    PS X (.Assign [.Tuple [.Name x px, .Name y py, .Name z pz] kt pt] (.Tuple [a, b, c] k2 pt2) pos) (fun D σ H => ta σ H fun vs H1 => ∃ u v w, vs = [u, v, w] ∧ D.nx (((σ.set k (some w)).set j (some v)).set i (some u)) H1) := by
  refine ⟨fun pins s σ H D I h => ?_⟩
  rw [exec_Assign_arm]
  refine wpAny_bind (wpAny_standAt ?_)
  rw [hs]
  refine wpAny_bind (wpAny_pure ?_)
  rw [if_neg (by decide)]
  refine wpAny_bind (Tuple_ (thn (ha.run _ pins s σ H _ I h) fun us s1 hq => ?_))
  obtain ⟨vs, H1, I1, r, u, v, w, rfl, q⟩ := hq
  obtain ⟨u1, u2, u3, rfl⟩ : ∃ u1 u2 u3, us = [u1, u2, u3] := by
    have := r.length
    match us, this with
    | [a, b, c], _ => exact ⟨a, b, c, rfl⟩
  obtain ⟨r1, r2, r3⟩ : RelV u u1 ∧ RelV v u2 ∧ RelV w u3 := by
    cases r with
    | cons r1 r =>
      cases r with
      | cons r2 r =>
        cases r with
        | cons r3 _ => exact ⟨r1, r2, r3⟩
  refine wpAny_newObj_type ?_
  have I2 := I1.kept (t' := s1.toks) (h' := s1.heap.push { cls := Value.type "tuple", data := Data.seq #[u1, u2, u3] }) fun b o z => Heap.get?_push_of_some _ z
  rw [hw]
  refine wpAny_bind (wpAny_pure ?_)
  unfold assignStores
  refine wpAny_bind (wpAny_rule ?_)
  refine wpAny_bind (unpackItems_tuple (items := #[u1, u2, u3]) (I2.ok.hd hc) (IsTup.new _ _) fun h' he => ?_)
  have I3 : Inv X pins σ H1 { heap := h', gens := s1.gens, drawn := s1.drawn, toks := s1.toks, os := s1.os } := I1.kept fun b o z => by
    have z2 : (s1.heap.push { cls := Value.type "tuple", data := Data.seq #[u1, u2, u3] }).get? b = some o := Heap.get?_push_of_some _ z
    exact he b o (Nat.ne_of_lt (Heap.lt_size z2)) z2
  refine wpAny_bind (assignInOrder_cons (wpAny_bindName (store_ok I3 hN hk (.inl lz) r3 (fun s4 I4 => ?_) (.inr lz))))
  refine assignInOrder_cons (wpAny_bindName (store_ok I4 hN hj (.inl ly) r2 (fun s5 I5 => ?_) (.inr ly)))
  refine assignInOrder_cons (wpAny_bindName (store_ok I5 hN hi (.inl lx) r1 (fun s6 I6 => ?_) (.inr lx)))
  refine assignInOrder_nil (wpAny_pure ?_)
  exact ⟨_, _, I6, q⟩
section
variable {G : Cfg} {X : Cx}
def kPar3 (i j k : Nat) (nx : DS → MM → Prop) (δ : DS) (ds : List D) (M1 : MM) : Prop := match ds with
  | [a, b, c] => nx (((δ.set k (some c)).set j (some b)).set i (some a)) M1
  | _ => False
def wPar3 (i j k : Nat) (wa : WA) : WS := fun E EX δ M => wa δ M (kPar3 i j k E.nx δ) EX
theorem ds_par3 (i j k : Nat) {x y z : Str} {a b c : Expr} {wa : WA} {px py pz pt pos : Pos} {kt k2 pt2} (hN : X.N.Nodup) (ha : DA G X [a, b, c] wa) (hc : X.calm = true := by rfl) (hi : X.N[i]? = some x := by rfl) (hj : X.N[j]? = some y := by rfl) (hk : X.N[k]? = some z := by rfl)
    (hx : X.env.scope.names.lookup x = some .local := by rfl) (hy : X.env.scope.names.lookup y = some .local := by rfl) (hz : X.env.scope.names.lookup z = some .local := by rfl)
    (hw : swappedStores [.Tuple [.Name x px, .Name y py, .Name z pz] kt pt] (.Tuple [a, b, c] k2 pt2) X.env = pure (some [x, y, z]) := by rfl)
    (hs : swapsWithSole [.Tuple [.Name x px, .Name y py, .Name z pz] kt pt] (.Tuple [a, b, c] k2 pt2) pos.line X.env = pure false := by rfl) :
    DSt G X (.Assign [.Tuple [.Name x px, .Name y py, .Name z pz] kt pt] (.Tuple [a, b, c] k2 pt2) pos) (wPar3 i j k wa) := by
  refine ps_imp (ps_par3 hc hN hi hj hk hx hy hz ha hw hs) fun D σ H h => ?_
  obtain ⟨F, M, δ, E, EX, hm, rs, h, tk, n, r, b, c⟩ := h
  refine ⟨F, M, δ, _, EX, hm, rs, h, tk, fun vs ds F1 M1 H1 g1 r1 q => ?_⟩
  unfold kPar3 at q
  split at q
  · cases r1 with
    | cons ra t =>
      cases t with
      | cons rb t =>
        obtain ⟨v, rfl, rc⟩ := one_rep t
        exact ⟨_, _, _, rfl, n _ _ F1 M1 H1 g1 ((((rs.mono g1.ext).set k rc).set j rb).set i ra) q⟩
  · exact q.elim
end
end DL

set_option Elab.async false
set_option linter.all false
set_option maxRecDepth 100000
/-! isinstance with one of two classes -/
namespace DL
open PySem PySem.Spec L2
open PyProof.Rows hiding St
section
variable {G : Cfg} {X : Cx} {K : PySem.W.Frag} {e : Expr} {we : WE}
theorem tyD_rep2 {K : PySem.W.Frag} {F : Hp} {M : MM} {H : Hp} {v : V} {d : D} {t : Ty} {tb tb2 : Ty → Option Bool} {b b2 : Bool} {u u2 : Value} (T : IsiT G K u tb) (T2 : IsiT G K u2 tb2) (hm : HM G K F M H) (r : Rep G K F v d) (e : tyD M d = some t) (q : tb t = some b) (q2 : tb2 t = some b2) :
    ∃ tv, TyX K H v tv ∧ PySem.W.kitOne K tv u = some b ∧ PySem.W.kitOne K tv u2 = some b2 := by
  unfold tyD at e
  split at e
  · cases r; cases e; exact ⟨_, .base .non, T.bt _ _ (fun _ z => Ty.noConfusion z) q, T2.bt _ _ (fun _ z => Ty.noConfusion z) q2⟩
  · cases r; cases e; exact ⟨_, .base (.bl _), T.bt _ _ (fun _ z => Ty.noConfusion z) q, T2.bt _ _ (fun _ z => Ty.noConfusion z) q2⟩
  · cases r; cases e; exact ⟨_, .base (.int _), T.bt _ _ (fun _ z => Ty.noConfusion z) q, T2.bt _ _ (fun _ z => Ty.noConfusion z) q2⟩
  · cases r; cases e; exact ⟨_, .base (.str _), T.bt _ _ (fun _ z => Ty.noConfusion z) q, T2.bt _ _ (fun _ z => Ty.noConfusion z) q2⟩
  · cases e
    cases r with
    | tup h r =>
      refine ⟨_, ?_, T.bt _ _ (fun _ z => Ty.noConfusion z) q, T2.bt _ _ (fun _ z => Ty.noConfusion z) q2⟩
      rcases sqT_mono hm.sub h with z | ⟨o, its, n, h1, h2, _⟩
      · rcases z with z | ⟨o, z⟩
        · exact .base (.tup z)
        · exact .fTuple z
      · exact .kTuple h1 h2
    
  · cases e
    cases r with
    | lst h r => exact ⟨_, .base (.lst (hm.sub _ _ h)), T.bt _ _ (fun _ z => Ty.noConfusion z) q, T2.bt _ _ (fun _ z => Ty.noConfusion z) q2⟩
  · cases e
    cases r with
    | dct h r => exact ⟨_, .base (.dK (hm.sub _ _ h)), T.bt _ _ (fun _ z => Ty.noConfusion z) q, T2.bt _ _ (fun _ z => Ty.noConfusion z) q2⟩
  · cases e
    cases r with
    | ins h l r =>
      obtain ⟨h1, h2, h3, h4, h5, h6⟩ := T.ow _ _ q
      exact ⟨_, .base (.ins (hm.sub _ _ h) h2 h3 h4 h5 h6), h1, (T2.ow _ _ q2).1⟩
  · cases r
    split at e
    · rename_i z
      cases e
      obtain ⟨vs, h1, r1⟩ := hm.mo _ _ z
      exact ⟨_, .base (.lst h1), T.bt _ _ (fun _ z => Ty.noConfusion z) q, T2.bt _ _ (fun _ z => Ty.noConfusion z) q2⟩
    · rename_i z
      cases e
      obtain ⟨vs, h1, r1⟩ := hm.mo _ _ z
      exact ⟨_, .base (.dK h1), T.bt _ _ (fun _ z => Ty.noConfusion z) q, T2.bt _ _ (fun _ z => Ty.noConfusion z) q2⟩
    · rename_i z
      cases e
      obtain ⟨dx, vs, h1, l, r1⟩ := hm.mo _ _ z
      obtain ⟨h1', h2, h3, h4, h5, h6⟩ := T.ow _ _ q
      exact ⟨_, .base (.ins h1 h2 h3 h4 h5 h6), h1', (T2.ow _ _ q2).1⟩
    · cases e
  · cases e
@[irreducible] def kIsi2 (ta tb : Ty → Option Bool) (Q : D → MM → Prop) (d : D) (M1 : MM) : Prop := match tyD M1 d with
  | some t => match ta t, tb t with
    | some a, some b => Q (.bl (a || b)) M1
    | _, _ => False
  | none => False
theorem at_isi2 {ta tb : Ty → Option Bool} {Q : D → MM → Prop} {d : D} {M1 : MM} {t : Ty} {a b : Bool} (h : tyD M1 d = some t) (h2 : ta t = some a) (h3 : tb t = some b) (q : Q (.bl (a || b)) M1) : kIsi2 ta tb Q d M1 := by unfold kIsi2; rw [h]; dsimp only; rw [h2, h3]; exact q
def wIsi2 (ta tb : Ty → Option Bool) (we : WE) : WE := fun δ M Q EX => we δ M (kIsi2 ta tb Q) EX
theorem de_isi2 {cva cvb : V} {ua ub : Value} {ta tb : Ty → Option Bool} {xa xb : Str} {p pa pb pt pos : Pos} {kt : Nat} (ka : ClsV cva ua) (Ta : IsiT G X.K ua ta) (kb : ClsV cvb ub) (Tb : IsiT G X.K ub tb) (hm : X.mg "isinstance" = none) (he : DE G X e we)
    (ma : X.mg xa = some ua) (ra : RelV cva ua) (mb : X.mg xb = some ub) (rb : RelV cvb ub) (ga : Gl X xa := by rfl) (gb : Gl X xb := by rfl) (da : (xa == ("__debug__" : Str)) = false := by decide) (db : (xb == ("__debug__" : Str)) = false := by decide)
    (hg : Gl X "isinstance" := by rfl) (h1 : starEach [e, .Tuple [.Name xa pa, .Name xb pb] kt pt] X.env = (false, eval e X.env) :: starEach [.Tuple [.Name xa pa, .Name xb pb] kt pt] X.env := by rfl) :
    DE G X (.Call (.Name "isinstance" p) [e, .Tuple [.Name xa pa, .Name xb pb] kt pt] [] pos) (wIsi2 ta tb we) := by
  refine pe_imp (pe_callB call_isiT hg hm (by decide +kernel) (pa_cons he (pa_cons (pe_tup (pa_cons (pe_glob ga ma ra da) (pa_cons (pe_glob gb mb rb db) pa_nil))) pa_nil) h1) (by decide) (by decide) h1) fun σ H P ⟨F, M, δ, Q, EX, hm, rs, h, tk, fin⟩ => ?_
  refine ⟨F, M, δ, _, EX, hm, rs, h, tk, fun v d F1 M1 H1 g1 r1 q => ?_⟩
  refine ⟨by rw [sizeLine_eq]; simp, fun tp hp => ?_⟩
  have g2 := g1.hm.new (o := .tup [cva, cvb]) hp
  unfold kIsi2 at q
  split at q
  · rename_i t e1
    split at q
    · rename_i a b e2 e3
      obtain ⟨tv, ty, k1, k2⟩ := tyD_rep2 Ta Tb g2.hm (r1.mono g2.ext) e1 e2 e3
      refine ⟨v, tp, [cva, cvb], tv, [ua, ub], a || b, rfl, upd_same, .cons ka (.cons kb .nil), ty, ?_, fin _ _ _ _ _ (g1.trans g2) (.bl _) q⟩
      refine kitAny_cons k1 (fun ha => ?_) (fun ha => by rw [ha]; rfl)
      rw [ha, Bool.false_or]
      refine kitAny_cons k2 (fun hb => ?_) (fun hb => hb)
      rw [hb]
      exact kitAny_nil
    · exact q.elim
  · exact q.elim
end
end DL

set_option Elab.async false
set_option linter.all false
set_option maxRecDepth 100000
/-! calls of builtins with keywords: min(xs, default = d) -/
namespace DL
open PySem PySem.Spec
set_option maxHeartbeats 2000000
theorem args_minD (x d : Value) : argsOk "min" { pos := [x], kw := [("default", d)] } := by rfl
section
variable {prog : Program} {w : World} {A : Around} {R : Result → Shared → Prop} {I : Addr} {fp wr : List Addr} {n : Nat} {P : Nat → Value → Prop} {St : Nat → Heap → Prop}
theorem min_loop_d (W : PySem.Walks prog w A.in1 I fp wr n P St) (bt : Nat → Nat → Bool) (hc : CmpOf prog w A.in1 CmpOp.Lt P bt) (S : Addr) (hSf : ¬S ∈ fp) (d : Value) :
    ∀ (k j : Nat) (s : Shared) (vb : Value) (c : Nat), n - (j + 1) = k → j + 1 ≤ n → St (j + 1) s.heap → P (argBest bt j) vb →
      s.heap.get? S = some { cls := Value.type "list", data := Data.seq #[vb, vb] c } →
      (∀ (v : Value) (h' : Heap) (tk : Nat), P (argBest bt (n - 1)) v → (∀ (b : Addr) (o : Obj), ¬b ∈ wr → b ≠ S → s.heap.get? b = some o → h'.get? b = some o) →
        R (Except.ok (Flow.ret v)) { heap := h', gens := s.gens, drawn := s.drawn, toks := tk, os := s.os }) →
      codeAny (model prog w) A (Code.builtin "min.loop" { pos := [Value.ref I, Value.none, Value.ref S], kw := [("default", d)] }) R s := by
  have hSw : ¬ S ∈ wr := fun h => hSf (W.sub S h)
  have upd : ∀ (h h' : Heap) (f : Obj → Obj), (∀ b o, ¬b ∈ wr → h.get? b = some o → h'.get? b = some o) → ∀ b o, ¬ b ∈ wr → b ≠ S → h.get? b = some o → (h'.update S f).get? b = some o := fun h h' f k b o hb hne e =>
    (Heap.get?_update_other h' f (Ne.symm hne)).trans (k b o hb e)
  intro k
  induction k with
  | zero =>
    intro j s vb c hk hj hst hP hS hR
    refine codeAny_builtin F.entry_min_loop ?_
    rw [Around.under_plainId F.plain_min_loop]
    unfold Builtin.«min.loop»
    refine wpAny_bind (wpAny_seqItems hS rfl ?_)
    refine wpAny_bind (wpAny_tryCatch ?_)
    have e : n = j + 1 := by omega
    subst e
    refine W.done s _ _ hst fun h' tk hh => ?_
    dsimp only
    refine wpAny_bind (wpAny_updateSeq (hh S _ hSw hS) rfl ?_ ?_ ?_)
    · refine wpAny_bind (wpAny_letGo ?_)
      refine wpAny_pure ?_
      exact hR _ _ _ hP (upd _ _ _ hh)
    · rw [sizeLine_eq]; show 2 ≤ _; decide
    · rw [sizeLine_eq]; show 0 ≤ _; decide
  | succ k ih =>
    intro j s vb c hk hj hst hP hS hR
    refine codeAny_builtin F.entry_min_loop ?_
    rw [Around.under_plainId F.plain_min_loop]
    unfold Builtin.«min.loop»
    refine wpAny_bind (wpAny_seqItems hS rfl ?_)
    refine wpAny_bind (wpAny_tryCatch ?_)
    refine W.item (j + 1) s _ _ (by omega) hst fun v h' tk hv hst' hh => ?_
    dsimp only
    refine wpAny_bind (wpAny_pure ?_)
    refine wpAny_bind (wpAny_tryCatch (wpAny_holding ?_))
    refine wpAny_bind (hc (j + 1) (argBest bt j) v vb _ _ _ hv hP ?_)
    refine wpAny_bind (wpAny_holding (wpAny_truthy_bool ?_))
    refine wpAny_bind (wpAny_letGo (wpAny_pure ?_))
    have hS' := hh S _ hSw hS
    have hlt : k + (j + 1) + 1 = n := by omega
    by_cases hb : bt (j + 1) (argBest bt j) = true
    · rw [if_pos hb]
      refine wpAny_bind (wpAny_updateSeq hS' rfl ?_ ?_ ?_)
      · refine wpAny_bind (wpAny_letGo ?_)
        refine wpAny_pure ⟨plainId_quiet F.plain_min_loop _, ?_⟩
        obtain ⟨c', hN⟩ : ∃ c', (h'.update S (Obj.mapSeq fun _ => #[v, v])).get? S = some { cls := Value.type "list", data := Data.seq #[v, v] c' } := ⟨_, Heap.get?_update_self _ hS' rfl⟩
        refine ih (j + 1) _ v c' (by omega) (by omega) ?_ ?_ hN ?_
        · refine W.frame _ _ _ hst' fun b hbf o e => (Heap.get?_update_other _ _ ?_).trans e
          rintro rfl; exact hSf hbf
        · rw [show argBest bt (j + 1) = if bt (j + 1) (argBest bt j) then j + 1 else argBest bt j from rfl, if_pos hb]; exact hv
        · exact fun v2 h2 tk2 hP2 hk2 => hR v2 h2 tk2 hP2 fun b o hbw hne e => hk2 b o hbw hne (upd _ _ _ hh b o hbw hne e)
      · rw [sizeLine_eq]; show 2 ≤ _; decide
      · rw [sizeLine_eq]; show 2 ≤ _; decide
    · rw [if_neg hb]
      refine wpAny_bind (wpAny_letGo ?_)
      refine wpAny_pure ⟨plainId_quiet F.plain_min_loop _, ?_⟩
      refine ih (j + 1) _ vb c (by omega) (by omega) hst' ?_ hS' ?_
      · rw [show argBest bt (j + 1) = if bt (j + 1) (argBest bt j) then j + 1 else argBest bt j from rfl, if_neg hb]; exact hP
      · exact fun v2 h2 tk2 hP2 hk2 => hR v2 h2 tk2 hP2 fun b o hbw hne e => hk2 b o hbw hne (hh b o hbw e)
theorem min_loop_d0 (W : PySem.Walks prog w A.in1 I fp wr n P St) (bt : Nat → Nat → Bool) (hc : CmpOf prog w A.in1 CmpOp.Lt P bt) (S : Addr) (hSf : ¬S ∈ fp) (d : Value) {s : Shared} {c : Nat} (hst : St 0 s.heap)
      (hS : s.heap.get? S = some { cls := Value.type "list", data := Data.seq #[] c })
      (hE : n = 0 → ∀ (h' : Heap) (tk : Nat), (∀ (b : Addr) (o : Obj), ¬b ∈ wr → b ≠ S → s.heap.get? b = some o → h'.get? b = some o) →
        R (Except.ok (Flow.ret d)) { heap := h', gens := s.gens, drawn := s.drawn, toks := tk, os := s.os })
      (hR : 0 < n → ∀ (v : Value) (h' : Heap) (tk : Nat), P (argBest bt (n - 1)) v → (∀ (b : Addr) (o : Obj), ¬b ∈ wr → b ≠ S → s.heap.get? b = some o → h'.get? b = some o) →
        R (Except.ok (Flow.ret v)) { heap := h', gens := s.gens, drawn := s.drawn, toks := tk, os := s.os }) :
      codeAny (model prog w) A (Code.builtin "min.loop" { pos := [Value.ref I, Value.none, Value.ref S], kw := [("default", d)] }) R s := by
  have hSw : ¬ S ∈ wr := fun h => hSf (W.sub S h)
  refine codeAny_builtin F.entry_min_loop ?_
  rw [Around.under_plainId F.plain_min_loop]
  unfold Builtin.«min.loop»
  refine wpAny_bind (wpAny_seqItems hS rfl ?_)
  refine wpAny_bind (wpAny_tryCatch ?_)
  by_cases h0 : n = 0
  · subst h0
    refine W.done s _ _ hst fun h' tk hh => ?_
    dsimp only
    refine wpAny_bind (wpAny_rule ?_)
    refine wpAny_pure ?_
    exact hE rfl h' tk fun b o hb _ e => hh b o hb e
  · refine W.item 0 s _ _ (by omega) hst fun v h' tk hv hst' hh => ?_
    dsimp only
    have hS' := hh S _ hSw hS
    refine wpAny_bind (wpAny_pure ?_)
    refine wpAny_bind (wpAny_updateSeq hS' rfl ?_ ?_ ?_)
    · refine wpAny_pure ⟨plainId_quiet F.plain_min_loop _, ?_⟩
      obtain ⟨c', hN⟩ : ∃ c', (h'.update S (Obj.mapSeq fun _ => #[v, v])).get? S = some { cls := Value.type "list", data := Data.seq #[v, v] c' } := ⟨_, Heap.get?_update_self _ hS' rfl⟩
      refine min_loop_d W bt hc S hSf d (n - 1) 0 _ v c' (by omega) (by omega) ?_ hv hN ?_
      · refine W.frame _ _ _ hst' fun b hbf o e => (Heap.get?_update_other _ _ ?_).trans e
        rintro rfl; exact hSf hbf
      · exact fun v2 h2 tk2 hP2 hk2 => hR (by omega) v2 h2 tk2 hP2 fun b o hbw hne e => hk2 b o hbw hne ((Heap.get?_update_other _ _ (Ne.symm hne)).trans (hh b o hbw e))
    · rw [sizeLine_eq]; show 0 ≤ _; decide
    · rw [sizeLine_eq]; show 2 ≤ _; decide

theorem call_min_d {E : Value → Shared → Prop} {s : Shared} {x d : Value} {Q : Value → Shared → Prop}
    (h : wpAny (model prog w) A.in1 (pyIter x) (fun it s₂ => ∃ I fp wr n P St bt, it = Value.ref I ∧ PySem.Walks prog w A.in1 I fp wr n P St ∧ St 0 s₂.heap ∧ (∀ (b : Addr), b ∈ fp → b < s₂.heap.objs.size) ∧ CmpOf prog w A.in1 CmpOp.Lt P bt ∧
      (n = 0 → ∀ (h' : Heap) (tk : Nat), (∀ (b : Addr) (o : Obj), ¬b ∈ wr → s₂.heap.get? b = some o → h'.get? b = some o) → Q d { heap := h', gens := s₂.gens, drawn := s₂.drawn, toks := tk, os := s₂.os }) ∧
      (0 < n → ∀ (v : Value) (h' : Heap) (tk : Nat), P (argBest bt (n - 1)) v → (∀ (b : Addr) (o : Obj), ¬b ∈ wr → s₂.heap.get? b = some o → h'.get? b = some o) → Q v { heap := h', gens := s₂.gens, drawn := s₂.drawn, toks := tk, os := s₂.os })) E s) :
    wpAny (model prog w) A (call (Value.builtin "min") [x] [("default", d)]) Q E s := by
  refine wpAny_call (codeAny_call_builtin F.plain_min F.entry_min (wpAny_of_eq (args_minD x d) ?_))
  unfold Builtin.min
  refine wpAny_bind (wpAny_of_eq rfl ?_)
  refine wpAny_bind (wpAny_pure ?_)
  refine wpAny_bind (wpAny_mono h (fun it s₂ h₂ => ?_) fun _ _ e => e)
  obtain ⟨I, fp, wr, n, P, St, bt, rfl, W, hst, hfp, hc, hE, hQ⟩ := h₂
  refine wpAny_bind (wpAny_newObj_type ?_ ?_)
  · have hSf : ¬ s₂.heap.objs.size ∈ fp := fun hm => Nat.lt_irrefl _ (hfp _ hm)
    have old : ∀ b o, s₂.heap.get? b = some o → b ≠ s₂.heap.objs.size := fun b o e => Nat.ne_of_lt (Heap.lt_size e)
    refine wpAny_pure ⟨plainId_quiet F.plain_min_loop _, ?_⟩
    refine min_loop_d0 W bt hc s₂.heap.objs.size hSf d (W.frame 0 s₂.heap _ hst fun b _ o e => Heap.get?_push_of_some _ e) (Heap.get?_push_size _ rfl) ?_ ?_
    · exact fun h0 h' tk hk => hE h0 h' tk fun b o hb e => hk b o hb (old b o e) (Heap.get?_push_of_some _ e)
    · exact fun h0 v h' tk hP hk => hQ h0 v h' tk hP fun b o hb e => hk b o hb (old b o e) (Heap.get?_push_of_some _ e)
  · show 0 ≤ sizeLine; omega

open L2 in
open PyProof.Rows hiding St in
theorem min_rawD {E : Value → Shared → Prop} {s : Shared} {l : Addr} {vs : List Value} {ns : List Int} {d : Value} {Q : Value → Shared → Prop} (hh : A.handled = none) (hl : s.heap.IsList l vs.toArray) (hi : IntsAre vs ns)
    (h0 : ns = [] → ∀ (h' : Heap) (tk : Nat), (∀ b o, s.heap.get? b = some o → h'.get? b = some o) → Q d { heap := h', gens := s.gens, drawn := s.drawn, toks := tk, os := s.os })
    (h1 : ∀ (h' : Heap) (m : Int) (t : Tok) (tk : Nat), (∀ b o, s.heap.get? b = some o → h'.get? b = some o) → m ∈ ns → (∀ y, y ∈ ns → m ≤ y) → Q (.int m t) { heap := h', gens := s.gens, drawn := s.drawn, toks := tk, os := s.os }) :
    wpAny (model prog w) A (call (Value.builtin "min") [Value.ref l] [("default", d)]) Q E s := by
  obtain ⟨xs, e⟩ := AllInts.items (IntsAre.allInts hi)
  have hns : ns = xs.toList.map (fun x => x.1) := by
    rw [← IntsAre.numsOf hi, ← nums_intItems xs, ← e]
  have hsz : ns.length = xs.size := by rw [hns, List.length_map, Array.length_toList]
  rw [e] at hl
  have hh3 : A.in1.handled = none := by simp [hh]
  refine call_min_d (iter_intList hl fun s₂ hs hit hfp hne => ?_)
  subst hs
  have hz : (intItems xs).size = xs.size := by unfold intItems; rw [Array.size_map]
  have old : ∀ (h' : Heap), (∀ (b : Addr) (o : Obj), ¬b ∈ [s.heap.objs.size] → (s.heap.push { cls := Value.type "list_iterator", data := Data.fields #[Value.ref l, Value.int 0 0] }).get? b = some o → h'.get? b = some o) → ∀ b o, s.heap.get? b = some o → h'.get? b = some o := fun h' k b o e =>
    k b o (by simp only [List.mem_singleton]; exact Nat.ne_of_lt (Heap.lt_size e)) (Heap.get?_push_of_some _ e)
  refine ⟨s.heap.objs.size, _, _, (intItems xs).size, _, _, fun i j => decide (numAt xs i < numAt xs j), rfl, PySem.Walks.list hh3 _ l hne (intItems xs), hit, hfp, CmpOf.ints_lt (numAt xs) (fun i v h => intItems_at h), fun h => ?_, fun h v h' tk hv hk => ?_⟩
  · intro h' tk hk
    refine h0 ?_ _ _ (old h' hk)
    exact List.length_eq_zero_iff.mp (by omega)
  · obtain ⟨t, rfl⟩ := intItems_at hv
    obtain ⟨p1, p2⟩ := argBest_lt (numAt xs) ((intItems xs).size - 1)
    refine h1 _ _ _ _ (old h' hk) ?_ ?_
    · rw [hns, numAt_eq]
      exact getD_mem (by rw [List.length_map, Array.length_toList]; omega)
    · intro y hy
      rw [hns] at hy
      obtain ⟨j, hj, rfl⟩ := mem_getD hy
      rw [List.length_map, Array.length_toList] at hj
      have z := p2 j (by omega)
      rwa [numAt_eq xs j] at z
end
end DL
namespace DL
open PySem PySem.Spec L2
open PyProof.Rows hiding St
section
variable {G : Cfg} {X : Cx} {e : Expr} {es : List Expr} {kws : List Keyword}
def rMinD (K : PySem.W.Frag) : List V → List V → Hp → VK → Prop := fun xs zs H Q => ∃ a ns d, xs = [.ref a] ∧ zs = [d] ∧ SqL K H a (ns.map V.int) ∧ (ns = [] → Q d H) ∧ (∀ m, m ∈ ns → (∀ y, y ∈ ns → m ≤ y) → Q (.int m) H)
theorem cr_minD (hc : X.calm = true) : CallRK X (.builtin "min") ["default"] (rMinD X.K) := by
  intro pins s σ H xs zs us ws Q I r rz h
  obtain ⟨a, ns, d, rfl, rfl, hs, q0, q1⟩ := h
  obtain ⟨u, rfl, ru⟩ := rz.one
  obtain ⟨its, rv, hl, _⟩ := I.list hs
  rw [Vals.ref1 r]
  exact min_rawD (I.ok.hd hc) hl.isList rv.ints (fun h h' tk k => ⟨d, H, I.kept k, ru, q0 h⟩) fun h' m t tk k h1 h2 => ⟨.int m, H, I.kept k, ⟨t, rfl⟩, q1 m h1 h2⟩
abbrev WR1K := List D → List D → MM → (D → MM → Prop) → Prop
def SimCK (G : Cfg) (K : PySem.W.Frag) (r : List V → List V → Hp → VK → Prop) (w : WR1K) : Prop := ∀ F M H vs zs ds es Q P, HM G K F M H → RepL G K F vs ds → RepL G K F zs es → w ds es M Q → Fin G K F M H Q P → r vs zs H P
def wBK (w : WR1K) (wa wk : WA) : WE := fun δ M Q EX => wa δ M (fun ds M1 => wk δ M1 (fun es M2 => w ds es M2 Q) EX) EX
theorem de_callBK {r : List V → List V → Hp → VK → Prop} {w : WR1K} {wa wk : WA} {x : Str} {id : String} {ks : List Str} {p pos : Pos} (s : SimCK G X.K r w) (hc : CallRK X (.builtin id) ks r) (hm : X.mg x = none) (hv : bootBuiltins x = some (.builtin id)) (ha : DA G X (e :: es) wa) (hk : DK G X kws wk) (hg : Gl X x := by rfl) (hn : x ≠ "__name__" := by decide) (hdb : (x == ("__debug__" : Str)) = false := by decide)
    (he : backTo pos (starEach (e :: es) X.env) = (false, eval e X.env) :: backTo pos (starEach es X.env) := by rfl) (hpl : (backTo pos (starEach (e :: es) X.env)).any (·.1) = false := by rfl)
    (h1 : (backToKw pos (keywordEach kws X.env)).all (·.1.isSome) = true := by rfl) (h2 : (backToKw pos (keywordEach kws X.env)).any (·.1.isNone) = false := by rfl) (h3 : (backToKw pos (keywordEach kws X.env)).filterMap (·.1) = ks := by rfl) :
    DE G X (.Call (.Name x p) (e :: es) kws pos) (wBK w wa wk) := by
  refine pe_imp (pe_callBK hc hg hm hv ha hk hn hdb he hpl h1 h2 h3) fun σ H P ⟨F, M, δ, Q, EX, hm1, rs, h, tk, f⟩ => ?_
  refine ⟨F, M, δ, _, EX, hm1, rs, h, tk, fun vs ds F1 M1 H1 g1 r1 q1 => ?_⟩
  refine ⟨F1, M1, δ, _, EX, g1.hm, rs.mono g1.ext, q1, tk.imp (wX_mono g1), fun zs es F2 M2 H2 g2 r2 q2 => ?_⟩
  exact s F2 M2 H2 vs zs ds es Q P g2.hm (r1.mono g2.ext) r2 q2 fun v d F3 M3 H3 g3 r3 q => f v d F3 M3 H3 ((g1.trans g2).trans g3) r3 q
@[irreducible] def wMinD : WR1K := fun ds es M Q => match ds, es with
  | [d], [x] => match lintsOf M d with
    | some ns => (ns = [] → Q x M) ∧ ∀ m, m ∈ ns → (∀ y, y ∈ ns → m ≤ y) → Q (.int m) M
    | none => False
  | _, _ => False
theorem sim_minD {K : PySem.W.Frag} : SimCK G K (rMinD K) wMinD := by
  intro F M H vs zs ds es Q P hm r rk w f
  unfold wMinD at w
  split at w
  · split at w
    · rename_i d x _ ns e
      obtain ⟨v, rfl, r1⟩ := one_rep r
      obtain ⟨z, rfl, r2⟩ := one_rep rk
      obtain ⟨a, rfl, h1⟩ := lints_rep hm r1 e
      exact ⟨a, ns, z, rfl, rfl, SqL.of h1, fun h => f _ _ F M H (.refl hm) r2 (w.1 h), fun m h2 h3 => f _ _ F M H (.refl hm) (.int _) (w.2 m h2 h3)⟩
    · exact w.elim
  · exact w.elim
theorem at_minD {Q : D → MM → Prop} {M : MM} {d x : D} {ns : List Int} (h : lintsOf M d = some ns) (q0 : ns = [] → Q x M) (q : ∀ m, m ∈ ns → (∀ y, y ∈ ns → m ≤ y) → Q (.int m) M) : wMinD [d] [x] M Q := by
  unfold wMinD; dsimp only; rw [h]; exact ⟨q0, q⟩
end
end DL

set_option Elab.async false
set_option linter.all false
set_option maxRecDepth 100000
/-! len(o) of an own object -/
namespace DL
open PySem PySem.Spec L2
open PyProof.Rows hiding St
section
variable {G : Cfg} {X : Cx} {gd : Bool} {k : Nat} {f : Addr} {sp : SpD} {e : Expr}
theorem callP_in1 (F : FnP X.prog X.w X.K X.mg X.base gd k f (lift G X.K sp)) (hr : Room (k + 1) X.A) (hgd : gd = true → X.A.guards = some []) {pins : List (Addr × Obj)} {σ : St} {H : Hp} {s : Shared} {us : List Value} {vs : List V} {ds : List D} {F1 : Hp} {M1 : MM} {δ : DS} {Q : D → MM → Prop} {EX : XK'} {P : VK}
    (I : Inv X pins σ H s) (r : Vals vs us) (hm : HM G X.K F1 M1 H) (rs : RS G X.K F1 σ δ) (rl : RepL G X.K F1 vs ds) (h : sp ds M1 Q (fun xd M' => EX xd δ M')) (tk : Takes X (wX G X.K F1 M1 H EX)) (f' : Fin G X.K F1 M1 H Q P) :
    wpAny (model X.prog X.w) X.A.in1 (call (.ref f) us) (EP X pins σ P) X.xe s := by
  have hl' := lift_at (P := P) hm rs rl h f'
  refine wpAny_call (codeAny_mono (F.run X.A.in1 X.stack s H us vs P _ hr.in1 hgd I.env0.in1 r hl') (fun res s' hq => ?_))
  match res, hq with
  | .error z, hq => exact passAt tk σ pins H s z s' I hq
  | .ok (.ret u), hq => exact I.after hq
theorem len_tail {prog : Program} {w : World} {A : Around} {E : Value → Shared → Prop} {s : Shared} {a C ff : Addr} {K : PySem.W.Frag} {ox : Obj} {od : Option Obj} {Q : Value → Shared → Prop} (kin : K.In s.heap) (J : PySem.W.InstAt s.heap a ox C od)
    (hf : PySem.W.findIn K (.ref C) "__len__" = some (some (.ref ff))) (hfn : PySem.W.typeIn K (.ref ff) = some (.type "function"))
    (h : wpAny (model prog w) A.in1 (call (.ref ff) [.ref a]) (fun v s' => ∃ (n : Int) (t : Tok), v = .int n t ∧ 0 ≤ n ∧ n < 2 ^ 63 ∧ ∀ (t2 : Tok) (c : Nat), Q (.int n t2) { heap := s'.heap, gens := s'.gens, drawn := s'.drawn, toks := c, os := s'.os }) E s) :
    wpAny (model prog w) A (call (.builtin "len") [.ref a]) Q E s := by
  refine call_function_tree kind_len plain_len entry_len (args_len1 _) ?_
  unfold Builtin.len
  refine wpAny_bind (wpAny_pure ?_)
  refine wpAny_bind (PySem.W.special_fn kin J hf hfn (wpAny_mono h (fun v s' z => ?_) fun _ _ z => z))
  obtain ⟨n, t, rfl, h0, h1, q⟩ := z
  dsimp only
  refine wpAny_bind (wpAny_holding ?_)
  refine wpAny_of_eq (a := n) ?_ ?_
  · rfl
  · refine wpAny_bind (wpAny_letGo ?_)
    rw [if_neg (by omega), if_neg (by omega)]
    exact wpAny_bind (wpAny_mkInt (wpAny_pure (q _ _)))
@[irreducible] def kLenO (tb : List (Nat × SpD)) (δ : DS) (Q : D → MM → Prop) (EX : XK') (d : D) (M : MM) : Prop := match insOf M d with
  | some (c, fs) => ∃ sp, tb.lookup c = some sp ∧ sp [d] M (fun x M' => ∃ n : Int, x = .int n ∧ 0 ≤ n ∧ n < 2 ^ 63 ∧ Q (.int n) M') (fun xd M' => EX xd δ M')
  | none => False
theorem at_lenO {tb : List (Nat × SpD)} {δ : DS} {Q : D → MM → Prop} {EX : XK'} {d : D} {M : MM} {c : Nat} {fs : List D} {sp : SpD} (h : insOf M d = some (c, fs)) (h2 : tb.lookup c = some sp) (q : sp [d] M (fun x M' => ∃ n : Int, x = .int n ∧ 0 ≤ n ∧ n < 2 ^ 63 ∧ Q (.int n) M') (fun xd M' => EX xd δ M')) : kLenO tb δ Q EX d M := by
  unfold kLenO; rw [h]; exact ⟨sp, h2, q⟩
def wLenO (tb : List (Nat × SpD)) (we : WE) : WE := fun δ M Q EX => we δ M (kLenO tb δ Q EX) EX
theorem de_lenO {we : WE} {p pos : Pos} (tb : List (Nat × SpD)) (h1 : ∀ p ∈ tb, ∃ (gd : Bool) (k : Nat) (ps : List Str), OkMeth X.prog X.w X.K X.mg X.base gd k (G.cl p.1) "__len__" ps (lift G X.K p.2) ∧ Room (k + 1) X.A ∧ (gd = true → X.A.guards = some []))
    (hm : X.mg "len" = none) (h : DE G X e we) (hg : Gl X "len" := by rfl) (hs : starEach [e] X.env = [(false, eval e X.env)] := by rfl) : DE G X (.Call (.Name "len" p) [e] [] pos) (wLenO tb we) := by
  refine ⟨fun pins s σ H Q I ⟨F1, M1, δ, Q', EX, hm1, rs, q, tk, fin⟩ => ?_⟩
  refine Call_ (ld_blt I hg hm boot_len ?_)
  rw [hs]
  refine callWith_builtin1 (thn (de_run h I hm1 rs q tk) fun u s1 ⟨x, H1, I1, rx, d, F2, M2, g, rd, q1⟩ => ?_)
  unfold kLenO at q1
  split at q1
  · rename_i c fs ei
    obtain ⟨sp, e, q2⟩ := q1
    obtain ⟨gd, k, ps, ⟨f, fd, mt, b, Fn⟩, hr, hgd⟩ := h1 _ (lookup_mem e)
    obtain ⟨a, ox, od, rfl, rfl, J⟩ := inst_at I1 g.hm rx rd ei
    refine len_tail I1.kIn J mt.at_ (beq_iff_eq.mp mt.fn) ?_
    refine wpAny_mono (callP_in1 (Q := fun x M' => ∃ n : Int, x = .int n ∧ 0 ≤ n ∧ n < 2 ^ 63 ∧ Q' (.int n) M') (P := fun v H' => ∃ n : Int, v = .int n ∧ 0 ≤ n ∧ n < 2 ^ 63 ∧ Q (.int n) H') (us := [.ref a]) (vs := [.ref a]) (ds := [d]) (Fn.pos b) hr hgd I1 (.cons rfl .nil) g.hm (rs.mono g.ext) (.cons rd .nil) q2 (tk.imp (wX_mono g)) fun v d F3 M3 H3 g3 r3 q3 => ?_) (fun v s' z => ?_) fun _ _ z => z
    · obtain ⟨n, rfl, h0, h2, q4⟩ := q3
      cases r3
      exact ⟨n, rfl, h0, h2, fin _ _ F3 M3 H3 (g.trans g3) (.int _) q4⟩
    · obtain ⟨v', H', I', rv, n, rfl, h0, h2, q4⟩ := z
      obtain ⟨t, rfl⟩ := (show ∃ t, v = Value.int n t from rv)
      exact ⟨n, t, rfl, h0, h2, fun t2 c => ⟨.int n, H', I'.kept (t' := c) (fun _ _ z => z), ⟨t2, rfl⟩, q4⟩⟩
  · exact q1.elim
end
end DL

set_option Elab.async false
set_option linter.all false
set_option maxRecDepth 100000
/-! sorted(a tuple of ints) -/
namespace DL
open PySem PySem.Spec L2
theorem collect_tup {prog : Program} {w : World} {A : Around} {E : Value → Shared → Prop} {s : Shared} {l : Addr} {vs : List Value} {Q : List Value → Shared → Prop} (ht : PyProof.Rows.IsTup s.heap l vs.toArray) (hl : vs.length ≤ sizeLine)
    (hQ : ∀ h' : Heap, (∀ b o, s.heap.get? b = some o → h'.get? b = some o) → s.heap.objs.size ≤ h'.objs.size → Q vs { heap := h', gens := s.gens, drawn := s.drawn, toks := s.toks, os := s.os }) : wpAny (model prog w) A (collect (.ref l)) Q E s := by
  obtain ⟨o, h1, h2, n, h3⟩ := ht
  obtain ⟨S, eS⟩ : ∃ S, S = s.heap.objs.size := ⟨_, rfl⟩
  obtain ⟨h2', eh⟩ : ∃ h2', h2' = (s.heap.push { cls := Value.type "list", data := Data.seq #[] }).update S (Obj.mapSeq fun x => x ++ vs.toArray) := ⟨_, rfl⟩
  have hS : (s.heap.push { cls := Value.type "list", data := Data.seq #[] }).get? S = some { cls := Value.type "list", data := Data.seq #[] } := by rw [eS]; exact Heap.get?_push_size _ rfl
  unfold collect
  refine wpAny_bind (wpAny_runValue (codeAny_mono (R := fun r s' => r = .ok (.ret (.ref S)) ∧ s' = { heap := h2', gens := s.gens, drawn := s.drawn, toks := s.toks, os := s.os }) (codeAny_builtin F.entry_proto_collect ?_) ?_))
  · rw [Around.under_plainId F.plain_proto_collect]
    unfold Builtin.«proto.collect»
    refine wpAny_bind (wpAny_newObj_type ?_ ?_)
    · refine wpAny_pure ⟨plainId_quiet F.plain_list_iadd _, codeAny_builtin F.entry_list_iadd ?_⟩
      rw [Around.under_plainId F.plain_list_iadd]
      unfold Builtin.«list.__iadd__»
      refine wpAny_bind (wpAny_of_eq rfl ?_)
      rw [← eS]
      exact wpAny_extend_seq (R := fun r s' => r = .ok (.ret (.ref S)) ∧ s' = { heap := h2', gens := s.gens, drawn := s.drawn, toks := s.toks, os := s.os }) S l (.ref S) 0 (T := "tuple") (.inr rfl) hS (Heap.get?_push_of_some _ h1) h2 h3 ⟨rfl, by rw [eh]⟩ (by simpa using hl)
    · show 0 ≤ sizeLine; omega
  · rintro r s' ⟨rfl, rfl⟩
    dsimp only
    have h4 : h2'.get? S = some (Obj.mapSeq (fun x => x ++ vs.toArray) { cls := Value.type "list", data := Data.seq #[] }) := by rw [eh]; exact Heap.get?_update_self _ hS rfl
    refine wpAny_bind (wpAny_load h4 ?_)
    dsimp only [Obj.mapSeq]
    refine wpAny_pure ?_
    have e : (#[] ++ vs.toArray).toList = vs := by simp
    rw [e]
    refine hQ _ (fun b o' e' => ?_) ?_
    · have hb : S ≠ b := by rw [eS]; exact (Nat.ne_of_lt (Heap.lt_size e')).symm
      rw [eh]
      exact (Heap.get?_update_other _ _ hb).trans (Heap.get?_push_of_some _ e')
    · rw [eh, Heap.size_update, PyProof.Rows.size_push']; exact Nat.le_succ _
theorem sorted_tup {prog : Program} {w : World} {A : Around} {E : Value → Shared → Prop} {s : Shared} {l : Addr} {vs : List Value} {ns : List Int} {Q : Value → Shared → Prop} (ht : PyProof.Rows.IsTup s.heap l vs.toArray) (hl : vs.length ≤ sizeLine) (hi : PyProof.Rows.IntsAre vs ns)
    (hQ : ∀ (h' : Heap) (d c : Nat) (out : Array Value) (ns' : List Int), PyProof.Rows.IntsAre out.toList ns' → ns'.Perm ns → ns'.Pairwise (· ≤ ·) → (∀ b o, s.heap.get? b = some o → h'.get? b = some o) → s.heap.objs.size ≤ d → h'.get? d = some (PyProof.Rows.seqObj "list" out c) →
      Q (.ref d) { heap := h', gens := s.gens, drawn := s.drawn, toks := s.toks, os := s.os }) : wpAny (model prog w) A (call (.builtin "sorted") [.ref l]) Q E s := by
  refine Calls.call_function_entry PyProof.Rows.kind_sorted PyProof.Rows.plain_sorted PyProof.Rows.entry_sorted (PyProof.Rows.args_sorted1 _) ?_
  unfold Builtin.sorted
  refine wpAny_bind (wpAny_of_eq rfl ?_)
  refine wpAny_bind (collect_tup ht hl fun h1 k1 z1 => ?_)
  refine wpAny_bind (wpAny_newList ?_ hl)
  obtain ⟨S, eS⟩ : ∃ S, S = h1.objs.size := ⟨_, rfl⟩
  have hS : (h1.push (PyProof.Rows.seqObj "list" vs.toArray 0)).get? S = some (PyProof.Rows.seqObj "list" vs.toArray 0) := by rw [eS]; exact Heap.get?_push_size _ rfl
  have hlt : ∀ b o, s.heap.get? b = some o → b < h1.objs.size := fun b o e => Nat.lt_of_lt_of_le (Heap.lt_size e) z1
  refine wpAny_bind (wpAny_holding (wpAny_call_entry PyProof.Rows.slot_list_sort ⟨_, by rw [← eS]; exact hS, rfl⟩ PyProof.Rows.entry_list_sort ?_ (PyProof.Rows.args_list_sort _)))
  rw [← eS]
  refine SrtO.list_sort_ord SrtO.swo_int hS hl (fun h2 => SrtO.ints_sortable hi h2) fun out h3 h4 => ⟨.none, rfl, ?_⟩
  obtain ⟨i1, i2, i3⟩ := SrtO.ints_out hi h3 h4
  obtain ⟨c, hc⟩ := PyProof.Rows.sortedHeap_at (out := out.toArray) hS
  refine wpAny_pure ⟨_, rfl, ?_⟩
  refine hQ _ S c out.toArray _ (by simpa using i1) i2 i3 (fun b o e => ?_) (by omega) hc
  have hb : b ≠ S := by rw [eS]; exact Nat.ne_of_lt (hlt b o e)
  rw [PyProof.Rows.sortedHeap_old hb (by rw [PyProof.Rows.size_push']; exact Nat.lt_succ_of_lt (hlt b o e))]
  exact Heap.get?_push_of_some _ (k1 b o e)
section
variable {G : Cfg} {X : Cx} {e : Expr}
def rSortTI (K : PySem.W.Frag) : List V → Hp → VK → Prop := fun xs H Q => ∃ (a : Addr) (ns : List Int), xs = [.ref a] ∧ SqT K H a (ns.map V.int) ∧ ∀ (ns' : List Int) (p : Addr), ns'.Perm ns → ns'.Pairwise (· ≤ ·) → H p = none → Q (.ref p) (upd H p (.lst (ns'.map V.int)))
theorem cr_sortedTI : CallR X (.builtin "sorted") (rSortTI X.K) := by
  intro pins s σ H xs us Q I r h
  obtain ⟨a, ns, rfl, hs, q⟩ := h
  obtain ⟨its, rv, ht, hz⟩ := I.tuple hs
  rw [Vals.ref1 r]
  refine sorted_tup (vs := its) ht (by rw [← rv.length]; exact hz) rv.ints fun h' d c out ns' i1 i2 i3 k z hd => ?_
  have lz : (ns'.map V.int).length ≤ sizeLine := by
    rw [List.length_map, i2.length_eq]; rw [List.length_map] at hz; exact hz
  refine ⟨.ref d, _, I.laid (t' := s.toks) (o := .lst (ns'.map V.int)) k z ?_, rfl, q ns' d i2 i3 (I.hok.fresh z)⟩
  have z2 : h'.get? d = some { cls := .type "list", data := .seq out.toList.toArray c } := by rw [Array.toArray_toList]; exact hd
  exact ⟨lz, _, _, vals_of_ints i1, z2⟩
/-- sorted(t) of a tuple of ints -/
@[irreducible] def wSortT : WR1 := fun ds M Q => match ds with
  | [.tup xs] => match intsOf xs with
    | some ns => ∀ ns' : List Int, ns'.Perm ns → ns'.Pairwise (· ≤ ·) → Q (.lst (ns'.map D.int)) M
    | none => False
  | _ => False
theorem at_sortT {Q : D → MM → Prop} {M : MM} {ns : List Int} (q : ∀ s : List Int, s.Perm ns → s.Pairwise (· ≤ ·) → Q (.lst (s.map D.int)) M) : wSortT [.tup (ns.map D.int)] M Q := by
  unfold wSortT; dsimp only; rw [intsOf_ints]; exact q
theorem sim_sortT {K : PySem.W.Frag} : SimC G K (rSortTI K) wSortT := by
  intro F M H vs ds Q P hm r w f
  unfold wSortT at w
  split at w
  · split at w
    · rename_i xs _ ns e
      obtain ⟨v, rfl, r1⟩ := one_rep r
      have ex : xs = ns.map D.int := intsOf_map e
      subst ex
      cases r1 with
      | tup h1 r2 =>
        rename_i a ws
        have ew : ws = ns.map V.int := r2.ints
        subst ew
        refine ⟨a, ns, rfl, sqT_mono hm.sub h1, fun ns' p i2 i3 hp => ?_⟩
        have g := hm.new (o := .lst (ns'.map V.int)) hp
        exact f _ _ _ _ _ g (.lst upd_same (.of_ints _)) (w ns' i2 i3)
    · exact w.elim
  · exact w.elim
end
end DL

set_option Elab.async false
set_option linter.all false
set_option maxRecDepth 100000
/-! is True, is not False .. -/
namespace DL
open PySem PySem.Spec L2
open PyProof.Rows hiding St
section
variable {G : Cfg} {K : PySem.W.Frag}
def wIsB (n : Bool) : WR2 := fun x y M Q => match x, y with
  | .bl a, .bl b => Q (.bl (if n = true then !decide (a = b) else decide (a = b))) M
  | _, _ => False
def rIsBn (n : Bool) : V → V → Hp → VK → Prop := fun x y H Q => ∃ a b : Bool, x = .bl a ∧ y = .bl b ∧ Q (.bl (if n = true then !decide (a = b) else decide (a = b))) H
theorem sim_isB (n : Bool) : Sim2 G K (match n with | false => rIsB | true => rNotB) (wIsB n) := by
  intro F M H x y dx dy Q P hm rx ry w f
  unfold wIsB at w
  split at w
  · cases rx; cases ry
    cases n
    · exact ⟨_, _, rfl, rfl, f _ _ F M H (.refl hm) (.bl _) w⟩
    · exact ⟨_, _, rfl, rfl, f _ _ F M H (.refl hm) (.bl _) w⟩
  · exact w.elim
theorem isi_bo (u : Ty) (hu : ∀ k, u ≠ .own k) (own : List (Nat × Bool)) (cg : CgOk K) (h : ∀ p ∈ own, PySem.W.kitOne K (.ref (G.cl p.1)) (.type u.nm) = some p.2 ∧ Cls K (G.cl p.1) ∧ CcOk K (G.cl p.1)) : IsiT G K (.type u.nm) (tbB u fun k => own.lookup k) := by
  refine ⟨fun t b ht e => (isi_b (G := G) (K := K) u hu).bt t b ht ?_, fun k b e => ?_⟩
  · cases t with
    | own k => exact absurd rfl (ht k)
    | _ => exact e
  · have z := lookup_mem (show own.lookup k = some b from e)
    obtain ⟨h1, h2, h3⟩ := h _ z
    exact ⟨h1, h2, h3.at_, cg.get, cg.tk, h3.mo⟩
end
end DL

set_option Elab.async false
set_option linter.all false
set_option maxRecDepth 100000
/-! xs.count(k) of ints; {} that stays empty -/
namespace DL
open PySem PySem.Spec L2
open PyProof.Rows hiding St
section
variable {G : Cfg} {X : Cx} {o e : Expr} {es : List Expr}
def kCount (Q : D → MM → Prop) (x : D) (ds : List D) (M : MM) : Prop := match lintsOf M x, ds with
  | some ns, [.int k] => Q (.int (ns.count k : Nat)) M
  | _, _ => False
theorem at_count {Q : D → MM → Prop} {x : D} {k : Int} {ns : List Int} {M : MM} (h : lintsOf M x = some ns) (q : Q (.int (ns.count k : Nat)) M) : kCount Q x [.int k] M := by
  unfold kCount; rw [h]; exact q
def wCount (wo : WE) (wa : WA) : WE := fun δ M Q EX => wo δ M (fun x M1 => (lintsOf M1 x).isSome = true ∧ wa δ M1 (fun ds M2 => kCount Q x ds M2) EX) EX
theorem de_count {wo : WE} {wa : WA} {apos cpos : Pos} (ho : DE G X o wo) (ha : DA G X (e :: es) wa)
    (hbase : attributeBase o "count" X.env (eval o X.env) = eval o X.env := by rfl)
    (hfew : ((backTo cpos (starEach (e :: es) X.env)).all (fun x => !x.1) && (backToKw cpos (keywordEach [] X.env)).all (fun x => x.1.isSome)
      && decide ((e :: es).length + ([] : List Keyword).length + (if ([] : List Keyword).isEmpty then 0 else 1) < 30)) = true := by rfl)
    (hline : (apos.endLine == cpos.line) = true := by rfl) (hs : starEach (e :: es) X.env = (false, eval e X.env) :: starEach es X.env := by rfl) (hplain : (backTo cpos (starEach es X.env)).any (·.1) = false := by rfl) :
    DE G X (.Call (.Attribute o "count" apos) (e :: es) [] cpos) (wCount wo wa) := by
  refine pe_imp (pe_bm PySem.F.plainAttrs_list PySem.F.slot_list_count PySem.F.type_list_count mt_lcount ho ha hbase hfew hline hs hplain) fun σ H P ⟨F, M, δ, Q, EX, hm, rs, h, tk, f⟩ => ?_
  refine ⟨F, M, δ, _, EX, hm, rs, h, tk, fun v d F1 M1 H1 g1 r1 h1 => ?_⟩
  obtain ⟨hi, h1⟩ := h1
  obtain ⟨ns, en⟩ := Option.isSome_iff_exists.mp hi
  obtain ⟨a, rfl, ha1⟩ := lints_rep g1.hm r1 en
  refine ⟨.inl ⟨rfl, _, SqL.of ha1⟩, ?_⟩
  refine ⟨F1, M1, δ, _, EX, g1.hm, rs.mono g1.ext, h1, tk.imp (wX_mono g1), fun vs ds F2 M2 H2 g2 r2 h2 => ?_⟩
  unfold kCount at h2
  split at h2
  · rename_i ns2 k e2
    obtain ⟨a2, ea, ha2⟩ := lints_rep g2.hm (r1.mono g2.ext) e2
    cases ea
    cases r2 with
    | cons r3 r4 =>
      cases r4
      cases r3
      exact ⟨a, ns2, k, rfl, rfl, SqL.of ha2, f _ _ F2 M2 H2 (g1.trans g2) (.int _) h2⟩
  · exact h2.elim
def wDct0 : WE := fun _ M Q _ => Q (.dct []) M
theorem de_dct0 {pos : Pos} : DE G X (.Dict [] [] pos) wDct0 := by
  refine pe_imp pe_dnewK fun σ H P ⟨F, M, δ, Q, EX, hm, rs, h, tk, f⟩ p hp => ?_
  have g := hm.new (o := .dK []) hp
  exact f _ _ _ _ _ g (.dct upd_same .nil) h
end
end DL

set_option Elab.async false
set_option linter.all false
set_option maxRecDepth 100000
/-! all(..), any(..) of a list of truths -/
namespace DL
open PySem PySem.Spec L2
open PyProof.Rows hiding St
def blsOf : List D → Option (List Bool)
  | [] => some []
  | .bl b :: ds => (blsOf ds).map (b :: ·)
  | _ :: _ => none
theorem blsOf_map : ∀ {ds : List D} {bs : List Bool}, blsOf ds = some bs → ds = bs.map D.bl
  | [], bs, h => by cases h; rfl
  | .bl b :: ds, bs, h => by
    unfold blsOf at h
    obtain ⟨cs, h1, h2⟩ := Option.map_eq_some_iff.mp h
    rw [← h2, blsOf_map h1]; rfl
theorem blsOf_bls : ∀ bs : List Bool, blsOf (bs.map D.bl) = some bs
  | [] => rfl
  | b :: bs => by
    show (blsOf (bs.map D.bl)).map (b :: ·) = _
    rw [blsOf_bls bs]; rfl
section
variable {G : Cfg} {K : PySem.W.Frag}
theorem RepL.bls {F : Hp} : ∀ {vs : List V} {bs : List Bool}, RepL G K F vs (bs.map D.bl) → vs = bs.map V.bl
  | _, [], h => by cases h; rfl
  | _, b :: bs, h => by
    cases h with
    | cons r t => cases r; rw [RepL.bls t]; rfl
@[irreducible] def wAll : WR1 := fun ds M Q => match ds with
  | [d] => match (lstOf M d).bind blsOf with
    | some bs => Q (.bl (bs.all id)) M
    | none => False
  | _ => False
@[irreducible] def wAny : WR1 := fun ds M Q => match ds with
  | [d] => match (lstOf M d).bind blsOf with
    | some bs => Q (.bl (bs.any id)) M
    | none => False
  | _ => False
theorem bls_rep {F : Hp} {M : MM} {H : Hp} {v : V} {d : D} {bs : List Bool} (hm : HM G K F M H) (r : Rep G K F v d) (e : (lstOf M d).bind blsOf = some bs) : ∃ a, v = .ref a ∧ H a = some (.lst (bs.map V.bl)) := by
  cases q : lstOf M d with
  | none => rw [q] at e; cases e
  | some ds =>
    rw [q] at e
    have e2 : ds = bs.map D.bl := blsOf_map e
    subst e2
    obtain ⟨a, vs, rfl, h1, r1⟩ := lstOf_rep hm r q
    rw [r1.bls] at h1
    exact ⟨a, rfl, h1⟩
theorem sim_all : SimC G K (rAll K) wAll := by
  intro F M H vs ds Q P hm r w f
  unfold wAll at w
  split at w
  · split at w
    · rename_i d bs e
      obtain ⟨v, rfl, r1⟩ := one_rep r
      obtain ⟨a, rfl, h1⟩ := bls_rep hm r1 e
      exact ⟨a, bs, rfl, SqL.of h1, f _ _ F M H (.refl hm) (.bl _) w⟩
    · exact w.elim
  · exact w.elim
theorem sim_any : SimC G K (rAny K) wAny := by
  intro F M H vs ds Q P hm r w f
  unfold wAny at w
  split at w
  · split at w
    · rename_i d bs e
      obtain ⟨v, rfl, r1⟩ := one_rep r
      obtain ⟨a, rfl, h1⟩ := bls_rep hm r1 e
      exact ⟨a, bs, rfl, SqL.of h1, f _ _ F M H (.refl hm) (.bl _) w⟩
    · exact w.elim
  · exact w.elim
theorem at_all {Q : D → MM → Prop} {M : MM} {bs : List Bool} (q : Q (.bl (bs.all id)) M) : wAll [.lst (bs.map D.bl)] M Q := by
  unfold wAll; dsimp only; rw [show lstOf M (.lst (bs.map D.bl)) = some (bs.map D.bl) from rfl, Option.bind_some, blsOf_bls]; exact q
theorem at_any {Q : D → MM → Prop} {M : MM} {bs : List Bool} (q : Q (.bl (bs.any id)) M) : wAny [.lst (bs.map D.bl)] M Q := by
  unfold wAny; dsimp only; rw [show lstOf M (.lst (bs.map D.bl)) = some (bs.map D.bl) from rfl, Option.bind_some, blsOf_bls]; exact q
end
end DL

set_option Elab.async false
set_option linter.all false
set_option maxRecDepth 100000
/-! a tuple times one, times nought -/
namespace DL
open PySem PySem.Spec L2
section
variable {X : Cx}
theorem mul_few {prog : Program} {w : World} {A : Around} {E : Value → Shared → Prop} {s : Shared} {l : Addr} {items : Array Value} {n : Nat} {dd : Option Addr} {sl : Array (Option Value)} {k : Int} {t : Tok} {Q : Value → Shared → Prop}
    (ho : s.heap.get? l = some { cls := .type "tuple", dict := dd, data := .seq items n, slots := sl }) (hk : -100000 ≤ k ∧ k ≤ 1) (hne : items.isEmpty = false)
    (h1 : k = 1 → Q (.ref l) s) (h0 : k ≤ 0 → Q (.ref s.heap.objs.size) { heap := s.heap.push { cls := .type "tuple", data := .seq #[] }, gens := s.gens, drawn := s.drawn, toks := s.toks, os := s.os }) :
    wpAny (model prog w) A (binaryOp .Mult (.ref l) (.int k t)) Q E s := by
  refine wpAny_binaryOp_repeat_ref (T := "tuple") (U := "int") (by decide) ⟨_, ho, rfl⟩ (fun s' => typeIs_int s' k t) noFill_tuple_mul F.fills_int_mul F.slot_int_rmul repeat_tuple F.slot_int_index.lookup ?_
  refine call_meets F.slot_int_rmul (typeIs_int _ _ _) F.entry_int_rmul (F.args_int_rmul_2 _ _) (int_rmul_tuple k t l items n dd sl) ⟨ho, ⟨rfl, ⟨_, ho, rfl⟩, ?_⟩⟩
  refine wpAny_call_entry F.slot_tuple_mul ⟨_, ho, rfl⟩ F.entry_tuple_mul ?_ (F.args_tuple_mul_2 _ _)
  unfold Builtin.«tuple.__mul__»
  refine wpAny_bind (wpAny_of_eq (a := k) rfl ?_)
  have b1 : (decide (k < -2 ^ 63) || decide (k ≥ 2 ^ 63)) = false := by
    rw [decide_eq_false (by omega), decide_eq_false (by omega)]; rfl
  rw [b1]
  dsimp only
  rw [if_neg Bool.false_ne_true]
  unfold Builtin.Tuple.tupleItemsOf
  refine wpAny_bind (wpAny_bind (wpAny_seqItems ho rfl (wpAny_pure ?_)))
  rw [hne, Bool.false_or]
  by_cases e : k = 1
  · rw [show (k == 1) = true from by simp [e], if_pos rfl]
    unfold Builtin.Tuple.tupleIsExact
    refine wpAny_bind (wpAny_bind (wpAny_typeOf (T := "tuple") ⟨_, ho, rfl⟩ (wpAny_pure ?_)))
    rw [if_pos (by decide)]
    refine wpAny_bind (wpAny_rule (wpAny_pure ⟨_, rfl, h1 e⟩))
  · rw [show (k == 1) = false from by simpa using e, if_neg Bool.false_ne_true]
    have b2 : (decide (k ≤ 0) || items.isEmpty) = true := by rw [decide_eq_true (by omega)]; rfl
    rw [hne] at b2
    rw [if_pos b2]
    unfold Builtin.Tuple.tupleExact
    refine wpAny_bind (wpAny_newObj_type ?_ ?_)
    · exact wpAny_pure ⟨_, rfl, h0 (by omega)⟩
    · show 0 ≤ sizeLine; omega
open PyProof.Rows in
def rRepF (K : PySem.W.Frag) : R2 := fun x y H Q => ∃ l k xs, x = .ref l ∧ y = .int k ∧ SqT K H l xs ∧ xs ≠ [] ∧ (-100000 ≤ k ∧ k ≤ 1) ∧ (k = 1 → Q (.ref l) H) ∧ (k ≤ 0 → ∀ p, H p = none → Q (.ref p) (upd H p (.tup [])))
theorem op_repF : OpR X (binaryOp .Mult) (rRepF X.K) := by
  intro pins s σ H x y v u Q I rx ry h
  obtain ⟨l, k, xs, rfl, rfl, hT, hne, hk, q1, q0⟩ := h
  obtain rfl : v = Value.ref l := rx
  obtain ⟨t, rfl⟩ := (show ∃ t, u = Value.int k t from ry)
  obtain ⟨its, r, ⟨o, ho, hc, n, hd⟩, hs⟩ := I.tuple hT
  obtain ⟨cls, dd, data, sl⟩ := o
  dsimp only at hc hd
  subst hc; subst hd
  refine mul_few ho hk ?_ (fun e => ⟨.ref l, H, I, rfl, q1 e⟩) fun e => ?_
  · cases its with
    | nil => cases r; exact absurd rfl hne
    | cons a as => simp
  · have z : (s.heap.push { cls := .type "tuple", data := .seq #[] }).get? s.heap.objs.size = some { cls := .type "tuple", data := .seq (([] : List Value).toArray) } := Heap.get?_push_size _ rfl
    refine ⟨.ref s.heap.objs.size, _, I.laid (o := .tup []) (fun b u e => Heap.get?_push_of_some _ e) (Nat.le_refl _) ?_, rfl, q0 e _ (I.hok.fresh (Nat.le_refl _))⟩
    exact ⟨Nat.zero_le _, [], .nil, ⟨_, z, rfl, _, rfl⟩⟩
def wTimesF : WR2 := fun x y M Q => match x, y with
  | .tup xs, .int k => if k ≤ 1 then xs ≠ [] ∧ -100000 ≤ k ∧ (k = 1 → Q (.tup xs) M) ∧ (k ≤ 0 → Q (.tup []) M) else wTimes (.tup xs) (.int k) M Q
  | x, y => wTimes x y M Q
variable {G : Cfg} {K : PySem.W.Frag}
theorem sim_timesF {r : R2} (h : Sim2 G K r wTimes) : Sim2 G K (orR r (rRepF K)) wTimesF := by
  intro F M H x y dx dy Q P hm rx ry w f
  unfold wTimesF at w
  split at w
  · rename_i xs k
    split at w
    · rename_i hk
      obtain ⟨hne, h0, h1, h2⟩ := w
      cases ry
      cases rx with
      | tup ht rt =>
        rename_i a vs
        refine .inr ⟨a, k, vs, rfl, rfl, sqT_mono hm.sub ht, fun z => hne ?_, ⟨h0, hk⟩, fun e => f _ _ F M H (.refl hm) (.tup ht rt) (h1 e), fun e p hp => ?_⟩
        · subst z; cases rt; rfl
        · have g := hm.new (o := .tup []) hp
          exact f _ _ _ _ _ g (.tup upd_same .nil) (h2 e)
    · exact .inl (h F M H x y _ _ Q P hm rx ry w f)
  · exact .inl (h F M H x y _ _ Q P hm rx ry w f)
end
end DL

set_option Elab.async false
set_option linter.all false
set_option maxRecDepth 100000
/-! sorted(pairs of ints), sorted(pairs of ints, reverse = b) -/
namespace DL
open PySem PySem.Spec L2 PyProof.Rows
section
open SrtO
variable {prog : Program} {w : World} {A : Around} {E : Value → Shared → Prop} {s : Shared}
/-- sorted(t, ..) of a tuple, by keywords that say reverse=b -/
theorem sorted_tupK {l : Addr} {vs : List Value} {b : Bool} {kw : List (Str × Value)} {ltv : Value → Value → Bool} {Q : Value → Shared → Prop} (hk : ∀ a, Builtin.«list.sort» ⟨[.ref a], kw⟩ = Builtin.«list.sort» ⟨[.ref a], [(Str.ofString "reverse", .bool b)]⟩)
    (ha1 : argsOk "sorted" ⟨[.ref l], kw⟩) (ha2 : ∀ a, argsOk "list.sort" ⟨[a], kw⟩) (O : Swo ltv) (ht : PyProof.Rows.IsTup s.heap l vs.toArray) (hl : vs.length ≤ sizeLine)
    (hS : 2 ≤ vs.length → ∀ (h₁ : Heap) (a : Addr), h₁.get? a = some (PyProof.Rows.seqObj "list" vs.toArray 0) → (∀ b o, s.heap.get? b = some o → b ≠ a ∧ h₁.get? b = some o) → SortableO prog w A.in1.in1 { s with heap := h₁ } a vs ltv)
    (hQ : ∀ (h' : Heap) (d c : Nat) (out : List Value), Srtd ltv out → Stb ltv out (if b = true then vs.reverse else vs) → (∀ b o, s.heap.get? b = some o → h'.get? b = some o) → s.heap.objs.size ≤ d →
      h'.get? d = some (PyProof.Rows.seqObj "list" (if b = true then out.toArray.reverse else out.toArray) c) → Q (.ref d) { s with heap := h' }) : wpAny (model prog w) A (call (.builtin "sorted") [.ref l] kw) Q E s := by
  refine call_function_entry_kw PyProof.Rows.kind_sorted PyProof.Rows.plain_sorted PyProof.Rows.entry_sorted ha1 ?_
  unfold Builtin.sorted
  refine wpAny_bind (m := checkCount "sorted" 1 1 _) (wpAny_pure ?_)
  refine wpAny_bind (collect_tup ht hl fun h1 k1 z1 => ?_)
  refine wpAny_bind (wpAny_newList ?_ hl)
  obtain ⟨S, eS⟩ : ∃ S, S = h1.objs.size := ⟨_, rfl⟩
  have at1 : (h1.push (PyProof.Rows.seqObj "list" vs.toArray 0)).get? S = some (PyProof.Rows.seqObj "list" vs.toArray 0) := by rw [eS]; exact Heap.get?_push_size _ rfl
  have lt1 : ∀ b o, s.heap.get? b = some o → b < h1.objs.size := fun b o e => Nat.lt_of_lt_of_le (Heap.lt_size e) z1
  refine wpAny_bind (wpAny_holding (wpAny_call_entry_kw PyProof.Rows.slot_list_sort ⟨_, by rw [← eS]; exact at1, rfl⟩ PyProof.Rows.entry_list_sort ?_ (ha2 _)))
  rw [← eS, hk]
  refine SrtR.list_sort_ordR O at1 hl (fun h2 => hS h2 _ _ at1 fun b o e => ⟨by rw [eS]; exact Nat.ne_of_lt (lt1 b o e), Heap.get?_push_of_some _ (k1 b o e)⟩) fun out h3 h4 => ⟨.none, rfl, ?_⟩
  obtain ⟨c, hc⟩ := PyProof.Rows.sortedHeap_at (out := if b = true then out.toArray.reverse else out.toArray) at1
  refine wpAny_pure ⟨_, rfl, ?_⟩
  refine hQ _ S c out h3 h4 (fun b o e => ?_) (by omega) hc
  have nb : b ≠ S := by rw [eS]; exact Nat.ne_of_lt (lt1 b o e)
  rw [PyProof.Rows.sortedHeap_old nb (by rw [PyProof.Rows.size_push']; exact Nat.lt_succ_of_lt (lt1 b o e))]
  exact Heap.get?_push_of_some _ (k1 b o e)
end
section
variable {X : Cx}
def rSortP (K : PySem.W.Frag) (b : Bool) : List V → Hp → VK → Prop := fun vs H Q => ∃ (a : Addr) (ys : List V), vs = [V.ref a] ∧ (SqL K H a ys ∨ SqT K H a ys) ∧ (∀ y ∈ ys, ∃ t i j, y = .ref t ∧ SqT K H t [.int i, .int j]) ∧
  ∀ (k : V → Int × Int) (zs : List V) (p : Addr), (∀ y ∈ ys, ∀ t i j, y = .ref t → SqT K H t [.int i, .int j] → k y = (i, j)) → zs.Perm ys → SrtO.Srtd (ltP k) (if b then zs.reverse else zs) → H p = none → Q (.ref p) (upd H p (.lst zs))
theorem sortP_run {b : Bool} {kw : List (Str × Value)} {pins : List (Addr × Obj)} {s : Shared} {σ : L2.St} {H : Hp} {a : Addr} {ys : List V} {Q : VK} (I : Inv X pins σ H s) (hs : SqL X.K H a ys ∨ SqT X.K H a ys) (hy : ∀ y ∈ ys, ∃ t i j, y = .ref t ∧ SqT X.K H t [.int i, .int j])
    (hk : ∀ a, Builtin.«list.sort» ⟨[.ref a], kw⟩ = Builtin.«list.sort» ⟨[.ref a], [(Str.ofString "reverse", .bool b)]⟩) (ha1 : argsOk "sorted" ⟨[.ref a], kw⟩) (ha2 : ∀ a, argsOk "list.sort" ⟨[a], kw⟩)
    (q : ∀ (k : V → Int × Int) (zs : List V) (p : Addr), (∀ y ∈ ys, ∀ t i j, y = .ref t → SqT X.K H t [.int i, .int j] → k y = (i, j)) → zs.Perm ys → SrtO.Srtd (ltP k) (if b then zs.reverse else zs) → H p = none → Q (.ref p) (upd H p (.lst zs))) :
    wpAny (model X.prog X.w) X.A (call (.builtin "sorted") [.ref a] kw) (EP X pins σ Q) X.xe s := by
  classical
  obtain ⟨its, rv, hl, hz⟩ : ∃ its, Vals ys its ∧ ((s.heap.IsList a its.toArray ∧ SqL X.K H a ys) ∨ PyProof.Rows.IsTup s.heap a its.toArray) ∧ ys.length ≤ sizeLine := by
    rcases hs with hs | hs
    · obtain ⟨its, rv, hl, hz⟩ := I.list hs
      exact ⟨its, rv, .inl ⟨hl.isList, hs⟩, hz⟩
    · obtain ⟨its, rv, hl, hz⟩ := I.tuple hs
      exact ⟨its, rv, .inr hl, hz⟩
  obtain ⟨k, hkk⟩ : ∃ k : V → Int × Int, ∀ y ∈ ys, ∀ t i j, y = .ref t → SqT X.K H t [.int i, .int j] → k y = (i, j) := by
    refine ⟨fun y => if h : ∃ p : Int × Int, ∃ t, y = .ref t ∧ SqT X.K H t [.int p.1, .int p.2] then h.choose else (0, 0), fun y hy2 t i j e1 e2 => ?_⟩
    have h : ∃ p : Int × Int, ∃ t, y = .ref t ∧ SqT X.K H t [.int p.1, .int p.2] := ⟨(i, j), t, e1, e2⟩
    dsimp only
    rw [dif_pos h]
    obtain ⟨t2, e3, e4⟩ := h.choose_spec
    rw [e1] at e3
    cases e3
    have z := I.tuple_inj e4 e2
    simp only [List.cons.injEq, V.int.injEq, and_true] at z
    exact Prod.ext z.1 z.2
  obtain ⟨e1, e2⟩ := refs_back rv fun x m => by
    obtain ⟨t, _, _, e, _⟩ := hy x m
    exact ⟨t, e⟩
  have hp : ∀ v ∈ its, Srt.IsPair s.heap v (k (backV v)).1 (k (backV v)).2 := fun v hv => by
    obtain ⟨t, rfl⟩ := e2 v hv
    have hm : V.ref t ∈ ys := by rw [e1]; exact List.mem_map.mpr ⟨_, hv, rfl⟩
    obtain ⟨t', i, j, e, ht⟩ := hy _ hm
    cases e
    have ek := hkk _ hm t i j rfl ht
    have ek2 : k (backV (Value.ref t)) = (i, j) := ek
    rw [ek2]
    obtain ⟨its2, r2, ⟨o, ho, hc, n, hd⟩, _⟩ := I.tuple ht
    obtain ⟨u1, u2, rfl, ri, rj⟩ := vals2 r2
    obtain ⟨t1, rfl⟩ := ri
    obtain ⟨t2, rfl⟩ := rj
    exact ⟨t, o, t1, t2, n, rfl, ho, hc, hd⟩
  have fin : ∀ (h' : Heap) (d c : Nat) (out : List Value), SrtO.Srtd (fun u v => SrtO.lexB (k (backV u)) (k (backV v))) out → SrtO.Stb (fun u v => SrtO.lexB (k (backV u)) (k (backV v))) out (if b = true then its.reverse else its) → (∀ b o, s.heap.get? b = some o → h'.get? b = some o) → s.heap.objs.size ≤ d →
      h'.get? d = some (PyProof.Rows.seqObj "list" (if b = true then out.toArray.reverse else out.toArray) c) → EP X pins σ Q (.ref d) { s with heap := h' } := by
    intro h' d c out h1 h2 keep hd he'
    have h2p : out.Perm its := h2.perm.trans (by cases b <;> simp [List.reverse_perm])
    have h3 : ∀ u ∈ out, ∃ a, u = Value.ref a := fun u hu => e2 u (h2p.mem_iff.mp hu)
    obtain ⟨res, er⟩ : ∃ res, res = if b = true then out.reverse else out := ⟨_, rfl⟩
    have rp : res.Perm out := by rw [er]; cases b <;> simp [List.reverse_perm]
    have h4 : ∀ u ∈ res, ∃ a, u = Value.ref a := fun u hu => h3 u (rp.mem_iff.mp hu)
    have hb : (res.map backV).Perm ys := by
      rw [e1]
      exact (rp.trans h2p).map backV
    have ea : (if b = true then out.toArray.reverse else out.toArray) = res.toArray := by
      rw [er]
      cases b
      · rfl
      · simp
    rw [ea] at he'
    have hlen : (res.map backV).length ≤ sizeLine := by rw [hb.length_eq]; exact hz
    have hs2 : SrtO.Srtd (ltP k) (if b then (res.map backV).reverse else res.map backV) := by
      have e : (if b = true then (res.map backV).reverse else res.map backV) = out.map backV := by
        rw [er]; cases b <;> simp
      rw [e]
      exact SrtO.srtd_map h1
    exact ⟨.ref _, upd H d (.lst (res.map backV)), I.laid (t' := s.toks) keep hd ⟨hlen, res, c, vals_back h4, he'⟩, rfl, q _ _ _ hkk hb hs2 (I.hok.fresh hd)⟩
  rcases hl with ⟨hl, _⟩ | hl
  · refine SrtR.sorted_ordK hk ha1 ha2 (SrtO.swo_lex fun u => k (backV u)) hl (by rw [← rv.length]; exact hz) (fun h2 h₁ a' ha' kk => SrtO.pairs_sortableO (by omega) (fun v hm => (hp v hm).keeps fun b o e _ => (kk b o e).2) fun o e => ?_) fun out h1 h2 => ?_
    · have e' : some o = some (PyProof.Rows.seqObj "list" its.toArray 0) := e.symm.trans ha'
      cases e'
      intro c
      exact absurd (Value.type.inj c) (by decide)
    · obtain ⟨ep, he'⟩ := PyProof.Rows.sortedAll_at s.heap its (if b = true then out.toArray.reverse else out.toArray)
      exact fin _ _ ep out h1 h2 (fun _ _ => PyProof.Rows.sortedAll_old) (Nat.le_succ _) he'
  · refine sorted_tupK hk ha1 ha2 (SrtO.swo_lex fun u => k (backV u)) hl (by rw [← rv.length]; exact hz) (fun h2 h₁ a' ha' kk => SrtO.pairs_sortableO (by omega) (fun v hm => (hp v hm).keeps fun b o e _ => (kk b o e).2) fun o e => ?_) fin
    have e' : some o = some (PyProof.Rows.seqObj "list" its.toArray 0) := e.symm.trans ha'
    cases e'
    intro c
    exact absurd (Value.type.inj c) (by decide)
theorem sort_no_kw (a : Addr) : Builtin.«list.sort» ⟨[.ref a], []⟩ = Builtin.«list.sort» ⟨[.ref a], [(Str.ofString "reverse", .bool false)]⟩ := by
  rw [list_sort_rev]
  first | rfl | kernel_rfl
theorem cr_sortP : CallR X (.builtin "sorted") (rSortP X.K false) := by
  intro pins s σ H vs us Q I r h
  obtain ⟨a, ys, rfl, hs, hy, q⟩ := h
  obtain rfl := Vals.ref1 r
  exact sortP_run I hs hy sort_no_kw (PyProof.Rows.args_sorted1 _) (fun _ => PyProof.Rows.args_list_sort _) q
theorem cr_sortPRev {b : Bool} : CallRK X (.builtin "sorted") [Str.ofString "reverse"] fun vs zs H Q => zs = [.bl b] ∧ rSortP X.K b vs H Q := by
  intro pins s σ H vs zs us ws Q I r rz h
  obtain ⟨rfl, a, ys, rfl, hs, hy, q⟩ := h
  obtain rfl := Vals.ref1 r
  obtain ⟨w1, rfl, e1⟩ := vals1 rz
  obtain rfl : w1 = Value.bool b := e1
  exact sortP_run I hs hy (fun _ => rfl) (PyProof.Rows.args_sorted_rev _ _) (fun _ => PyProof.Rows.args_list_sort_rev _ _) q
/-! ### as trees -/
variable {G : Cfg}
abbrev prI (p : Int × Int) : D := .tup [.int p.1, .int p.2]
def pairsD : List D → Option (List (Int × Int))
  | [] => some []
  | .tup [.int i, .int j] :: r => (pairsD r).map ((i, j) :: ·)
  | _ => none
theorem pairsD_map : ∀ (ps : List (Int × Int)), pairsD (ps.map prI) = some ps
  | [] => rfl
  | p :: ps => by
    show (pairsD (ps.map prI)).map _ = _
    rw [pairsD_map ps]; rfl
theorem pairsD_of : ∀ {ds : List D} {ps : List (Int × Int)}, pairsD ds = some ps → ds = ps.map prI
  | [], ps, h => by cases h; rfl
  | d :: r, ps, h => by
    unfold pairsD at h
    split at h
    · rename_i e; cases e
    · rename_i i j r' e
      cases e
      cases hr : pairsD r with
      | none => rw [hr] at h; cases h
      | some qs =>
        rw [hr] at h
        cases h
        rw [pairsD_of hr]; rfl
    · cases h
theorem RepL.perm {K : PySem.W.Frag} {F : Hp} {vs ws : List V} (h : ws.Perm vs) : ∀ {ds : List D}, RepL G K F vs ds → ∃ es, es.Perm ds ∧ RepL G K F ws es := by
  induction h with
  | nil => intro ds r; cases r; exact ⟨[], .refl _, .nil⟩
  | cons x h ih => 
    intro ds r
    cases r with
    | cons r1 r2 =>
      obtain ⟨es, p, q⟩ := ih r2
      exact ⟨_ :: es, p.cons _, .cons r1 q⟩
  | swap x y l =>
    intro ds r
    cases r with
    | cons r1 r2 =>
      cases r2 with
      | cons r3 r4 => exact ⟨_ :: _ :: _, .swap _ _ _, .cons r3 (.cons r1 r4)⟩
  | trans h1 h2 ih1 ih2 =>
    intro ds r
    obtain ⟨es, p, q⟩ := ih2 r
    obtain ⟨fs, p2, q2⟩ := ih1 q
    exact ⟨fs, p2.trans p, q2⟩
theorem pair_rep {K : PySem.W.Frag} {F : Hp} {v : V} {p : Int × Int} (r : Rep G K F v (prI p)) : ∃ t, v = .ref t ∧ SqT K F t [.int p.1, .int p.2] := by
  cases r with
  | tup h1 r2 =>
    have e := RepL.ints (ns := [p.1, p.2]) r2
    subst e
    exact ⟨_, rfl, SqT.of h1⟩
theorem RepL.of_mem {K : PySem.W.Frag} {F : Hp} : ∀ {vs : List V} {ds : List D} {v : V}, RepL G K F vs ds → v ∈ vs → ∃ d ∈ ds, Rep G K F v d
  | _, _, v, .nil, h => nomatch h
  | _, _, v, .cons r t, h => by
    rcases List.mem_cons.mp h with e | h
    · subst e; exact ⟨_, List.mem_cons_self, r⟩
    · obtain ⟨d, h1, h2⟩ := RepL.of_mem t h
      exact ⟨d, List.mem_cons_of_mem _ h1, h2⟩
theorem perm_pairs {ps : List (Int × Int)} {es : List D} (h : es.Perm (ps.map prI)) : ∃ qs : List (Int × Int), qs.Perm ps ∧ es = qs.map prI := by
  have hall : ∀ d ∈ es, ∃ p, d = prI p := fun d hd => by
    obtain ⟨p, _, e⟩ := List.mem_map.mp (h.mem_iff.mp hd)
    exact ⟨p, e.symm⟩
  obtain ⟨g, hg⟩ : ∃ g : D → Int × Int, ∀ p, g (prI p) = p := ⟨fun d => match d with | .tup [.int i, .int j] => (i, j) | _ => (0, 0), fun p => rfl⟩
  refine ⟨es.map g, ?_, ?_⟩
  · have z := h.map g
    rw [List.map_map] at z
    have e : (g ∘ prI) = id := funext hg
    rw [e, List.map_id] at z
    exact z
  · rw [List.map_map]
    refine (List.map_id es).symm.trans (List.map_congr_left fun d hd => ?_)
    obtain ⟨p, e⟩ := hall d hd
    show d = prI (g d)
    rw [e, hg]
theorem srtd_pairs {K : PySem.W.Frag} {F : Hp} {k : V → Int × Int} : ∀ {vs : List V} {ps : List (Int × Int)}, RepL G K F vs (ps.map prI) → (∀ v ∈ vs, ∀ p, Rep G K F v (prI p) → k v = p) → vs.map k = ps
  | [], [], _, _ => rfl
  | _, [], .nil, _ => rfl
  | _, p :: ps, .cons r t, h => by
    rw [List.map_cons, h _ List.mem_cons_self p r, srtd_pairs t fun v hv => h v (List.mem_cons_of_mem _ hv)]
/-- lexicographic order -/
abbrev lexLe (p q : Int × Int) : Prop := SrtO.lexB q p = false
theorem sim_sortP_aux {K : PySem.W.Frag} {b : Bool} {F : Hp} {M : MM} {H : Hp} {v : V} {d : D} {ds : List D} {ps : List (Int × Int)} {Q : D → MM → Prop} {P : VK} (hm : HM G K F M H) (r : Rep G K F v d) (e : seqOf M d = some ds) (ep : pairsD ds = some ps)
    (w : ∀ qs : List (Int × Int), qs.Perm ps → (if b then qs.reverse else qs).Pairwise lexLe → Q (.lst (qs.map prI)) M) (f : Fin G K F M H Q P) : rSortP K b [v] H P := by
  obtain ⟨a, vs, rfl, ha, rl⟩ := seqOf_rep hm r e
  have ed := pairsD_of ep
  subst ed
  have tup : ∀ y ∈ vs, ∃ p : Int × Int, ∃ t, y = .ref t ∧ SqT K F t [.int p.1, .int p.2] := fun y hy => by
    obtain ⟨d, hd, r⟩ := rl.of_mem hy
    obtain ⟨p, _, rfl⟩ := List.mem_map.mp hd
    exact ⟨p, pair_rep r⟩
  refine ⟨a, vs, rfl, ha, fun y hy => ?_, fun k zs p hk hp hs hn => ?_⟩
  · obtain ⟨p, t, e1, e2⟩ := tup y hy
    exact ⟨t, p.1, p.2, e1, sqT_up hm.sub e2⟩
  · obtain ⟨es, pe, re⟩ := rl.perm hp
    obtain ⟨qs, pq, rfl⟩ := perm_pairs pe
    have ek : zs.map k = qs := srtd_pairs re fun v hv p hr => by
      obtain ⟨t, e1, e2⟩ := pair_rep hr
      exact hk v (hp.mem_iff.mp hv) t _ _ e1 (sqT_up hm.sub e2)
    have g := hm.new (o := .lst zs) hn
    refine f _ _ _ _ _ g (.lst upd_same (re.mono g.ext)) (w qs pq ?_)
    rw [← ek]
    have hs' : (if b = true then zs.reverse else zs).Pairwise fun x y => SrtO.lexB (k y) (k x) = false := hs
    cases b
    · exact List.pairwise_map.mpr hs'
    · show ((zs.map k).reverse).Pairwise lexLe
      rw [← List.map_reverse]
      exact List.pairwise_map.mpr hs'
/-- sorted(pairs) -/
@[irreducible] def wSortP : WR1 := fun ds M Q => match ds with
  | [d] => match seqOf M d with
    | some xs => match pairsD xs with
      | some ps => ∀ qs : List (Int × Int), qs.Perm ps → qs.Pairwise lexLe → Q (.lst (qs.map prI)) M
      | none => False
    | none => False
  | _ => False
theorem at_sortP {Q : D → MM → Prop} {M : MM} {d : D} {ps : List (Int × Int)} (h : seqOf M d = some (ps.map prI)) (q : ∀ qs : List (Int × Int), qs.Perm ps → qs.Pairwise lexLe → Q (.lst (qs.map prI)) M) : wSortP [d] M Q := by
  unfold wSortP; dsimp only; rw [h]; dsimp only; rw [pairsD_map]; exact q
theorem sim_sortP {K : PySem.W.Frag} : SimC G K (rSortP K false) wSortP := by
  intro F M H vs ds Q P hm r w f
  unfold wSortP at w
  split at w
  · split at w
    · split at w
      · rename_i d _ xs e _ ps ep
        obtain ⟨v, rfl, r1⟩ := one_rep r
        exact sim_sortP_aux (b := false) hm r1 e ep w f
      · exact w.elim
    · exact w.elim
  · exact w.elim
/-- sorted(pairs, reverse = True) -/
@[irreducible] def wSortPR : WR1K := fun ds es M Q => match ds, es with
  | [d], [.bl true] => match seqOf M d with
    | some xs => match pairsD xs with
      | some ps => ∀ qs : List (Int × Int), qs.Perm ps → qs.reverse.Pairwise lexLe → Q (.lst (qs.map prI)) M
      | none => False
    | none => False
  | _, _ => False
theorem at_sortPR {Q : D → MM → Prop} {M : MM} {d : D} {ps : List (Int × Int)} (h : seqOf M d = some (ps.map prI)) (q : ∀ qs : List (Int × Int), qs.Perm ps → qs.reverse.Pairwise lexLe → Q (.lst (qs.map prI)) M) : wSortPR [d] [.bl true] M Q := by
  unfold wSortPR; dsimp only; rw [h]; dsimp only; rw [pairsD_map]; exact q
theorem sim_sortPR {K : PySem.W.Frag} : SimCK G K (fun vs zs H Q => zs = [.bl true] ∧ rSortP K true vs H Q) wSortPR := by
  intro F M H vs zs ds es Q P hm r rk w f
  unfold wSortPR at w
  split at w
  · split at w
    · split at w
      · rename_i d _ xs e _ ps ep
        obtain ⟨v, rfl, r1⟩ := one_rep r
        obtain ⟨z, rfl, r2⟩ := one_rep rk
        cases r2
        exact ⟨rfl, sim_sortP_aux (b := true) hm r1 e ep w f⟩
      · exact w.elim
    · exact w.elim
  · exact w.elim
end
end DL

set_option Elab.async false
set_option linter.all false
set_option maxRecDepth 100000
/-! a dict with tuples for keys: {}, d[a, b] = v, list(d), d[t] -/
namespace DL
open PySem PySem.Spec L2
open PyProof.Rows hiding St
section
variable {G : Cfg} {X : Cx} {e o i value : Expr} {es : List Expr}
def wDNewT : WE := fun _ M Q _ => ∀ p, M p = none → Q (.raw (.ref p)) (updM M p (.dcT []))
theorem de_dnewT {pos : Pos} : DE G X (.Dict [] [] pos) wDNewT := by
  refine pe_imp pe_dnewT fun σ H P ⟨F, M, δ, Q, EX, hm, rs, h, tk, f⟩ p hp => ?_
  have g := hm.newM (o := .dT []) (m := .dcT []) hp ⟨[], upd_same, .nil⟩
  exact f _ _ _ _ _ g (.raw _) (h p (hm.free hp).2)
def keysD (ds : List D) : Option (List Key) := ds.mapM keyD
theorem keysD_nil : keysD [] = some [] := rfl
theorem keysD_rep {K : PySem.W.Frag} {F : Hp} : ∀ {vs : List V} {ds : List D} {ks : List Key}, RepL G K F vs ds → keysD ds = some ks → vs = ks.map kV
  | _, _, _, .nil, e => by cases e; rfl
  | _, _, _, .cons (d := d) (ds := ds) r t, e => by
    unfold keysD at e
    rw [List.mapM_cons] at e
    cases e1 : keyD d with
    | none => rw [e1] at e; cases e
    | some k =>
      cases e2 : List.mapM keyD ds with
      | none => rw [e1, e2] at e; cases e
      | some ks =>
        rw [e1, e2] at e
        cases e
        rw [keyD_rep r e1, keysD_rep t e2]; rfl
theorem keysD_ints2 (a b : Int) : keysD [.int a, .int b] = some [.inl a, .inl b] := rfl
def valT (kvs : List (List Key × D)) (k : List Key) : Option D := (kvs.find? fun kv => decide (kv.1 = k)).map (·.2)
def putT (kvs : List (List Key × D)) (k : List Key) (v : D) : List (List Key × D) := if (kvs.any fun kv => decide (kv.1 = k)) = true then kvs.map (fun kv => if kv.1 = k then (kv.1, v) else kv) else kvs ++ [(k, v)]
theorem RepT.len {K : PySem.W.Frag} {F : Hp} : ∀ {vs : List (List Key × V)} {ds : List (List Key × D)}, RepT G K F vs ds → vs.length = ds.length
  | _, _, .nil => rfl
  | _, _, .cons _ t => congrArg Nat.succ (RepT.len t)
theorem RepT.app {K : PySem.W.Frag} {F : Hp} : ∀ {vs ws : List (List Key × V)} {ds es : List (List Key × D)}, RepT G K F vs ds → RepT G K F ws es → RepT G K F (vs ++ ws) (ds ++ es)
  | _, _, _, _, .nil, s => s
  | _, _, _, _, .cons r t, s => .cons r (RepT.app t s)
theorem RepT.any {K : PySem.W.Frag} {F : Hp} {k : List Key} : ∀ {vs : List (List Key × V)} {ds : List (List Key × D)}, RepT G K F vs ds → (vs.any fun kv => decide (kv.1 = k)) = ds.any fun kv => decide (kv.1 = k)
  | _, _, .nil => rfl
  | _, _, .cons _ t => by rw [List.any_cons, List.any_cons, RepT.any t]
theorem RepT.map {K : PySem.W.Frag} {F : Hp} {k : List Key} {v : V} {d : D} (rv : Rep G K F v d) : ∀ {vs : List (List Key × V)} {ds : List (List Key × D)}, RepT G K F vs ds → RepT G K F (vs.map fun kv => if kv.1 = k then (kv.1, v) else kv) (ds.map fun kv => if kv.1 = k then (kv.1, d) else kv)
  | _, _, .nil => .nil
  | (k', v') :: vs, (_, d') :: ds, .cons r t => by
    rw [List.map_cons, List.map_cons]
    by_cases h : k' = k
    · rw [if_pos h, if_pos h]; exact .cons rv (RepT.map rv t)
    · rw [if_neg h, if_neg h]; exact .cons r (RepT.map rv t)
theorem RepT.put {K : PySem.W.Frag} {F : Hp} {k : List Key} {v : V} {d : D} {vs : List (List Key × V)} {ds : List (List Key × D)} (r : RepT G K F vs ds) (rv : Rep G K F v d) : RepT G K F (putK vs k v) (putT ds k d) := by
  unfold putK putT
  rw [r.any]
  split
  · exact r.map rv
  · exact r.app (.cons rv .nil)
theorem RepT.val {K : PySem.W.Frag} {F : Hp} {k : List Key} : ∀ {vs : List (List Key × V)} {ds : List (List Key × D)} {d : D}, RepT G K F vs ds → valT ds k = some d → ∃ v, valV vs k = some v ∧ Rep G K F v d
  | _, _, _, .nil, e => by cases e
  | (k', v) :: vs, (_, d') :: ds, d, .cons r t, e => by
    unfold valT at e
    unfold valV
    by_cases h : k' = k
    · rw [List.find?_cons_of_pos (by simpa using h)] at e ⊢
      cases e
      exact ⟨v, rfl, r⟩
    · rw [List.find?_cons_of_neg (by simpa using h)] at e ⊢
      exact RepT.val t e
/-- d[a, b] = v -/
@[irreducible] def kDPutT (nx : MM → Prop) (v o : D) (ds : List D) (M3 : MM) : Prop := match o, keysD ds with
  | .raw (.ref a), some k => match M3 a with
    | some (.dcT kvs) => kvs.length < sizeLine ∧ ds.length ≤ sizeLine ∧ nx (updM M3 a (.dcT (putT kvs k v)))
    | _ => False
  | _, _ => False
def wDPutT (wv wo : WE) (wi : WA) : WS := fun E EX δ M => wv δ M (fun v M1 => wo δ M1 (fun o M2 => wi δ M2 (fun ds M3 => kDPutT (E.nx δ) v o ds M3) EX) EX) EX
theorem ds_dputT {wv wo : WE} {wi : WA} {pos pos' tpos : Pos} {x1} (hu : X.A.units + 1 < cLine) (he : DE G X value wv) (ho : DE G X o wo) (hi : DA G X es wi) (hs : swapsWith value (some (.Subscript o (.Tuple es x1 tpos) pos')) pos.line X.env = pure false := by rfl) : DSt G X (.Assign [.Subscript o (.Tuple es x1 tpos) pos'] value pos) (wDPutT wv wo wi) := by
  refine ps_imp (ps_dput hu ho (pe_tup hi) he hs) fun D σ H ⟨F, M, δ, E, EX, hm, rs, h, tk, n, r, b, c⟩ => ?_
  refine ⟨F, M, δ, _, EX, hm, rs, h, tk, fun v d F1 M1 H1 g1 r1 h1 => ?_⟩
  refine ⟨F1, M1, δ, _, EX, g1.hm, rs.mono g1.ext, h1, tk.imp (wX_mono g1), fun v2 d2 F2 M2 H2 g2 r2 h2 => ?_⟩
  have g12 := g1.trans g2
  refine ⟨F2, M2, δ, _, EX, g2.hm, rs.mono g12.ext, h2, tk.imp (wX_mono g12), fun vs ds F3 M3 H3 g3 r3 h3 => ?_⟩
  have g123 := g12.trans g3
  try dsimp only at h3
  unfold kDPutT at h3
  split at h3
  · rename_i a k ek
    cases r2
    split at h3
    · rename_i kvs ea
      have e4 := keysD_rep r3 ek
      subst e4
      obtain ⟨h4, h5, h6⟩ := h3
      refine ⟨by rw [r3.len]; exact h5, fun p hp => ?_⟩
      have gp := g3.hm.new (o := .tup (k.map kV)) hp
      obtain ⟨zs, hz, rz⟩ := gp.hm.mo a _ ea
      refine ⟨a, _, rfl, .inr ⟨zs, k, p, hz, rfl, upd_same, by rw [rz.len]; exact h4, rfl⟩, ?_⟩
      have g4 := gp.hm.put (o := .dT (putK zs k v)) (m' := .dcT (putT kvs k d)) ea ⟨_, upd_same, rz.put ((r1.mono ((g2.trans g3).ext)).mono gp.ext)⟩
      exact n σ δ _ _ _ ((g123.trans gp).trans g4) ((rs.mono g123.ext).mono gp.ext) h6
    · exact h3.elim
  · exact h3.elim
theorem at_dputT {nx : MM → Prop} {v : D} {a : Addr} {ds : List D} {k : List Key} {kvs : List (List Key × D)} {M : MM} (ea : M a = some (.dcT kvs)) (ek : keysD ds = some k) (h : kvs.length < sizeLine ∧ ds.length ≤ sizeLine) (q : nx (updM M a (.dcT (putT kvs k v)))) : kDPutT nx v (.raw (.ref a)) ds M := by
  unfold kDPutT
  rw [ek]
  dsimp only
  rw [ea]
  exact ⟨h.1, h.2, q⟩
/-- tuples that were not claimed are claimed -/
def claimT (F H : Hp) (bs : List Addr) : Hp := fun b => match F b with
  | some o => some o
  | none => if b ∈ bs then H b else none
theorem HM.claim {K : PySem.W.Frag} {F : Hp} {M : MM} {H : Hp} {bs : List Addr} (hm : HM G K F M H) (ht : ∀ b ∈ bs, ∃ vs, H b = some (.tup vs)) : Grow G K F M H (claimT F H bs) M H := by
  have s1 : Same F (claimT F H bs) := fun b o q => by unfold claimT; rw [q]
  have noM : ∀ b ∈ bs, M b = none := fun b hb => by
    obtain ⟨vs, e⟩ := ht b hb
    cases q : M b with
    | none => rfl
    | some m =>
      have z := hm.mo b m q
      cases m with
      | lst ds => obtain ⟨_, z1, _⟩ := z; rw [e] at z1; cases z1
      | dct ds => obtain ⟨_, z1, _⟩ := z; rw [e] at z1; cases z1
      | ins c fs => obtain ⟨_, _, z1, _⟩ := z; rw [e] at z1; cases z1
      | dcT ds => obtain ⟨_, z1, _⟩ := z; rw [e] at z1; cases z1
  have ntb : ∀ q ∈ G.tabs, q.1 ∉ bs := fun q hq hb => by
    obtain ⟨vs, e⟩ := ht _ hb
    exact hm.ntab e (fun _ z => by cases z) q hq rfl
  refine ⟨⟨fun b o q => ?_, fun b m q => ?_, fun b m q => (hm.mo b m q).mono s1 rfl, fun q hq => ?_⟩, s1, fun b o q f m => .inr ⟨q, ?_, m⟩, hm.tab0⟩
  · unfold claimT at q
    split at q
    · rename_i o' e
      cases q
      exact hm.sub _ _ e
    · split at q
      · exact q
      · cases q
  · unfold claimT
    rw [hm.dis b m q]
    dsimp only
    by_cases hb : b ∈ bs
    · rw [noM b hb] at q; cases q
    · rw [if_neg hb]
  · obtain ⟨h1, h2, h3⟩ := hm.tb q hq
    refine ⟨?_, h2, h3.mono s1 rfl⟩
    unfold claimT
    rw [h1]
    exact if_neg (ntb q hq)
  · unfold claimT
    rw [f]
    dsimp only
    by_cases hb : b ∈ bs
    · rw [if_pos hb]
      obtain ⟨vs, e⟩ := ht b hb
      exact .inr ⟨q, vs, by rw [e] at q; cases q; rfl⟩
    · rw [if_neg hb]; exact .inl rfl
theorem claim_at {K : PySem.W.Frag} {F : Hp} {M : MM} {H : Hp} {bs : List Addr} {b : Addr} {vs : List V} (hm : HM G K F M H) (hb : b ∈ bs) (h : H b = some (.tup vs)) : claimT F H bs b = some (.tup vs) := by
  unfold claimT
  cases q : F b with
  | none => dsimp only; rw [if_pos hb]; exact h
  | some o =>
    dsimp only
    have z := hm.sub _ _ q
    rw [h] at z
    exact z.symm
def kD : Key → D
  | .inl i => .int i
  | .inr x => .str x
theorem kD_rep {K : PySem.W.Frag} {F : Hp} : ∀ (ks : List Key), RepL G K F (ks.map kV) (ks.map kD)
  | [] => .nil
  | .inl i :: ks => .cons (.int i) (kD_rep ks)
  | .inr x :: ks => .cons (.str x) (kD_rep ks)
/-- list(d) -/
@[irreducible] def wKeysT : WR1 := fun ds M Q => match ds with
  | [.raw (.ref a)] => match M a with
    | some (.dcT kvs) => Q (.lst (kvs.map fun kv => .tup (kv.1.map kD))) M
    | _ => False
  | _ => False
theorem at_keysT {Q : D → MM → Prop} {M : MM} {a : Addr} {kvs : List (List Key × D)} (ea : M a = some (.dcT kvs)) (q : Q (.lst (kvs.map fun kv => .tup (kv.1.map kD))) M) : wKeysT [.raw (.ref a)] M Q := by
  unfold wKeysT; dsimp only; rw [ea]; exact q
theorem keys_rep {K : PySem.W.Frag} {F H : Hp} {F' : Hp} : ∀ {vs : List (List Key × V)} {ds : List (List Key × D)} {bs : List Addr}, RepT G K F vs ds → IsKeys H vs bs → (∀ b ∈ bs, ∀ xs, H b = some (.tup xs) → F' b = some (.tup xs)) → RepL G K F' (bs.map V.ref) (ds.map fun kv => .tup (kv.1.map kD))
  | _, _, _, .nil, .nil, _ => .nil
  | _, _, _, .cons r t, .cons h1 h2, h => .cons (.tup (h _ List.mem_cons_self _ h1) (kD_rep _)) (keys_rep t h2 fun b hb => h b (List.mem_cons_of_mem _ hb))
theorem keys_tup {H : Hp} : ∀ {vs : List (List Key × V)} {bs : List Addr}, IsKeys H vs bs → ∀ b ∈ bs, ∃ xs, H b = some (.tup xs)
  | _, _, .nil, b, h => nomatch h
  | _, _, .cons h1 h2, b, h => by
    rcases List.mem_cons.mp h with e | h
    · subst e; exact ⟨_, h1⟩
    · exact keys_tup h2 b h
abbrev rKeysT : List V → Hp → VK → Prop := fun xs H Q => ∃ d kvs, xs = [V.ref d] ∧ Rd H d (.dT kvs) ∧ ∀ p bs, H p = none → IsKeys H kvs bs → Q (.ref p) (upd H p (.lst (bs.map V.ref)))
theorem sim_keysT {K : PySem.W.Frag} : SimC G K rKeysT wKeysT := by
  intro F M H vs ds Q P hm r w f
  unfold wKeysT at w
  split at w
  · rename_i a
    split at w
    · rename_i kvs ea
      obtain ⟨v, rfl, r1⟩ := one_rep r
      cases r1
      obtain ⟨zs, hz, rz⟩ := hm.mo a _ ea
      refine ⟨a, zs, rfl, .inl hz, fun p bs hp hk => ?_⟩
      have g1 := hm.claim (keys_tup hk)
      have g2 := g1.hm.new (o := .lst (bs.map V.ref)) hp
      exact f _ _ _ _ _ (g1.trans g2) (.lst upd_same ((keys_rep rz hk fun b hb xs e => claim_at hm hb e).mono g2.ext)) w
    · exact w.elim
  · exact w.elim
end
end DL

set_option Elab.async false
set_option linter.all false
set_option maxRecDepth 100000
/-! yield from a tuple; d[t] of a dict with tuples for keys -/
namespace DL
open PySem PySem.Spec L2
open PyProof.Rows hiding St
section
variable {G : Cfg} {X : Cx} {e o i : Expr}
@[irreducible] def kgFrom (E : GED) (ys : List D) (δ : DS) (d : D) (M1 : MM) : Prop := match d with
  | .tup xs => ys.length + xs.length ≤ sizeLine ∧ E.nx (ys ++ xs) δ M1
  | _ => False
def wgFrom (we : WE) : WG := fun E ys δ M => we δ M (fun d M1 => kgFrom E ys δ d M1) noX
theorem at_gfrom {E : GED} {ys xs : List D} {δ : DS} {M1 : MM} (h : ys.length + xs.length ≤ sizeLine) (q : E.nx (ys ++ xs) δ M1) : kgFrom E ys δ (.tup xs) M1 := by unfold kgFrom; exact ⟨h, q⟩
theorem dg_from {we : WE} {yp pos : Pos} (h : DE G X e we) (hc : X.A.handled = none) (hi : interactive X.env = false := by rfl) : DG G X (.Expr (.YieldFrom e yp) pos) (wgFrom we) := by
  refine gs_imp (gs_yieldFrom (yf_tup h) hc hi) fun D ys σ H ⟨F, M, δ, E, dys, hm, rs, ry, h, n, r, b, c⟩ => ?_
  refine ⟨F, M, δ, _, noX, hm, rs, h, takes_no, fun v d F1 M1 H1 g r1 q => ?_⟩
  dsimp only at q
  unfold kgFrom at q
  split at q
  · cases r1 with
    | tup h1 r2 =>
      refine ⟨_, _, rfl, g.hm.sub _ _ h1, by rw [ry.len, r2.len]; exact q.1, ?_⟩
      exact n _ _ σ δ F1 M1 H1 g (rs.mono g.ext) ((ry.mono g.ext).app r2) q.2
  · exact q.elim
@[irreducible] def kDGetT (Q : D → MM → Prop) (o i : D) (M2 : MM) : Prop := match o, i with
  | .raw (.ref a), .tup ds => match M2 a, keysD ds with
    | some (.dcT kvs), some k => match valT kvs k with
      | some d => Q d M2
      | none => False
    | _, _ => False
  | _, _ => False
def wDGetT (wo wi : WE) : WE := fun δ M Q EX => wo δ M (fun o M1 => wi δ M1 (fun i M2 => kDGetT Q o i M2) EX) EX
theorem at_dgetT {Q : D → MM → Prop} {a : Addr} {ds : List D} {k : List Key} {kvs : List (List Key × D)} {d : D} {M2 : MM} (ea : M2 a = some (.dcT kvs)) (ek : keysD ds = some k) (ev : valT kvs k = some d) (q : Q d M2) : kDGetT Q (.raw (.ref a)) (.tup ds) M2 := by
  unfold kDGetT; dsimp only; rw [ea, ek]; dsimp only; rw [ev]; exact q
theorem de_dgetT {wo wi : WE} {pos} (hu : X.A.units + 1 < cLine) (ho : DE G X o wo) (hi : DE G X i wi) (hs : NoSl i) : DE G X (.Subscript o i pos) (wDGetT wo wi) := by
  refine pe_imp (pe_dget hu ho hi hs) fun σ H P ⟨F, M, δ, Q, EX, hm, rs, h, tk, f⟩ => ?_
  refine ⟨F, M, δ, _, EX, hm, rs, h, tk, fun v d F1 M1 H1 g1 r1 h1 => ?_⟩
  refine ⟨F1, M1, δ, _, EX, g1.hm, rs.mono g1.ext, h1, tk.imp (wX_mono g1), fun v2 d2 F2 M2 H2 g2 r2 h2 => ?_⟩
  try dsimp only at h2
  unfold kDGetT at h2
  split at h2
  · rename_i a ds
    split at h2
    · rename_i kvs k ea ek
      split at h2
      · rename_i d3 e3
        cases r1
        cases r2 with
        | tup t1 t2 =>
          have e4 := keysD_rep t2 ek
          subst e4
          obtain ⟨zs, hz, rz⟩ := g2.hm.mo a _ ea
          obtain ⟨v3, e5, r3⟩ := rz.val e3
          refine ⟨a, v3, rfl, ?_, f _ _ _ _ _ (g1.trans g2) r3 h2⟩
          rw [← e5]
          exact DGet.t hz (g2.hm.sub _ _ t1)
      · exact h2.elim
    · exact h2.elim
  · exact h2.elim
end
end DL

set_option Elab.async false
set_option linter.all false
set_option maxRecDepth 100000
/-! slices of lists with a step -/
namespace DL
open PySem PySem.Spec L2 PyProof.Rows
/-- the items that a slice picks -/
def pickL {α : Type} (xs : List α) (lo hi st : Option Int) : List α := (sliceRange (sliceBounds lo hi st xs.length).1 (sliceBounds lo hi st xs.length).2.1 (sliceBounds lo hi st xs.length).2.2).filterMap (xs[·]?)
theorem pick_arr (its : List Value) (lo hi st : Option Int) : slicePick its.toArray lo hi st = (pickL its lo hi st).toArray := by
  unfold slicePick pickL
  rw [List.size_toArray]
  have e : (fun (i : Nat) => its.toArray[i]?) = fun (i : Nat) => its[i]? := by funext i; simp
  rw [e]
theorem vals_pickR {xs : List V} {its : List Value} (r : Vals xs its) : ∀ (ks : List Nat), Vals (ks.filterMap (xs[·]?)) (ks.filterMap (its[·]?))
  | [] => .nil
  | k :: ks => by
    rw [List.filterMap_cons, List.filterMap_cons]
    cases e : xs[k]? with
    | none =>
      have e2 : its[k]? = none := by
        rw [List.getElem?_eq_none_iff] at e ⊢
        rw [← r.length]; exact e
      rw [e2]
      exact vals_pickR r ks
    | some x =>
      obtain ⟨u, hu, ru⟩ := r.get e
      rw [hu]
      exact .cons ru (vals_pickR r ks)
theorem vals_pick {xs : List V} {its : List Value} (r : Vals xs its) (lo hi st : Option Int) : Vals (pickL xs lo hi st) (pickL its lo hi st) := by
  unfold pickL
  rw [r.length]
  exact vals_pickR r _
section
variable {X : Cx} {e : Expr} {te : TE} {tl tu ts : TO} {lo hi st : Option Expr} {p2 pos : Pos}
def tPick (K : PySem.W.Frag) (te : TE) (tl tu ts : TO) : TE := fun σ H Q => te σ H fun x H1 => tl σ H1 fun l H2 => tu σ H2 fun u H3 => ts σ H3 fun s H4 => s ≠ some 0 ∧ ∃ a xs, x = .ref a ∧ SqL K H4 a xs ∧ ∀ p, H4 p = none → Q (.ref p) (upd H4 p (.lst (pickL xs l u s)))
theorem pe_pick (he : PE X e te) (hl : PO X lo tl) (hu : PO X hi tu) (hs : PO X st ts) (hn : NoSl (.Slice lo hi st p2)) : PE X (.Subscript e (.Slice lo hi st p2) pos) (tPick X.K te tl tu ts) := by
  refine ⟨fun pins s σ H Q I h => ?_⟩
  refine Subscript_ (thn (he.run pins s σ H _ I h) fun v s1 ⟨x, H1, I1, r1, q1⟩ => ?_)
  refine wpAny_Slice (thn (hl.run pins s1 σ H1 _ I1 q1) fun vl s2 ⟨l, H2, I2, pl, q2⟩ => ?_)
  refine thn (hu.run pins s2 σ H2 _ I2 q2) fun vu s3 ⟨u, H3, I3, pu, q3⟩ => ?_
  refine thn (hs.run pins s3 σ H3 _ I3 q3) fun vs s4 ⟨o, H4, I4, ps, q4⟩ => ?_
  obtain ⟨h0, a, xs, ex, hx, q⟩ := q4
  subst ex
  cases r1
  have I5 : Inv X pins σ H4 { s4 with heap := s4.heap.push { cls := .type "slice", data := .fields #[vl, vu, vs] } } := I4.kept (t' := s4.toks) fun b ob q => Heap.get?_push_of_some _ q
  obtain ⟨its, r, ht, hz⟩ := I5.list hx
  have hlen := r.length
  show wpAny (model X.prog X.w) X.A (subscriptTail e (.Slice lo hi st p2) (.ref a) (.ref s4.heap.objs.size)) (EP X pins σ Q) X.xe { s4 with heap := s4.heap.push { cls := .type "slice", data := .fields #[vl, vu, vs] } }
  refine tail_any (ops := [.ref a, .ref s4.heap.objs.size]) ht.isList.typeIs (PySem.slot_list_getitem.lookup) ?_ (hn _ _)
  refine wpAny_getItem_list_slice ht.isList (Heap.IsSliceOf.new _ vl vu vs) pl pu ps h0 ?_ (by rw [List.size_toArray]; omega)
  rw [pick_arr]
  have hz2 : (pickL xs l u o).length ≤ sizeLine := by
    have z := slicePick_size_le its.toArray l u o
    rw [pick_arr, List.size_toArray, List.size_toArray] at z
    rw [(vals_pick r l u o).length]; omega
  refine ⟨.ref _, _, I5.laid (t' := s4.toks) (o := .lst (pickL xs l u o)) (fun b ob q => Heap.get?_push_of_some _ q) (Nat.le_refl _) ?_, rfl, q _ (I5.hok.fresh (Nat.le_refl _))⟩
  exact ⟨hz2, _, 0, vals_pick r l u o, Heap.get?_push_size _ rfl⟩
end
theorem RepL.pickR {G : Cfg} {K : PySem.W.Frag} {F : Hp} {vs : List V} {ds : List D} (r : RepL G K F vs ds) : ∀ (ks : List Nat), RepL G K F (ks.filterMap (vs[·]?)) (ks.filterMap (ds[·]?))
  | [] => .nil
  | k :: ks => by
    rw [List.filterMap_cons, List.filterMap_cons]
    cases e : ds[k]? with
    | none =>
      have e2 : vs[k]? = none := by
        rw [List.getElem?_eq_none_iff] at e ⊢
        rw [r.len]; exact e
      rw [e2]
      exact RepL.pickR r ks
    | some x =>
      obtain ⟨u, hu, ru⟩ := r.get e
      rw [hu]
      exact .cons ru (RepL.pickR r ks)
theorem RepL.pick {G : Cfg} {K : PySem.W.Frag} {F : Hp} {vs : List V} {ds : List D} (r : RepL G K F vs ds) (lo hi st : Option Int) : RepL G K F (pickL vs lo hi st) (pickL ds lo hi st) := by
  unfold pickL
  rw [r.len]
  exact RepL.pickR r _
section
variable {G : Cfg} {X : Cx} {e : Expr} {lo hi st : Option Expr} {p2 pos : Pos}
@[irreducible] def kPick (Q : D → MM → Prop) (d : D) (l u s : Option Int) (M : MM) : Prop := match lstOf M d with
  | some xs => s ≠ some 0 ∧ Q (.lst (pickL xs l u s)) M
  | none => False
def wPick (we : WE) (wl wu ws : WO) : WE := fun δ M Q EX => we δ M (fun d M1 => wl δ M1 (fun l M2 => wu δ M2 (fun u M3 => ws δ M3 (fun s M4 => kPick Q d l u s M4) EX) EX) EX) EX
theorem at_pick {Q : D → MM → Prop} {d : D} {l u s : Option Int} {M : MM} {xs : List D} (h : lstOf M d = some xs) (h0 : s ≠ some 0) (q : Q (.lst (pickL xs l u s)) M) : kPick Q d l u s M := by unfold kPick; rw [h]; exact ⟨h0, q⟩
theorem de_pick {we : WE} {wl wu ws : WO} (he : DE G X e we) (hl : DO G X lo wl) (hu : DO G X hi wu) (hs : DO G X st ws) (hn : NoSl (.Slice lo hi st p2) := by intro _ _; with_unfolding_all rfl) : DE G X (.Subscript e (.Slice lo hi st p2) pos) (wPick we wl wu ws) := by
  refine pe_imp (pe_pick he hl hu hs hn) fun σ H P ⟨F, M, δ, Q, EX, hm, rs, h, tk, f⟩ => ?_
  refine ⟨F, M, δ, _, EX, hm, rs, h, tk, fun v d F1 M1 H1 g1 r1 h1 => ?_⟩
  refine ⟨F1, M1, δ, _, EX, g1.hm, rs.mono g1.ext, h1, tk.imp (wX_mono g1), fun l F2 M2 H2 g2 h2 => ?_⟩
  have g12 := g1.trans g2
  refine ⟨F2, M2, δ, _, EX, g2.hm, rs.mono g12.ext, h2, tk.imp (wX_mono g12), fun u F3 M3 H3 g3 h3 => ?_⟩
  have g123 := g12.trans g3
  refine ⟨F3, M3, δ, _, EX, g3.hm, rs.mono g123.ext, h3, tk.imp (wX_mono g123), fun s F4 M4 H4 g4 h4 => ?_⟩
  have g1234 := g123.trans g4
  unfold kPick at h4
  split at h4
  · rename_i xs ex
    obtain ⟨a, vs, rfl, hz, r⟩ := lstOf_rep g4.hm (r1.mono ((g2.trans g3).trans g4).ext) ex
    refine ⟨h4.1, a, vs, rfl, SqL.of hz, fun q hq => ?_⟩
    have g := g4.hm.new (o := .lst (pickL vs l u s)) hq
    exact f _ _ _ _ _ (g1234.trans g) (.lst upd_same ((r.pick l u s).mono g.ext)) h4.2
  · exact h4.elim
end
/-! ### what some slices pick -/
theorem pick_fwd {α : Type} (xs : List α) : pickL xs none none (some 1) = xs := by
  unfold pickL
  have e1 : sliceBounds none none (some 1) xs.length = (0, (xs.length : Int), 1) := by simp [sliceBounds]
  rw [e1]
  have e2 : sliceRange 0 (xs.length : Int) 1 = List.range xs.length := by
    unfold sliceRange
    by_cases h : 0 < xs.length
    · have : (((xs.length : Int) - 0 + 1 - 1) / 1).toNat = xs.length := by rw [Int.ediv_one]; omega
      simp only [show (1 : Int) > 0 by decide, if_true, show (0 : Int) < xs.length by omega, this]
      apply List.ext_getElem
      · simp
      · intro i h1 h2; simp
    · have : xs.length = 0 := by omega
      rw [this]; simp
  rw [e2]
  apply List.ext_getElem?
  intro i
  have z : ∀ (ys : List α), (List.range ys.length).filterMap (ys[·]?) = ys := fun ys => by
    have h := PySem.W.krv_all ys.toArray
    simpa using h
  rw [z]
theorem pick_bwd {α : Type} (xs : List α) : pickL xs none none (some (-1)) = xs.reverse := by
  unfold pickL
  rw [PySem.W.krv_bounds]
  show (sliceRange ((xs.length : Int) - 1) (-1) (-1)).filterMap (xs[·]?) = _
  rw [PySem.W.krv_sliceRange, PySem.W.krv_range, List.filterMap_reverse]
  have h := PySem.W.krv_all xs.toArray
  simp at h
  rw [h]
/-- xs[:0:-1] -/
theorem pick_but0 {α : Type} (xs : List α) : pickL xs none (some 0) (some (-1)) = (xs.drop 1).reverse := by
  cases xs with
  | nil => rfl
  | cons x xs =>
    unfold pickL
    have e1 : sliceBounds none (some 0) (some (-1)) (x :: xs).length = (((x :: xs).length : Int) - 1, 0, -1) := by
      simp [sliceBounds]; omega
    rw [e1]
    show (sliceRange (((x :: xs).length : Int) - 1) 0 (-1)).filterMap ((x :: xs)[·]?) = _
    have e2 : sliceRange (((x :: xs).length : Int) - 1) 0 (-1) = (List.range xs.length).map fun k => xs.length - k := by
      unfold sliceRange
      have h1 : ¬ ((-1 : Int) > 0) := by decide
      by_cases h : ((x :: xs).length : Int) - 1 > 0
      · have e : ((((x :: xs).length : Int) - 1 - 0 - -1 - 1) / (- -1)).toNat = xs.length := by
          rw [show (- -1 : Int) = 1 by decide, Int.ediv_one, List.length_cons]; omega
        simp only [h1, if_false, h, if_true, e]
        apply List.map_congr_left
        intro k hk
        have := List.mem_range.mp hk
        rw [List.length_cons]; omega
      · have e : xs.length = 0 := by rw [List.length_cons] at h; omega
        rw [e]; simp only [h1, if_false, h]; rfl
    rw [e2, List.drop_one, List.tail_cons]
    have e3 : (List.range xs.length).map (fun k => xs.length - k) = ((List.range xs.length).map (· + 1)).reverse := by
      apply List.ext_getElem
      · simp
      · intro i h1 h2
        simp at h1
        rw [List.getElem_map, List.getElem_reverse]; simp; omega
    rw [e3, List.filterMap_reverse, List.filterMap_map]
    have h := PySem.W.krv_all xs.toArray
    simp at h
    have e4 : ((fun (k : Nat) => (x :: xs)[k]?) ∘ (· + 1)) = fun (k : Nat) => xs[k]? := by funext k; simp
    rw [e4, h]
end DL

set_option Elab.async false
set_option linter.all false
set_option maxRecDepth 100000
/-! cls.m(..) of a class that a name holds -/
namespace DL
open PySem PySem.Spec L2
open PyProof.Rows hiding St
section
variable {G : Cfg} {X : Cx} {o e : Expr} {es : List Expr} {wo : WE} {wa : WA} {gd : Bool} {k c : Nat} {m : Str} {sp : SpD} {apos pos : Pos}
def wCmE (c : Nat) (sp : SpD) (wo : WE) (wa : WA) : WE := fun δ M Q EX => wo δ M (fun d M1 => d = .cls c ∧ wa δ M1 (fun ds M2 => sp (.cls c :: ds) M2 Q (fun xd M3 => EX xd δ M3)) EX) EX
theorem de_cmE {pl : Sem Bool} (ok : OkCm X.prog X.w X.K X.mg X.base gd k (G.cl c) m (lift G X.K sp)) (hr : Room k X.A) (hgd : gd = true → X.A.guards = some []) (ho : DE G X o wo) (ha : DA G X (e :: es) wa)
    (hst : starEach (e :: es) X.env = (false, eval e X.env) :: starEach es X.env := by rfl) (hpl : (backTo pos (starEach es X.env)).any (·.1) = false := by rfl)
    (hv : eval (.Call (.Attribute o m apos) (e :: es) [] pos) X.env = (do
      let ov ← eval o X.env
      standAt apos.atName
      let (f, first) ← holding [ov] (getMethod ov m pl)
      callWith pos f first (backTo pos (starEach (e :: es) X.env)) (backToKw pos (keywordEach [] X.env))) := by rfl) :
    DE G X (.Call (.Attribute o m apos) (e :: es) [] pos) (wCmE c sp wo wa) := by
  refine ⟨fun pins s σ H Q I ⟨F1, M1, δ, Q', EX, hm1, rs, h, tk, fin⟩ => ?_⟩
  obtain ⟨q, f, rd, cm, F⟩ := ok
  refine PySem.W.methodCall_KW (pl := pl) (thn (ho.run pins s σ H (fun v H1 => v = .ref (G.cl c) ∧ ∃ F2 M2, Grow G X.K F1 M1 H F2 M2 H1 ∧ wa δ M2 (fun ds M2 => sp (.cls c :: ds) M2 Q' (fun xd M3 => EX xd δ M3)) EX) I ⟨F1, M1, δ, _, EX, hm1, rs, h, tk, fun v d F2 M2 H2 g2 r2 h2 => ?_⟩) fun ov s1 ⟨x, H1, I1, r1, ex, F2, M2, g2, h2⟩ => ?_) hv
  · obtain ⟨ed, h2⟩ := h2
    subst ed
    cases r2
    exact ⟨rfl, F2, M2, g2, h2⟩
  subst ex
  obtain rfl : ov = Value.ref (G.cl c) := r1
  refine ClX.getmethcm_ok I1 rd cm fun s2 I2 => ?_
  refine ClX.callwith_cm I2 (ClX.base_none I1 (Nat.le_refl _)) cm.fi (thn (da_run ha pos I2 g2.hm (rs.mono g2.ext) h2 (tk.imp (wX_mono g2))) fun us s3 ⟨vs, H2, I3, r, ds, F3, M3, g, rl, q2⟩ => ⟨⟨ClX.pin_at I3, I3.kIn⟩, ?_⟩) hst hpl
  have z := PySem.W.method_call (ClX.pin_at I3) (runP_at (us := .ref (G.cl c) :: us) (vs := .ref (G.cl c) :: vs) (ds := .cls c :: ds) F hr hgd I3 (.cons rfl r) g.hm ((rs.mono g2.ext).mono g.ext) (.cons (.cls c) rl) q2 ((tk.imp (wX_mono g2)).imp (wX_mono g)) (P := Q) fun v d F4 M4 H4 g4 r4 q4 => fin v d F4 M4 H4 ((g2.trans g).trans g4) r4 q4)
  exact thn (wpAny_call z) fun _ _ y => ClX.unpinE y
end
end DL

set_option Elab.async false
set_option linter.all false
set_option maxRecDepth 100000
/-! x in o, o of an own class -/
namespace DL
open PySem PySem.Spec L2
open PyProof.Rows hiding St
section
open PySem.W in
theorem contains_K {prog : Program} {w : World} {A : Around} {E : Value → Shared → Prop} {s : Shared} {a C ff : Addr} {K : PySem.W.Frag} {ox : Obj} {od : Option Obj} {x : Value} {Q : Bool → Shared → Prop} (X : K.In s.heap) (I : PySem.W.InstAt s.heap a ox C od)
    (hs : PySem.W.findIn K (.ref C) "__contains__" = some (some (.ref ff))) (hf : PySem.W.typeIn K (.ref ff) = some (.type "function"))
    (h : wpAny (model prog w) A (call (.ref ff) [.ref a, x]) (fun v s' => ∃ r, v = .bool r ∧ Q r s') E s) : wpAny (model prog w) A (contains (.ref a) x) Q E s := by
  unfold contains
  refine wpAny_holding ?_
  have e0 : stdlibNamesSay? (.ref a) x = none := by unfold stdlibNamesSay?; rfl
  rw [e0]
  refine wpAny_bind (wpAny_bind (I.type.here ((looks_findIn X hs).here ?_)))
  show wpAny (model prog w) A (if (some (Value.ref ff) == some Value.none) = true then _ else _) Q E s
  rw [if_neg (by simp)]
  refine wpAny_bind ?_
  simp only [callSpecialUnlessNone?]
  refine wpAny_bind (wpAny_bind (I.type.here ((looks_findIn X hs).here (wpAny_holding (wpAny_bind ((bind_fn X _ hf).here ?_))))))
  show wpAny (model prog w) A (if (Value.ref ff == Value.none) = true then _ else _) _ E s
  rw [if_neg (by simp)]
  refine wpAny_bind (wpAny_mono h (fun v s' z => wpAny_pure ?_) fun _ _ z => z)
  obtain ⟨r, rfl, q⟩ := z
  exact wpAny_truthy_bool q
end
section
variable {G : Cfg} {X : Cx}
def wInO (tb : List (Nat × SpD)) : WR2X := fun x y δ M Q EX => match y with
  | .ins c _ => ∃ sp, tb.lookup c = some sp ∧ sp [y, x] M (fun d M' => ∃ b, d = .bl b ∧ Q (.bl b) M') (fun xd M3 => EX xd δ M3)
  | _ => False
theorem dop_inO (tb : List (Nat × SpD)) (h1 : ∀ p ∈ tb, ∃ (gd : Bool) (k : Nat) (ps : List Str), OkMeth X.prog X.w X.K X.mg X.base gd k (G.cl p.1) "__contains__" ps (lift G X.K p.2) ∧ Room k X.A ∧ (gd = true → X.A.guards = some [])) : DOp G X (compareOp .In) (wInO tb) := by
  intro pins s σ H x y v u F M δ dx dy Q EX P I rx ry hm rs rdx rdy h tk fin
  unfold wInO at h
  split at h
  · rename_i c fs
    obtain ⟨sp, e, q⟩ := h
    obtain ⟨gd, k, ps, ⟨f, fd, mt, b, Fn⟩, hr, hgd⟩ := h1 _ (lookup_mem e)
    obtain ⟨a, ox, od, rfl, rfl, J⟩ := inst_at I hm ry rdy (c := c) (fs := fs) (by unfold insOf; rfl)
    show wpAny (model X.prog X.w) X.A (contains (.ref a) v >>= fun r => pure (Value.bool r)) _ _ s
    refine wpAny_bind (contains_K I.kIn J mt.at_ (beq_iff_eq.mp mt.fn) ?_)
    refine wpAny_mono (callP_at (Q := fun d M' => ∃ b, d = .bl b ∧ Q (.bl b) M') (P := fun v H' => ∃ b : Bool, v = .bl b ∧ P (.bl b) H') (us := [.ref a, v]) (vs := [.ref a, x]) (ds := [.ins c fs, dx]) (Fn.pos b) hr hgd I (.cons rfl (.cons rx .nil)) hm rs (.cons rdy (.cons rdx .nil)) q tk fun v d F3 M3 H3 g3 r3 q3 => ?_) (fun v s' z => ?_) fun _ _ z => z
    · obtain ⟨b, rfl, q4⟩ := q3
      cases r3
      exact ⟨b, rfl, fin _ _ F3 M3 H3 g3 (.bl b) q4⟩
    · obtain ⟨v', H', I', rv, b, rfl, q4⟩ := z
      obtain rfl : v = Value.bool b := rv
      exact ⟨b, rfl, wpAny_pure ⟨.bl b, H', I', rfl, q4⟩⟩
  · exact h.elim
end
end DL

set_option Elab.async false
set_option linter.all false
set_option maxRecDepth 100000
/-! n += e, n -= e of ints -/
namespace DL
open PySem PySem.Spec L2
open PyProof.Rows hiding St
section
variable {G : Cfg} {X : Cx} {e : Expr}
@[irreducible] def kAug (i : Nat) (plus : Bool) (a : Int) (nx : DS → MM → Prop) (δ : DS) (d : D) (M : MM) : Prop := match d with
  | .int b => nx (δ.set i (some (.int (if plus then a + b else a - b)))) M
  | _ => False
def wAug (i : Nat) (plus : Bool) (we : WE) : WS := fun E EX δ M => ∃ a : Int, δ[i]? = some (some (.int a)) ∧ we δ M (fun d M1 => kAug i plus a E.nx δ d M1) EX
theorem at_aug {i : Nat} {plus : Bool} {a b : Int} {nx : DS → MM → Prop} {δ : DS} {M : MM} (q : nx (δ.set i (some (.int (if plus then a + b else a - b)))) M) : kAug i plus a nx δ (.int b) M := by unfold kAug; exact q
def rAug (plus : Bool) : V → V → Hp → VK → Prop := fun x y H Q => ∃ i j, x = .int i ∧ y = .int j ∧ Q (.int (if plus then i + j else i - j)) H
theorem aug_up {i : Nat} {plus : Bool} {we : WE} (D : Ends) (σ : St) (H : Hp) (h : upS G X (wAug i plus we) D σ H) : tAug i (up G X we) (rAug plus) D σ H := by
  obtain ⟨F, M, δ, E, EX, hm, rs, ⟨a, e1, h⟩, tk, n, r, b, c⟩ := h
  obtain ⟨x, ex, rx⟩ := rs.2 _ _ e1
  cases rx
  refine ⟨_, ex, F, M, δ, _, EX, hm, rs, h, tk, fun v d F1 M1 H1 g1 r1 q => ?_⟩
  have z : ∃ b : Int, d = .int b ∧ E.nx (δ.set i (some (.int (if plus then a + b else a - b)))) M1 := by
    unfold kAug at q
    cases d <;> first | exact ⟨_, rfl, q⟩ | exact q.elim
  obtain ⟨b, rfl, q2⟩ := z
  cases r1
  exact ⟨_, _, rfl, rfl, n _ _ F1 M1 H1 g1 ((rs.mono g1.ext).set i (.int _)) q2⟩
theorem ds_add (i : Nat) {x : Str} {we : WE} {pos pos' : Pos} (hN : X.N.Nodup) (he : DE G X e we) (hi : X.N[i]? = some x := by rfl) (hx : Loc X.env.scope x := by first | exact Or.inl rfl | exact Or.inr rfl)
    (hf : X.fn x = true ∨ X.env.scope.names.lookup x = some .local := by first | exact .inl rfl | exact .inr rfl) : DSt G X (.AugAssign (.Name x pos') .Add e pos) (wAug i true we) :=
  ps_imp (ps_aug (ti := rAdd) hN hi hx he in_add hf) fun D σ H h => aug_up D σ H h
theorem ds_sub (i : Nat) {x : Str} {we : WE} {pos pos' : Pos} (hN : X.N.Nodup) (he : DE G X e we) (hi : X.N[i]? = some x := by rfl) (hx : Loc X.env.scope x := by first | exact Or.inl rfl | exact Or.inr rfl)
    (hf : X.fn x = true ∨ X.env.scope.names.lookup x = some .local := by first | exact .inl rfl | exact .inr rfl) : DSt G X (.AugAssign (.Name x pos') .Sub e pos) (wAug i false we) :=
  ps_imp (ps_aug (ti := rSub) hN hi hx he in_sub hf) fun D σ H h => aug_up (plus := false) D σ H h
end
end DL

set_option Elab.async false
set_option linter.all false
set_option maxRecDepth 100000
/-! not x, x any value that is told true or not -/
namespace DL
open PySem PySem.Spec L2
open PyProof.Rows hiding St
section
variable {G : Cfg} {X : Cx} {e : Expr}
def wNotTru (we : WE) : WE := fun δ M Q EX => we δ M (kTru (fun c M1 => Q (.bl (!c)) M1)) EX
theorem de_notTru {we : WE} {pos : Pos} (h : DE G X e we) : DE G X (.UnaryOp .Not e pos) (wNotTru we) := by
  refine pe_imp (pe_notT h) fun σ H P ⟨F, M, δ, Q, EX, hm, rs, h, tk, f⟩ => ?_
  refine ⟨F, M, δ, _, EX, hm, rs, h, tk, fun v d F1 M1 H1 g r q => ?_⟩
  unfold kTru at q
  split at q
  · rename_i k ek
    exact ⟨k, truD_rep g.hm r ek, f _ _ _ _ _ g (.bl _) q⟩
  · exact q.elim
end
end DL

set_option Elab.async false
set_option linter.all false
set_option maxRecDepth 100000
/-! a body that is not reached; == of tuples of instances with their own ==, where each two are alike -/
namespace DL
open PySem PySem.Spec L2
open PyProof.Rows hiding St
section
variable {G : Cfg} {X : Cx}
theorem dss_false {sts : List Stmt} : DSs G X sts (fun _ _ _ _ => False) := ⟨fun pins s σ H D I h => by
  obtain ⟨F, M, δ, E, EX, hm, rs, z, _⟩ := h
  exact z.elim⟩
/-- an instance that is equal to its like -/
def SelfEq (c : Nat) (sp : SpD) (d : D) : Prop := ∃ fs, d = .ins c fs ∧ ∀ (M : MM) (Q : D → MM → Prop) (EX : XD → MM → Prop), Q (.bl true) M → sp [d, d] M Q EX
def AlikeR (G : Cfg) (K : PySem.W.Frag) (c : Nat) (sp : SpD) : Addr → Addr → Hp → Prop := fun a b H => ∃ (F : Hp) (d : D), Same F H ∧ Rep G K F (.ref a) d ∧ Rep G K F (.ref b) d ∧ SelfEq c sp d
theorem ext_of_grow {K : PySem.W.Frag} {F H F' H' : Hp} {M' : MM} (ht : G.tabs = []) (hs : Same F H) (g : Grow G K F (fun _ => none) H F' M' H') : Ext H H' := fun a o h => by
  cases q : F a with
  | none =>
    rcases g.kept a o h q rfl with ⟨⟨p, hp, _⟩, _⟩ | ⟨h1, _⟩
    · rw [ht] at hp; cases hp
    · exact h1
  | some u =>
    have e := hs a u q
    rw [h] at e
    cases e
    exact g.hm.sub _ _ (g.ext _ _ q)
theorem grow_of_ext {K : PySem.W.Frag} {F H H' : Hp} {M : MM} (hm : HM G K F M H) (e : Ext H H') : Grow G K F M H F M H' := by
  refine ⟨⟨fun b u q => e _ _ (hm.sub b u q), hm.dis, fun b m q => ?_, fun p hp => ?_⟩, Same.refl _, fun b o h f m => .inr ⟨e _ _ h, .inl f, m⟩, hm.tab0⟩
  case refine_2 =>
    obtain ⟨h1, h2, ps, h3, h4⟩ := hm.tb p hp
    exact ⟨h1, h2, ps, e _ _ h3, h4⟩
  have r := hm.mo b m q
  obtain ⟨o, ho⟩ := r.some
  exact r.mono (Same.refl _) (by rw [ho]; exact e _ _ ho)
theorem alike_mon {K : PySem.W.Frag} {c : Nat} {sp : SpD} (a b : Addr) (H H' : Hp) (e : Ext H H') (h : AlikeR G K c sp a b H) : AlikeR G K c sp a b H' := by
  obtain ⟨F, d, hs, r1, r2, q⟩ := h
  exact ⟨F, d, fun x u z => e _ _ (hs x u z), r1, r2, q⟩
theorem rc_alike {c k : Nat} {sp : SpD} {ps : List Str} (ht : G.tabs = []) (o : OkMeth X.prog X.w X.K X.mg X.base false k (G.cl c) "__eq__" ps (lift G X.K sp)) : RcG X k (DIns (G.cl c) (AlikeR G X.K c sp)) := by
  obtain ⟨f, fd, mt, b, Fn⟩ := o
  have F2 : FnOk X.prog X.w X.K X.mg X.base (L2.CX X.prog X.w) k f fd ps (spEq (AlikeR G X.K c sp)) := by
    have key : ∀ vs H Q E, spEq (AlikeR G X.K c sp) vs H Q E → lift G X.K sp vs H Q E := by
      rintro vs H Q E ⟨a, b, rfl, ⟨F, d, hs, r1, r2, fs, ed, hq⟩, q⟩
      refine ⟨F, fun _ => none, [d, d], fun d' _ => d' = .bl true, fun _ _ => False, ⟨hs, fun _ _ z => (nomatch z), fun _ _ z => (nomatch z), fun p hp => by rw [ht] at hp; cases hp⟩, .cons r1 (.cons r2 .nil), hq _ _ _ rfl, ?_, fun _ _ _ _ _ _ _ _ z => z.elim⟩
      intro v d' F' M' H' g r e
      subst e
      cases r
      exact q H' (ext_of_grow ht hs g)
    exact ⟨fun vs H Q E h => Fn.len vs H Q E (key vs H Q E h), fun A out s H args us vs Q E hr e0 hb hv hsp => Fn.run A out s H args us vs Q E hr (fun z => by cases z) e0 hb hv (key vs H Q E hsp)⟩
  exact rcG_ins (E := E0) F2 mt.at_ mt.fn b (fun _ _ _ _ _ _ _ z => by
    obtain ⟨_, _, _, _, _, _, _, _, _, _, _, _, z⟩ := z
    exact z.elim)
/-- t == u, two tuples of the same instances, equal to their like -/
def wEqT (c : Nat) (sp : SpD) : WR2 := fun x y M Q => match x, y with
  | .tup ds, .tup es => ds = es ∧ (∀ d ∈ ds, SelfEq c sp d) ∧ Q (.bl true) M
  | _, _ => False
theorem rep_insA {K : PySem.W.Frag} {F : Hp} {c : Nat} {v : V} {fs : List D} (r : Rep G K F v (.ins c fs)) : ∃ a dx gs, v = .ref a ∧ F a = some (.ins (G.cl c) dx gs) := by
  cases r with
  | ins h _ _ => exact ⟨_, _, _, rfl, h⟩
theorem prs_alike {K : PySem.W.Frag} {c : Nat} {sp : SpD} {F H : Hp} (hs : Same F H) : ∀ {vs us : List V} {ds : List D}, RepL G K F vs ds → RepL G K F us ds → (∀ d ∈ ds, SelfEq c sp d) → Prs (DIns (G.cl c) (AlikeR G K c sp)) vs us H
  | _, _, _, .nil, .nil, _ => Prs.nil
  | _, _, _, .cons r1 t1, .cons r2 t2, h => by
    refine Prs.cons ?_ (prs_alike hs t1 t2 fun d hd => h d (List.mem_cons_of_mem _ hd))
    have q := h _ List.mem_cons_self
    obtain ⟨fs, e, q2⟩ := id q
    subst e
    obtain ⟨a, dx, gs, rfl, e1⟩ := rep_insA r1
    obtain ⟨b, dy, gs2, rfl, e2⟩ := rep_insA r2
    have e1 := hs _ _ e1
    have e2 := hs _ _ e2
    exact ⟨a, b, dx, dy, gs, gs2, rfl, rfl, e1, e2, F, _, hs, r1, r2, q⟩
theorem sim_eqT {K : PySem.W.Frag} {c : Nat} {sp : SpD} : Sim2 G K (rEqG (DTup K (DIns (G.cl c) (AlikeR G K c sp)))) (wEqT c sp) := by
  intro F M H x y dx dy Q P hm rx ry h fin
  unfold wEqT at h
  split at h
  · obtain ⟨rfl, hd, q⟩ := h
    cases rx with
    | tup h1 t1 =>
      cases ry with
      | tup h2 t2 =>
        refine ⟨⟨_, _, _, _, rfl, rfl, SqT.of (hm.sub _ _ h1), SqT.of (hm.sub _ _ h2), prs_alike hm.sub t1 t2 hd⟩, fun H' e => ?_⟩
        exact fin _ _ F M H' (grow_of_ext hm e) (.bl true) q
  · exact h.elim
theorem op_eqT {c k n : Nat} {sp : SpD} {ps : List Str} (ht : G.tabs = []) (o : OkMeth X.prog X.w X.K X.mg X.base false k (G.cl c) "__eq__" ps (lift G X.K sp)) (hr : Room n X.A) (hk : k + 1 ≤ n) : OpR X (compareOp .Eq) (rEqG (DTup X.K (DIns (G.cl c) (AlikeR G X.K c sp)))) :=
  op_eqG (rcG_tup (mon_ins alike_mon) ((rc_alike ht o).eqG fun _ _ _ d => let ⟨a, b, _, _, _, _, hx, hy, _⟩ := d; ⟨a, b, hx, hy⟩)) (hr.mono hk)
/-- xs.extend(ys) -/
def wExtend : Addr → List D → List D → MM → (D → MM → Prop) → Prop := fun a xs ds M Q => match ds with
  | [d] => match lstOf M d with
    | some ys => xs.length + ys.length ≤ sizeLine ∧ Q .non (updM M a (.lst (xs ++ ys)))
    | none => False
  | _ => False
theorem sim_extend {K : PySem.W.Frag} : SimL G K rExtend wExtend := by
  intro F M H a xs zs vs ds Q P hm ea ha rz r w f
  unfold wExtend at w
  split at w
  · split at w
    · rename_i ys ey
      obtain ⟨v, rfl, r1⟩ := one_rep r
      obtain ⟨b, us, rfl, hb, ru⟩ := lstOf_rep hm r1 ey
      refine ⟨a, b, zs, us, rfl, rfl, ha, hb, by rw [rz.len, ru.len]; exact w.1, ?_⟩
      exact f _ _ _ _ _ (hm.put (o := .lst (zs ++ us)) (m' := .lst (xs ++ _)) ea ⟨_, upd_same, rz.app ru⟩) .non w.2
    · exact w.elim
  · exact w.elim
/-- s[i] of a text -/
def wIxS : WR2 := fun x y M Q => match x, y with
  | .str z, .int i => z.length ≤ sizeLine ∧ ∃ c, atI z.cps.toList i = some c ∧ Q (.str ⟨#[c]⟩) M
  | _, _ => False
theorem sim_ixS {K : PySem.W.Frag} : Sim2 G K rIxS wIxS := by
  intro F M H x y dx dy Q P hm rx ry h fin
  unfold wIxS at h
  split at h
  · obtain ⟨hl, c, e, q⟩ := h
    cases rx
    cases ry
    exact ⟨_, _, c, rfl, rfl, hl, e, fin _ _ F M H (.refl hm) (.str _) q⟩
  · exact h.elim
end
end DL

set_option Elab.async false
set_option linter.all false
set_option maxRecDepth 100000
/-! range(i, j, -1) -/
namespace DL
open PySem PySem.Spec L2 PyProof.Rows
def rngC (lo c : Int) (n : Nat) : List D := (List.range n).map fun k => D.int (lo + (k : Nat) * c)
theorem rngC_len (lo c : Int) (n : Nat) : (rngC lo c n).length = n := by unfold rngC; rw [List.length_map, List.length_range]
theorem rngC_get {lo c : Int} {n i : Nat} {d : D} (h : (rngC lo c n)[i]? = some d) : i < n ∧ d = .int (lo + (i : Nat) * c) := by
  have l : i < n := by
    have z := (List.getElem?_eq_some_iff.mp h).1
    rwa [rngC_len] at z
  unfold rngC at h
  rw [List.getElem?_map, List.getElem?_range l] at h
  exact ⟨l, (Option.some.inj h).symm⟩
section
variable {G : Cfg}
theorem walks_rngC {K : PySem.W.Frag} {F : Hp} {M : MM} {H : Hp} (lo c : Int) (n : Nat) : Walks G K F M H (Itc lo c n) { items := rngC lo c n } := by
  refine ⟨fun F' M' H' i d g st e => ?_, fun F' M' H' g st => ?_⟩
  · obtain ⟨l, ed⟩ := rngC_get (show (rngC lo c n)[i]? = some d from e)
    subst ed
    refine ⟨l, fun x H'' y => ?_⟩
    obtain ⟨e2, y⟩ := y
    subst e2 y
    exact ⟨F', .refl g.hm, .int _⟩
  · show n ≤ (rngC lo c n).length
    rw [rngC_len]
    exact Nat.le_refl _
def kiR3 (Q : IT → MM → Prop) (ds : List D) (M1 : MM) : Prop := match ds with
  | [.int i, .int j, .int c] => c = -1 ∧ (-(2 ^ 62) ≤ i ∧ i < 2 ^ 62 ∧ -(2 ^ 62) ≤ j ∧ j < 2 ^ 62) ∧ Q { items := rngC i (-1) (i - j).toNat } M1
  | _ => False
def wiR3 (wa : WA) : WI := fun δ M Q EX => wa δ M (kiR3 Q) EX
variable {X : Cx}
theorem di_range3 {tg a b c : Expr} {wa : WA} {p pos : Pos} (hm : X.mg "range" = none) (ha : DA G X [a, b, c] wa) (hg : Gl X "range" := by rfl) (hs : starEach [a, b, c] X.env = (false, eval a X.env) :: starEach [b, c] X.env := by rfl) (hpl : (backTo pos (starEach [b, c] X.env)).any (·.1) = false := by rfl) :
    DI G X tg (.Call (.Name "range" p) [a, b, c] [] pos) (wiR3 wa) := by
  refine pi_imp (pi_range3 hg hm ha hs hpl) fun σ H R ⟨F, M, δ, Q, EX, hm, rs, h, tk, f⟩ => ?_
  refine ⟨F, M, δ, _, EX, hm, rs, h, tk, fun vs ds F1 M1 H1 g1 r1 q => ?_⟩
  unfold kiR3 at q
  split at q
  · obtain ⟨ec, hb, q⟩ := q
    subst ec
    cases r1 with
    | cons ra t =>
      cases t with
      | cons rb t =>
        obtain ⟨v, rfl, r2⟩ := one_rep t
        cases ra
        cases rb
        cases r2
        exact ⟨_, _, _, _, rfl, RgC.neg hb.1 hb.2.1 hb.2.2.1 hb.2.2.2, f _ _ F1 M1 H1 g1 (walks_rngC _ _ _) q⟩
  · exact q.elim
/-! zip of a list that may change, not meanwhile, and of one that never changes -/
def kiZM (Q : IT → MM → Prop) (ds : List D) (M : MM) : Prop := match ds with
  | [.raw (.ref a), y] => match M a, frzOf y with
    | some (.lst xs), some ys => Q { items := pairs xs ys, src := some (a, xs) } M
    | _, _ => False
  | _ => False
def wiZM (wa : WA) : WI := fun δ M Q EX => wa δ M (kiZM Q) EX
theorem at_zipM {Q : IT → MM → Prop} {M : MM} {a : Addr} {xs ys : List D} {y : D} (h1 : M a = some (.lst xs)) (h2 : frzOf y = some ys) (q : Q { items := pairs xs ys, src := some (a, xs) } M) : kiZM Q [.raw (.ref a), y] M := by
  unfold kiZM
  dsimp only
  rw [h1, h2]
  exact q
theorem di_zipM {elts : List Expr} {kk : Nat} {e e2 : Expr} {wa : WA} {p pos tpos : Pos} (hm : X.mg "zip" = none) (ha : DA G X [e, e2] wa) (hg : Gl X "zip" := by rfl)
    (hs : starEach [e, e2] X.env = (false, eval e X.env) :: starEach [e2] X.env := by rfl) (hpl : (backTo pos (starEach [e2] X.env)).any (·.1) = false := by rfl) :
    DI G X (.Tuple elts kk tpos) (.Call (.Name "zip" p) [e, e2] [] pos) (wiZM wa) := by
  refine pi_imp (RZ.pi_zipA hg hm ha hs hpl) fun σ H R ⟨F, M, δ, Q, EX, hm1, rs, h, tk, f⟩ => ?_
  refine ⟨F, M, δ, _, EX, hm1, rs, h, tk, fun vs ds F1 M1 H1 g1 r1 q => ?_⟩
  unfold kiZM at q
  split at q
  · rename_i a y
    split at q
    · rename_i xs ys e1 e2
      cases r1 with
      | cons rx t =>
        obtain ⟨vy, rfl, ry⟩ := one_rep t
        cases rx
        obtain ⟨us, hua, ra0⟩ := g1.hm.mo a _ e1
        obtain ⟨b, ws, rfl, hb, rb⟩ := frz_rep ry e2
        refine ⟨a, b, us, ws, rfl, .inl ⟨SqL.of hua, g1.hm.sub.seq hb, f _ { items := pairs xs ys, src := some (a, xs) } F1 M1 H1 g1 ⟨fun F' M' H' i d g st e => ?_, fun F' M' H' g st => ?_⟩ q⟩⟩
        · obtain ⟨x, y, ex, ey, rfl⟩ := pairs_get e
          obtain ⟨us', hu', ra⟩ := g.hm.mo a _ st
          obtain ⟨u, eu, ru⟩ := ra.get ex
          obtain ⟨w, ew, rw'⟩ := rb.get ey
          have hsa : SqL X.K H' a us' := SqL.of hu'
          have hsb : SqL X.K H' b ws := g.hm.sub.seq (g.ext.seq hb)
          refine ⟨⟨us', ws, u, w, hsa, hsb, eu, ew⟩, fun z H'' ⟨T, u', w', ez, hT, eH, k1, k2⟩ => ?_⟩
          have e3 := k1 us' hsa
          have e4 := k2 ws hsb
          rw [eu] at e3
          rw [ew] at e4
          cases e3
          cases e4
          subst ez eH
          have gn := g.hm.new (o := .tup [u, w]) hT
          exact ⟨_, gn, .tup upd_same (.cons (ru.mono gn.ext) (.cons ((rw'.mono g.ext).mono gn.ext) .nil))⟩
        · obtain ⟨us', hu', ra⟩ := g.hm.mo a _ st
          refine ⟨us', ws, SqL.of hu', g.hm.sub.seq (g.ext.seq hb), ?_⟩
          rw [show ({ items := pairs xs ys, src := some (a, xs) } : IT).items.length = min xs.length ys.length from pairs_len _ _, ra.len, rb.len]
          omega
    · exact q.elim
  · exact q.elim
end
end DL

set_option Elab.async false
set_option linter.all false
set_option maxRecDepth 100000
/-! Exceptions: tracked once they are caught, or made as values. -/
namespace DL
open PySem PySem.Spec L2
open PyProof.Rows hiding St

section
variable {X : Cx} {pins : List (Addr × Obj)} {σ : St} {H : Hp} {s : Shared}
/-- an object of ours that stands untracked is tracked from now on -/
theorem Inv.track {a : Addr} {o : HO} (I : Inv X pins σ H s) (hn : H a = none) (h0 : X.s_0.heap.get? a = none) (nL : a ≠ X.env.locals) (nC : ∀ x c, X.env.cells.lookup x = some c → c ≠ a) (nP : ∀ p ∈ X.pn ++ pins, p.1 ≠ a)
    (new : ObjOk X.prog X.w (upd H a o) s.heap a o) : Inv X pins σ (upd H a o) s := by
  have nb : ∀ b u, X.s_0.heap.get? b = some u → b ≠ a := fun b u e z => by rw [z, h0] at e; cases e
  have nh : ∀ b u, H b = some u → b ≠ a := fun b u e z => by rw [z, hn] at e; cases e
  refine ⟨I.ok, I.os, I.bare, ⟨I.base.keep, I.base.slot, fun b u e n hx => ?_, I.base.there, fun b xs e => ?_, fun b u xs e => ?_, fun b ps e => ?_⟩, I.loc, I.cell, ?_, fun x c e => ?_, fun p hp => ?_, fun b u e => ?_, I.len⟩
  · rw [upd_ne (nb b u e)]; exact I.base.free b u e n hx
  · have z := I.base.tups b xs e
    rw [upd_ne (nh b _ z)]; exact z
  · have z := I.base.frzs b u xs e
    rw [upd_ne (nh b _ z)]; exact z
  · obtain ⟨m, z⟩ := I.base.tbls b ps e
    exact ⟨m, by rw [upd_ne (nh b _ z)]; exact z⟩
  · rw [upd_ne (Ne.symm nL)]; exact I.free
  · rw [upd_ne (nC x c e)]; exact I.freeC x c e
  · obtain ⟨e1, e2, e3, e4, e5⟩ := I.pin p hp
    exact ⟨e1, by rw [upd_ne (nP p hp)]; exact e2, e3, e4, e5⟩
  · by_cases z : b = a
    · subst z
      rw [upd_same] at e
      cases e
      exact new
    · rw [upd_ne z] at e
      exact (I.hok b u e).stay (fun c v _ q => q) (fun c q => by rw [upd_ne (nh c _ q)]; exact q) fun c xs q => by rw [upd_ne (nh c _ q)]; exact q
theorem Inv.suite0 (I : Inv X pins σ H s) (a : Addr) : Inv (X.suite a (X.pn ++ pins)) [] σ H s :=
  ⟨I.ok.suite _ _, I.os, I.bare, I.base, I.loc, I.cell, I.free, I.freeC, fun p hp => I.pin p (by rw [List.append_nil] at hp; exact hp), I.hok, I.len⟩
theorem Inv.unsuite0 {a : Addr} {pn' : List (Addr × Obj)} (I : Inv (X.suite a (X.pn ++ pins)) pn' σ H s) (ok : X.Ok) : Inv X pins σ H s :=
  ⟨ok, I.os, I.bare, I.base, I.loc, I.cell, I.free, I.freeC, fun p hp => I.pin p (List.mem_append_left _ hp), I.hok, I.len⟩
end

/-! ### try: the clauses, with or without a name; what is caught is tracked -/
/-- the ends of a suite whose name (slot i) goes -/
def goneE (i : Nat) (D : Ends) : Ends := { nx := fun σ H => D.nx (σ.set i none) H, rt := D.rt, bk := fun σ H => D.bk (σ.set i none) H, ct := fun σ H => D.ct (σ.set i none) H }
def suiteT (io : Option Nat) (ts : TS) (D : Ends) (σ : St) (a : Addr) (H : Hp) : Prop := match io with
  | none => ts D σ H
  | some i => ts (goneE i D) (σ.set i (some (.ref a))) H
def wTryX (K : PySem.W.Frag) (Wout : WX) (D : Ends) : List (Value × Option Nat × TS) → WX
  | [] => Wout
  | (c, io, ts) :: r => fun cls d σ H => ∃ b, PySem.W.exmOne K cls c = some b ∧ (b = true → ∀ a, H a = none → suiteT io ts D σ a (upd H a (ExV cls d a))) ∧ (b = false → wTryX K Wout D r cls d σ H)
inductive HdsX (X : Cx) : List ExceptHandler → List (Value × Option Nat × TS) → Prop
  | nil : HdsX X [] []
  | cons {x : Str} {c : Value} {ts : TS} {b₀ : Stmt} {suite : List Stmt} {np pos' : Pos} {hds : List ExceptHandler} {l : List (Value × Option Nat × TS)} (hc : Names X x c)
      (hsu : ∀ (a : Addr) (pn : List (Addr × Obj)), PSs (X.suite a pn) (b₀ :: suite) ts) (r : HdsX X hds l) : HdsX X (.ExceptHandler (some (.Name x np)) none (b₀ :: suite) pos' :: hds) ((c, none, ts) :: l)
  | consAs {x n : Str} {i : Nat} {c : Value} {ts : TS} {b₀ : Stmt} {suite : List Stmt} {np pos' : Pos} {hds : List ExceptHandler} {l : List (Value × Option Nat × TS)} (hN : X.N.Nodup) (hi : X.N[i]? = some n) (hln : X.env.kindOf n = some .local) (hc : Names X x c)
      (hsu : ∀ (a : Addr) (pn : List (Addr × Obj)), PSs (X.suite a pn) (b₀ :: suite) ts) (r : HdsX X hds l) : HdsX X (.ExceptHandler (some (.Name x np)) (some n) (b₀ :: suite) pos' :: hds) ((c, some i, ts) :: l)
section
variable {X : Cx} {body : List Stmt} {h₀ : ExceptHandler} {hds : List ExceptHandler} {l : List (Value × Option Nat × TS)} {pos : Pos} {tb : WX → TS}
theorem ps_tryX (hs : X.stack = X.env :: X.outer) (hf : X.env.frame = some X.env.locals) (hex : X.ex = [])
    (hb : ∀ (W : WX) (pn : List (Addr × Obj)) (xe : Value → Shared → Prop), Takes (X.tr pn xe) W → PassesOwn (model X.prog X.w) X.A X.env xe → PSs (X.tr pn xe) body (tb W))
    (hh : HdsX X (h₀ :: hds) l) : PS X (.Try body (h₀ :: hds) [] [] pos) (fun D σ H => ∃ Wout, Takes X Wout ∧ tb (wTryX X.K Wout D l) D σ H) := by
  refine ⟨fun pins s σ H D I h => ?_⟩
  obtain ⟨Wout, tk, h⟩ := h
  have ok := I.ok
  have hfr : X.A.frames = some (X.env :: X.outer) := by rw [ok.frames, hs]
  refine wpAny_Try_except ?_
  refine wpAny_mono ((hb (wTryX X.K Wout D l) (X.pn ++ pins) (fun e s₁ => wpAny (model X.prog X.w) X.A (noteFrame e X.env) (fun _ s₂ => wpAny (model X.prog X.w) X.A (setFlight e none) (fun _ s₃ =>
    wpAny (model X.prog X.w) X.A (handleBy e X.env (h₀ :: hds)) (SP X pins D) X.xe s₃) X.xe s₂) X.xe s₁) (fun u s' xx => ?_) PassesOwn.looking).run [] s σ H D (I.toTry _) h) (fun f s1 hsp => ?_) (fun e s1 he => he)
  · -- the catch
    obtain ⟨a, B, sI, pins', σ', H', cls, d, rfl, J', nb, up, sky, na, os, ag, w⟩ := xx
    have J : Inv X pins σ' H' sI := J'.ofTry ok
    have sky' : Sky B (X.env :: X.outer) a (Zc cls d) X.env.locals s'.heap := by rw [← hs]; exact sky
    show wpAny (model X.prog X.w) X.A (noteFrame (.ref a) X.env) _ _ _
    refine Sky.land Zc.steady hfr hf sky' fun h3 fl3 up3 => ?_
    have J3 : Inv X pins σ' H' { s' with heap := h3 } := J.landed nb fl3.1 (up.trans up3) os ag
    obtain ⟨oe3, vs3, he3, hz3, hd3⟩ := fl3.there
    have notFr : ∀ {h : Heap} {o : Obj} {vs : Array Value}, h.FunFrames B (X.env :: X.outer) → h.get? a = some o → o.data = .fields vs → a ∉ frs (X.env :: X.outer) := fun {h o vs} ff e dd hm => by
      obtain ⟨_, o', e', hnf⟩ := ff.mem hm
      rw [e] at e'; cases e'
      exact hnf _ dd
    have nfr := notFr fl3.2.2.1 he3 hd3
    have nL : a ≠ X.env.locals := fun z => nfr (List.mem_filterMap.mpr ⟨X.env, List.mem_cons_self, by rw [hf, z]⟩)
    have nI : sI.heap.get? a = none := by
      cases e : sI.heap.get? a with
      | none => rfl
      | some o =>
        have z := nb a o e (by rw [hs]; exact nfr)
        rw [fl3.2.1] at z
        cases z
    have n0 : X.s_0.heap.get? a = none := by
      cases e : X.s_0.heap.get? a with
      | none => rfl
      | some o =>
        obtain ⟨o', z⟩ := J.base.there a o e (by rw [hex]; exact fun z => nomatch z)
        rw [nI] at z
        cases z
    have nP : ∀ p ∈ X.pn ++ pins, p.1 ≠ a := fun p hp z => by
      obtain ⟨e, _⟩ := J.pin p hp
      rw [z, nI] at e
      cases e
    have track : ∀ {h4 : Heap} {oe : Obj} {vs : Array Value}, Inv X pins σ' H' { s' with heap := h4 } → h4.get? a = some oe → Zc cls d oe → oe.data = .fields vs → Inv X pins σ' (upd H' a (ExV cls d a)) { s' with heap := h4 } := fun {h4 oe vs} J4 he hz hd =>
      Inv.track J4 na n0 nL (fun x c e z => by
        obtain ⟨v, o, ho, hc⟩ := J4.cell x c e
        have ho' : h4.get? c = some o := ho
        rw [z, he] at ho'
        cases ho'
        rw [hd] at hc
        cases hc) nP (exV_ok he hz hd)
    have go : ∀ {hds' : List ExceptHandler} {l' : List (Value × Option Nat × TS)}, HdsX X hds' l' → wTryX X.K Wout D l' cls d σ' H' →
        wpAny (model X.prog X.w) X.A (handleBy (.ref a) X.env hds') (SP X pins D) X.xe { s' with heap := h3 } := by
      intro hds' l' hk
      induction hk with
      | nil =>
        intro w
        refine wpAny_handleBy_nil ?_
        obtain ⟨k1, k2, k3, oe, vs, T, oT, ts', he, hz, hd, h1, hr⟩ := id fl3
        unfold PySem.passOn
        refine wpAny_bind (wpAny_field he hd h1 ?_)
        rw [if_neg (show ¬ ((Value.ref T == Value.none) = true) from by simp)]
        have fin : wpAny (model X.prog X.w) X.A (setFlight (.ref a) X.env.frame) (fun _ s4 => wpAny (model X.prog X.w) X.A (throw (.ref a) : Sem Flow) (SP X pins D) X.xe s4) X.xe { s' with heap := h3 } := by
          rw [hf]
          refine HandSPX.setFlight_upZ fl3 fun h4 hh4 up4 => wpAny_throw (tk _ _ ?_)
          exact ⟨a, B, sI, pins, σ', H', cls, d, rfl, J, nb, (up.trans up3).trans up4, .inr (.inr (by rw [hs]; exact hh4)), na, os, ag, w⟩
        first
          | exact wpAny_bind (wpAny_pure (wpAny_bind fin))
          | exact wpAny_bind fin
      | @cons x c ts b₀ suite np pos' hds2 l2 hc hsu r ih =>
        intro w
        obtain ⟨b, hb1, hyes, hno⟩ := w
        refine wpAny_handleBy_cons (codeAny_handlers_test ?_) (by intro q; cases q)
        have LT : PySem.W.Looks (model X.prog X.w) h3 (typeOf (.ref a)) cls := fun A Q E s k q => wpAny_typeOf_ref (k _ _ he3) (by rw [hz3.1]; exact q)
        have LM := PySem.W.exm_one (M := model X.prog X.w) (J3.kIn) LT hb1
        have S3 := Inv.suite0 J3 a
        have test : ∀ {Q : Value → Shared → Prop} {E : Value → Shared → Prop}, Q c { s' with heap := h3 } → wpAny (model X.prog X.w) (X.A.mark (some (.ref a))) (eval (.Name x np) X.env) Q E { s' with heap := h3 } := fun {Q E} q => by
          obtain ⟨hg, hdbg, hm | ⟨hm, hv, hnn⟩⟩ := hc
          · exact ld_glob (X := X.suite a (X.pn ++ pins)) S3 hg hm q hdbg
          · exact ld_blt (X := X.suite a (X.pn ++ pins)) S3 hg hm hv q hnn hdbg
        refine test (LM.here ?_)
        cases b with
        | true =>
          refine codeAny_handlers_suite ?_
          refine HandSPX.lands_againZ fl3 fun h4 fl4 up4 => ?_
          have J4 : Inv X pins σ' H' { s' with heap := h4 } := J.landed nb fl4.1 ((up.trans up3).trans up4) os ag
          obtain ⟨oe4, vs4, he4, hz4, hd4⟩ := fl4.there
          have S4 := Inv.suite0 (track J4 he4 hz4 hd4) a
          refine wpAny_mono ((hsu a (X.pn ++ pins)).run [] _ _ _ _ S4 (hyes rfl a na)) (fun f s6 hsp => ?_) (fun _ _ z => False.elim z)
          cases f with
          | next =>
            obtain ⟨σ6, H6, S6, q6⟩ := hsp
            exact ⟨_, _, Inv.unsuite0 S6 ok, q6⟩
          | brk =>
            obtain ⟨σ6, H6, S6, q6⟩ := hsp
            exact ⟨_, _, Inv.unsuite0 S6 ok, q6⟩
          | cont =>
            obtain ⟨σ6, H6, S6, q6⟩ := hsp
            exact ⟨_, _, Inv.unsuite0 S6 ok, q6⟩
          | ret u =>
            obtain ⟨v6, σ6, H6, S6, r6, q6⟩ := hsp
            exact ⟨_, _, _, Inv.unsuite0 S6 ok, r6, q6⟩
        | false =>
          show wpAny _ X.A (handleBy (.ref a) X.env hds2) _ _ _
          exact ih (hno rfl)
      | @consAs x n i c ts b₀ suite np pos' hds2 l2 hN hi hln hc hsu r ih =>
        intro w
        have hloc : Loc X.env.scope n := .inl hln
        obtain ⟨b, hb1, hyes, hno⟩ := w
        refine wpAny_handleBy_cons (codeAny_handlers_test ?_) (by intro q; cases q)
        have LT : PySem.W.Looks (model X.prog X.w) h3 (typeOf (.ref a)) cls := fun A Q E s k q => wpAny_typeOf_ref (k _ _ he3) (by rw [hz3.1]; exact q)
        have LM := PySem.W.exm_one (M := model X.prog X.w) (J3.kIn) LT hb1
        have S3 := Inv.suite0 J3 a
        have test : ∀ {Q : Value → Shared → Prop} {E : Value → Shared → Prop}, Q c { s' with heap := h3 } → wpAny (model X.prog X.w) (X.A.mark (some (.ref a))) (eval (.Name x np) X.env) Q E { s' with heap := h3 } := fun {Q E} q => by
          obtain ⟨hg, hdbg, hm | ⟨hm, hv, hnn⟩⟩ := hc
          · exact ld_glob (X := X.suite a (X.pn ++ pins)) S3 hg hm q hdbg
          · exact ld_blt (X := X.suite a (X.pn ++ pins)) S3 hg hm hv q hnn hdbg
        refine test (LM.here ?_)
        cases b with
        | true =>
          refine codeAny_handlers_suite_as ?_
          refine HandSPX.lands_againZ fl3 fun h4 fl4 up4 => ?_
          have J4 : Inv X pins σ' H' { s' with heap := h4 } := J.landed nb fl4.1 ((up.trans up3).trans up4) os ag
          obtain ⟨oe4, vs4, he4, hz4, hd4⟩ := fl4.there
          have S4 := Inv.suite0 (track J4 he4 hz4 hd4) a
          refine store_ok (X := X.suite a (X.pn ++ pins)) (v := .ref a) S4 hN hi hloc rfl (fun s5 S5 => ?_) (.inr hln)
          refine wpAny_mono ((hsu a (X.pn ++ pins)).run [] s5 _ _ _ S5 (hyes rfl a na)) (fun f s6 hsp => ?_) (fun _ _ z => False.elim z)
          have end_ : ∀ {σ6 : St} {H6 : Hp} {Q : Shared → Prop}, Inv (X.suite a (X.pn ++ pins)) [] σ6 H6 s6 → (∀ s7, Inv X pins (σ6.set i none) H6 s7 → Q s7) →
              wpAny (model X.prog X.w) X.A (do bindName X.env n .none; unbindBehindTheSuite X.env n pos') (fun _ s7 => Q s7) X.xe s6 := fun {σ6 H6 Q} S6 hq => gone_ok (Inv.unsuite0 S6 ok) hN hi hln hq
          cases f with
          | next =>
            obtain ⟨σ6, H6, S6, q6⟩ := hsp
            exact end_ S6 fun s7 J7 => ⟨_, _, J7, q6⟩
          | brk =>
            obtain ⟨σ6, H6, S6, q6⟩ := hsp
            exact end_ S6 fun s7 J7 => ⟨_, _, J7, q6⟩
          | cont =>
            obtain ⟨σ6, H6, S6, q6⟩ := hsp
            exact end_ S6 fun s7 J7 => ⟨_, _, J7, q6⟩
          | ret u =>
            obtain ⟨v6, σ6, H6, S6, r6, q6⟩ := hsp
            exact end_ S6 fun s7 J7 => ⟨_, _, _, J7, r6, q6⟩
        | false =>
          show wpAny _ X.A (handleBy (.ref a) X.env hds2) _ _ _
          exact ih (hno rfl)
    exact go hh w
  · cases f with
    | next =>
      obtain ⟨σ', H', J', q⟩ := hsp
      exact wpAny_execs_nil ⟨σ', H', J'.ofTry ok, q⟩
    | brk =>
      obtain ⟨σ', H', J', q⟩ := hsp
      exact ⟨σ', H', J'.ofTry ok, q⟩
    | cont =>
      obtain ⟨σ', H', J', q⟩ := hsp
      exact ⟨σ', H', J'.ofTry ok, q⟩
    | ret u =>
      obtain ⟨v, σ', H', J', r, q⟩ := hsp
      exact ⟨v, σ', H', J'.ofTry ok, r, q⟩
end
end DL

set_option Elab.async false
set_option linter.all false
set_option maxRecDepth 100000
set_option maxHeartbeats 1000000
namespace DL
open PySem PySem.Spec L2
open PyProof.Rows hiding St

/-! ### what the text has of an exception class -/
def oexB (K : PySem.W.Frag) (C : Addr) : Bool := match K.lookup C with
  | some ⟨.type "type", _, .cls cd, sl⟩ => (match cd.mro, sl.toList with
    | .ref C' :: bm, [_, _, _, _, some (.builtin n), _] => C' == C && n == "ValueError.__new__" && !cd.hasDel && cd.hasDict && PySem.HandSPX.refsVE bm
    | _, _ => false)
  | _ => false
theorem oexB_ok {K : PySem.W.Frag} {C : Addr} (q : oexB K C = true) : ∃ nm q N bs bm sn sub ab col dd k0 k1 k2 k3 k5, K.lookup C = some (excClassObj nm q C N bs bm true sn sub ab col dd k0 k1 k2 k3 k5 "ValueError.__new__") ∧ PySem.HandSPX.refsVE bm = true := by
  unfold oexB at q
  split at q
  · rename_i dd cd sl ho
    split at q
    · rename_i C' bm k0 k1 k2 k3 n k5 hm hs
      simp only [Bool.and_eq_true, beq_iff_eq, Bool.not_eq_true'] at q
      obtain ⟨⟨⟨⟨rfl, rfl⟩, hdel⟩, hdict⟩, ht⟩ := q
      obtain ⟨nm, bs, mro, ns, qn, hd, sn, sub, ab, col, del⟩ := cd
      dsimp only at hm hdel hdict
      subst hm hdel hdict
      have hsl : sl = #[k0, k1, k2, k3, some (.builtin "ValueError.__new__"), k5] := by
        obtain ⟨l⟩ := sl
        simp only at hs
        rw [hs]
      subst hsl
      exact ⟨nm, qn, ns, bs, bm, sn, sub, ab, col, dd, k0, k1, k2, k3, k5, ho, ht⟩
    · cases q
  · cases q
/-- the class c: how its instances are made, asked, read -/
structure ExT (K : PySem.W.Frag) (C : Addr) : Prop where
  ox : OexC K C
  xf : XfC K C
  cs : (PySem.W.clsIn K C).isSome = true
  at_ : PySem.W.findIn K (.ref C) "__class__" = some (some (.builtin "object.__class__"))
  mo : PySem.W.mroIn K C (.type "object") = some true
theorem exT_of {K : PySem.W.Frag} {C : Addr} (h0 : oexB K C = true) (h1 : PySem.W.findIn K (.ref C) "__setattr__" = some (some (.builtin "object.__setattr__"))) (h2 : PySem.W.subIn K (.ref C) (.type "BaseException") = some true) (h3 : PySem.W.typeIn K (.ref C) = some (.type "type")) (h4 : PySem.W.keepIn K (.ref C) = true)
    (h5 : xfB K C = true) (h6 : (PySem.W.clsIn K C).isSome = true) (h7 : PySem.W.findIn K (.ref C) "__class__" = some (some (.builtin "object.__class__"))) (h8 : PySem.W.mroIn K C (.type "object") = some true) : ExT K C :=
  ⟨⟨oexB_ok h0, h1, h2, h3, h4⟩, xfB_ok h5, h6, h7, h8⟩
/-- its __init__ keeps its one or two arguments -/
structure GXi (K : PySem.W.Frag) (C : Addr) (qual : Str) (st : Stmt) (fs ps : List Str) : Prop where
  ex : ∃ f fd, PySem.W.findIn K (.ref C) "__init__" = some (some (.ref f)) ∧ PySem.W.typeIn K (.ref f) = some (.type "function") ∧ Fun K "__init__" qual st f fd ∧ Binds K fd ps []
  no : ∀ f ∈ fs, PySem.W.findIn K (.ref C) f = some none

section
variable {P : Program} {w : World} {K : PySem.W.Frag} {mg : Str → Option Value} {base : Heap} {C : Addr}
/-- what such an __init__ promises: the new exception's dict holds the values under the names fs -/
def spX (K : PySem.W.Frag) (C : Addr) (n : Nat) (dict : List V → List (Str × V)) : Sp := fun vs H Q _ => ∃ (a : Addr) (ws : List V), vs = .ref a :: ws ∧ ws.length = n ∧ OexC K C ∧ H a = some (exo a C none) ∧
  ∀ dx, H dx = none → dx ≠ a → Q .non (upd (upd H dx (exd dx (dict ws))) a (exo a C (some dx)))
structure OkX (P : Program) (w : World) (K : PySem.W.Frag) (mg : Str → Option Value) (base : Heap) (C : Addr) (n : Nat) (ps : List Str) (dict : List V → List (Str × V)) : Prop where
  ex : ∃ f fd, PySem.W.findIn K (.ref C) "__init__" = some (some (.ref f)) ∧ PySem.W.typeIn K (.ref f) = some (.type "function") ∧ Binds K fd ps [] ∧ FnOk P w K mg base (L2.CX P w) 1 f fd ps (spX K C n dict)
theorem vis_of {N ps : List Str} {sc : Scope} {x : Str} (S : FnScope N ps sc) (h : x ∈ ps) : Vis sc x := (S.par x h).elim .inl fun z => .inr (.inl z)
theorem okX1 {qual : Str} {st : Stmt} {sf x f : Str} {p1 p2 p3 p4 : Pos} (g : GXi K C qual st [f] [sf, x]) (S : FnScope [sf, x] [sf, x] (defScope st)) (hb : defBody st = [.Assign [.Attribute (.Name sf p1) f p2] (.Name x p3) p4])
    (h1 : (sf == ("__debug__" : Str)) = false) (h2 : (sf == ("__classdict__" : Str)) = false) (h3 : (x == ("__debug__" : Str)) = false) (h4 : (x == ("__classdict__" : Str)) = false) : OkX P w K mg base C 1 [sf, x] fun ws => [f].zip ws := by
  obtain ⟨fI, fd, e1, e2, F, b⟩ := g.ex
  refine ⟨fI, fd, e1, e2, b, F.okX S (fun vs H Q E ⟨a, ws, e, l, _⟩ => by rw [e, List.length_cons, l]; rfl) fun cdv A outer s H vs Q E hr h => ?_⟩
  obtain ⟨a, ws, rfl, l, T, ea, q⟩ := h
  match ws, l with
  | [v], _ =>
    rw [hb]
    refine ⟨_, pss_one (ps_ost (pe_var (i := 0) rfl (vis_of S List.mem_cons_self) h1 h2) (pe_var (i := 1) rfl (vis_of S (List.mem_cons_of_mem _ List.mem_cons_self)) h3 h4)), ?_⟩
    exact ⟨v, rfl, .ref a, rfl, a, C, rfl, T, g.no f List.mem_cons_self, .inl ⟨ea, fun dx n1 n2 => q dx n1 n2⟩⟩
end

section
variable {G : Cfg} {X : Cx} {c : Nat} {x : Str} {p pos : Pos} {e : Expr} {es : List Expr} {wa : WA} {ps : List Str} {dict : List V → List (Str × V)} {n : Nat}
/-! ### C(..): raised, or a value -/
def wMkX (n : Nat) (wa : WA) (δ : DS) (M : MM) (Q : List D → MM → Prop) (EX : XK') : Prop := wa δ M (fun ds M1 => ds.length = n ∧ Q ds M1) EX
theorem pmk_x (o : OkX X.prog X.w X.K X.mg X.base (G.cl c) n ps dict) (T : ExT X.K (G.cl c)) (hr : Room 2 X.A) (hm : X.mg x = some (.ref (G.cl c))) (ha : DA G X (e :: es) wa) (hg : Gl X x := by rfl)
    (hdb : (x == ("__debug__" : Str)) = false := by decide) (he : starEach (e :: es) X.env = (false, eval e X.env) :: starEach es X.env := by rfl) (hpl : (backTo pos (starEach es X.env)).any (·.1) = false := by rfl) :
    PMk X (.Call (.Name x p) (e :: es) [] pos) (tMkO (G.cl c) (spX X.K (G.cl c) n dict) [] (upA G X wa)) := by
  obtain ⟨f, fd, e1, e2, b, F⟩ := o.ex
  exact pmk_oex T.ox e1 e2 F hr b .nil passL hg hm ha hdb he hpl
theorem upd_swap {H : Hp} {a b : Addr} {o u : HO} (h : a ≠ b) : upd (upd H a o) b u = upd (upd H b u) a o := by
  funext z
  by_cases h1 : z = a
  · subst h1; rw [upd_ne h, upd_same, upd_same]
  · by_cases h2 : z = b
    · subst h2; rw [upd_same, upd_ne h1, upd_same]
    · rw [upd_ne h2, upd_ne h1, upd_ne h1, upd_ne h2]
/-- what the making leaves, by trees -/
theorem mkx_up (hd : ∀ ws : List V, ws.length = n → dict ws = (G.nm c).zip ws) (hn : (G.nm c).length = n) (n9 : n ≤ 900) (T : ExT X.K (G.cl c)) {F : Hp} {M : MM} {δ : DS} {σ : St} {H : Hp} {EX : XK'} {QD : List D → MM → Prop} {Q : XK} (hm : HM G X.K F M H) (rs : RS G X.K F σ δ) (h : wMkX n wa δ M QD EX) (tk : Takes X (wX G X.K F M H EX))
    (f : ∀ ds dop F1 M1 H1, Grow G X.K F M H F1 M1 H1 → RX G X.K F1 H1 (.ref (G.cl c)) dop (.own c ds) → QD ds M1 → Q (.ref (G.cl c)) dop H1) :
    tMkO (G.cl c) (spX X.K (G.cl c) n dict) [] (upA G X wa) σ H Q := by
  refine ⟨F, M, δ, _, EX, hm, rs, h, tk, fun vs ds F1 M1 H1 g1 r1 ⟨l, q⟩ => ?_⟩
  have lv : vs.length = n := by rw [r1.len]; exact l
  refine ⟨by omega, fun a na => ?_⟩
  rw [List.append_nil]
  refine ⟨a, vs, rfl, lv, T.ox, upd_same, fun dx nd da => ?_⟩
  have nd1 : H1 dx = none := by rw [upd_ne da] at nd; exact nd
  refine ⟨rfl, dx, dict vs, upd_same, by rw [upd_ne da, upd_same], nd1, ?_⟩
  have e : upd (del (upd (upd (upd H1 a (exo a (G.cl c) none)) dx (exd dx (dict vs))) a (exo a (G.cl c) (some dx))) a) dx (.xd (dict vs)) = upd H1 dx (.xd ((G.nm c).zip vs)) := by
    rw [hd vs lv]
    funext z
    by_cases h1 : z = dx
    · subst h1; rw [upd_same, upd_same]
    · rw [upd_ne h1, upd_ne h1]
      by_cases h2 : z = a
      · subst h2; rw [del_same, na]
      · rw [del_ne h2, upd_ne h2, upd_ne h1, upd_ne h2]
  rw [e]
  have g2 := g1.hm.new (o := .xd ((G.nm c).zip vs)) nd1
  exact f ds (some dx) _ _ _ (g1.trans g2) ⟨rfl, .inr ⟨dx, vs, rfl, upd_same, by rw [lv, hn], r1.mono g2.ext⟩⟩ q
def wRaise (n c : Nat) (wa : WA) : WS := fun _ EX δ M => wMkX n wa δ M (fun ds M1 => EX (.own c ds) δ M1) EX
theorem ds_raise (hd : ∀ ws : List V, ws.length = n → dict ws = (G.nm c).zip ws) (hn : (G.nm c).length = n) (o : OkX X.prog X.w X.K X.mg X.base (G.cl c) n ps dict) (T : ExT X.K (G.cl c)) (hr : Room 2 X.A) (hm : X.mg x = some (.ref (G.cl c))) (ha : DA G X (e :: es) wa) {pos' : Pos} (n9 : n ≤ 900 := by decide) (hc : X.calm = true := by rfl) (hg : Gl X x := by rfl)
    (hdb : (x == ("__debug__" : Str)) = false := by decide) (he : starEach (e :: es) X.env = (false, eval e X.env) :: starEach es X.env := by rfl) (hpl : (backTo pos (starEach es X.env)).any (·.1) = false := by rfl) :
    DSt G X (.Raise (some (.Call (.Name x p) (e :: es) [] pos)) none pos') (wRaise n c wa) := by
  refine ⟨fun pins s σ H D I ⟨F, M, δ, E, EX, hm1, rs, h, tk, _⟩ => ?_⟩
  refine (ps_raise hc tk (pmk_x o T hr hm ha hg hdb he hpl)).run pins s σ H D I ?_
  exact mkx_up hd hn n9 T hm1 rs h tk fun ds dop F1 M1 H1 g rx q => ⟨.own c ds, δ, F1, M1, g, rs.mono g.ext, rx, q⟩
/-- what makes an exception makes a value -/
theorem pe_mk {e : Expr} {t : St → Hp → XK → Prop} (h : PMk X e t) : PE X e (fun σ H Q => t σ H fun cls d H1 => ∀ a, H1 a = none → Q (.ref a) (upd H1 a (ExV cls d a))) := by
  refine ⟨fun pins s σ H Q I ht => ?_⟩
  refine wpAny_mono (h pins s σ H _ I ht) (fun u s1 hu => ?_) fun _ _ z => z
  obtain ⟨a, oe, vs, sI, H', cls, d, rfl, J, k, hne, ha, hz, hd, _, na, os, ag, _, q⟩ := hu
  refine ⟨.ref a, upd H' a (ExV cls d a), ?_, rfl, q a na⟩
  have J1 := Inv.laidN (t' := s1.toks) J k hne na (exV_ok (P := X.prog) (w := X.w) (H := upd H' a (ExV cls d a)) ha hz hd)
  have J2 : Inv X pins σ (upd H' a (ExV cls d a)) s1 := by
    have e : ({ sI with heap := s1.heap, toks := s1.toks } : Shared) = ⟨s1.heap, sI.gens, sI.drawn, s1.toks, s1.os⟩ := by rw [os]
    rw [e] at J1
    exact ⟨J1.ok, J1.os, ag, J1.base, J1.loc, J1.cell, J1.free, J1.freeC, J1.pin, J1.hok, J1.len⟩
  exact J2
def wExc (n c : Nat) (wa : WA) : WE := fun δ M Q EX => wMkX n wa δ M (fun ds M1 => Q (.exc c ds) M1) EX
theorem rep_exc {K : PySem.W.Frag} {F H : Hp} {cls : Value} {dop : Option Addr} {c : Nat} {ds : List D} {a : Addr} (rx : RX G K F H cls dop (.own c ds)) (fa : F a = none) : Rep G K (upd F a (ExV cls dop a)) (.ref a) (.exc c ds) := by
  have s1 : Same F (upd F a (ExV cls dop a)) := fun b u q => by
    have z : b ≠ a := fun z => by subst z; rw [fa] at q; cases q
    rw [upd_ne z]; exact q
  obtain ⟨rfl, ⟨rfl, rfl⟩ | ⟨d, vs, rfl, h1, h2, h3⟩⟩ := rx
  · exact .exc0 upd_same
  · exact .exc upd_same (s1 _ _ h1) h2 (h3.mono s1)
theorem de_exc (hd : ∀ ws : List V, ws.length = n → dict ws = (G.nm c).zip ws) (hn : (G.nm c).length = n) (o : OkX X.prog X.w X.K X.mg X.base (G.cl c) n ps dict) (T : ExT X.K (G.cl c)) (hr : Room 2 X.A) (hm : X.mg x = some (.ref (G.cl c))) (ha : DA G X (e :: es) wa) (n9 : n ≤ 900 := by decide) (hg : Gl X x := by rfl)
    (hdb : (x == ("__debug__" : Str)) = false := by decide) (he : starEach (e :: es) X.env = (false, eval e X.env) :: starEach es X.env := by rfl) (hpl : (backTo pos (starEach es X.env)).any (·.1) = false := by rfl) :
    DE G X (.Call (.Name x p) (e :: es) [] pos) (wExc n c wa) := by
  refine pe_imp (pe_mk (pmk_x o T hr hm ha hg hdb he hpl)) fun σ H P ⟨F, M, δ, Q, EX, hm1, rs, h, tk, f⟩ => ?_
  refine mkx_up hd hn n9 T hm1 rs h tk fun ds dop F1 M1 H1 g rx q a na => ?_
  exact f _ _ _ _ _ (g.trans (g.hm.new na)) (rep_exc rx (g.hm.free na).1) q
end

section
variable {G : Cfg} {X : Cx} {e : Expr} {we : WE}
/-! ### e.f of an exception -/
@[irreducible] def kFldX (cs : List (Nat × Nat)) (Q : D → MM → Prop) (d : D) (M1 : MM) : Prop := match d with
  | .exc c fs => match cs.lookup c with
    | some i => match fs[i]? with
      | some x => Q x M1
      | none => False
    | none => False
  | _ => False
theorem at_fldX {cs : List (Nat × Nat)} {Q : D → MM → Prop} {M1 : MM} {c i : Nat} {fs : List D} {x : D} (h1 : cs.lookup c = some i) (h2 : fs[i]? = some x) (q : Q x M1) : kFldX cs Q (.exc c fs) M1 := by
  unfold kFldX
  dsimp only
  rw [h1]
  dsimp only
  rw [h2]
  exact q
def wFldX (cs : List (Nat × Nat)) (we : WE) : WE := fun δ M Q EX => we δ M (kFldX cs Q) EX
/-- the field i of the class c is f -/
structure FldX (G : Cfg) (K : PySem.W.Frag) (c i : Nat) (f : Str) : Prop where
  ex : ExT K (G.cl c)
  no : PySem.W.findIn K (.ref (G.cl c)) f = some none
  nd : (G.nm c).Nodup
  at_ : (G.nm c)[i]? = some f
theorem zip_look {v : V} : ∀ {ns : List Str} {vs : List V} {i : Nat} {f : Str}, ns.Nodup → ns[i]? = some f → vs[i]? = some v → (ns.zip vs).lookup f = some v
  | [], _, _, _, _, e, _ => by simp at e
  | n :: ns, [], _, _, _, _, e => by simp at e
  | n :: ns, w :: vs, 0, f, _, e1, e2 => by
    simp only [List.getElem?_cons_zero, Option.some.injEq] at e1 e2
    subst e1 e2
    simp [List.lookup]
  | n :: ns, w :: vs, i + 1, f, nd, e1, e2 => by
    simp only [List.getElem?_cons_succ] at e1 e2
    have nd' := List.nodup_cons.mp nd
    have ne : f ≠ n := fun z => nd'.1 (by rw [← z]; exact List.mem_of_getElem? e1)
    rw [List.zip_cons_cons, L2.lookup_put, if_neg ne]
    exact zip_look nd'.2 e1 e2
theorem de_fldX {f : Str} {pos : Pos} (cs : List (Nat × Nat)) (hc : ∀ p ∈ cs, FldX G X.K p.1 p.2 f) (h : DE G X e we) (hb : attributeBase e f X.env (eval e X.env) = eval e X.env := by rfl) : DE G X (.Attribute e f pos) (wFldX cs we) := by
  refine ⟨fun pins s σ H P I ⟨F, M, δ, Q, EX, hm, rs, h1, tk, fin⟩ => ?_⟩
  refine attr_of hb (thn (de_run h I hm rs h1 tk) fun u s1 ⟨v, H1, I1, rv, d, F1, M1, g, rd, q⟩ => ?_)
  unfold kFldX at q
  split at q
  · rename_i c fs
    split at q
    · rename_i i e1
      split at q
      · rename_i x e2
        have T := hc _ (lookup_mem e1)
        cases rd with
        | @exc a dx _ vs _ ha hdx l r =>
          obtain ⟨v1, e3, r1⟩ := r.get e2
          obtain rfl : u = Value.ref a := rv
          have oa : ObjOk X.prog X.w H1 s1.heap a (ExV (.ref (G.cl c)) (some dx) a) := I1.hok a _ (g.hm.sub _ _ ha)
          obtain ⟨⟨oe, fv, he, hz, hf⟩, _⟩ := oa
          have od : ObjOk X.prog X.w H1 s1.heap dx (.xd ((G.nm c).zip vs)) := I1.hok dx _ (g.hm.sub _ _ hdx)
          obtain ⟨mA, hns, hr⟩ := od
          obtain ⟨oD, ho, hl⟩ := lookIn_ns hns
          obtain ⟨u1, hu, ru⟩ := RelO.some_of (v := v1) (o := mA f) (by rw [← zip_look T.nd T.at_ e3]; exact hr f)
          have J : PySem.W.InstAt s1.heap a oe (G.cl c) (some oD) := ⟨he, hz.1, by unfold PySem.W.notCls; rw [hf] <;> rfl, by rw [hz.2]; exact ho⟩
          refine HandSPX.exc_get I1.kIn J T.ex.xf.ga T.ex.xf.gg T.ex.xf.exC (PySem.W.findObj_own T.ex.xf.hdC T.no rfl (by rw [hl, hu])) (handed_of ru) ⟨v1, H1, I1.tok _, ru, fin _ _ _ _ _ g r1 q⟩
        | exc0 => simp at e2
      · exact q.elim
    · exact q.elim
  · exact q.elim

/-! ### isinstance(e, C) of an exception, or of None -/
@[irreducible] def kIsX (cs : List (Nat × Bool)) (Q : D → MM → Prop) (d : D) (M1 : MM) : Prop := match d with
  | .exc c _ => match cs.lookup c with
    | some b => Q (.bl b) M1
    | none => False
  | _ => False
theorem at_isX {cs : List (Nat × Bool)} {Q : D → MM → Prop} {M1 : MM} {c : Nat} {b : Bool} {fs : List D} (h1 : cs.lookup c = some b) (q : Q (.bl b) M1) : kIsX cs Q (.exc c fs) M1 := by
  unfold kIsX
  dsimp only
  rw [h1]
  exact q
def wIsX (cv : V) (cs : List (Nat × Bool)) : WR1 := fun ds M Q => match ds with
  | [d, .raw v] => v = cv ∧ kIsX cs Q d M
  | _ => False
def wIsX1 (cs : List (Nat × Bool)) (we : WE) : WE := fun δ M Q EX => we δ M (kIsX cs Q) EX
def rIsX (G : Cfg) (K : PySem.W.Frag) (u : Value) : List V → Hp → VK → Prop := fun xs H Q => ∃ (a : Addr) (cv : V) (c : Nat) (d : Option Addr) (b : Bool), xs = [.ref a, cv] ∧ ClsV cv u ∧ H a = some (ExV (.ref (G.cl c)) d a) ∧ (∀ dx, d = some dx → ∃ fs, H dx = some (.xd fs)) ∧ ExT K (G.cl c) ∧ CgOk K ∧ PySem.W.kitOne K (.ref (G.cl c)) u = some b ∧ Q (.bl b) H
theorem call_isX {u : Value} : CallR X (.builtin "isinstance") (rIsX G X.K u) := by
  intro pins s σ H xs us Q I r h
  obtain ⟨a, cv, c, d, b, rfl, k, ha, hd, T, cg, e, q⟩ := h
  obtain ⟨u1, u2, rfl, r1, r2⟩ := vals2 r
  cases (show u1 = Value.ref a from r1)
  have e2 := k.eq r2
  subst e2
  have oa : ObjOk X.prog X.w H s.heap a (ExV (.ref (G.cl c)) d a) := I.hok a _ ha
  obtain ⟨⟨oe, fv, he, hz, hf⟩, _⟩ := oa
  have J : ∃ od, PySem.W.InstAt s.heap a oe (G.cl c) od := by
    cases d with
    | none => exact ⟨none, he, hz.1, by unfold PySem.W.notCls; rw [hf] <;> rfl, by rw [hz.2]; trivial⟩
    | some dx =>
      obtain ⟨fs, hx⟩ := hd dx rfl
      have od : ObjOk X.prog X.w H s.heap dx (.xd fs) := I.hok dx _ hx
      obtain ⟨mA, ⟨o, _, _, ho, _⟩, _⟩ := od
      exact ⟨some o, he, hz.1, by unfold PySem.W.notCls; rw [hf] <;> rfl, by rw [hz.2]; exact ho⟩
  obtain ⟨od, J⟩ := J
  exact PySem.W.kia_one (PySem.W.kitx_exc T.cs T.xf.ga T.xf.gg T.xf.exC T.at_ cg.get cg.tk T.mo) I.kIn J e (fun z => nomatch z) fun tk => ⟨.bl b, H, I.tok tk, rfl, q⟩
theorem sim_isX {cv : V} {u : Value} {cs : List (Nat × Bool)} (k : ClsV cv u) (cg : CgOk X.K) (T : ∀ p ∈ cs, ExT X.K (G.cl p.1) ∧ PySem.W.kitOne X.K (.ref (G.cl p.1)) u = some p.2) : SimC G X.K (rIsX G X.K u) (wIsX cv cs) := by
  intro F M H vs ds Q P hm r w f
  unfold wIsX at w
  split at w
  · rename_i d v
    obtain ⟨ev, w⟩ := w
    subst ev
    cases r with
    | cons r1 r2 =>
      cases r2 with
      | cons r2 r3 =>
        cases r3
        cases r2
        unfold kIsX at w
        split at w
        · rename_i c fs
          split at w
          · rename_i b e2
            obtain ⟨t1, t2⟩ := T _ (lookup_mem e2)
            cases r1 with
            | exc h1 h2 l r => exact ⟨_, _, c, _, b, rfl, k, hm.sub _ _ h1, fun dx z => by cases z; exact ⟨_, hm.sub _ _ h2⟩, t1, cg, t2, f _ _ F M H (.refl hm) (.bl b) w⟩
            | exc0 h1 => exact ⟨_, _, c, _, b, rfl, k, hm.sub _ _ h1, fun dx z => (nomatch z), t1, cg, t2, f _ _ F M H (.refl hm) (.bl b) w⟩
          · exact w.elim
        · exact w.elim
  · exact w.elim
theorem de_isX {cv : V} {u : Value} {cs : List (Nat × Bool)} {c : Expr} {p pos : Pos} (k : ClsV cv u) (cg : CgOk X.K) (T : ∀ p ∈ cs, ExT X.K (G.cl p.1) ∧ PySem.W.kitOne X.K (.ref (G.cl p.1)) u = some p.2) (hm : X.mg "isinstance" = none) (h : DE G X e we) (hc : DE G X c (wC (.raw cv))) (hg : Gl X "isinstance" := by rfl)
    (he : starEach (e :: [c]) X.env = (false, eval e X.env) :: starEach [c] X.env := by rfl) (he2 : starEach [c] X.env = (false, eval c X.env) :: starEach [] X.env := by rfl) (hpl : (backTo pos (starEach [c] X.env)).any (·.1) = false := by rfl) :
    DE G X (.Call (.Name "isinstance" p) [e, c] [] pos) (wIsX1 cs we) := by
  refine de_weak (de_callB (sim_isX k cg T) call_isX hm (by decide +kernel) (da_cons h (da_cons hc da_nil he2) he) hg (by decide) (by decide) he hpl) fun δ M Q EX h => ?_
  have z : (fun d M1 => cv = cv ∧ kIsX cs Q d M1) = kIsX cs Q := by
    funext d M1
    exact propext ⟨fun h => h.2, fun h => ⟨rfl, h⟩⟩
  show we δ M (fun d M1 => cv = cv ∧ kIsX cs Q d M1) EX
  rw [z]
  exact h
end

/-! ### try -/
abbrev HdL := List (List (Nat × Bool) × Option Nat × WS)
def goneD (i : Nat) (E : ED) : ED := { nx := fun δ M => E.nx (δ.set i none) M, rt := E.rt, bk := fun δ M => E.bk (δ.set i none) M, ct := fun δ M => E.ct (δ.set i none) M }
def noXX : XK' := fun _ _ _ => False
def kTry (E : ED) (EX : XK') : HdL → XK'
  | [], xd, δ, M => EX xd δ M
  | (tb, io, ws) :: r, xd, δ, M => match xd with
    | .own c fs => match tb.lookup c with
      | some true => match io with
        | none => ws E noXX δ M
        | some i => ws (goneD i E) noXX (δ.set i (some (.exc c fs))) M
      | some false => kTry E EX r (.own c fs) δ M
      | none => False
    | .blt _ => False
def wTry (wb : WS) (hs : HdL) : WS := fun E EX δ M => wb E (kTry E EX hs) δ M
inductive HdD (G : Cfg) (X : Cx) : List ExceptHandler → HdL → Prop
  | nil : HdD G X [] []
  | cons {x : Str} {C : Addr} {tb : List (Nat × Bool)} {ws : WS} {b₀ : Stmt} {suite : List Stmt} {np pos' : Pos} {hds : List ExceptHandler} {l : HdL} (hm : X.mg x = some (.ref C)) (hT : ∀ p ∈ tb, PySem.W.exmOne X.K (.ref (G.cl p.1)) (.ref C) = some p.2)
      (hsu : ∀ (a : Addr) (pn : List (Addr × Obj)), DSs G (X.suite a pn) (b₀ :: suite) ws) (r : HdD G X hds l) (hg : Gl X x := by rfl) (hd : (x == ("__debug__" : Str)) = false := by decide) : HdD G X (.ExceptHandler (some (.Name x np)) none (b₀ :: suite) pos' :: hds) ((tb, none, ws) :: l)
  | consAs {x n : Str} {C : Addr} {tb : List (Nat × Bool)} {ws : WS} {b₀ : Stmt} {suite : List Stmt} {np pos' : Pos} {hds : List ExceptHandler} {l : HdL} (i : Nat) (hN : X.N.Nodup) (hm : X.mg x = some (.ref C)) (hT : ∀ p ∈ tb, PySem.W.exmOne X.K (.ref (G.cl p.1)) (.ref C) = some p.2)
      (hsu : ∀ (a : Addr) (pn : List (Addr × Obj)), DSs G (X.suite a pn) (b₀ :: suite) ws) (r : HdD G X hds l) (hi : X.N[i]? = some n := by rfl) (hln : X.env.kindOf n = some .local := by rfl) (hg : Gl X x := by rfl) (hd : (x == ("__debug__" : Str)) = false := by decide) : HdD G X (.ExceptHandler (some (.Name x np)) (some n) (b₀ :: suite) pos' :: hds) ((tb, some i, ws) :: l)
/-- a statement's reading, its ends and wishes told -/
def upW (G : Cfg) (K : PySem.W.Frag) (w : WS) (W : WX) : TS := fun D σ H => ∃ F M δ E EX, HM G K F M H ∧ RS G K F σ δ ∧ w E EX δ M ∧ (∀ cls d σ' H', wX G K F M H EX cls d σ' H' → W cls d σ' H') ∧
  (∀ σ' δ' F' M' H', Grow G K F M H F' M' H' → RS G K F' σ' δ' → E.nx δ' M' → D.nx σ' H') ∧
  (∀ v d F' M' H', Grow G K F M H F' M' H' → Rep G K F' v d → E.rt d M' → D.rt v H') ∧
  (∀ σ' δ' F' M' H', Grow G K F M H F' M' H' → RS G K F' σ' δ' → E.bk δ' M' → D.bk σ' H') ∧
  (∀ σ' δ' F' M' H', Grow G K F M H F' M' H' → RS G K F' σ' δ' → E.ct δ' M' → D.ct σ' H')
/-- .. that lets no exception out -/
def upNo (G : Cfg) (K : PySem.W.Frag) (w : WS) : TS := fun D σ H => ∃ F M δ E, HM G K F M H ∧ RS G K F σ δ ∧ w E noXX δ M ∧
  (∀ σ' δ' F' M' H', Grow G K F M H F' M' H' → RS G K F' σ' δ' → E.nx δ' M' → D.nx σ' H') ∧
  (∀ v d F' M' H', Grow G K F M H F' M' H' → Rep G K F' v d → E.rt d M' → D.rt v H') ∧
  (∀ σ' δ' F' M' H', Grow G K F M H F' M' H' → RS G K F' σ' δ' → E.bk δ' M' → D.bk σ' H') ∧
  (∀ σ' δ' F' M' H', Grow G K F M H F' M' H' → RS G K F' σ' δ' → E.ct δ' M' → D.ct σ' H')
section
variable {G : Cfg} {X : Cx}
theorem RS.unset {K : PySem.W.Frag} {F : Hp} {σ : St} {δ : DS} (i : Nat) (h : RS G K F σ δ) : RS G K F (σ.set i none) (δ.set i none) := by
  refine ⟨by rw [List.length_set, List.length_set]; exact h.1, fun j e q => ?_⟩
  by_cases z : i = j
  · subst z
    by_cases l : i < δ.length
    · rw [List.getElem?_set_self l] at q
      cases q
    · rw [List.getElem?_eq_none_iff.mpr (by rw [List.length_set]; omega)] at q; cases q
  · rw [List.getElem?_set_ne z] at q ⊢
    exact h.2 j e q
theorem takes_noX {Y : Cx} {F : Hp} {M : MM} {H : Hp} : Takes Y (wX G Y.K F M H noXX) := fun _ _ x => by
  obtain ⟨_, _, _, _, _, _, _, _, _, _, _, _, _, _, _, _, z⟩ := x
  obtain ⟨_, _, _, _, _, _, _, z⟩ := z
  exact z.elim
theorem dss_n {Y : Cx} {sts : List Stmt} {w : WS} (h : DSs G Y sts w) : PSs Y sts (upNo G Y.K w) := pss_imp h fun D σ H ⟨F, M, δ, E, hm, rs, h, n, r, b, c⟩ => ⟨F, M, δ, E, noXX, hm, rs, h, takes_noX, n, r, b, c⟩
theorem hdsX_of {hds : List ExceptHandler} {l : HdL} (h : HdD G X hds l) : ∃ l', HdsX X hds l' ∧ ∀ (D : Ends) (Wout : WX) (F : Hp) (M : MM) (H : Hp) (E : ED) (EX : XK'),
    (∀ cls d σ' H', wX G X.K F M H EX cls d σ' H' → Wout cls d σ' H') → (∀ σ' δ' F' M' H', Grow G X.K F M H F' M' H' → RS G X.K F' σ' δ' → E.nx δ' M' → D.nx σ' H') →
    (∀ v d F' M' H', Grow G X.K F M H F' M' H' → Rep G X.K F' v d → E.rt d M' → D.rt v H') →
    (∀ σ' δ' F' M' H', Grow G X.K F M H F' M' H' → RS G X.K F' σ' δ' → E.bk δ' M' → D.bk σ' H') →
    (∀ σ' δ' F' M' H', Grow G X.K F M H F' M' H' → RS G X.K F' σ' δ' → E.ct δ' M' → D.ct σ' H') →
    ∀ cls d σ' H', wX G X.K F M H (kTry E EX l) cls d σ' H' → wTryX X.K Wout D l' cls d σ' H' := by
  induction h with
  | nil => exact ⟨[], .nil, fun D Wout F M H E EX hw _ _ _ _ cls d σ' H' h => hw _ _ _ _ h⟩
  | @cons x C tb ws b₀ suite np pos' hds l hm hT hsu r hg hd ih =>
    obtain ⟨l', hk, ih⟩ := ih
    refine ⟨_, .cons (ts := upNo G X.K ws) ⟨hg, hd, .inl hm⟩ (fun a pn => dss_n (hsu a pn)) hk, fun D Wout F M H E EX hw hn hr hb hc cls d σ' H' h => ?_⟩
    obtain ⟨xd, δ, F', M', g, rs, rx, q⟩ := h
    match xd, rx, q with
    | .own c fs, rx, q =>
      unfold kTry at q
      dsimp only at q
      split at q
      · rename_i e
        have ex := hT _ (lookup_mem e)
        have ec := rx.1
        subst ec
        refine ⟨true, ex, fun _ a na => ?_, fun z => nomatch z⟩
        have g2 := g.hm.new (o := ExV (.ref (G.cl c)) d a) na
        have gt := g.trans g2
        refine ⟨_, M', δ, E, g2.hm, rs.mono g2.ext, q, ?_, ?_, ?_, ?_⟩
        · exact fun s2 d2 F2 M2 H2 g3 r3 q3 => hn s2 d2 F2 M2 H2 (gt.trans g3) r3 q3
        · exact fun s2 d2 F2 M2 H2 g3 r3 q3 => hr s2 d2 F2 M2 H2 (gt.trans g3) r3 q3
        · exact fun s2 d2 F2 M2 H2 g3 r3 q3 => hb s2 d2 F2 M2 H2 (gt.trans g3) r3 q3
        · exact fun s2 d2 F2 M2 H2 g3 r3 q3 => hc s2 d2 F2 M2 H2 (gt.trans g3) r3 q3
      · rename_i e
        have ex := hT _ (lookup_mem e)
        have ec := rx.1
        subst ec
        exact ⟨false, ex, fun z => (nomatch z), fun _ => ih D Wout F M H E EX hw hn hr hb hc _ _ _ _ ⟨_, δ, F', M', g, rs, rx, q⟩⟩
      · exact q.elim
    | .blt n, rx, q => exact (show False from q).elim
  | @consAs x n C tb ws b₀ suite np pos' hds l i hN hm hT hsu r hi hln hg hd ih =>
    obtain ⟨l', hk, ih⟩ := ih
    refine ⟨_, .consAs (ts := upNo G X.K ws) hN hi hln ⟨hg, hd, .inl hm⟩ (fun a pn => dss_n (hsu a pn)) hk, fun D Wout F M H E EX hw hn hr hb hc cls d σ' H' h => ?_⟩
    obtain ⟨xd, δ, F', M', g, rs, rx, q⟩ := h
    match xd, rx, q with
    | .own c fs, rx, q =>
      unfold kTry at q
      dsimp only at q
      split at q
      · rename_i e
        have ex := hT _ (lookup_mem e)
        have ec := rx.1
        subst ec
        refine ⟨true, ex, fun _ a na => ?_, fun z => nomatch z⟩
        have g2 := g.hm.new (o := ExV (.ref (G.cl c)) d a) na
        have gt := g.trans g2
        refine ⟨_, M', δ.set i (some (.exc c fs)), goneD i E, g2.hm, (rs.mono g2.ext).set i (rep_exc rx (g.hm.free na).1), q, ?_, ?_, ?_, ?_⟩
        · exact fun s2 d2 F2 M2 H2 g3 r3 q3 => hn _ _ F2 M2 H2 (gt.trans g3) (RS.unset i r3) q3
        · exact fun s2 d2 F2 M2 H2 g3 r3 q3 => hr s2 d2 F2 M2 H2 (gt.trans g3) r3 q3
        · exact fun s2 d2 F2 M2 H2 g3 r3 q3 => hb _ _ F2 M2 H2 (gt.trans g3) (RS.unset i r3) q3
        · exact fun s2 d2 F2 M2 H2 g3 r3 q3 => hc _ _ F2 M2 H2 (gt.trans g3) (RS.unset i r3) q3
      · rename_i e
        have ex := hT _ (lookup_mem e)
        have ec := rx.1
        subst ec
        exact ⟨false, ex, fun z => (nomatch z), fun _ => ih D Wout F M H E EX hw hn hr hb hc _ _ _ _ ⟨_, δ, F', M', g, rs, rx, q⟩⟩
      · exact q.elim
    | .blt n, rx, q => exact (show False from q).elim
theorem ds_try {body : List Stmt} {h₀ : ExceptHandler} {hds : List ExceptHandler} {l : HdL} {wb : WS} {pos : Pos}
    (hb : ∀ (pn : List (Addr × Obj)) (xe : Value → Shared → Prop), PassesOwn (model X.prog X.w) X.A X.env xe → DSs G (X.tr pn xe) body wb) (hh : HdD G X (h₀ :: hds) l)
    (hs : X.stack = X.env :: X.outer := by rfl) (hf : X.env.frame = some X.env.locals := by rfl) (hex : X.ex = [] := by rfl) : DSt G X (.Try body (h₀ :: hds) [] [] pos) (wTry wb l) := by
  obtain ⟨l', hk, hup⟩ := hdsX_of hh
  refine ps_imp (ps_tryX (tb := upW G X.K wb) hs hf hex (fun W pn xe tk po => ?_) hk) fun D σ H ⟨F, M, δ, E, EX, hm, rs, h, tk, n, r, b, c⟩ => ?_
  · refine pss_imp (hb pn xe po) fun D σ H ⟨F, M, δ, E, EX, hm, rs, h, hw, n, r, b, c⟩ => ?_
    exact ⟨F, M, δ, E, EX, hm, rs, h, tk.imp hw, n, r, b, c⟩
  · exact ⟨_, tk, F, M, δ, E, _, hm, rs, h, hup D _ F M H E EX (fun _ _ _ _ z => z) n r b c, n, r, b, c⟩
end
end DL

set_option Elab.async false
set_option linter.all false
set_option maxRecDepth 100000
set_option maxHeartbeats 2000000
/-! A lambda handed to a def that calls it. -/
namespace DL
open PySem PySem.Spec L2
open PyProof.Rows hiding St
open LamX (CodeO TabB inv_table among_app codeO_ne)

section
variable {G : Cfg} {K : PySem.W.Frag} {F : Hp} {M : MM} {H : Hp}
/-- a table grows by one code object -/
theorem grow_tab {P c' : Addr} {q : Str} {ps more : Array Value} (hm : HM G K F M H) (hp : (P, q) ∈ G.tabs) (hu : ∀ p ∈ G.tabs, p.1 = P → p.2 = q) (hP : H P = some (.tbl ps)) (nC : H c' = none)
    (ht : TriplesOk (ps ++ more).toList) (ha : ∀ (pos : Pos) (cv : Value), codeAmong pos (ps ++ more).toList = some cv → (∃ c, cv = .ref c ∧ F c = some (CodeO c q)) ∨ cv = .ref c') :
    Grow G K F M H (upd F c' (CodeO c' q)) M (upd (upd H P (.tbl (ps ++ more))) c' (CodeO c' q)) := by
  have fC := hm.free nC
  have nPc : P ≠ c' := fun z => by rw [z, nC] at hP; cases hP
  have s1 : Same F (upd F c' (CodeO c' q)) := fun b u e => by
    have z : b ≠ c' := fun z => by rw [z, fC.1] at e; cases e
    rw [upd_ne z]; exact e
  obtain ⟨fP, mP, _⟩ := hm.tb _ hp
  have out : ∀ b, b ≠ P → b ≠ c' → upd (upd H P (.tbl (ps ++ more))) c' (CodeO c' q) b = H b := fun b h1 h2 => by rw [upd_ne h2, upd_ne h1]
  refine ⟨⟨fun b u e => ?_, fun b m e => ?_, fun b m e => ?_, fun p hq => ?_⟩, s1, fun b u e f m => ?_, hm.tab0⟩
  · by_cases z : b = c'
    · subst z; rw [upd_same] at e ⊢; exact e
    · rw [upd_ne z] at e
      have z2 : b ≠ P := fun y => by subst y; rw [fP] at e; cases e
      rw [out b z2 z]; exact hm.sub b u e
  · have z : b ≠ c' := fun z => by subst z; rw [fC.2] at e; cases e
    rw [upd_ne z]; exact hm.dis b m e
  · have z : b ≠ c' := fun z => by subst z; rw [fC.2] at e; cases e
    have z2 : b ≠ P := fun z => by subst z; rw [mP] at e; cases e
    exact (hm.mo b m e).mono s1 (out b z2 z)
  · obtain ⟨h1, h2, h3⟩ := hm.tb p hq
    have z : p.1 ≠ c' := fun z => by rw [← z] at nC; obtain ⟨qs, y⟩ := h3.there; rw [nC] at y; cases y
    refine ⟨by rw [upd_ne z]; exact h1, h2, ?_⟩
    by_cases z2 : p.1 = P
    · refine ⟨_, by rw [z2, upd_ne nPc, upd_same], ht, fun pos cv hc => ?_⟩
      rw [hu p hq z2]
      rcases ha pos cv hc with ⟨c, e1, e2⟩ | e
      · exact ⟨c, e1, s1 _ _ e2⟩
      · exact ⟨c', e, upd_same⟩
    · exact h3.mono s1 (out _ z2 z)
  · by_cases z2 : b = P
    · refine .inl ⟨⟨_, hp, z2.symm⟩, ps ++ more, by rw [z2, upd_ne nPc, upd_same], ?_, m⟩
      rw [z2, upd_ne nPc]; exact fP
    · have z : b ≠ c' := fun z => by subst z; rw [nC] at e; cases e
      exact .inr ⟨by rw [out b z2 z]; exact e, .inl (by rw [upd_ne z]; exact f), m⟩
end

/-- the lambda's defaults: none, or one int -/
inductive LDef (env : Env) (params : Arguments) : List Str → Prop
  | none (h : defaultsOf params env = ([], [])) (hb : ∀ (q : Str) (body : Expr) (scope : Scope) (cl : List (Str × Addr)) (doc pm cv ct : Value), bindArgs (PySem.W.kdv_fn "<lambda>" q params (.expr body) scope cl .none doc pm cv ct) ⟨[], []⟩ = pure []) : LDef env params []
  | one {x : Str} {i : Int} {j : Nat} {p : Pos} (hd : params.defaults = [.Constant (.int i) j p]) (hk : params.kw_defaults = [])
      (hb : ∀ (q : Str) (body : Expr) (scope : Scope) (cl : List (Str × Addr)) (dV doc pm cv ct : Value), ∃ k : Option (Array Value) → Sem (List (Str × Value)), bindArgs (PySem.W.kdv_fn "<lambda>" q params (.expr body) scope cl dV doc pm cv ct) ⟨[], []⟩ = seqItems? dV >>= k ∧ ∀ u, k (some #[u]) = pure [(x, u)]) : LDef env params [x]
/-- what is kept of the defaults: what a call binds -/
def LBnd (H : Hp) (fr : List Addr) (s : Shared) (fd : FuncData) (xs : List Str) : Prop :=
  ∀ s1 : Shared, (∀ b o, s.heap.get? b = some o → H b = none → b ∉ fr → s1.heap.get? b = some o) → ∃ us : List Value, BindsTo s1 fd ⟨[], []⟩ (xs.zip us)
section
variable {G : Cfg} {X : Cx} {pins : List (Addr × Obj)} {σ : L2.St} {H : Hp} {s : Shared} {F : Hp} {M : MM}
/-- the lambda is made -/
theorem lam_mk {c P : Addr} {xs : List Str} {params : Arguments} {body : Expr} {scope : Scope} {pos : Pos} {E : Value → Shared → Prop} {Q : Value → Shared → Prop} (I : Inv X pins σ H s) (hm : HM G X.K F M H) (TB : TabB X.base X.mg c P) (hcode : X.env.code = .ref c)
    (ht : (P, X.env.qual ++ "<lambda>") ∈ G.tabs) (hu : ∀ p ∈ G.tabs, p.1 = P → p.2 = X.env.qual ++ "<lambda>") (hdef : LDef X.env params xs) (hfree : ∀ y ∈ scope.names, y.2 = .free → ∃ c, X.env.cells.lookup y.1 = some c)
    (h : ∀ (f c' : Addr) (dV doc pm ctv : Value) (F1 H1 : Hp) (s' : Shared), Inv X pins σ H1 s' → Grow G X.K F M H F1 M H1 → F1 c' = some (CodeO c' (X.env.qual ++ "<lambda>")) →
      s'.heap.get? f = some (PySem.W.kdv_obj "<lambda>" (X.env.qual ++ "<lambda>") params (.expr body) scope (cloFrom X.env.cells scope.names []) dV doc pm c' ctv) → H1 f = none → f ∉ frs X.stack →
      LBnd H1 (frs X.stack) s' (PySem.W.kdv_fn "<lambda>" (X.env.qual ++ "<lambda>") params (.expr body) scope (cloFrom X.env.cells scope.names []) dV doc pm (.ref c') ctv) xs → Q (.ref f) s') :
    wpAny (model X.prog X.w) X.A (eval (.Lambda params body scope pos) X.env) Q E s := by
  have nofr : ∀ (s : Shared), Inv X pins σ H s → ∀ f, s.heap.objs.size ≤ f → f ∉ frs X.stack := fun s I f hf z => by
    rcases List.mem_cons.mp (I.stkSub _ z) with e | e
    · have h1 := I.lt
      rw [← e] at h1
      exact Nat.lt_irrefl _ (Nat.lt_of_lt_of_le h1 hf)
    · exact I.nofs hf e
  obtain ⟨_, _, ps, hP, htr, hca⟩ := hm.tb _ ht
  -- from the state in which the defaults stand
  have tail : ∀ (s : Shared) (dV : Value), Inv X pins σ H s →
      (∀ (c' : Addr) (doc pm ctv : Value) (H1 : Hp) (s' : Shared), (∀ b o, s.heap.get? b = some o → b ≠ P → s'.heap.get? b = some o) → (∀ b, H1 b ≠ none → H b ≠ none ∨ s.heap.objs.size ≤ b) →
        LBnd H1 (frs X.stack) s' (PySem.W.kdv_fn "<lambda>" (X.env.qual ++ "<lambda>") params (.expr body) scope (cloFrom X.env.cells scope.names []) dV doc pm (.ref c') ctv) xs) →
      wpAny (model X.prog X.w) X.A (makeTail "<lambda>" (X.env.qual ++ "<lambda>") params (.expr body) scope X.env dV .none .none pos pos.line) Q E s := by
    intro s dV I hb
    have bP : s.heap.BuiltinsAt X.mg P := TB.bm.keeps I.bk
    have hP' : s.heap.get? P = some { cls := .none, data := .fields ps } := I.hok P _ hP
    cases hc : codeAmong pos ps.toList with
    | none =>
      refine PySem.W.kdv_makeTail (mg := X.mg) (c := c) (P := P) (ps := ps) (closure_ok hfree) I.ok.glob (I.mod.glob.keeps I.bk) hcode (TB.code.keeps I.bk) hP' htr hc TB.gP bP fun c' ctv doc h' tk hx hge hlt hrec htb => ?_
      obtain ⟨c2, oc, vs, t, e2, hoc, hd, hv⟩ := hrec
      cases e2
      have hsz : s.heap.objs.size ≤ h'.objs.size := Nat.le_trans hge (Nat.le_of_lt hlt)
      have nC : H c' = none := I.hok.fresh hge
      have I1 := inv_table (t' := tk) (more := #[rawInt pos.line, rawInt pos.col, .ref c']) (h' := h'.push (PySem.W.kdv_obj "<lambda>" (X.env.qual ++ "<lambda>") params (.expr body) scope (cloFrom X.env.cells scope.names []) dV doc ((X.mg "__name__").getD .none) c' ctv)) I hP
        (fun b o hb e => Heap.get?_push_of_some _ (hx b o hb e)) (Heap.get?_push_of_some _ htb) hge ⟨oc, vs, t, Heap.get?_push_of_some _ hoc, hd, hv⟩
      have eL : (ps ++ #[rawInt pos.line, rawInt pos.col, .ref c']).toList = ps.toList ++ [rawInt pos.line, rawInt pos.col, .ref c'] := by simp
      have g := grow_tab (more := #[rawInt pos.line, rawInt pos.col, .ref c']) hm ht hu hP nC (by rw [eL]; exact PySem.TriplesOk_snoc _ _ _ _ htr) (fun p' cv hcv => by
        rw [eL] at hcv
        rcases among_app _ htr hcv with z | z
        · exact .inl (hca p' cv z)
        · exact .inr z)
      have n1 : h'.objs.size ≠ c' := Nat.ne_of_gt hlt
      have n2 : h'.objs.size ≠ P := Nat.ne_of_gt (Nat.lt_of_lt_of_le (Heap.lt_size hP') hsz)
      refine h h'.objs.size c' dV doc ((X.mg "__name__").getD .none) ctv _ _ _ I1 g upd_same (Heap.get?_push_size _ rfl) (by rw [upd_ne n1, upd_ne n2]; exact I.hok.fresh hsz) (nofr s I _ hsz) (hb _ _ _ _ _ _ (fun b o e hb => Heap.get?_push_of_some _ (hx b o hb e)) fun b z => ?_)
      by_cases z1 : b = c'
      · exact .inr (by rw [z1]; exact hge)
      · by_cases z2 : b = P
        · exact .inl (by rw [z2, hP]; exact fun z => nomatch z)
        · exact .inl (by rw [upd_ne z1, upd_ne z2] at z; exact z)
    | some cv =>
      obtain ⟨c', e, hco⟩ := hca pos cv hc
      subst e
      refine PySem.W.kdv_makeTailHit (mg := X.mg) (c := c) (P := P) (ps := ps) (closure_ok hfree) I.ok.glob (I.mod.glob.keeps I.bk) hcode (TB.code.keeps I.bk) hP' htr hc bP fun ctv doc h' tk hx hsz => ?_
      have I1 : Inv X pins σ H { s with heap := h'.push (PySem.W.kdv_obj "<lambda>" (X.env.qual ++ "<lambda>") params (.expr body) scope (cloFrom X.env.cells scope.names []) dV doc ((X.mg "__name__").getD .none) c' ctv), toks := tk } := I.kept fun b o e => Heap.get?_push_of_some _ (hx b o e)
      exact h h'.objs.size c' dV doc ((X.mg "__name__").getD .none) ctv F H _ I1 (.refl hm) hco (Heap.get?_push_size _ rfl) (I.hok.fresh hsz) (nofr s I _ hsz) (hb _ _ _ _ _ _ (fun b o e _ => Heap.get?_push_of_some _ (hx b o e)) fun b z => .inl z)
  cases hdef with
  | none hd hb =>
    refine PySem.W.kla_eval hd ?_
    rw [makeFunction_eq]
    simp only [List.zip_nil_right, List.filterMap_nil, List.isEmpty_nil, if_true, pure_bind]
    exact tail s .none I fun c' doc pm ctv H1 s' _ _ s1 _ => ⟨[], .of_eq (hb _ _ _ _ _ _ _ _)⟩
  | @one x i j p hd hk hb =>
    refine PySem.W.kdv_lam (by rw [hd]; rfl) hk ?_
    rw [hd]
    refine PySem.W.kdv_all1 (thn ((pe_int (X := X) (i := i) (j := j) (pos := p)).run pins s σ H (fun v H' => v = .int i ∧ H' = H) I ⟨rfl, rfl⟩) fun u s1 ⟨v, H', I1, rv, ev, eH⟩ => ?_)
    subst eH
    refine PySem.W.kdv_all0 ?_
    rw [makeFunction_eq]
    simp only [List.zip_nil_right, List.filterMap_nil, List.isEmpty_nil, List.isEmpty_cons, if_true, pure_bind, Bool.false_eq_true, if_false]
    refine wpAny_bind (wpAny_newTextTuple ?_)
    have I2 : Inv X pins σ H' { s1 with heap := s1.heap.push (PySem.W.kdv_tup [u]) } := I1.kept (t' := s1.toks) fun b o e => Heap.get?_push_of_some _ e
    refine tail _ _ I2 fun c' doc pm ctv H1 s' hk' hn s2 hs2 => ?_
    obtain ⟨k, e1, e2⟩ := hb (X.env.qual ++ "<lambda>") body scope (cloFrom X.env.cells scope.names []) (.ref s1.heap.objs.size) doc pm (.ref c') ctv
    have hT : ({ s1 with heap := s1.heap.push (PySem.W.kdv_tup [u]) } : Shared).heap.get? s1.heap.objs.size = some (PySem.W.kdv_tup [u]) := Heap.get?_push_size _ rfl
    have nT : s1.heap.objs.size ≠ P := fun z => by
      have y : s1.heap.get? P = some { cls := .none, data := .fields ps } := I1.hok P _ hP
      rw [← z] at y
      exact Nat.lt_irrefl _ (Heap.lt_size y)
    have hT' := hk' _ _ hT nT
    have nH : H1 s1.heap.objs.size = none := by
      cases q : H1 s1.heap.objs.size with
      | none => rfl
      | some o =>
        rcases hn s1.heap.objs.size (by rw [q]; exact fun z => nomatch z) with z | z
        · exact absurd (I1.hok.fresh (Nat.le_refl _)) z
        · exact absurd (Heap.lt_size hT) (Nat.not_lt_of_le z)
    refine ⟨[u], ?_⟩
    exact BindsTo.of_defaults (T := s1.heap.objs.size) rfl (hs2 _ _ hT' nH (nofr s1 I1 _ (Nat.le_refl _))) rfl e1 (e2 u)
end
end DL

set_option Elab.async false
set_option linter.all false
set_option maxRecDepth 100000
set_option maxHeartbeats 2000000
namespace DL
open PySem PySem.Spec L2
open PyProof.Rows hiding St
open LamX (CodeO TabB)

/-! ### the lambda's names -/
structure LamN (N : List Str) (sc scope : Scope) (xs : List Str) : Prop where
  kind : scope.kind = .function
  co : scope.isCoroutine = false
  gen : scope.isGenerator = false
  own : ∀ y ∈ scope.names, y.2 ≠ .cell ∧ (y.2 = .local → y.1 ∉ N)
  loc : ∀ x ∈ xs, scope.names.lookup x = some .local
  free : ∀ y ∈ scope.names, y.2 = .free → sc.names.lookup y.1 = some .cell ∨ sc.names.lookup y.1 = some .free
def lamNB (N : List Str) (sc scope : Scope) (xs : List Str) : Bool :=
  decide (scope.kind = .function) && !scope.isCoroutine && !scope.isGenerator && (scope.names.all fun y => !decide (y.2 = .cell) && (!decide (y.2 = .local) || !N.contains y.1) && (!decide (y.2 = .free) || decide (sc.names.lookup y.1 = some .cell) || decide (sc.names.lookup y.1 = some .free))) && xs.all fun x => decide (scope.names.lookup x = some .local)
theorem lamN_by {N : List Str} {sc scope : Scope} {xs : List Str} (h : lamNB N sc scope xs = true) : LamN N sc scope xs := by
  unfold lamNB at h
  simp only [Bool.and_eq_true, Bool.or_eq_true, Bool.not_eq_true', decide_eq_true_eq, decide_eq_false_iff_not, List.all_eq_true] at h
  obtain ⟨⟨⟨⟨h1, h2⟩, h3⟩, h4⟩, h5⟩ := h
  refine ⟨h1, h2, h3, fun y hy => ⟨(h4 y hy).1.1, fun e hn => ?_⟩, h5, fun y hy e => ?_⟩
  · rcases (h4 y hy).1.2 with z | z
    · exact z e
    · rw [List.contains_iff_mem.mpr hn] at z; cases z
  · rcases (h4 y hy).2 with (z | z) | z
    · exact absurd e z
    · exact .inl z
    · exact .inr z
theorem LamN.has {X : Cx} {scope : Scope} {xs : List Str} (L : LamN X.N X.env.scope scope xs) (ok : X.Ok) : ∀ y ∈ scope.names, y.2 = .free → ∃ c, X.env.cells.lookup y.1 = some c := fun y hy e => by
  rcases L.free y hy e with k | k
  · exact ok.has _ (.inl k)
  · exact ok.has _ (.inr k)
section
variable {X : Cx} {pins : List (Addr × Obj)} {σ : L2.St} {H HZ : Hp} {s s1 : Shared}
theorem lam_start3 {A : Around} {outer : List Env} {E : XK} {scope : Scope} {f c' : Addr} {h₁ : Heap} {tk : Nat} {xs : List Str} {m : Str → Option Value} (I : Inv X pins σ H s) (L : LamN X.N X.env.scope scope xs) (e0 : Env0 X.prog X.w X.K X.mg X.base A outer s1 HZ) (hd : A.handled = none)
    (un : Un (frs X.stack) [] H HZ s.heap s1.heap) (hns : h₁.Ns s1.heap.objs.size m) (kp : ∀ b o, s1.heap.get? b = some o → h₁.get? b = some o) :
    Inv (LamX.lamCx X A outer s1 HZ E scope f c') [] σ HZ { s1 with heap := h₁, toks := tk } := by
  have hfree := L.has I.ok
  have cm : ∀ {y c}, (cloFrom X.env.cells scope.names []).lookup y = some c → X.env.cells.lookup y = some c := fun {y c} e => by
    rcases cloFrom_mem (PySem.mem_of_lookup e) with hm | ⟨h1, h2⟩
    · cases hm
    · obtain ⟨c1, hc⟩ := hfree _ h1 rfl
      have hc : X.env.cells.lookup y = some c1 := hc
      have e2 : c = c1 := by
        rw [h2, hc] <;> rfl
      rw [e2]
      exact hc
  have look : ∀ {y}, scope.names.lookup y = some .free → ∃ c, (cloFrom X.env.cells scope.names []).lookup y = some c := fun {y} hl => by
    have hy : (y, NameKind.free) ∈ scope.names := PySem.mem_of_lookup hl
    exact mem_lookup (cloFrom_has (cells := X.env.cells) (acc := []) hy)
  have cellK : ∀ {c : Addr} {v : Option Value}, H c = none → s.heap.IsCell c v → h₁.IsCell c v := fun {c v} n ⟨o, ho, hd⟩ => by
    obtain ⟨sl, q⟩ := un.any ho n (by simp)
    exact ⟨_, kp _ _ q, hd⟩
  have noA : ∀ b : Addr, b ∉ (LamX.lamCx X A outer s1 HZ E scope f c').ex := fun b z => absurd (show b ∈ ([] : List Addr) from z) (by simp)
  refine ⟨⟨e0.mod, L.kind, rfl, rfl, Nat.le_refl _, fun y z c e1 e2 => I.ok.inj y z c (cm e1) (cm e2), fun y hy => ?_, fun y c z _ => ?_, fun _ => hd, Around.frames_deeper e0.frames, .inr ⟨rfl, rfl⟩, fun b z => absurd z (noA b), e0.bs, e0.bsz, fun b _ _ => noA b,
      fun b z => absurd z (noA b), e0.funs, e0.frf⟩,
    rfl, e0.bare, Un.kept kp, ⟨_, hns, fun i y v e1 e2 e3 => ?_⟩, fun y c e => ?_, e0.hok.fresh (Nat.le_refl _), fun y c e => ?_, fun q hq => absurd (show q ∈ ([] : List (Addr × Obj)) ++ [] from hq) (by simp), e0.hok.kept kp, I.len⟩
  · have hy : scope.names.lookup y = some .cell ∨ scope.names.lookup y = some .free := hy
    rcases hy with hy | hy
    · exact absurd rfl (L.own _ (PySem.mem_of_lookup hy)).1
    · exact look hy
  · have z : false = true := z
    cases z
  · have e3 : Vis scope y := e3
    rcases e3 with k | k | k
    · exact absurd (List.mem_of_getElem? e1) ((L.own _ (PySem.mem_of_lookup k)).2 rfl)
    · exact absurd rfl (L.own _ (PySem.mem_of_lookup k)).1
    · obtain ⟨m, hn, hl⟩ := I.loc
      have hvis : Vis X.env.scope y := (L.free _ (PySem.mem_of_lookup k) rfl).elim (fun k => .inr (.inl k)) (fun k => .inr (.inr k))
      obtain ⟨w', r, q⟩ := hl i y v e1 e2 hvis
      obtain ⟨c2, h2⟩ := look k
      refine ⟨w', r, .inr ⟨.inr k, c2, h2, ?_⟩⟩
      have c1 := cm h2
      rcases q with ⟨k', _⟩ | ⟨_, c3, e', z⟩
      · have k' : X.env.scope.names.lookup y = some .local := k'
        rcases L.free _ (PySem.mem_of_lookup k) rfl with k2 | k2 <;> rw [show X.env.scope.names.lookup y = _ from k2] at k' <;> cases k'
      · rw [c1] at e'
        cases e'
        exact cellK (I.freeC y _ c1) z
  · obtain ⟨w', z⟩ := I.cell y c (cm e)
    exact ⟨w', cellK (I.freeC y c (cm e)) z⟩
  · obtain ⟨v, o, ho, hd⟩ := I.cell y c (cm e)
    exact un.free c o ho (I.freeC y c (cm e)) (by simp)
end

/-! ### the caller's names that the lambda reads -/
def pickD : List Nat → DS → Option (List D)
  | [], _ => some []
  | i :: is, δ => match δ[i]? with
    | some (some d) => (pickD is δ).map (d :: ·)
    | _ => none
def maskD (n : Nat) : List Nat → List D → DS
  | i :: is, d :: ds => (maskD n is ds).set i (some d)
  | _, _ => List.replicate n none
/-- what stands in the slots is -/
def AtS (σ : St) : List Nat → List V → Prop
  | [], [] => True
  | i :: is, v :: vs => σ[i]? = some (some v) ∧ AtS σ is vs
  | _, _ => False
section
variable {G : Cfg} {K : PySem.W.Frag} {F : Hp}
theorem pick_rep {σ : St} {δ : DS} (rs : RS G K F σ δ) : ∀ {is : List Nat} {ds : List D}, pickD is δ = some ds → ∃ vs, AtS σ is vs ∧ RepL G K F vs ds
  | [], _, e => by cases e; exact ⟨[], trivial, .nil⟩
  | i :: is, ds, e => by
    unfold pickD at e
    split at e
    · rename_i d e1
      cases q : pickD is δ with
      | none => rw [q] at e; cases e
      | some es =>
        rw [q] at e
        cases e
        obtain ⟨v, e2, r⟩ := rs.2 i d e1
        obtain ⟨vs, h1, h2⟩ := pick_rep rs q
        exact ⟨v :: vs, ⟨e2, h1⟩, .cons r h2⟩
    · cases e
theorem RS.empty {σ : St} : RS G K F σ (List.replicate σ.length none) := ⟨by simp, fun i d e => by
  rw [List.getElem?_replicate] at e
  split at e <;> cases e⟩
theorem RS.put {σ : St} {δ : DS} {v : V} {d : D} {i : Nat} (h : RS G K F σ δ) (e : σ[i]? = some (some v)) (r : Rep G K F v d) : RS G K F σ (δ.set i (some d)) := by
  refine ⟨by rw [List.length_set]; exact h.1, fun j e2 q => ?_⟩
  by_cases z : i = j
  · subst z
    by_cases l : i < δ.length
    · rw [List.getElem?_set_self l] at q
      cases q
      exact ⟨v, e, r⟩
    · rw [List.getElem?_eq_none_iff.mpr (by rw [List.length_set]; omega)] at q; cases q
  · rw [List.getElem?_set_ne z] at q
    exact h.2 j e2 q
theorem mask_rep {σ : St} : ∀ {is : List Nat} {vs : List V} {ds : List D}, AtS σ is vs → RepL G K F vs ds → RS G K F σ (maskD σ.length is ds)
  | [], [], _, _, .nil => RS.empty
  | i :: is, v :: vs, _, ⟨e, h⟩, .cons r t => RS.put (mask_rep h t) e r
  | [], _ :: _, _, h, _ => h.elim
  | _ :: _, [], _, h, _ => h.elim
end

/-- what a call without arguments does, by trees -/
abbrev Tk := MM → (D → MM → Prop) → (XD → MM → Prop) → Prop
/-- a(), a in the slot i -/
def wDeed (i : Nat) (v : D) (tk : Tk) : WE := fun δ M Q EX => δ[i]? = some (some v) ∧ tk M Q (fun xd M2 => EX xd δ M2)
/-- the def x calls what it gets (a): its body by what that does -/
structure OkLam (P : Program) (w : World) (K : PySem.W.Frag) (mg : Str → Option Value) (base : Heap) (G : Cfg) (k : Nat) (x a : Str) (st : Stmt) (N : List Str) (wG : D → Tk → WS) : Prop where
  S : FnScope N [a] (defScope st)
  ex : ∃ f, Gd K mg x st f [a]
  run : ∀ (f : Addr) (cdv : Value) (A : Around) (out : List Env) (s : Shared) (H : Hp) (E : XK) (v : D) (tk : Tk), Room k (A.deeper (envOfC x (defScope st) s.heap.objs.size f cdv)) →
    (∀ (pn : List (Addr × Obj)) (xe : Value → Shared → Prop) (p1 p2 : Pos), DE G ((cxOf (L2.CX P w) P w K mg base N x (defScope st) f cdv A out s H E).tr pn xe) (.Call (.Name a p1) [] [] p2) (wDeed 0 v tk)) →
    DSs G (cxOf (L2.CX P w) P w K mg base N x (defScope st) f cdv A out s H E) (defBody st) (wG v tk)
def wLam (is : List Nat) (n m : Nat) (wG : D → Tk → WS) (wb : WE) : WE := fun δ M Q EX => ∃ ds, pickD is δ = some ds ∧ ∀ f c q vs,
  spOf 1 m (wG (.fn f c q vs ds) (fun M1 Q1 EX1 => wb (maskD n is ds) M1 Q1 (fun xd _ M2 => EX1 xd M2))) [.fn f c q vs ds] M Q (fun xd M2 => EX xd δ M2)
section
variable {G : Cfg} {X : Cx} {pins : List (Addr × Obj)} {σ : L2.St} {H : Hp} {s : Shared}
/-- x(), in the def that got the lambda -/
theorem de_act {Eg : XK} {Ng : List Str} {qg : Str} {sg : Scope} {g f c' : Addr} {cdg dV doc pm ctv : Value} {params : Arguments} {body : Expr} {scope : Scope} {k i : Nat} {a : Str} {pn : List (Addr × Obj)} {xe : Value → Shared → Prop} {wb : WE} {p1 p2 : Pos} {xs : List Str} {is : List Nat} {vs : List V} {ds : List D}
    (I : Inv X pins σ H s) (L : LamN X.N X.env.scope scope xs) (hf : s.heap.get? f = some (PySem.W.kdv_obj "<lambda>" (X.env.qual ++ "<lambda>") params (.expr body) scope (cloFrom X.env.cells scope.names []) dV doc pm c' ctv)) (hfn : H f = none) (hfr : f ∉ frs X.stack)
    (hbind : LBnd H (frs X.stack) s (PySem.W.kdv_fn "<lambda>" (X.env.qual ++ "<lambda>") params (.expr body) scope (cloFrom X.env.cells scope.names []) dV doc pm (.ref c') ctv) xs)
    (hat : AtS σ is vs) (hr : Room (k + 1) (X.A.deeper (envOfC qg sg s.heap.objs.size g cdg)))
    (hbody : ∀ (A : Around) (outer : List Env) (s : Shared) (H : Hp) (E : XK), Room k (A.deeper (LamX.lamEnv X scope s.heap.objs.size f c')) → DE G (LamX.lamCx X A outer s H E scope f c') body wb)
    (hN : Ng[i]? = some a) (hv : Vis sg a) (hd : (a == ("__debug__" : Str)) = false) (hcd : (a == ("__classdict__" : Str)) = false) :
    DE G ((cxOf (L2.CX X.prog X.w) X.prog X.w X.K X.mg X.base Ng qg sg g cdg X.A X.stack s H Eg).tr pn xe) (.Call (.Name a p1) [] [] p2)
      (wDeed i (.fn f c' (X.env.qual ++ "<lambda>") vs ds) (fun M1 Q1 EX1 => wb (maskD X.N.length is ds) M1 Q1 (fun xd _ M2 => EX1 xd M2))) := by
  refine ⟨fun pinsZ sZ σZ HZ P IZ h => ?_⟩
  obtain ⟨F, M, δ, Q, EX, hm, rs, ⟨hs, ht⟩, tk, fin⟩ := h
  obtain ⟨u0, hs0, r0⟩ := rs.2 _ _ hs
  cases r0 with
  | fn hco rds =>
  refine wpAny_Call_Name_kw (thn ((pe_var (pos := p1) (i := i) hN hv hd hcd).run pinsZ sZ σZ HZ (fun v H1 => v = .ref f ∧ H1 = HZ) IZ ⟨.ref f, hs0, rfl, rfl⟩) fun u s1 ⟨v, H1, I1, r1, q1⟩ => ?_)
  obtain ⟨ev, eH⟩ := q1
  subst ev
  rw [eH] at I1
  obtain rfl : u = Value.ref f := r1
  have of1 : s1.heap.get? f = some (PySem.W.kdv_obj "<lambda>" (X.env.qual ++ "<lambda>") params (.expr body) scope (cloFrom X.env.cells scope.names []) dV doc pm c' ctv) := I1.base.keep f _ hf hfn hfr (fun z => nomatch (show f ∈ ([] : List Addr) from z))
  refine PySem.W.callWith_F0 ⟨_, _, _, _, of1⟩ ?_
  have un : Un (frs X.stack) [] H HZ s.heap s1.heap := I1.base
  obtain ⟨us, hbd⟩ := hbind s1 fun b o e n nf => I1.base.keep b o e n nf (fun z => nomatch (show b ∈ ([] : List Addr) from z))
  obtain ⟨⟨oc, fvs, t, hoc, hdc, hvc⟩, _, _⟩ := I1.hok c' _ (hm.sub _ _ hco)
  have eN : σ.length = X.N.length := I.len
  have rs0 : RS G X.K F σ (maskD X.N.length is ds) := by
    rw [← eN]
    exact mask_rep hat rds
  have rc : codeAny (model X.prog X.w) (X.A.deeper (envOfC qg sg s.heap.objs.size g cdg)) (.call (.ref f) ⟨[], []⟩) (CR (L2.CX X.prog X.w) (envOfC qg sg s.heap.objs.size g cdg :: X.stack) X.prog X.w HZ s1 P (L2.WE (wX G X.K F M HZ EX) σZ)) s1 := by
    refine PySem.W.kla_callFunE hr.depth of1 rfl L.co L.gen rfl ⟨c', oc, fvs, t, rfl, hoc, hdc, hvc⟩ ?_
    refine hbd _ _ _ _ ?_
    refine wpAny_newFunctionEnv (fun y hy => (L.own y hy).1) (fun y hy => L.loc _ (List.of_mem_zip (a := y.1) (b := y.2) hy).1) (fun h₁ hns hsb => ⟨I1.nolimit.fresh _ hsb, ?_⟩) L.kind
    show codeAny _ _ (.expr body (LamX.lamEnv X scope s1.heap.objs.size f c')) _ _
    have kp : ∀ b o, s1.heap.get? b = some o → h₁.get? b = some o := fun b o e => hsb.extBut b o (Nat.ne_of_lt (Heap.lt_size e)) (Heap.get?_push_of_some _ e)
    have J : ∀ tk', Inv (LamX.lamCx X (X.A.deeper (envOfC qg sg s.heap.objs.size g cdg)) (envOfC qg sg s.heap.objs.size g cdg :: X.stack) s1 HZ (L2.WE (wX G X.K F M HZ EX) σZ) scope f c') [] σ HZ { s1 with heap := h₁, toks := tk' } := fun tk' =>
      lam_start3 I L I1.env0 hr.hd un hns kp
    have t0 : Takes (LamX.lamCx X (X.A.deeper (envOfC qg sg s.heap.objs.size g cdg)) (envOfC qg sg s.heap.objs.size g cdg :: X.stack) s1 HZ (L2.WE (wX G X.K F M HZ EX) σZ) scope f c') (fun cls d _ H => L2.WE (wX G X.K F M HZ EX) σZ cls d H) := takes_of rfl rfl rfl rfl
    refine PySem.W.kla_codeExpr (wpAny_mono ((hbody _ _ s1 HZ _ (hr.deeper _)).run [] _ σ HZ P (J _) ?_) (fun v s' hq => ?_) fun e s' hq => hq)
    · refine ⟨F, M, _, Q, _, hm, rs0, ht, t0.imp fun cls d σ' H' ⟨xd, δ', F', M', g', _, rx, q⟩ => ?_, fin⟩
      exact ⟨xd, δ, F', M', g', rs.mono g'.ext, rx, q⟩
    · obtain ⟨w', H', J', rv, q⟩ := hq
      exact ⟨w', H', J'.os, J'.bare, J'.base, J'.hok, rv, q⟩
  refine wpAny_call (codeAny_mono rc fun r s' hq => ?_)
  match r, hq with
  | .error e, hq => exact passAt tk σZ pinsZ HZ s1 e s' I1 hq
  | .ok (.ret u), hq => exact I1.after hq
end

section
variable {G : Cfg} {X : Cx}
/-- x(lambda: body) -/
theorem de_lam {x a : Str} {st : Stmt} {Ng : List Str} {wG : D → Tk → WS} {kg kb : Nat} {c P : Addr} {params : Arguments} {body : Expr} {scope : Scope} {wb : WE} {p lpos pos : Pos} {xs : List Str} (is : List Nat)
    (o : OkLam X.prog X.w X.K X.mg X.base G kg x a st Ng wG) (hr1 : Room (kg + 1) X.A) (hr2 : Room (kb + 2) X.A) (TB : TabB X.base X.mg c P) (hcode : X.env.code = .ref c) {qq : Str} (hqq : X.env.qual = qq) (ht : (P, qq ++ "<lambda>") ∈ G.tabs) (hu : ∀ p ∈ G.tabs, p.1 = P → p.2 = qq ++ "<lambda>")
    (L : LamN X.N X.env.scope scope xs) (hdef : LDef X.env params xs)
    (hbody : ∀ (A : Around) (outer : List Env) (s : Shared) (H : Hp) (E : XK) (f c' : Addr), Room kb (A.deeper (LamX.lamEnv X scope s.heap.objs.size f c')) → DE G (LamX.lamCx X A outer s H E scope f c') body wb)
    (hg : Gl X x := by rfl) (hdb : (x == ("__debug__" : Str)) = false := by decide) (hd : (a == ("__debug__" : Str)) = false := by decide) (hcd : (a == ("__classdict__" : Str)) = false := by decide) (hNg : Ng[0]? = some a := by rfl) {n m : Nat} (hn : X.N.length = n := by rfl) (hm : Ng.length = m := by rfl) :
    DE G X (.Call (.Name x p) [.Lambda params body scope lpos] [] pos) (wLam is n m wG wb) := by
  subst hqq hn hm
  obtain ⟨g, gl, fd, F0, b⟩ := o.ex
  obtain ⟨oc, od, kV, doc, pm, an, cdv, ct, osl, efd, lk, hcd'⟩ := F0.ex
  subst efd
  refine ⟨fun pins s σ H P0 I ⟨F, M, δ, Q, EX, hm, rs, ⟨ds, hp, h⟩, tk, fin⟩ => ?_⟩
  refine wpAny_Call_Name_kw (ld_glob I hg gl ?_ hdb)
  refine PySem.W.callWith_K (h₀ := X.base) I.ok.mod.kin F0.kp ?_ (by rfl) (by rfl)
  show wpAny _ _ (spliced ((false, eval (.Lambda params body scope lpos) X.env) :: backTo pos (starEach [] X.env))) _ _ s
  refine Calls.spliced_cons (lam_mk I hm TB hcode ht hu hdef (L.has I.ok) fun f c' dV doc' pm' ctv F1 H1 s' I1 gr hco hf hfn hfr hbd => ?_)
  refine Calls.spliced_nil ⟨I1.kIn, ?_⟩
  obtain ⟨vs, hat, rds⟩ := pick_rep rs hp
  obtain ⟨l1, h⟩ := h f c' (X.env.qual ++ "<lambda>") vs
  have rv : Rep G X.K F1 (.ref f) (.fn f c' (X.env.qual ++ "<lambda>") vs ds) := .fn hco (rds.mono gr.ext)
  have rc : codeAny (model X.prog X.w) X.A (.call (.ref g) ⟨[.ref f], []⟩) (CR (L2.CX X.prog X.w) X.stack X.prog X.w H1 s' P0 (L2.WE (wX G X.K F M H EX) σ)) s' := by
    refine LamX.run_ofS (N := Ng) (ps := [a]) (us := [.ref f]) (vs := [.ref f]) lk hcd' o.S hr1 I1.env0 (b s' [.ref f] I1.kIn rfl) (.cons rfl .nil) rfl fun hr' => ?_
    refine ⟨_, o.run g cdv X.A X.stack s' H1 _ (.fn f c' (X.env.qual ++ "<lambda>") vs ds) _ hr' (fun pn xe p1 p2 => de_act (i := 0) (is := is) (wb := wb) I1 L hf hfn hfr hbd hat (hr2.deeper _) (fun A outer s H E hr3 => hbody A outer s H E f c' hr3) hNg ?_ hd hcd), ?_⟩
    · exact (o.S.par a (List.mem_singleton.mpr rfl)).elim .inl fun z => .inr (.inl z)
    · refine ⟨F1, M, _, _, _, gr.hm, rs_start (N := Ng) (vs := [.ref f]) (.cons rv .nil), h, ?_, fun σ' δ' F2 M2 H2 g2 r2 q => fin _ _ F2 M2 H2 (gr.trans g2) .non q, fun v d F2 M2 H2 g2 r2 q => fin v d F2 M2 H2 (gr.trans g2) r2 q, fun _ _ _ _ _ _ _ q => q.elim, fun _ _ _ _ _ _ _ q => q.elim⟩
      have t0 : Takes (cxOf (L2.CX X.prog X.w) X.prog X.w X.K X.mg X.base Ng x (defScope st) g cdv X.A X.stack s' H1 (L2.WE (wX G X.K F M H EX) σ)) (fun cls d _ H' => L2.WE (wX G X.K F M H EX) σ cls d H') := takes_of rfl rfl rfl rfl
      exact t0.imp fun cls d σ' H' ⟨xd, δ', F2, M2, g2, _, rx, q⟩ => ⟨xd, δ, F2, M2, gr.trans g2, rs.mono (gr.trans g2).ext, rx, q⟩
  refine wpAny_call (codeAny_mono rc fun r s2 hq => ?_)
  match r, hq with
  | .error e, hq => exact passAt tk σ pins H1 s' e s2 I1 hq
  | .ok (.ret u), hq => exact I1.after hq
end
end DL

set_option Elab.async false
set_option linter.all false
set_option maxRecDepth 100000
/-! The end of a law: one run of the top in the kernel, its facts read by a Hook. -/
namespace DH
open PySem PySem.Spec L2 DL
open PyProof.Rows hiding St

/-! what an answer names -/
def refO : Option (Option Value) → Addr
  | some (some (.ref a)) => a
  | _ => 0
def isRef (o : Option (Option Value)) : Bool := eqv o (some (some (.ref (refO o))))
where eqv (a b : Option (Option Value)) : Bool := decide (a = b)
theorem isRef_ok {o : Option (Option Value)} (h : isRef o = true) : o = some (some (.ref (refO o))) := of_decide_eq_true h
def eqO (a b : Option (Option Value)) : Bool := decide (a = b)
theorem eqO_ok {a b : Option (Option Value)} (h : eqO a b = true) : a = b := of_decide_eq_true h
def eqB (a b : Option Bool) : Bool := match a, b with
  | some true, some true => true
  | some false, some false => true
  | none, none => true
  | _, _ => false
theorem eqB_ok {a b : Option Bool} (h : eqB a b = true) : a = b := by
  cases a with
  | none => cases b with
    | none => rfl
    | some b => cases b <;> cases h
  | some a => cases b with
    | none => cases a <;> cases h
    | some b => cases a <;> cases b <;> first | rfl | cases h
def neA (a b : Addr) : Bool := !Nat.beq a b
theorem neA_ok {a b : Addr} (h : neA a b = true) : a ≠ b := by
  intro e
  subst e
  unfold neA at h
  rw [Nat.beq_refl] at h
  cases h
/-- an int -/
def tokO : Option (Option Value) → Tok
  | some (some (.int _ t)) => t
  | _ => default
def isInt (o : Option (Option Value)) (i : Int) : Bool := match o with
  | some (some (.int j _)) => decide (j = i)
  | _ => false
theorem isInt_ok {o : Option (Option Value)} {i : Int} (h : isInt o i = true) : o = some (some (.int i (tokO o))) := by
  unfold isInt at h
  split at h
  · rw [of_decide_eq_true h]
    rfl
  · cases h
/-- a truth value -/
def isBl (o : Option (Option Value)) (b : Bool) : Bool := match o with
  | some (some (.bool c)) => b == c
  | _ => false
theorem isBl_ok {o : Option (Option Value)} {b : Bool} (h : isBl o b = true) : o = some (some (.bool b)) := by
  unfold isBl at h
  split at h
  · rw [eq_of_beq h]
  · cases h
/-- a class's constant, classmethod -/
def tokC : Option PySem.W.CFound → Tok
  | some (.val (.int _ t)) => t
  | _ => default
def isCInt (o : Option PySem.W.CFound) (i : Int) : Bool := match o with
  | some (.val (.int j _)) => decide (j = i)
  | _ => false
theorem isCInt_ok {o : Option PySem.W.CFound} {i : Int} (h : isCInt o i = true) : o = some (.val (.int i (tokC o))) := by
  unfold isCInt at h
  split at h
  · rw [of_decide_eq_true h]
    rfl
  · cases h
def refG : Option PySem.W.CFound → Addr
  | some (.get _ (.ref p) _ _) => p
  | _ => 0
def isGet (o : Option PySem.W.CFound) (g : String) (C : Addr) : Bool := match o with
  | some (.get (.builtin x) (.ref _) .none (.ref c)) => decide (x = g) && Nat.beq c C
  | _ => false
theorem isGet_ok {o : Option PySem.W.CFound} {g : String} {C : Addr} (h : isGet o g C = true) : o = some (.get (.builtin g) (.ref (refG o)) .none (.ref C)) := by
  unfold isGet at h
  split at h
  · obtain ⟨h1, h2⟩ := Bool.and_eq_true_iff.mp h
    rw [of_decide_eq_true h1, Nat.eq_of_beq_eq_true h2]
    rfl
  · cases h
def hdR : Option (List Value) → Addr
  | some (.ref a :: _) => a
  | _ => 0
def tlR : Option (List Value) → List Value
  | some (_ :: r) => r
  | _ => []
def isRec : Option (List Value) → Bool
  | some (.ref _ :: _) => true
  | _ => false
theorem isRec_ok {o : Option (List Value)} (h : isRec o = true) : o = some (.ref (hdR o) :: tlR o) := by
  unfold isRec at h
  split at h
  · rfl
  · cases h
/-! objects -/
def oCls : Option Obj → Value
  | some o => o.cls
  | none => .none
def oDct : Option Obj → Option Addr
  | some o => o.dict
  | none => none
def oSlt : Option Obj → Array (Option Value)
  | some o => o.slots
  | none => #[]
def oFd : Option Obj → FuncData
  | some ⟨_, _, .func fd, _⟩ => fd
  | _ => default
def oFlds : Option Obj → Array Value
  | some ⟨_, _, .fields vs, _⟩ => vs
  | _ => #[]
def isFlds : Option Obj → Bool
  | some ⟨_, _, .fields _, _⟩ => true
  | _ => false
theorem isFlds_ok {o : Option Obj} (h : isFlds o = true) : o = some ⟨oCls o, oDct o, .fields (oFlds o), oSlt o⟩ := by
  unfold isFlds at h
  split at h
  · rfl
  · cases h
def isCell (o : Option Obj) (C : Addr) : Bool := match o with
  | some ⟨_, _, .cell (some (.ref c)), _⟩ => Nat.beq c C
  | _ => false
theorem isCell_ok {o : Option Obj} {C : Addr} (h : isCell o C = true) : o = some ⟨oCls o, oDct o, .cell (some (.ref C)), oSlt o⟩ := by
  unfold isCell at h
  split at h
  · rw [← Nat.eq_of_beq_eq_true h]
    rfl
  · cases h
def oCd (o : Option ClassData) : ClassData := match o with
  | some c => c
  | none => default
theorem oCd_ok {o : Option ClassData} (h : o.isSome = true) : o = some (oCd o) := by
  cases o with
  | none => cases h
  | some c => rfl
def vRef : Value → Addr
  | .ref a => a
  | _ => 0
def isVRef : Value → Bool
  | .ref _ => true
  | _ => false
theorem isVRef_ok {v : Value} (h : isVRef v = true) : v = .ref (vRef v) := by
  cases v <;> first | rfl | cases h
def vStr : Option Value → Str
  | some (.str x _) => x
  | _ => Str.empty
def vStrT : Option Value → Tok
  | some (.str _ t) => t
  | _ => default
def isVStr : Option Value → Bool
  | some (.str _ _) => true
  | _ => false
theorem isVStr_ok {v : Option Value} (h : isVStr v = true) : v = some (.str (vStr v) (vStrT v)) := by
  unfold isVStr at h
  split at h
  · rfl
  · cases h
def isTyp (v : Value) (n : String) : Bool := match v with
  | .type m => decide (m = n)
  | _ => false
theorem isTyp_ok {v : Value} {n : String} (h : isTyp v n = true) : v = .type n := by
  unfold isTyp at h
  split at h
  · rw [of_decide_eq_true h]
  · cases h
/-! functions -/
abbrev FnV : Type := Option (Str × Str × Arguments × FuncBody × Scope × Addr × List Str × Value × Addr)
def fnV : Option Obj → FnV
  | some ⟨_, _, .func fd, _⟩ => some (fd.name, fd.qualname, fd.params, fd.body, fd.scope, fd.globals, fd.closure.map (·.1), fd.defaults, fd.builtins)
  | _ => none
theorem fnV_ok {o : Option Obj} {n q : Str} {ps : Arguments} {b : List Stmt} {sc : Scope} {dV : Value} (h : fnV o = some (n, q, ps, .stmts b, sc, mainGlobals, [], dV, builtinsNs)) :
    o = some ⟨oCls o, oDct o, .func (PySem.W.fnOf n q ps b sc dV (oFd o).kwdefaults (oFd o).doc (oFd o).pyModule (oFd o).annotations (oFd o).code (oFd o).closureTuple), oSlt o⟩ := by
  unfold fnV at h
  split at h
  · rename_i c d fd sl
    obtain ⟨n1, n2, n3, n4, n5, n6, n7, n8, n9, n10, n11, n12, n13, n14, n15⟩ := fd
    simp only [Option.some.injEq, Prod.mk.injEq] at h
    obtain ⟨h1, h2, h3, h4, h5, h6, h7, h8, h9⟩ := h
    have h7' : n7 = [] := List.map_eq_nil_iff.mp h7
    subst h1 h2 h3 h4 h5 h6 h7' h8 h9
    rfl
  · cases h
def oCl1 (o : Option Obj) : Addr := match (oFd o).closure with
  | (_, a) :: _ => a
  | _ => 0
theorem fnVC_ok {o : Option Obj} {n q x : Str} {ps : Arguments} {b : List Stmt} {sc : Scope} {dV : Value} (h : fnV o = some (n, q, ps, .stmts b, sc, mainGlobals, [x], dV, builtinsNs)) (hc : isVRef (oFd o).code = true) :
    o = some ⟨oCls o, oDct o, .func (PySem.W.fnX n q ps b sc [(x, oCl1 o)] dV (oFd o).kwdefaults (oFd o).doc (oFd o).pyModule (oFd o).annotations (.ref (vRef (oFd o).code)) (oFd o).closureTuple), oSlt o⟩ := by
  unfold fnV at h
  split at h
  · rename_i c d fd sl
    obtain ⟨n1, n2, n3, n4, n5, n6, n7, n8, n9, n10, n11, n12, n13, n14, n15⟩ := fd
    simp only [Option.some.injEq, Prod.mk.injEq] at h
    obtain ⟨h1, h2, h3, h4, h5, h6, h7, h8, h9⟩ := h
    have hc' := isVRef_ok hc
    match n7, h7 with
    | [(y, a)], h7 =>
      have e : y = x := by simpa using h7
      subst h1 h2 h3 h4 h5 h6 e h8 h9
      have z : n13 = .ref (vRef n13) := hc'
      rw [z]
      rfl
  · cases h
theorem fnVK_ok {o : Option Obj} {n q : Str} {ps : Arguments} {b : List Stmt} {sc : Scope} {dV : Value} (h : fnV o = some (n, q, ps, .stmts b, sc, mainGlobals, [], dV, builtinsNs)) (hc : isVRef (oFd o).kwdefaults = true) :
    o = some ⟨oCls o, oDct o, .func (PySem.W.fnOf n q ps b sc dV (.ref (vRef (oFd o).kwdefaults)) (oFd o).doc (oFd o).pyModule (oFd o).annotations (oFd o).code (oFd o).closureTuple), oSlt o⟩ := by
  have z := fnV_ok h
  rw [isVRef_ok hc] at z
  exact z
/-! the Hook -/
/-- a def as the text has it -/
abbrev fv (n q : Str) (ps : Arguments) (b : List Stmt) (sc : Scope) (cl : List Str) : FnV := some (n, q, ps, .stmts b, sc, mainGlobals, cl, Value.none, builtinsNs)
abbrev Al : Type := Bool × List (List FnV)
def frA (as : List Addr) (g : Addr → Option Obj) : PySem.W.Frag := He.frG g as
def obsU (as : List Addr) (fc : PySem.W.Frag → List (List Bool)) (fn : PySem.W.Frag → List (List FnV)) (g : Addr → Option Obj) : Al := ((fc (He.frG g as)).all fun l => l.all id, fn (He.frG g as))
def hookU (as : List Addr) (fc : PySem.W.Frag → List (List Bool)) (fn : PySem.W.Frag → List (List FnV)) (vs : List (List FnV)) : PySem.W.Hook where
  α := Al
  obs := fun s => obsU as fc fn s.heap.get?
  val := fun _ => (true, vs)
  says := fun _ h => ∃ K : PySem.W.Frag, K.In h ∧ ((fc K).all fun l => l.all id) = true ∧ fn K = vs
  of := fun _ _ e => ⟨_, He.frG_in, congrArg (fun z : Al => z.1) e, congrArg (fun z : Al => z.2) e⟩
  keeps := fun _ _ _ ⟨K, hK, c⟩ k => ⟨K, PySem.W.Frag.In.keeps hK k, c⟩
theorem obsU_eq {as : List Addr} {fc : PySem.W.Frag → List (List Bool)} {fn : PySem.W.Frag → List (List FnV)} {vs : List (List FnV)} (s : PySem.W.SharedT) : obsU as fc fn (HandSHeadRun.getT s) = (hookU as fc fn vs).obs s.abs := by
  have e : HandSHeadRun.getT s = s.abs.heap.get? := funext (HandSHeadRun.getT_eq s)
  rw [e]
  rfl
theorem at_ {l : List (List Bool)} (h : (l.all fun l => l.all id) = true) (i j : Nat) {m : List Bool} {b : Bool} (e : l[i]? = some m) (e2 : m[j]? = some b) : b = true :=
  List.all_eq_true.mp (List.all_eq_true.mp h m (List.mem_of_getElem? e)) b (List.mem_of_getElem? e2)
theorem fat_ {l vs : List (List FnV)} (h : l = vs) (i j : Nat) {m m' : List FnV} {a b : FnV} (e : l[i]? = some m) (e1 : m[j]? = some a) (e2 : vs[i]? = some m') (e3 : m'[j]? = some b) : a = b := by
  rw [h, e2] at e
  have em := Option.some.inj e
  rw [← em, e3] at e1
  exact (Option.some.inj e1).symm
/-! the walk -/
theorem walkDE {l : PySem.W.OpenLaw} {n k : Nat} {gd : Bool} {q : Program} {loose : List Str} {XP : (Str → Option Value) → Heap → Prop} {YP : World → Heap → Prop} {d : DefRec} {sp : SpD} {x : Str}
    (hn : l.most = some n) (hn2 : n ≤ sizeLine) (hdf : d.params.defaults = []) (hr : Room k callerA) (hgd : callerA.guards = some [])
    (F : ∀ (w : World) (mg : Str → Option Value) (h : Heap), YP w h → h.Ns mainGlobals mg → ∃ K : PySem.W.Frag, K.In h ∧
      ∃ G : Cfg, G.tabs = [] ∧ ∀ base : Heap, K.In base → base.Ns mainGlobals mg → OkG l.prog w K mg base gd k d.name [x] (lift G K sp))
    (hsp : ∀ ns : List Int, ns.length ≤ n → sp [.frl (ns.map D.int)] (fun _ => none) (fun d _ => d = .bl true) fun _ _ => False) :
    PySem.W.WalkO q loose XP YP l.row.toRowW d [] (fun f vs => PySem.call f vs) := by
  refine Att.attach_call hn hdf fun w s₀ s₁ mg mb fa o pm cd doc a vs ns E Y ho hd hcd hmg hobj hints hlen hg => ?_
  obtain ⟨K, KX, G, hT, hF⟩ := F w mg _ Y E.T.g
  have rv := vals_ints hints
  have lenV := hints.length
  have hl := Nat.le_trans hlen hn2
  cases hk : K.lookup a with
  | some o =>
    have e := KX a o hk
    rw [hobj] at e
    cases e
    exact law_at KX E.T.g E.T.b E.T.builtins E.T.nolimit hg hobj hr hgd hF hmg hT (hsp ns hlen) (H := fun _ => none) (.inr ⟨_, vs.toArray, _, hk, rfl, rfl, rfl, by rw [List.size_toArray, lenV]; exact hl, by simpa using rv⟩) (fun b u z => nomatch (show (none : Option HO) = some u from z)) (fun b z => absurd rfl z)
  | none =>
    refine law_at KX E.T.g E.T.b E.T.builtins E.T.nolimit hg hobj hr hgd hF hmg hT (hsp ns hlen) (H := fun b => if b = a then some (.frz { cls := .type "list", data := .seq vs.toArray } (.lst (ns.map V.int))) else none) (.inl (.inr ⟨{ cls := .type "list", data := .seq vs.toArray }, if_pos rfl⟩)) (fun b u z => ?_) (fun b z => ?_)
    · by_cases hb : b = a
      · have z' := (if_pos hb).symm.trans z
        cases z'
        subst hb
        exact ⟨hobj, by rw [List.length_map]; exact hl, vs, _, rv, hobj⟩
      · have z' := (if_neg hb).symm.trans z
        cases z'
    · by_cases hb : b = a
      · exact ⟨hb, hk, _, _, if_pos hb⟩
      · exact absurd (if_neg hb) z
def eqT (a b : Option Value) : Bool := decide (a = b)
theorem eqT_ok {a b : Option Value} (h : eqT a b = true) : a = b := of_decide_eq_true h
theorem none_ok {α : Type} {o : Option α} (h : o.isNone = true) : o = none := by
  cases o with
  | none => rfl
  | some a => cases h
/-! ### the Hook with tables -/
def isTab : Option Obj → Bool
  | some ⟨.none, none, .fields vs, sl⟩ => vs.isEmpty && sl.isEmpty
  | _ => false
theorem isTab_ok {o : Option Obj} (h : isTab o = true) : o = some { cls := .none, data := .fields #[] } := by
  unfold isTab at h
  split at h
  · rename_i vs sl
    simp only [Bool.and_eq_true, Array.isEmpty_iff] at h
    obtain ⟨rfl, rfl⟩ := h
    rfl
  · cases h
def obsT (as ts : List Addr) (fc : PySem.W.Frag → List (List Bool)) (fn : PySem.W.Frag → List (List FnV)) (g : Addr → Option Obj) : Al :=
  (((fc (He.frG g as)).all fun l => l.all id) && ts.all (fun p => isTab ((He.frG g ts).lookup p)), fn (He.frG g as))
def hookT (as ts : List Addr) (fc : PySem.W.Frag → List (List Bool)) (fn : PySem.W.Frag → List (List FnV)) (vs : List (List FnV)) : PySem.W.Hook where
  α := Al
  obs := fun s => obsT as ts fc fn s.heap.get?
  val := fun _ => (true, vs)
  says := fun _ h => ∃ K K2 : PySem.W.Frag, K.In h ∧ K2.In h ∧ (((fc K).all fun l => l.all id) && ts.all (fun p => isTab (K2.lookup p))) = true ∧ fn K = vs
  of := fun _ _ e => ⟨_, _, He.frG_in, He.frG_in, congrArg (fun z : Al => z.1) e, congrArg (fun z : Al => z.2) e⟩
  keeps := fun _ _ _ ⟨K, K2, hK, hK2, c⟩ k => ⟨K, K2, PySem.W.Frag.In.keeps hK k, PySem.W.Frag.In.keeps hK2 k, c⟩
theorem obsT_eq {as ts : List Addr} {fc : PySem.W.Frag → List (List Bool)} {fn : PySem.W.Frag → List (List FnV)} {vs : List (List FnV)} (s : PySem.W.SharedT) : obsT as ts fc fn (HandSHeadRun.getT s) = (hookT as ts fc fn vs).obs s.abs := by
  have e : HandSHeadRun.getT s = s.abs.heap.get? := funext (HandSHeadRun.getT_eq s)
  rw [e]
  rfl
end DH

set_option Elab.async false
set_option linter.all false
set_option maxRecDepth 100000
set_option maxHeartbeats 2000000
namespace DL
open PySem PySem.Spec L2
open PyProof.Rows hiding St
open LamX (CodeO TabB)

/-! ### a def with lambdas: its code object is told -/
structure GdL (K : PySem.W.Frag) (mg : Str → Option Value) (x : Str) (st : Stmt) (f : Addr) (ps : List Str) (c : Addr) : Prop where
  gl : mg x = some (.ref f)
  ex : ∃ fd, Fun K x x st f fd ∧ Binds K fd ps [] ∧ fd.code = .ref c
theorem fn_gL {P : Program} {w : World} {K : PySem.W.Frag} {mg : Str → Option Value} {base : Heap} {gd : Bool} {x qual : Str} {st : Stmt} {f c : Addr} {fd : FuncData} {N ps : List Str} {k : Nat} {sp : Sp} (F : Fun K x qual st f fd) (hc : fd.code = .ref c) (S : FnScope N ps (defScope st)) (len : ∀ vs H Q E, sp vs H Q E → vs.length = ps.length)
    (hb : ∀ (A : Around) (out : List Env) (s : Shared) (H : Hp) (vs : List V) (Q : VK) (E : XK), Room k (A.deeper (envOfC qual (defScope st) s.heap.objs.size f (.ref c))) → (gd = true → A.guards = some []) → sp vs H Q E →
      ∃ t, PSs (cxOf (L2.CX P w) P w K mg base N qual (defScope st) f (.ref c) A out s H E) (defBody st) t ∧ t { nx := fun _ H' => Q .non H', rt := Q } (L2.start N vs) H) : FnG P w K mg base gd (k + 1) f fd ps sp := by
  obtain ⟨oc, od, kV, doc, pm, an, cdv, ct, osl, efd, lk, hcd⟩ := F.ex
  rw [efd] at lk
  subst efd
  have ec : cdv = .ref c := hc
  subst ec
  refine ⟨len, fun A out s H args us vs Q E hr hg e0 hbi rv hsp => ?_⟩
  have hl := len _ _ _ _ hsp
  have inK : K.In s.heap := e0.mod.kin.keeps (fun b o z => (e0.bs b o z).left)
  have nolim : s.heap.NoLimit := e0.mod.nolimit.keeps (fun b o z => (e0.bs b o z).left)
  have kinds : ∀ y ∈ ps.zip us, (defScope st).names.lookup y.1 = some .local ∨ ((defScope st).names.lookup y.1 = some .cell ∧ ((cellsFrom (s.heap.objs.size + 1) (defScope st).names []).lookup y.1).isSome = true) := by
    intro y hy
    cases S.par y.1 (List.of_mem_zip (a := y.1) (b := y.2) hy).1 with
    | inl z => exact Or.inl z
    | inr z => exact Or.inr ⟨z, PySem.W.cellsFrom_some _ _ _ (Or.inl z)⟩
  refine codeAny_call_function hr.depth (inK _ _ lk) rfl S.co S.gen rfl (PySem.W.codeRec_of inK hcd) (hbi _ _ _ _ ?_)
  refine wpAny_newFunctionEnv_cells S.kind kinds (fun env heq s1 ic => ?_)
  subst heq
  refine ⟨nolim.keeps ic.toInCall.keep, codeAny_func ?_⟩
  obtain ⟨t, ht, hq⟩ := hb A out s H vs Q E (hr.deeper _) hg hsp
  refine wpAny_mono (ht.run [] s1 (L2.start N vs) H _ (inv_start S hr.hd e0 hl rv ic) hq) (fun fl s' hs => ?_) (fun _ _ hs => hs)
  cases fl with
  | ret u =>
    obtain ⟨v, σ', H', J, r1, q⟩ := hs
    exact ce_of rfl rfl rfl rfl rfl rfl J r1 q
  | next =>
    obtain ⟨σ', H', J, q⟩ := hs
    exact ce_of (v := V.non) (u := Value.none) rfl rfl rfl rfl rfl rfl J rfl q
  | brk => exact hs.elim fun _ z => z.elim fun _ z => z.2.elim
  | cont => exact hs.elim fun _ z => z.elim fun _ z => z.2.elim
theorem okGL {G : Cfg} {P : Program} {w : World} {K : PySem.W.Frag} {mg : Str → Option Value} {base : Heap} {gd : Bool} {x : Str} {st : Stmt} {f c : Addr} {N ps : List Str} {k : Nat} {wb : WS} (g : GdL K mg x st f ps c) (S : FnScope N ps (defScope st))
    (hb : ∀ (A : Around) (out : List Env) (s : Shared) (H : Hp) (E : XK), Room k (A.deeper (envOfC x (defScope st) s.heap.objs.size f (.ref c))) → (gd = true → (A.deeper (envOfC x (defScope st) s.heap.objs.size f (.ref c))).guards = some []) → DSs G (cxOf (L2.CX P w) P w K mg base N x (defScope st) f (.ref c) A out s H E) (defBody st) wb) :
    OkG P w K mg base gd (k + 1) x ps (lift G K (spOf ps.length N.length wb)) := by
  obtain ⟨gl, fd, F, b, hc⟩ := g
  refine ⟨f, fd, gl, F.kp, b, fn_gL F hc S (fun vs H Q E h => ?_) (fun A out s H vs Q E hr hg h => ⟨_, hb A out s H E hr (fun z => guards_deeper (hg z)), ?_⟩)⟩
  · obtain ⟨F', M, ds, Q', EX, hm, r, ⟨h1, _⟩, _⟩ := h
    rw [r.len]; exact h1
  · obtain ⟨F', M, ds, Q', EX, hm, r, ⟨h1, h2⟩, fin, hx⟩ := h
    refine ⟨F', M, _, _, _, hm, rs_start r, h2, ?_, fun σ' δ' F1 M1 H1 g1 r1 q => fin _ _ F1 M1 H1 g1 .non q, fun v d F1 M1 H1 g1 r1 q => fin v d F1 M1 H1 g1 r1 q, fun _ _ _ _ _ _ _ q => q.elim, fun _ _ _ _ _ _ _ q => q.elim⟩
    have t : Takes (cxOf (L2.CX P w) P w K mg base N x (defScope st) f (.ref c) A out s H E) (fun cls d _ H => E cls d H) := takes_of rfl rfl rfl rfl
    exact t.imp fun c d σ' H' ⟨xd, δ', F1, M1, g1, r1, rx, q⟩ => hx c d xd F1 M1 H' g1 rx q
theorem tabs_uniq {l : List (Addr × Str)} (nd : (l.map (·.1)).Nodup) {P : Addr} {q : Str} (h : (P, q) ∈ l) : ∀ p ∈ l, p.1 = P → p.2 = q := by
  induction l with
  | nil => cases h
  | cons a l ih =>
    intro p hp e
    rw [List.map_cons, List.nodup_cons] at nd
    rcases List.mem_cons.mp h with h2 | h2
    · subst h2
      rcases List.mem_cons.mp hp with hp2 | hp2
      · rw [hp2]
      · exact absurd (List.mem_map.mpr ⟨p, hp2, e⟩) nd.1
    · rcases List.mem_cons.mp hp with hp2 | hp2
      · rw [hp2] at e
        exact absurd (show a.1 ∈ l.map (·.1) from List.mem_map.mpr ⟨(P, q), h2, e.symm⟩) nd.1
      · exact ih nd.2 h2 p hp2 e

/-! ### C.m(k = v), a classmethod by keywords -/
structure OkCmK (P : Program) (w : World) (K : PySem.W.Frag) (mg : Str → Option Value) (base : Heap) (gd : Bool) (k : Nat) (C : Addr) (m qual : Str) (st : Stmt) (ps : List Str) (sp : Sp) : Prop where
  ex : ∃ p f fd, ClX.CRead K C (.type "type") ∧ ClX.CMet K C (.type "type") m p f ∧ Fun K m qual st f fd ∧ Binds K fd ps [] ∧ FnG P w K mg base gd k f fd ps sp
section
variable {G : Cfg} {X : Cx} {P : Program} {w : World} {K : PySem.W.Frag} {mg : Str → Option Value} {base : Heap} {gd : Bool} {C : Addr} {c k n : Nat} {m qual x : Str} {st : Stmt} {N ps ks : List Str} {wb : WS} {sp : SpD} {sp' : Sp} {p pos apos : Pos} {kwl : List Keyword} {wk : WA}
theorem okCmK (g : GCm K C m qual st ps) (S : FnScope N ps (defScope st))
    (hb : ∀ (f : Addr) (cdv : Value) (A : Around) (out : List Env) (s : Shared) (H : Hp) (E : XK), Room k (A.deeper (envOfC qual (defScope st) s.heap.objs.size f cdv)) → (gd = true → (A.deeper (envOfC qual (defScope st) s.heap.objs.size f cdv)).guards = some []) → DSs G (cxOf (L2.CX P w) P w K mg base N qual (defScope st) f cdv A out s H E) (defBody st) wb) :
    OkCmK P w K mg base gd (k + 1) C m qual st ps (lift G K (spOf ps.length N.length wb)) := by
  obtain ⟨p, f, fd, h1, h2, F, b⟩ := g
  exact ⟨p, f, fd, h1, h2, F, b, okD F S (hb f)⟩
theorem OkCmK.byPos (o : OkCmK P w K mg base gd k C m qual st ps sp') : OkCm P w K mg base gd k C m sp' := by
  obtain ⟨p, f, fd, h1, h2, F, b, Fn⟩ := o.ex
  exact ⟨p, f, h1, h2, Fn.pos b⟩
def wCmK (c : Nat) (sp : SpD) (wk : WA) : WE := fun δ M Q EX => wk δ M (fun ds M1 => sp (.cls c :: ds) M1 Q (fun xd M2 => EX xd δ M2)) EX
theorem de_cmK {pl : Sem Bool} (o : OkCmK X.prog X.w X.K X.mg X.base gd k (G.cl c) m qual st ps (lift G X.K sp)) (hr : Room k X.A) (hgd : gd = true → X.A.guards = some []) (hm : X.mg x = some (.ref (G.cl c)))
    (hch : ∀ (kV doc pm : Value) (an : Option Addr) (cdv ct : Value) (us ws : List Value), us.length = 1 → ws.length = ks.length → bindArgs (PySem.W.fnOf m qual (defArgs st) (defBody st) (defScope st) .none kV doc pm an cdv ct) ⟨us, ks.zip ws⟩ = pure (ps.zip (us ++ ws)))
    (hkw : DK G X kwl wk) (hl : ps.length = ks.length + 1 := by rfl) (hg : Gl X x := by rfl) (hdb : (x == ("__debug__" : Str)) = false := by decide)
    (hall : (backToKw pos (keywordEach kwl X.env)).all (·.1.isSome) = true := by rfl) (hks : (backToKw pos (keywordEach kwl X.env)).filterMap (·.1) = ks := by rfl)
    (hpl : ((backTo pos (starEach [] X.env)).any (·.1) || (backToKw pos (keywordEach kwl X.env)).any (·.1.isNone)) = false := by rfl)
    (hv : eval (.Call (.Attribute (.Name x p) m apos) [] kwl pos) X.env = (do
      let ov ← eval (.Name x p) X.env
      standAt apos.atName
      let (f, first) ← holding [ov] (getMethod ov m pl)
      callWith pos f first (backTo pos (starEach [] X.env)) (backToKw pos (keywordEach kwl X.env))) := by rfl) :
    DE G X (.Call (.Attribute (.Name x p) m apos) [] kwl pos) (wCmK c sp wk) := by
  refine ⟨fun pins s σ H Q I ⟨F1, M1, δ, Q', EX, hm1, rs, h, tk, fin⟩ => ?_⟩
  obtain ⟨q, f, fd, rd, cm, Fu, b, F⟩ := o.ex
  refine PySem.W.methodCall_KW (pl := pl) (ld_glob I hg hm ?_ hdb) hv
  refine ClX.getmethcm_ok I rd cm fun s2 I2 => ?_
  have base := ClX.base_none I (Nat.le_refl _)
  have hq := ClX.pin_at I2
  refine PySem.W.callWith_of hpl (PySem.W.keeps_M (K := X.K) (self := .ref (G.cl c)) cm.fi) (evalArgs_kw2_nil hall (thn (dk_run hkw pos I2 hm1 rs h tk) fun ws s3 ⟨zs, H2, I3, r, ds, F2, M2, g, rl, q2⟩ => ⟨⟨ClX.pin_at I3, I3.kIn⟩, ?_⟩))
  rw [hks]
  have rl3 : RepL G X.K F2 (V.ref (G.cl c) :: zs) (.cls c :: ds) := .cons (.cls c) rl
  have f2 : Fin G X.K F2 M2 H2 Q' Q := fun v d F4 M4 H4 g4 r4 q4 => fin v d F4 M4 H4 (g.trans g4) r4 q4
  have hl' := lift_at (P := Q) g.hm (rs.mono g.ext) rl3 q2 f2
  have r2 : Vals (V.ref (G.cl c) :: zs) (Value.ref (G.cl c) :: ws) := .cons rfl r
  have hn := F.len _ _ _ _ hl'
  have nw : ws.length = ks.length := by
    have e := r2.length
    rw [hn, List.length_cons] at e
    omega
  obtain ⟨oc, od, kV, doc, pm, an, cdv, ct, osl, efd, lk, hcd⟩ := Fu.ex
  subst efd
  have z0 : codeAny (model X.prog X.w) X.A (.call (.ref f) ⟨[Value.ref (G.cl c)], ks.zip ws⟩) (fun r s' => match r with | .ok (.ret v) => EP X ((s.heap.objs.size, PySem.W.methodObj (.ref f) (.ref (G.cl c))) :: pins) σ Q v s' | .ok _ => False | .error e => X.xe e s') s3 := by
    refine codeAny_mono (F.run X.A X.stack s3 H2 ⟨[Value.ref (G.cl c)], ks.zip ws⟩ (Value.ref (G.cl c) :: ws) _ Q _ hr hgd I3.env0 (.of_eq (hch _ _ _ _ _ _ [.ref (G.cl c)] ws rfl nw)) r2 hl') (fun res s' hq => ?_)
    match res, hq with
    | .error z, hq => exact passAt (tk.imp (wX_mono g)) σ _ H2 s3 z s' I3 hq
    | .ok (.ret u), hq => exact I3.after hq
  have z := PySem.W.method_call (pos := []) (ClX.pin_at I3) z0
  refine thn (Q := EP X ((s.heap.objs.size, PySem.W.methodObj (.ref f) (.ref (G.cl c))) :: pins) σ Q) (wpAny_call (codeAny_mono z fun res s' hq => ?_)) fun _ _ y => ClX.unpinE y
  match res, hq with
  | .error z, hq => exact hq
  | .ok (.ret u), hq => exact hq
end

/-! ### the law's own call, tables of code objects beside -/
section
variable {G : Cfg} {P : Program} {w : World} {K : PySem.W.Frag} {mg mb : Str → Option Value} {gd : Bool} {k : Nat} {fa a : Addr} {nm x : Str} {sp : SpD} {s₁ : Shared} {vs : List Value} {ns : List Int} {cs : List (Addr × Addr)}
theorem law_atT (KX : K.In s₁.heap) (hns : s₁.heap.Ns mainGlobals mg) (hb : s₁.heap.Ns builtinsNs mb) (hbb : ∀ x : Str, x ≠ "__name__" → mb x = bootBuiltins x) (hlim : s₁.heap.NoLimit) (hg : s₁.gens = #[])
    (hT : ∀ p ∈ cs, s₁.heap.get? p.2 = some { cls := .none, data := .fields #[] }) (nT : ∀ p ∈ cs, K.lookup p.2 = none) (C : ∀ p ∈ cs, PySem.W.CodeHd s₁.heap p.1 p.2)
    (hbm : ∃ (bm : Addr) (ob : Obj), mg "__builtins__" = some (.ref bm) ∧ bm ≠ builtinsNs ∧ s₁.heap.get? bm = some ob ∧ ob.cls = .type "module" ∧ ob.dict = some builtinsNs ∧ ob.data = .plain)
    (ha : s₁.heap.get? a = some { cls := .type "list", data := .seq vs.toArray }) (hi : IntsAre vs ns) (hl : ns.length ≤ sizeLine) (hr : Room k callerA) (hgd : callerA.guards = some [])
    (F : ∀ base : Heap, K.In base → base.Ns mainGlobals mg → (∀ p ∈ cs, TabB base mg p.1 p.2) → OkG P w K mg base gd k nm [x] (lift G K sp)) (hmg : mg nm = some (.ref fa)) (hGT : ∀ p ∈ G.tabs, p.1 ∈ cs.map (·.2))
    (hsp : sp [.frl (ns.map D.int)] (fun _ => none) (fun d _ => d = .bl true) fun _ _ => False) :
    codeAny (model P w) callerA (.call (.ref fa) ⟨[.ref a], []⟩) (fun r s' => r = .ok (.ret (.bool true)) ∧ OldK s₁.heap s'.heap ∧ s'.os = s₁.os ∧ AllBare s'.gens) s₁ := by
  have rv := vals_ints hi
  have lenV := hi.length
  have isT : ∀ b : Addr, b ∈ cs.map (·.2) → s₁.heap.get? b = some { cls := .none, data := .fields #[] } := fun b hb => by
    obtain ⟨p, hp, e⟩ := List.mem_map.mp hb
    rw [← e]
    exact hT p hp
  have aT : a ∉ cs.map (·.2) := fun z => by
    have q := isT a z
    rw [ha] at q
    have z' : Data.seq vs.toArray _ = Data.fields #[] := congrArg Obj.data (Option.some.inj q)
    cases z'
  have memT : ∀ p ∈ cs, p.2 ∈ cs.map (·.2) := fun p hp => List.mem_map.mpr ⟨p, hp, rfl⟩
  have core : ∀ H : Hp, (∀ p ∈ cs, H p.2 = some (.tbl #[])) → (∀ b, H b = none ∨ b ∈ cs.map (·.2) ∨ ∃ o xs, H b = some (.frz o (.lst xs))) → SqL K H a (ns.map V.int) → HOk P w H s₁.heap → (∀ b, H b ≠ none → b = a ∨ b ∈ cs.map (·.2)) → (H a ≠ none → K.lookup a = none) →
      codeAny (model P w) callerA (.call (.ref fa) ⟨[.ref a], []⟩) (fun r s' => r = .ok (.ret (.bool true)) ∧ OldK s₁.heap s'.heap ∧ s'.os = s₁.os ∧ AllBare s'.gens) s₁ := by
    intro H hH hO hS hok hA hK
    have base_of : ∀ {b : Addr} {o : Obj}, s₁.heap.get? b = some o → H b = none → (hidT s₁.heap H).get? b = some o := fun e n => hidT_get e n
    have noD : ∀ {b : Addr} {o : Obj}, s₁.heap.get? b = some o → (∀ vs n, o.data ≠ .seq vs n) → o.data ≠ .fields #[] → H b = none := fun {b o} e h1 h2 => by
      cases q : H b with
      | none => rfl
      | some u =>
        rcases hA b (by rw [q]; simp) with e' | e'
        · rw [e', ha] at e
          cases e
          exact (h1 _ _ rfl).elim
        · rw [isT b e'] at e
          cases e
          exact (h2 rfl).elim
    have noA : ∀ {b : Addr} {o : Obj} {es : Array DictEntry} {ep : Nat}, s₁.heap.get? b = some o → o.data = .dict es ep → H b = none := fun {b o es ep} e d => by
      refine noD e (fun vs n z => ?_) fun z => ?_
      · rw [d] at z
        cases z
      · rw [d] at z
        cases z
    have nsK : ∀ {b : Addr} {m : Str → Option Value}, s₁.heap.Ns b m → (hidT s₁.heap H).Ns b m := fun {b m} ⟨o, es, ep, e, d, r⟩ => ⟨o, es, ep, base_of e (noA e d), d, r⟩
    have hKb : K.In (hidT s₁.heap H) := fun b o e => base_of (KX b o e) (by
      cases q : H b with
      | none => rfl
      | some u =>
        rcases hA b (by rw [q]; simp) with e' | e'
        · rw [e'] at e q
          rw [hK (by rw [q]; simp)] at e
          cases e
        · obtain ⟨p, hp, ep⟩ := List.mem_map.mp e'
          rw [← ep, nT p hp] at e
          cases e)
    have hM : L2.Mod K mg (hidT s₁.heap H) := ⟨hKb, nsK hns, ⟨mb, nsK hb, hbb⟩, let ⟨mc, h1, h2⟩ := hlim; ⟨mc, nsK h1, h2⟩⟩
    have TB : ∀ p ∈ cs, TabB (hidT s₁.heap H) mg p.1 p.2 := fun p hp => by
      have hTp := hT p hp
      refine ⟨?_, ?_, fun z => ?_⟩
      · obtain ⟨o, us, file, tf, flags, tg, inF, text, tt, e1, r1, r2, r3, r4, r5, r6, r7, r8, hne⟩ := C p hp
        refine ⟨o, us, file, tf, flags, tg, inF, text, tt, base_of e1 (noD e1 (fun vs n z => ?_) fun z => ?_), r1, r2, r3, r4, r5, r6, r7, r8, hne⟩
        · rw [r2] at z
          cases z
        · rw [r2] at z
          cases z
          simp at r3
      · obtain ⟨bm, ob, b1, b2, b3, b4, b5, b6⟩ := hbm
        have nG : bm ≠ mainGlobals := fun q => by
          obtain ⟨o, es, ep, e, hd, _⟩ := hns
          rw [q, e] at b3
          cases b3
          rw [hd] at b6
          cases b6
        have nP : bm ≠ p.2 := fun q => by
          rw [q, hTp] at b3
          cases b3
          cases b6
        refine ⟨bm, ob, b1, b2, nG, nP, base_of b3 (noD b3 (fun vs n z => ?_) fun z => ?_), b4, b5, b6⟩
        · rw [b6] at z
          cases z
        · rw [b6] at z
          cases z
      · obtain ⟨o, es, ep, e, hd, _⟩ := hns
        rw [z, hTp] at e
        cases e
        cases hd
    have e0 : Env0 P w K mg (hidT s₁.heap H) callerA [] s₁ H := ⟨rfl, hM, fun b o e => of_hidT e, Nat.le_of_eq (hidT_size _ _), trivial, fun b hb => absurd (show b ∈ ([] : List Addr) from hb) (by simp), hok, .of_eq hg⟩
    -- what is claimed: the script alone
    have hm0 : HM G K (fun b => if b = a then H b else none) (fun _ => none) H := by
      refine ⟨fun b o e => ?_, fun b m e => (nomatch e), fun b m e => (nomatch e), fun p hp => ?_⟩
      · by_cases z : b = a
        · rw [if_pos z] at e; exact e
        · rw [if_neg z] at e; cases e
      · have hb := hGT p hp
        obtain ⟨q, hq, eq⟩ := List.mem_map.mp hb
        refine ⟨if_neg (fun z => aT (by rw [← z]; exact hb)), rfl, #[], by rw [← eq]; exact hH q hq, True.intro, fun pos cv z => ?_⟩
        have z' : codeAmong pos [] = some cv := z
        simp [codeAmong] at z'
    have hSF : SqL K (fun b => if b = a then H b else none) a (ns.map V.int) := by
      rcases hS with (z | ⟨o, z⟩) | z
      · exact .inl (.inl ((if_pos rfl).trans z))
      · exact .inl (.inr ⟨o, (if_pos rfl).trans z⟩)
      · exact .inr z
    have hl' : lift G K sp [.ref a] H (fun v _ => v = .bl true) (fun _ _ _ => False) :=
      ⟨_, fun _ => none, [.frl (ns.map D.int)], _, _, hm0, .cons (.frl hSF (rep_ints ns)) .nil, hsp, fun v d F' M' H' g r q => by subst q; cases r; rfl, fun cls dop xd F' M' H' g rx q => q⟩
    obtain ⟨f, fd, hf, _, hbd, Fn⟩ := F _ hKb (nsK hns) TB
    have ef : f = fa := by
      have z := hf.symm.trans hmg
      injection z with z
      injection z
    subst ef
    refine codeAny_mono (Fn.run callerA [] s₁ H ⟨[.ref a], []⟩ [.ref a] [.ref a] _ _ hr (fun _ => hgd) e0 (hbd s₁ [.ref a] KX rfl) (.cons rfl .nil) hl') fun r s' h => ?_
    match r, h with
    | .error e, h => exact (not_cx h).elim
    | .ok (.ret u), h =>
      obtain ⟨v, H', os, bare, un, hok', r', q⟩ := h
      have q' : v = .bl true := q
      subst q'
      obtain rfl : u = Value.bool true := r'
      have key : ∀ b o, b ∉ cs.map (·.2) → s₁.heap.get? b = some o → s'.heap.get? b = some o := fun b o nb e => by
        cases q : H b with
        | none => exact un.keep b o e q (by intro z; exact absurd (show b ∈ ([] : List Addr) from z) (by simp)) (by simp)
        | some u =>
          rcases hO b with z | z | ⟨ob, xs, z⟩
          · rw [q] at z; cases z
          · exact absurd z nb
          · have z2 := un.frzs b ob _ z
            obtain ⟨e1, _⟩ := hok b _ z
            obtain ⟨e2, _⟩ := hok' b _ z2
            rw [e] at e1; cases e1
            exact e2
      have grown : ∀ p ∈ cs, ∃ more : Array Value, s'.heap.get? p.2 = some { cls := .none, data := .fields more } := fun p hp => by
        obtain ⟨more, z⟩ := un.tbls p.2 #[] (hH p hp)
        exact ⟨_, hok' p.2 _ z⟩
      refine ⟨rfl, ⟨fun b o e => ?_, fun b o e => ?_⟩, os, bare⟩
      · by_cases hb : b ∈ cs.map (·.2)
        · obtain ⟨p, hp, ep⟩ := List.mem_map.mp hb
          obtain ⟨more, hm⟩ := grown p hp
          rw [← ep] at e ⊢
          rw [hT p hp] at e
          cases e
          exact .inr (.inl ⟨((C p hp).tab (hT p hp)).isCodeTable, rfl, #[], more, rfl, by rw [Array.empty_append]; exact hm⟩)
        · exact .inl (key b o hb e)
      · by_cases hb : b ∈ cs.map (·.2)
        · obtain ⟨p, hp, ep⟩ := List.mem_map.mp hb
          obtain ⟨more, hm⟩ := grown p hp
          rw [← ep]
          exact ⟨_, hm⟩
        · exact ⟨o, key b o hb e⟩
  cases hk : K.lookup a with
  | some o =>
    have e := KX a o hk
    rw [ha] at e
    cases e
    refine core (fun b => if b ∈ cs.map (·.2) then some (.tbl #[]) else none) (fun p hp => if_pos (memT p hp)) (fun b => ?_) (.inr ⟨_, vs.toArray, _, hk, rfl, rfl, rfl, by rw [List.size_toArray, lenV]; exact hl, by simpa using rv⟩) (fun b u z => ?_) (fun b z => ?_) fun z => absurd (show (if a ∈ cs.map (·.2) then some (HO.tbl #[]) else none) = none from if_neg aT) z
    · by_cases hb : b ∈ cs.map (·.2)
      · exact .inr (.inl hb)
      · exact .inl (if_neg hb)
    · by_cases hb : b ∈ cs.map (·.2)
      · have z' := (if_pos hb).symm.trans z
        cases z'
        exact isT b hb
      · have z' := (if_neg hb).symm.trans z
        cases z'
    · by_cases hb : b ∈ cs.map (·.2)
      · exact .inr hb
      · exact absurd (if_neg hb) z
  | none =>
    refine core (fun b => if b = a then some (.frz { cls := .type "list", data := .seq vs.toArray } (.lst (ns.map V.int))) else if b ∈ cs.map (·.2) then some (.tbl #[]) else none) (fun p hp => (if_neg (show ¬ p.2 = a from fun z => aT (by rw [← z]; exact memT p hp))).trans (if_pos (memT p hp))) (fun b => ?_)
      (.inl (.inr ⟨{ cls := .type "list", data := .seq vs.toArray }, if_pos rfl⟩)) (fun b u z => ?_) (fun b z => ?_) fun _ => hk
    · by_cases hb : b = a
      · exact .inr (.inr ⟨_, _, if_pos hb⟩)
      · by_cases hb2 : b ∈ cs.map (·.2)
        · exact .inr (.inl hb2)
        · exact .inl ((if_neg hb).trans (if_neg hb2))
    · by_cases hb : b = a
      · have z' := (if_pos hb).symm.trans z
        cases z'
        rw [hb]
        exact ⟨ha, by rw [List.length_map]; exact hl, vs, _, rv, ha⟩
      · have z1 := (if_neg hb).symm.trans z
        by_cases hb2 : b ∈ cs.map (·.2)
        · have z' := (if_pos hb2).symm.trans z1
          cases z'
          exact isT b hb2
        · have z' := (if_neg hb2).symm.trans z1
          cases z'
    · by_cases hb : b = a
      · exact .inl hb
      · by_cases hb2 : b ∈ cs.map (·.2)
        · exact .inr hb2
        · exact absurd ((if_neg hb).trans (if_neg hb2)) z
end
end DL
namespace DH
open PySem PySem.Spec L2 DL
open PyProof.Rows hiding St
open LamX (TabB)
theorem walkDT {l : PySem.W.OpenLaw} {n k : Nat} {gd : Bool} {q : Program} {loose : List Str} {XP : (Str → Option Value) → Heap → Prop} {YP : World → Heap → Prop} {d : DefRec} {sp : SpD} {x : Str}
    (hn : l.most = some n) (hn2 : n ≤ sizeLine) (hdf : d.params.defaults = []) (hr : Room k callerA) (hgd : callerA.guards = some [])
    (F : ∀ (w : World) (mg : Str → Option Value) (h : Heap), YP w h → h.Ns mainGlobals mg → ∃ (K : PySem.W.Frag) (cs : List (Addr × Addr)) (G : Cfg), K.In h ∧ (∀ p ∈ cs, h.get? p.2 = some { cls := .none, data := .fields #[] }) ∧ (∀ p ∈ cs, K.lookup p.2 = none) ∧ (∀ p ∈ cs, PySem.W.CodeHd h p.1 p.2) ∧ (∀ p ∈ G.tabs, p.1 ∈ cs.map (·.2)) ∧
      ∀ base : Heap, K.In base → base.Ns mainGlobals mg → (∀ p ∈ cs, TabB base mg p.1 p.2) → OkG l.prog w K mg base gd k d.name [x] (lift G K sp))
    (hsp : ∀ ns : List Int, ns.length ≤ n → sp [.frl (ns.map D.int)] (fun _ => none) (fun d _ => d = .bl true) fun _ _ => False) :
    PySem.W.WalkO q loose XP YP l.row.toRowW d [] (fun f vs => PySem.call f vs) := by
  refine Att.attach_call hn hdf fun w s₀ s₁ mg mb fa o pm cd doc a vs ns E Y ho hd hcd hmg hobj hints hlen hg => ?_
  obtain ⟨K, cs, G, KX, hT, nT, C, hGT, hF⟩ := F w mg _ Y E.T.g
  exact law_atT KX E.T.g E.T.b E.T.builtins E.T.nolimit hg hT nT C E.T.bmain hobj hints (Nat.le_trans hlen hn2) hr hgd hF hmg hGT (hsp ns hlen)
end DH

set_option Elab.async false
set_option linter.all false
set_option maxRecDepth 100000
set_option maxHeartbeats 2000000
namespace DL
open PySem PySem.Spec L2
open PyProof.Rows hiding St

/-! ### calls by keywords, in any order -/
def permL {α : Type} (is : List Nat) (l : List α) : List α := is.filterMap fun i => l[i]?
theorem vals_get {vs : List V} {us : List Value} (r : Vals vs us) : ∀ i : Nat, (vs[i]? = none ∧ us[i]? = none) ∨ ∃ v u, vs[i]? = some v ∧ us[i]? = some u ∧ RelV v u := by
  induction r with
  | nil => intro i; left; simp
  | cons a _ ih =>
    intro i
    cases i with
    | zero => right; exact ⟨_, _, rfl, rfl, a⟩
    | succ i => simpa using ih i
theorem vals_perm {vs : List V} {us : List Value} (r : Vals vs us) (is : List Nat) : Vals (permL is vs) (permL is us) := by
  induction is with
  | nil => exact .nil
  | cons i is ih =>
    unfold permL at ih ⊢
    rcases vals_get r i with ⟨a, b⟩ | ⟨v, u, a, b, c⟩
    · rw [List.filterMap_cons_none a, List.filterMap_cons_none b]; exact ih
    · rw [List.filterMap_cons_some a, List.filterMap_cons_some b]; exact .cons c ih
theorem reps_get {G : Cfg} {K : PySem.W.Frag} {F : Hp} {vs : List V} {ds : List D} (r : RepL G K F vs ds) : ∀ i : Nat, (vs[i]? = none ∧ ds[i]? = none) ∨ ∃ v d, vs[i]? = some v ∧ ds[i]? = some d ∧ Rep G K F v d := by
  induction vs generalizing ds with
  | nil => cases r; intro i; left; simp
  | cons v vs ih =>
    cases r with
    | cons a b =>
      intro i
      cases i with
      | zero => right; exact ⟨_, _, rfl, rfl, a⟩
      | succ i => simpa using ih b i
theorem reps_perm {G : Cfg} {K : PySem.W.Frag} {F : Hp} {vs : List V} {ds : List D} (r : RepL G K F vs ds) (is : List Nat) : RepL G K F (permL is vs) (permL is ds) := by
  induction is with
  | nil => exact .nil
  | cons i is ih =>
    unfold permL at ih ⊢
    rcases reps_get r i with ⟨a, b⟩ | ⟨v, u, a, b, c⟩
    · rw [List.filterMap_cons_none a, List.filterMap_cons_none b]; exact ih
    · rw [List.filterMap_cons_some a, List.filterMap_cons_some b]; exact .cons c ih

structure OkGK (P : Program) (w : World) (K : PySem.W.Frag) (mg : Str → Option Value) (base : Heap) (gd : Bool) (k : Nat) (x : Str) (st : Stmt) (ps : List Str) (sp : Sp) : Prop where
  ex : ∃ f fd, mg x = some (.ref f) ∧ Fun K x x st f fd ∧ Binds K fd ps [] ∧ FnG P w K mg base gd k f fd ps sp
structure OkMethK (P : Program) (w : World) (K : PySem.W.Frag) (mg : Str → Option Value) (base : Heap) (gd : Bool) (k : Nat) (C : Addr) (m qual : Str) (st : Stmt) (ps : List Str) (sp : Sp) : Prop where
  ex : ∃ f fd, Meth K C m f ∧ Fun K m qual st f fd ∧ Binds K fd ps [] ∧ FnG P w K mg base gd k f fd ps sp
section
variable {P : Program} {w : World} {K : PySem.W.Frag} {mg : Str → Option Value} {base : Heap} {gd : Bool} {k : Nat} {x m qual : Str} {st : Stmt} {ps N : List Str} {sp : Sp} {C f : Addr} {G : Cfg} {wb : WS}
theorem OkGK.byPos (o : OkGK P w K mg base gd k x st ps sp) : OkG P w K mg base gd k x ps sp := by
  obtain ⟨f, fd, h, F, b, Fn⟩ := o
  exact ⟨f, fd, h, F.kp, b, Fn⟩
theorem OkMethK.byPos (o : OkMethK P w K mg base gd k C m qual st ps sp) : OkMeth P w K mg base gd k C m ps sp := by
  obtain ⟨f, fd, h, F, b, Fn⟩ := o
  exact ⟨f, fd, h, b, Fn⟩
theorem okGK (g : Gd K mg x st f ps) (S : FnScope N ps (defScope st))
    (hb : ∀ (cdv : Value) (A : Around) (out : List Env) (s : Shared) (H : Hp) (E : XK), Room k (A.deeper (envOfC x (defScope st) s.heap.objs.size f cdv)) → (gd = true → (A.deeper (envOfC x (defScope st) s.heap.objs.size f cdv)).guards = some []) → DSs G (cxOf (L2.CX P w) P w K mg base N x (defScope st) f cdv A out s H E) (defBody st) wb) :
    OkGK P w K mg base gd (k + 1) x st ps (lift G K (spOf ps.length N.length wb)) := by
  obtain ⟨gl, fd, F, b⟩ := g
  exact ⟨f, fd, gl, F, b, okD F S hb⟩
theorem okMethK (g : GMeth K C m qual st ps) (S : FnScope N ps (defScope st))
    (hb : ∀ (f : Addr) (cdv : Value) (A : Around) (out : List Env) (s : Shared) (H : Hp) (E : XK), Room k (A.deeper (envOfC qual (defScope st) s.heap.objs.size f cdv)) → (gd = true → (A.deeper (envOfC qual (defScope st) s.heap.objs.size f cdv)).guards = some []) → DSs G (cxOf (L2.CX P w) P w K mg base N qual (defScope st) f cdv A out s H E) (defBody st) wb) :
    OkMethK P w K mg base gd (k + 1) C m qual st ps (lift G K (spOf ps.length N.length wb)) := by
  obtain ⟨f, fd, h1, F, b⟩ := g
  exact ⟨f, fd, h1, F, b, okD F S (hb f)⟩
end
/-- how a def binds n positional values and keywords ks, put in the order `is` -/
abbrev BindK (x qual : Str) (st : Stmt) (ps ks : List Str) (n : Nat) (is : List Nat) : Prop :=
  ∀ (kV doc pm : Value) (an : Option Addr) (cdv ct : Value) (us ws : List Value), us.length = n → ws.length = ks.length → bindArgs (PySem.W.fnOf x qual (defArgs st) (defBody st) (defScope st) .none kV doc pm an cdv ct) ⟨us, ks.zip ws⟩ = pure (ps.zip (us ++ permL is ws))
section
variable {G : Cfg} {X : Cx} {gd : Bool} {k n c : Nat} {x m qual : Str} {st : Stmt} {ps ks : List Str} {is : List Nat} {sp : SpD} {f : Addr} {fd : FuncData} {e o : Expr} {es : List Expr} {kwl : List Keyword} {p pos apos : Pos} {wa wk : WA} {wo : WE}
theorem run_atK (Fu : Fun X.K x qual st f fd) (F : FnG X.prog X.w X.K X.mg X.base gd k f fd ps (lift G X.K sp)) (hr : Room k X.A) (hgd : gd = true → X.A.guards = some []) (hch : BindK x qual st ps ks n is)
    {pins : List (Addr × Obj)} {σ : St} {H : Hp} {s : Shared} {us ws : List Value} {vs zs : List V} {ds xs : List D} {F1 : Hp} {M1 : MM} {δ : DS} {Q : D → MM → Prop} {EX : XK'} {P : VK}
    (I : Inv X pins σ H s) (r : Vals vs us) (rz : Vals zs ws) (hm : HM G X.K F1 M1 H) (rs : RS G X.K F1 σ δ) (rl : RepL G X.K F1 vs ds) (rk : RepL G X.K F1 zs xs) (l1 : ds.length = n) (l2 : xs.length = ks.length)
    (h : sp (ds ++ permL is xs) M1 Q (fun xd M' => EX xd δ M')) (tk : Takes X (wX G X.K F1 M1 H EX)) (f' : Fin G X.K F1 M1 H Q P) :
    wpAny (model X.prog X.w) X.A (call (.ref f) us (ks.zip ws)) (EP X pins σ P) X.xe s := by
  have hl' := lift_at (P := P) hm rs (rl.app (reps_perm rk is)) h f'
  have r2 : Vals (vs ++ permL is zs) (us ++ permL is ws) := r.append (vals_perm rz is)
  have nu : us.length = n := by rw [← r.length, rl.len, l1]
  have nw : ws.length = ks.length := by rw [← rz.length, rk.len, l2]
  obtain ⟨oc, od, kV, doc, pm, an, cdv, ct, osl, efd, lk, hcd⟩ := Fu.ex
  subst efd
  refine wpAny_call (codeAny_mono (F.run X.A X.stack s H ⟨us, ks.zip ws⟩ _ _ P _ hr hgd I.env0 (.of_eq (hch _ _ _ _ _ _ us ws nu nw)) r2 hl') (fun res s' hq => ?_))
  match res, hq with
  | .error z, hq => exact passAt tk σ pins H s z s' I hq
  | .ok (.ret u), hq => exact I.after hq
def wKw (sp : SpD) (is : List Nat) (n m : Nat) (wa wk : WA) : WE := fun δ M Q EX => wa δ M (fun ds M1 => wk δ M1 (fun es M2 => ds.length = n ∧ es.length = m ∧ sp (ds ++ permL is es) M2 Q (fun xd M3 => EX xd δ M3)) EX) EX
/-- f(k = v, ..) -/
theorem de_fK0 (g : OkGK X.prog X.w X.K X.mg X.base gd k x st ps (lift G X.K sp)) (hr : Room k X.A) (hgd : gd = true → X.A.guards = some []) (hch : BindK x x st ps ks 0 is) (hkw : DK G X kwl wk) (hks : (backToKw pos (keywordEach kwl X.env)).filterMap (·.1) = ks := by rfl) (hg : Gl X x := by rfl)
    (hall : (backToKw pos (keywordEach kwl X.env)).all (·.1.isSome) = true := by rfl) (hdb : (x == ("__debug__" : Str)) = false := by decide)
    (hpl : ((backTo pos (starEach [] X.env)).any (·.1) || (backToKw pos (keywordEach kwl X.env)).any (·.1.isNone)) = false := by rfl) :
    DE G X (.Call (.Name x p) [] kwl pos) (wKw sp is 0 ks.length wNil wk) := by
  refine ⟨fun pins s σ H Q I ⟨F1, M1, δ, Q', EX, hm1, rs, h, tk, fin⟩ => ?_⟩
  obtain ⟨f, fd, gl, Fu, b, F⟩ := g
  refine wpAny_Call_Name_kw (ld_glob I hg gl ?_ hdb)
  refine PySem.W.callWith_KW0 (h₀ := X.base) I.ok.mod.kin Fu.kp hall (thn (dk_run hkw pos I hm1 rs h tk) fun ws s2 ⟨zs, H2, I2, rz, xs, F3, M3, g2, rk, l1, l2, q2⟩ => ⟨I2.kIn, ?_⟩) hpl
  rw [hks]
  exact run_atK (us := []) (vs := []) (ds := []) Fu F hr hgd hch I2 .nil rz g2.hm (rs.mono g2.ext) .nil rk l1 l2 q2 (tk.imp (wX_mono g2)) fun v d F4 M4 H4 g4 r4 q4 => fin v d F4 M4 H4 (g2.trans g4) r4 q4
/-- f(e, .., k = v, ..) -/
theorem de_fK (g : OkGK X.prog X.w X.K X.mg X.base gd k x st ps (lift G X.K sp)) (hr : Room k X.A) (hgd : gd = true → X.A.guards = some []) (hch : BindK x x st ps ks n is) (ha : DA G X (e :: es) wa) (hkw : DK G X kwl wk) (hks : (backToKw pos (keywordEach kwl X.env)).filterMap (·.1) = ks := by rfl) (hg : Gl X x := by rfl)
    (hall : (backToKw pos (keywordEach kwl X.env)).all (·.1.isSome) = true := by rfl) (hdb : (x == ("__debug__" : Str)) = false := by decide)
    (he : starEach (e :: es) X.env = (false, eval e X.env) :: starEach es X.env := by rfl) (hpl : ((backTo pos (starEach (e :: es) X.env)).any (·.1) || (backToKw pos (keywordEach kwl X.env)).any (·.1.isNone)) = false := by rfl) :
    DE G X (.Call (.Name x p) (e :: es) kwl pos) (wKw sp is n ks.length wa wk) := by
  refine ⟨fun pins s σ H Q I ⟨F1, M1, δ, Q', EX, hm1, rs, h, tk, fin⟩ => ?_⟩
  obtain ⟨f, fd, gl, Fu, b, F⟩ := g
  refine wpAny_Call_Name_kw (ld_glob I hg gl ?_ hdb)
  refine PySem.W.callWith_KW (h₀ := X.base) I.ok.mod.kin Fu.kp hall (thn (da_run ha pos I hm1 rs h tk) fun us s1 ⟨vs, H1, I1, r, ds, F2, M2, g, rl, q⟩ => ?_) hpl he
  refine thn (dk_run hkw pos I1 g.hm (rs.mono g.ext) q (tk.imp (wX_mono g))) fun ws s2 ⟨zs, H2, I2, rz, xs, F3, M3, g2, rk, l1, l2, q2⟩ => ⟨I2.kIn, ?_⟩
  rw [hks]
  have gt := g.trans g2
  exact run_atK Fu F hr hgd hch I2 r rz g2.hm (rs.mono gt.ext) (rl.mono g2.ext) rk l1 l2 q2 (tk.imp (wX_mono gt)) fun v d F4 M4 H4 g4 r4 q4 => fin v d F4 M4 H4 (gt.trans g4) r4 q4
/-! o.m(k = v, ..) -/
def wMethK (tb : List (Nat × SpD)) (is : List Nat) (m : Nat) (wo : WE) (wk : WA) : WE := fun δ M Q EX => wo δ M (fun d M1 => ∃ c fs sp, insOf M1 d = some (c, fs) ∧ tb.lookup c = some sp ∧ wk δ M1 (fun es M2 => es.length = m ∧ sp (d :: permL is es) M2 Q (fun xd M3 => EX xd δ M3)) EX) EX
structure MethKD (G : Cfg) (X : Cx) (c : Nat) (m : Str) (ks : List Str) (is : List Nat) (sp : SpD) : Prop where
  cls : Cls X.K (G.cl c)
  noat : m ∉ G.nm c
  ex : ∃ (gd : Bool) (k : Nat) (qual : Str) (st : Stmt) (ps : List Str), OkMethK X.prog X.w X.K X.mg X.base gd k (G.cl c) m qual st ps (lift G X.K sp) ∧ Room k X.A ∧ (gd = true → X.A.guards = some []) ∧ BindK m qual st ps ks 1 is
theorem mk_of (o : OkMethK X.prog X.w X.K X.mg X.base gd k (G.cl c) m qual st ps (lift G X.K sp)) (cls : Cls X.K (G.cl c)) (noat : m ∉ G.nm c) (hr : Room k X.A) (hgd : gd = true → X.A.guards = some []) (hch : BindK m qual st ps ks 1 is) : MethKD G X c m ks is sp :=
  ⟨cls, noat, gd, k, qual, st, ps, o, hr, hgd, hch⟩
theorem de_methK {pl : Sem Bool} (tb : List (Nat × SpD)) (ht : ∀ q ∈ tb, MethKD G X q.1 m ks is q.2) (ho : DE G X o wo) (hkw : DK G X kwl wk) (hks : (backToKw pos (keywordEach kwl X.env)).filterMap (·.1) = ks := by rfl)
    (hall : (backToKw pos (keywordEach kwl X.env)).all (·.1.isSome) = true := by rfl)
    (hpl : ((backTo pos (starEach [] X.env)).any (·.1) || (backToKw pos (keywordEach kwl X.env)).any (·.1.isNone)) = false := by rfl)
    (hv : eval (.Call (.Attribute o m apos) [] kwl pos) X.env = (do
      let ov ← eval o X.env
      standAt apos.atName
      let (f, first) ← holding [ov] (getMethod ov m pl)
      callWith pos f first (backTo pos (starEach [] X.env)) (backToKw pos (keywordEach kwl X.env))) := by rfl) :
    DE G X (.Call (.Attribute o m apos) [] kwl pos) (wMethK tb is ks.length wo wk) := by
  refine ⟨fun pins s σ H Q I ⟨F1, M1, δ, Q', EX, hm1, rs, h, tk, fin⟩ => ?_⟩
  refine PySem.W.methodCall_KW (pl := pl) (thn (de_run ho I hm1 rs h tk) fun u s1 ⟨v, H2, I2, rv, d, F2, M2, g, rd, c, fs, sp, e1, e2, q⟩ => ?_) hv
  obtain ⟨a, dx, ws, rfl, hz, l, rz⟩ := insOf_rep g.hm rd e1
  obtain ⟨cls, noat, gd, k, qual, st, ps, ⟨f, fd, hmt, Fu, b, F⟩, hr, hgd, hch⟩ := ht _ (lookup_mem e2)
  obtain rfl : u = Value.ref a := rv
  refine getmeth_ok I2 hz cls hmt (zip_lookup_none noat) ?_
  refine PySem.W.callWith_KW0 (first := [.ref a]) (h₀ := X.base) I.ok.mod.kin hmt.kp hall (thn (dk_run hkw pos I2 g.hm (rs.mono g.ext) q (tk.imp (wX_mono g))) fun ws s2 ⟨zs, H3, I3, rz, xs, F3, M3, g3, rk, l2, q3⟩ => ⟨I3.kIn, ?_⟩) hpl
  rw [hks]
  have gt := g.trans g3
  exact run_atK (us := [.ref a]) (vs := [.ref a]) (ds := [d]) Fu F hr hgd hch I3 (.cons rfl .nil) rz g3.hm (rs.mono gt.ext) (.cons (rd.mono g3.ext) .nil) rk rfl l2 q3 (tk.imp (wX_mono gt)) fun v d F4 M4 H4 g4 r4 q4 => fin v d F4 M4 H4 (gt.trans g4) r4 q4
/-! C(k = v, ..) -/
theorem kbd_of (F : Fun X.K "__init__" qual st f fd) (hch : BindK "__init__" qual st ps ks n is) : KBD G X.K fd ps n ks (fun ds es => ds ++ permL is es) := by
  obtain ⟨oc, od, kV, doc, pm, an, cdv, ct, osl, efd, lk, hcd⟩ := F.ex
  subst efd
  exact ⟨fun us ws => us ++ permL is ws, fun vs zs => vs ++ permL is zs, ⟨fun s us ws X l1 l2 => .of_eq (hch _ _ _ _ _ _ us ws l1 l2), fun r1 r2 => r1.append (vals_perm r2 is)⟩, fun F vs ds zs es r1 r2 => r1.app (reps_perm r2 is)⟩
theorem de_newK0 (o : OkInit X.prog X.w X.K X.mg X.base gd k (G.cl c) qual st [] ps (lift G X.K sp)) (hr : Room (k + 1) X.A) (hgd : gd = true → X.A.guards = some []) (hm : X.mg x = some (.ref (G.cl c))) (hch : BindK "__init__" qual st ps ks 1 is)
    (hkw : DK G X kwl wk) (hks : (backToKw pos (keywordEach kwl X.env)).filterMap (·.1) = ks := by rfl) (hg : Gl X x := by rfl)
    (hall : (backToKw pos (keywordEach kwl X.env)).all (·.1.isSome) = true := by rfl) (hdb : (x == ("__debug__" : Str)) = false := by decide)
    (hpl : ((backTo pos (starEach [] X.env)).any (·.1) || (backToKw pos (keywordEach kwl X.env)).any (·.1.isNone)) = false := by rfl) :
    DE G X (.Call (.Name x p) [] kwl pos) (wMakeK c 0 ks.length (fun ds es => ds ++ permL is es) sp wNil wk) := by
  refine ⟨fun pins s σ H Q I ⟨F1, M1, δ, Q', EX, hm1, rs, h, tk, fin⟩ => ?_⟩
  obtain ⟨f, fd, mk, F, Fn⟩ := o
  refine wpAny_Call_Name_kw (ld_glob I hg hm ?_ hdb)
  refine PySem.W.callWith_KW0 (h₀ := X.base) I.ok.mod.kin mk.kp hall (thn (dk_run hkw pos I hm1 rs h tk) fun ws s2 ⟨zs, H2, I2, rz, xs, F3, M3, g2, rk, l1, l2, q2⟩ => ⟨I2.kIn, ?_⟩) hpl
  rw [hks]
  exact run_makeKD (us := []) (vs := []) (ds := []) mk Fn hr hgd (kbd_of (funD_fun F) hch) I2 .nil rz g2.hm (rs.mono g2.ext) .nil rk l1 l2 q2 (tk.imp (wX_mono g2)) fun v d F4 M4 H4 g4 r4 q4 => fin v d F4 M4 H4 (g2.trans g4) r4 q4
theorem de_newKP (o : OkInit X.prog X.w X.K X.mg X.base gd k (G.cl c) qual st [] ps (lift G X.K sp)) (hr : Room (k + 1) X.A) (hgd : gd = true → X.A.guards = some []) (hm : X.mg x = some (.ref (G.cl c))) (hch : BindK "__init__" qual st ps ks (n + 1) is)
    (ha : DA G X (e :: es) wa) (hkw : DK G X kwl wk) (hks : (backToKw pos (keywordEach kwl X.env)).filterMap (·.1) = ks := by rfl) (hg : Gl X x := by rfl)
    (hall : (backToKw pos (keywordEach kwl X.env)).all (·.1.isSome) = true := by rfl) (hdb : (x == ("__debug__" : Str)) = false := by decide)
    (he : starEach (e :: es) X.env = (false, eval e X.env) :: starEach es X.env := by rfl) (hpl : ((backTo pos (starEach (e :: es) X.env)).any (·.1) || (backToKw pos (keywordEach kwl X.env)).any (·.1.isNone)) = false := by rfl) :
    DE G X (.Call (.Name x p) (e :: es) kwl pos) (wMakeK c n ks.length (fun ds es => ds ++ permL is es) sp wa wk) := by
  obtain ⟨f, fd, mk, F, Fn⟩ := o
  exact de_makeK mk Fn hr hgd hm (kbd_of (funD_fun F) hch) ha hkw hg hall hks hdb he hpl
end
end DL

set_option Elab.async false
set_option linter.all false
set_option maxRecDepth 100000
set_option maxHeartbeats 2000000
/-! == of tuples of own instances in a text with lambdas: the own == is known without tables too -/
namespace DL
open PySem PySem.Spec L2
open PyProof.Rows hiding St
abbrev Cfg.noT (G : Cfg) : Cfg := ⟨G.cl, G.nm, []⟩
mutual
theorem rep_noT {G : Cfg} {K : PySem.W.Frag} {F : Hp} : ∀ {v : V} {d : D}, Rep G K F v d → Rep G.noT K F v d
  | _, _, .non => .non
  | _, _, .bl b => .bl b
  | _, _, .int i => .int i
  | _, _, .str x => .str x
  | _, _, .cls c => .cls (G := G.noT) c
  | _, _, .raw v => .raw v
  | _, _, .tup h r => .tup h (repL_noT r)
  | _, _, .lst h r => .lst h (repL_noT r)
  | _, _, .frl h r => .frl h (repL_noT r)
  | _, _, .dct h r => .dct h (repK_noT r)
  | _, _, .ins h l r => .ins (G := G.noT) h l (repL_noT r)
  | _, _, .exc h1 h2 l r => .exc (G := G.noT) h1 h2 l (repL_noT r)
  | _, _, .exc0 h => .exc0 (G := G.noT) h
  | _, _, .fn h r => .fn h (repL_noT r)
theorem repL_noT {G : Cfg} {K : PySem.W.Frag} {F : Hp} : ∀ {vs : List V} {ds : List D}, RepL G K F vs ds → RepL G.noT K F vs ds
  | _, _, .nil => .nil
  | _, _, .cons a b => .cons (rep_noT a) (repL_noT b)
theorem repK_noT {G : Cfg} {K : PySem.W.Frag} {F : Hp} : ∀ {vs : List (Key × V)} {ds : List (Key × D)}, RepK G K F vs ds → RepK G.noT K F vs ds
  | _, _, .nil => .nil
  | _, _, .cons a b => .cons (rep_noT a) (repK_noT b)
end
section
variable {G : Cfg} {X : Cx}
theorem rc_alike0 {c k : Nat} {sp : SpD} {ps : List Str} (o : OkMeth X.prog X.w X.K X.mg X.base false k (G.cl c) "__eq__" ps (lift G.noT X.K sp)) : RcG X k (DIns (G.cl c) (AlikeR G X.K c sp)) := by
  obtain ⟨f, fd, mt, b, Fn⟩ := o
  have F2 : FnOk X.prog X.w X.K X.mg X.base (L2.CX X.prog X.w) k f fd ps (spEq (AlikeR G X.K c sp)) := by
    have key : ∀ vs H Q E, spEq (AlikeR G X.K c sp) vs H Q E → lift G.noT X.K sp vs H Q E := by
      rintro vs H Q E ⟨a, b, rfl, ⟨F, d, hs, r1, r2, fs, ed, hq⟩, q⟩
      refine ⟨F, fun _ => none, [d, d], fun d' _ => d' = .bl true, fun _ _ => False, ⟨hs, fun _ _ z => (nomatch z), fun _ _ z => (nomatch z), fun p hp => by cases hp⟩, .cons (rep_noT r1) (.cons (rep_noT r2) .nil), hq _ _ _ rfl, ?_, fun _ _ _ _ _ _ _ _ z => z.elim⟩
      intro v d' F' M' H' g r e
      subst e
      cases r
      exact q H' (ext_of_grow rfl hs g)
    exact ⟨fun vs H Q E h => Fn.len vs H Q E (key vs H Q E h), fun A out s H args us vs Q E hr e0 hb hv hsp => Fn.run A out s H args us vs Q E hr (fun z => by cases z) e0 hb hv (key vs H Q E hsp)⟩
  exact rcG_ins (E := E0) F2 mt.at_ mt.fn b (fun _ _ _ _ _ _ _ z => by
    obtain ⟨_, _, _, _, _, _, _, _, _, _, _, _, z⟩ := z
    exact z.elim)
theorem op_eqT0 {c k n : Nat} {sp : SpD} {ps : List Str} (o : OkMeth X.prog X.w X.K X.mg X.base false k (G.cl c) "__eq__" ps (lift G.noT X.K sp)) (hr : Room n X.A) (hk : k + 1 ≤ n) : OpR X (compareOp .Eq) (rEqG (DTup X.K (DIns (G.cl c) (AlikeR G X.K c sp)))) :=
  op_eqG (rcG_tup (mon_ins alike_mon) ((rc_alike0 o).eqG fun _ _ _ d => let ⟨a, b, _, _, _, _, hx, hy, _⟩ := d; ⟨a, b, hx, hy⟩)) (hr.mono hk)
end
end DL

set_option Elab.async false
set_option linter.all false
set_option maxRecDepth 100000
set_option maxHeartbeats 1000000
/-! bool(o), o * n and n * o of own objects -/
namespace DL
open PySem PySem.Spec L2
open PyProof.Rows hiding St
theorem bool_new_own {prog : Program} {w : World} {x : Value} : MeetsIn prog w (Builtin.«bool.__new__» ⟨[.type "bool", x], []⟩) (fun A R s => wpAny (model prog w) A.in1 (truthy x) (fun b s' => R (.ok (.ret (.bool b))) s') (fun e s' => R (.error e) s') s) :=
  .of_wp fun A R s h => by
    obtain ⟨hp, g, d, tk, os⟩ := s
    have f1 := F.conv_sub_bool
    have q1 : ∀ {Q : Bool → Shared → Prop}, (∀ b s', R (.ok (.ret (.bool b))) s' → Q b s') → wpAny (model prog w) A.in1 (truthy x) Q (fun e s' => R (.error e) s') ⟨hp, g, d, tk, os⟩ := fun z => wpAny_mono h (fun b s' r => z b s' r) fun _ _ e => e
    repeat (any_goals (first | assumption | (with_reducible refine q1 (fun b s' r => ?_)) | wp_step))
    all_goals first | exact ⟨_, rfl, by assumption⟩ | skip
theorem bool_tail {prog : Program} {w : World} {A : Around} {E : Value → Shared → Prop} {s : Shared} {a C ff : Addr} {K : PySem.W.Frag} {ox : Obj} {od : Option Obj} {Q : Value → Shared → Prop} (kin : K.In s.heap) (J : PySem.W.InstAt s.heap a ox C od)
    (hf : PySem.W.findIn K (.ref C) "__bool__" = some (some (.ref ff))) (hfn : PySem.W.typeIn K (.ref ff) = some (.type "function"))
    (h : wpAny (model prog w) A.in1.in1 (call (.ref ff) [.ref a]) (fun v s' => ∃ b, v = .bool b ∧ Q (.bool b) s') E s) :
    wpAny (model prog w) A (call (.type "bool") [.ref a]) Q E s := by
  refine callType_newIn F.called_bool F.newNe_bool (F.typeCall_bool_1 _) (F.newCall_bool_1 _) (fun obj => F.args_object_init_2 obj _) F.entry_bool_new bool_new_own ?_
  show wpAny (model prog w) A.in1.in1 (truthy (.ref a)) _ _ s
  unfold truthy
  refine wpAny_bind (m := callSpecial? (.ref a) (Str.ofString "__bool__")) (PySem.W.special_fn kin J hf hfn (wpAny_mono h (fun v s' z => ?_) fun _ _ z => z))
  obtain ⟨b, rfl, q⟩ := z
  exact wpAny_pure ⟨rfl, q⟩
section
variable {G : Cfg} {X : Cx} {gd : Bool} {k : Nat} {f : Addr} {sp : SpD} {e : Expr}
theorem callP_in2 (F : FnP X.prog X.w X.K X.mg X.base gd k f (lift G X.K sp)) (hr : Room (k + 2) X.A) (hgd : gd = true → X.A.guards = some []) {pins : List (Addr × Obj)} {σ : St} {H : Hp} {s : Shared} {us : List Value} {vs : List V} {ds : List D} {F1 : Hp} {M1 : MM} {δ : DS} {Q : D → MM → Prop} {EX : XK'} {P : VK}
    (I : Inv X pins σ H s) (r : Vals vs us) (hm : HM G X.K F1 M1 H) (rs : RS G X.K F1 σ δ) (rl : RepL G X.K F1 vs ds) (h : sp ds M1 Q (fun xd M' => EX xd δ M')) (tk : Takes X (wX G X.K F1 M1 H EX)) (f' : Fin G X.K F1 M1 H Q P) :
    wpAny (model X.prog X.w) X.A.in1.in1 (call (.ref f) us) (EP X pins σ P) X.xe s := by
  have hl' := lift_at (P := P) hm rs rl h f'
  refine wpAny_call (codeAny_mono (F.run X.A.in1.in1 X.stack s H us vs P _ hr.in1.in1 hgd I.env0.in1.in1 r hl') (fun res s' hq => ?_))
  match res, hq with
  | .error z, hq => exact passAt tk σ pins H s z s' I hq
  | .ok (.ret u), hq => exact I.after hq
@[irreducible] def kBoolO (tb : List (Nat × SpD)) (δ : DS) (Q : D → MM → Prop) (EX : XK') (d : D) (M : MM) : Prop := match insOf M d with
  | some (c, fs) => ∃ sp, tb.lookup c = some sp ∧ sp [d] M (fun x M' => ∃ b : Bool, x = .bl b ∧ Q (.bl b) M') (fun xd M' => EX xd δ M')
  | none => match d with
    | .int i => Q (.bl (i != 0)) M
    | .bl b => Q (.bl b) M
    | _ => False
theorem at_boolO {tb : List (Nat × SpD)} {δ : DS} {Q : D → MM → Prop} {EX : XK'} {d : D} {M : MM} {c : Nat} {fs : List D} {sp : SpD} (h : insOf M d = some (c, fs)) (h2 : tb.lookup c = some sp) (q : sp [d] M (fun x M' => ∃ b : Bool, x = .bl b ∧ Q (.bl b) M') (fun xd M' => EX xd δ M')) : kBoolO tb δ Q EX d M := by
  unfold kBoolO; rw [h]; exact ⟨sp, h2, q⟩
theorem at_boolI {tb : List (Nat × SpD)} {δ : DS} {Q : D → MM → Prop} {EX : XK'} {i : Int} {M : MM} (q : Q (.bl (i != 0)) M) : kBoolO tb δ Q EX (.int i) M := by
  unfold kBoolO; exact q
def wBoolO (tb : List (Nat × SpD)) (we : WE) : WE := fun δ M Q EX => we δ M (kBoolO tb δ Q EX) EX
theorem de_boolO {we : WE} {p pos : Pos} (tb : List (Nat × SpD)) (h1 : ∀ p ∈ tb, ∃ (gd : Bool) (k : Nat) (ps : List Str), OkMeth X.prog X.w X.K X.mg X.base gd k (G.cl p.1) "__bool__" ps (lift G X.K p.2) ∧ Room (k + 2) X.A ∧ (gd = true → X.A.guards = some []))
    (hm : X.mg "bool" = none) (h : DE G X e we) (hg : Gl X "bool" := by rfl) (he : starEach [e] X.env = (false, eval e X.env) :: starEach [] X.env := by rfl) (hpl : (backTo pos (starEach [] X.env)).any (·.1) = false := by rfl) : DE G X (.Call (.Name "bool" p) [e] [] pos) (wBoolO tb we) := by
  refine ⟨fun pins s σ H Q I ⟨F1, M1, δ, Q', EX, hm1, rs, q, tk, fin⟩ => ?_⟩
  refine wpAny_Call_Name_kw (ld_blt I hg hm (show bootBuiltins "bool" = some (.type "bool") by decide +kernel) ?_ (by decide) (by decide))
  refine PyProof.Rows.callWith_type1 ?_ he hpl
  have ha : DA G X [e] (wCons we wNil) := da_cons h da_nil he
  refine thn (da_run ha pos I hm1 rs (show wCons we wNil δ M1 (fun ds M => match ds with | [d] => kBoolO tb δ Q' EX d M | _ => False) EX from q) tk) fun us s1 ⟨vs, H1, I1, r, ds, F2, M2, g, rl, q1⟩ => ?_
  cases rl with
  | nil => exact q1.elim
  | cons rd t =>
    cases t with
    | cons _ _ => exact q1.elim
    | nil =>
      rename_i x d
      cases r with
      | cons rx t2 =>
        cases t2
        dsimp only at q1
        unfold kBoolO at q1
        split at q1
        · rename_i c fs ei
          obtain ⟨sp, e, q2⟩ := q1
          obtain ⟨gd, k, ps, ⟨f, fd, mt, b, Fn⟩, hr, hgd⟩ := h1 _ (lookup_mem e)
          obtain ⟨a, ox, od, rfl, rfl, J⟩ := inst_at I1 g.hm rx rd ei
          refine bool_tail I1.kIn J mt.at_ (beq_iff_eq.mp mt.fn) ?_
          refine wpAny_mono (callP_in2 (Q := fun x M' => ∃ b : Bool, x = .bl b ∧ Q' (.bl b) M') (P := fun v H' => ∃ b : Bool, v = .bl b ∧ Q (.bl b) H') (us := [.ref a]) (vs := [.ref a]) (ds := [d]) (Fn.pos b) hr hgd I1 (.cons rfl .nil) g.hm (rs.mono g.ext) (.cons rd .nil) q2 (tk.imp (wX_mono g)) fun v d F3 M3 H3 g3 r3 q3 => ?_) (fun v s' z => ?_) fun _ _ z => z
          · obtain ⟨b, rfl, q4⟩ := q3
            cases r3
            exact ⟨b, rfl, fin _ _ F3 M3 H3 (g.trans g3) (.bl _) q4⟩
          · obtain ⟨v', H', I', rv, b, rfl, q4⟩ := z
            obtain rfl := (show v = Value.bool b from rv)
            exact ⟨b, rfl, .bl b, H', I', rfl, q4⟩
        · split at q1
          · rename_i i ei
            cases rd
            obtain ⟨t, rfl⟩ := (show ∃ t, _ = Value.int i t from rx)
            exact call_bool_int ⟨.bl (i != 0), H1, I1, rfl, fin _ _ F2 M2 H1 g (.bl _) q1⟩
          · rename_i b ei
            cases rd
            obtain rfl := (show _ = Value.bool b from rx)
            exact call_bool_bool ⟨.bl b, H1, I1, rfl, fin _ _ F2 M2 H1 g (.bl _) q1⟩
          · exact q1.elim
end
end DL

set_option Elab.async false
set_option linter.all false
set_option maxRecDepth 100000
set_option maxHeartbeats 1000000
namespace PySem
theorem int_mul_ref_no {prog : Program} {w : World} {A : Around} {E : Value → Shared → Prop} {s : Shared} {i : Int} {t : Tok} {x : Addr} {Q : Fin → Shared → Prop}
    {o : Obj} (ho : s.heap.get? x = some o) (hd : o.data = .plain) (h : Q (.done (.ret .notImplemented)) s) : wpAny (model prog w) A (Builtin.«int.__mul__» ⟨[.int i t, .ref x], []⟩) Q E s := by
  obtain ⟨hp, g, d, tk, os⟩ := s
  unfold Builtin.«int.__mul__»
  wp_walk
  rw [hd]
  wp_walk
  exact h
end PySem
namespace PySem.W
open PySem PySem.Calls PyProof.Rows
section
variable {prog : Program} {w : World} {A : Around} {E : Value → Shared → Prop} {s : Shared} {K : Frag} {x C f f' : Addr} {ox : Obj} {od : Option Obj}
theorem kbin_R {i : Int} {t : Tok} {Q : Value → Shared → Prop} (X : K.In s.heap) (I : InstAt s.heap x ox C od) (hd : ox.data = .plain) (hc : selfFirst K C = true)
    (hm : findIn K (.ref C) (PySem.dunder "mul") = some (some (.ref f'))) (hs : findIn K (.ref C) (dunderR "mul") = some (some (.ref f))) (hf : isFn K (.ref f) = true) (hsub : subIn K (.ref C) (.type "int") = some false)
    (h : wpAny (model prog w) A (call (.ref f) [.ref x, .int i t]) (CmpBack Q) E s) : wpAny (model prog w) A (binaryOp .Mult (.int i t) (.ref x)) Q E s := by
  obtain ⟨cd, rest, hcd, hmr⟩ := ksp_first hc
  have hneq : (Value.type "int" == Value.ref C) = false := Bool.eq_false_iff.mpr fun q => by cases beq_iff_eq.mp q
  unfold binaryOp
  refine wpAny_holding (wpAny_bind ?_)
  show wpAny _ _ (binaryOp1 "mul" _ _) _ _ _
  unfold binaryOp1
  have L0 : ∀ s' : Shared, Looks (model prog w) s'.heap (typeOf (.int i t)) (.type "int") := fun _ => Looks.of_pure rfl
  have Lf : Looks (model prog w) s.heap (fillsNumberSlot (.type "int") "mul") true := Looks.of_pure F.fills_int_mul
  refine wpAny_bind ((L0 s).here (wpAny_bind (I.type.here (wpAny_bind (Lf.here ?_)))))
  simp only [hneq, Bool.false_eq_true, if_false]
  refine wpAny_bind ((fills_K X hcd hmr hm).here ?_)
  simp only [Bool.and_true, if_true, Bool.true_and]
  refine wpAny_bind ((looks_subIn X hsub).here ?_)
  simp only [Bool.false_eq_true, if_false, Bool.not_false, if_true]
  refine wpAny_bind (m := numberSlotInPython (.type "int") "mul") (wpAny_pure ?_)
  simp only [Bool.false_eq_true, if_false]
  refine wpAny_bind (m := tryMethod (.int i t) _ (.ref x)) ?_
  have one : wpAny (model prog w) A (callSpecial? (.int i t) (PySem.dunder "mul") [.ref x]) (fun r s' => r = some .notImplemented ∧ s' = s) E s := by
    refine wpAny_callSpecial?_slot (T := "int") rfl F.slot_int_mul ?_
    refine call_meetsIn (T := "int") (S := fun _ R s' => (s'.heap.get? x = some ox ∧ ox.data = .plain) ∧ R (.ok (.ret .notImplemented)) s') F.slot_int_mul rfl F.entry_int_mul (F.args_int_mul_2 _ _) (.of_wp fun A R s' hs' => ?_) ⟨⟨I.at_, hd⟩, ?_⟩
    · exact int_mul_ref_no (o := ox) hs'.1.1 hs'.1.2 ⟨_, rfl, hs'.2⟩
    · exact ⟨rfl, rfl⟩
  unfold tryMethod
  refine wpAny_bind (wpAny_mono one (fun r s' z => ?_) fun _ _ z => z)
  obtain ⟨rfl, rfl⟩ := z
  refine wpAny_pure ?_
  refine wpAny_bind (m := tryMethod (.ref x) _ (.int i t)) ?_
  unfold tryMethod
  refine wpAny_bind (special_fn X I hs (beq_iff_eq.mp hf) (wpAny_mono h (fun v s' hv => ?_) fun _ _ e => e))
  cases v <;> first | exact hv.elim | exact wpAny_pure (wpAny_bind (wpAny_rule (wpAny_pure (wpAny_pure hv))))
end
end PySem.W
namespace DL
open PySem PySem.Spec L2
open PyProof.Rows hiding St
/-- what the class has of * with ints -/
structure MulF (K : PySem.W.Frag) (C : Addr) : Prop where
  sf : PySem.W.selfFirst K C = true
  h1 : PySem.W.findIn K (.type "int") "__mul__" = some (some (.builtin "int.__mul__"))
  h2 : PySem.W.findIn K (.type "int") "__rmul__" = some (some (.builtin "int.__rmul__"))
  s1 : PySem.W.subIn K (.type "int") (.ref C) = some false
  s2 : PySem.W.subIn K (.ref C) (.type "int") = some false
section
variable {G : Cfg} {X : Cx} {gd gd' : Bool} {k k' c : Nat} {ps ps' : List Str} {sp sp' : SpD}
theorem dop_mulI (o : OkMeth X.prog X.w X.K X.mg X.base gd k (G.cl c) "__mul__" ps (lift G X.K sp)) (o' : ∃ f' : Addr, PySem.W.findIn X.K (.ref (G.cl c)) "__rmul__" = some (some (.ref f'))) (mf : MulF X.K (G.cl c)) (hr : Room k X.A) (hgd : gd = true → X.A.guards = some []) :
    DOp G X (binaryOp .Mult) (fun x y δ M Q EX => (∃ fs, x = .ins c fs) ∧ (∃ i, y = .int i) ∧ sp [x, y] M Q (fun xd M3 => EX xd δ M3)) := by
  intro pins s σ H x y v u F M δ dx dy Q EX P I rx ry hm rs rdx rdy ⟨⟨fs, ex⟩, ⟨i, ey⟩, h⟩ tk fin
  subst ex
  subst ey
  obtain ⟨a, ox, od, rfl, rfl, J⟩ := inst_at I hm rx rdx (c := c) (fs := fs) (by unfold insOf; rfl)
  obtain ⟨f, fd, mt, b, Fn⟩ := o
  obtain ⟨f', mt'⟩ := o'
  have go := wpAny_mono (callP_at (us := [.ref a, u]) (vs := [.ref a, y]) (ds := [.ins c fs, .int i]) (Fn.pos b) hr hgd I (.cons rx (.cons ry .nil)) hm rs (.cons rdx (.cons rdy .nil)) h tk fin) (fun w s' z => by
    obtain ⟨z', H', I', rz, qz⟩ := id z
    exact SlX.cmpback (P := EP X pins σ P) rz z) fun _ _ x => x
  cases rdy
  obtain ⟨t, rfl⟩ := (show ∃ t, u = Value.int i t from ry)
  obtain ⟨mm, hF⟩ := I.fr
  exact PySem.W.ksp_binT (op := .Mult) (T := "int") hF I.ok.mod.kin J rfl mf.sf mt.at_ mt.fn mt' (.inr ⟨f', rfl⟩) mf.h1 mf.h2 mf.s1 go
theorem dop_rmulI (o : OkMeth X.prog X.w X.K X.mg X.base gd k (G.cl c) "__mul__" ps (lift G X.K sp)) (o' : OkMeth X.prog X.w X.K X.mg X.base gd' k' (G.cl c) "__rmul__" ps' (lift G X.K sp')) (mf : MulF X.K (G.cl c)) (hr : Room k' X.A) (hgd : gd' = true → X.A.guards = some []) :
    DOp G X (binaryOp .Mult) (fun x y δ M Q EX => (∃ i, x = .int i) ∧ (∃ fs, y = .ins c fs) ∧ sp' [y, x] M Q (fun xd M3 => EX xd δ M3)) := by
  intro pins s σ H x y v u F M δ dx dy Q EX P I rx ry hm rs rdx rdy ⟨⟨i, ex⟩, ⟨fs, ey⟩, h⟩ tk fin
  subst ex
  subst ey
  obtain ⟨a, dxx, ws, rfl, hz, l, rz⟩ := insOf_rep hm rdy (c := c) (fs := fs) (by unfold insOf; rfl)
  obtain rfl : u = Value.ref a := ry
  obtain ⟨mA, O, _⟩ := ins_get I.hok hz
  obtain ⟨od, J, _⟩ := O.look
  obtain ⟨f, fd, mt, b, Fn⟩ := o
  obtain ⟨f', fd', mt', b', Fn'⟩ := o'
  have go := wpAny_mono (callP_at (us := [.ref a, v]) (vs := [.ref a, x]) (ds := [.ins c fs, .int i]) (Fn'.pos b') hr hgd I (.cons rfl (.cons rx .nil)) hm rs (.cons rdy (.cons rdx .nil)) h tk fin) (fun w s' z => by
    obtain ⟨z', H', I', rz, qz⟩ := id z
    exact SlX.cmpback (P := EP X pins σ P) rz z) fun _ _ x => x
  cases rdx
  obtain ⟨t, rfl⟩ := (show ∃ t, v = Value.int i t from rx)
  exact PySem.W.kbin_R I.kIn J rfl mf.sf mt.at_ mt'.at_ mt'.fn mf.s2 go
/-- o * n and n * o, or else -/
def wMulO (tb rt : List (Nat × SpD)) (w : WR2) : WR2X := fun x y δ M Q EX => match x, y with
  | .ins c fs, .int i => ∃ sp, tb.lookup c = some sp ∧ sp [.ins c fs, .int i] M Q (fun xd M3 => EX xd δ M3)
  | .int i, .ins c fs => ∃ sp, rt.lookup c = some sp ∧ sp [.ins c fs, .int i] M Q (fun xd M3 => EX xd δ M3)
  | x, y => w x y M Q
theorem dop_mulO {w : WR2} {tb rt : List (Nat × SpD)} (ho : DOp G X (binaryOp .Mult) (fun x y _ M Q _ => w x y M Q))
    (h1 : ∀ p ∈ tb, DOp G X (binaryOp .Mult) (fun x y δ M Q EX => (∃ fs, x = .ins p.1 fs) ∧ (∃ i, y = .int i) ∧ p.2 [x, y] M Q (fun xd M3 => EX xd δ M3)))
    (h2 : ∀ p ∈ rt, DOp G X (binaryOp .Mult) (fun x y δ M Q EX => (∃ i, x = .int i) ∧ (∃ fs, y = .ins p.1 fs) ∧ p.2 [y, x] M Q (fun xd M3 => EX xd δ M3))) : DOp G X (binaryOp .Mult) (wMulO tb rt w) := by
  intro pins s' σ H x y v u F M δ dx dy Q EX P I rx ry hm rs rdx rdy h tk fin
  unfold wMulO at h
  split at h
  · obtain ⟨sp, e1, q⟩ := h
    exact h1 _ (lookup_mem e1) pins s' σ H x y v u F M δ _ _ Q EX P I rx ry hm rs rdx rdy ⟨⟨_, rfl⟩, ⟨_, rfl⟩, q⟩ tk fin
  · obtain ⟨sp, e1, q⟩ := h
    exact h2 _ (lookup_mem e1) pins s' σ H x y v u F M δ _ _ Q EX P I rx ry hm rs rdx rdy ⟨⟨_, rfl⟩, ⟨_, rfl⟩, q⟩ tk fin
  · exact ho pins s' σ H x y v u F M δ dx dy Q EX P I rx ry hm rs rdx rdy h tk fin
/-- x or y by truth -/
def wOrTru (wa wb : WE) : WE := fun δ M Q EX => wa δ M (fun x M1 => ∃ c, truD M1 x = some c ∧ if c = true then Q x M1 else wb δ M1 Q EX) EX
theorem de_orTru {a b : Expr} {wa wb : WE} {rest : List Expr} {pos : Pos} (ha : DE G X a wa) (hb : DE G X (.BoolOp .Or (b :: rest) pos) wb) : DE G X (.BoolOp .Or (a :: b :: rest) pos) (wOrTru wa wb) := by
  refine pe_imp (pe_orT ha hb) fun σ H P ⟨F, M, δ, Q, EX, hm, rs, h, tk, f⟩ => ?_
  refine ⟨F, M, δ, _, EX, hm, rs, h, tk, fun v d F1 M1 H1 g1 r1 ⟨c, e, h1⟩ => ?_⟩
  refine ⟨c, truD_rep g1.hm r1 e, ?_⟩
  cases c with
  | true => exact f _ _ F1 M1 H1 g1 r1 h1
  | false => exact ⟨F1, M1, δ, Q, EX, g1.hm, rs.mono g1.ext, h1, tk.imp (wX_mono g1), fun v b F2 M2 H2 g2 r q => f v b F2 M2 H2 (g1.trans g2) r q⟩
end
end DL

set_option Elab.async false
set_option linter.all false
set_option maxRecDepth 100000
set_option maxHeartbeats 4000000
namespace My
open PySem PySem.Spec L2 DL
open PyProof.Rows hiding St
def tp (i : Nat) : Stmt := PySem.Challenge.pw_handsweeps_k08_loads_reckoned.main.body.getD i (.Pass ⟨0, 0, 0, 0⟩)
def cb : Stmt → Nat → Stmt
  | .ClassDef _ _ _ body .., j => body.getD j (.Pass ⟨0, 0, 0, 0⟩)
  | _, _ => .Pass ⟨0, 0, 0, 0⟩
theorem hu64 {A : Around} {k : Nat} (hr : Room k A) : A.units + 64 < cLine := by have := hr.un; omega
theorem hu66 {A : Around} {k : Nat} (hr : Room k A) : A.units + 66 < cLine := by have := hr.un; omega
theorem hu1 {A : Around} {k : Nat} (hr : Room k A) : A.units + 1 < cLine := by have := hr.un; omega
theorem plusR {X : Cx} : OpR X (binaryOp .Add) (orR (rI0 fun i j => .int (i + j)) (orR (fun x y H Q => ∃ a b, x = .str a ∧ y = .str b ∧ a.length + b.length ≤ sizeLine ∧ Q (.str (a ++ b)) H) (orR (rCatA X.K) rCat))) := op_or op_add (op_or op_add_str (op_or op_catA op_cat))
theorem timesR {X : Cx} : OpR X (binaryOp .Mult) (orR (orR (rI CMul fun i j => .int (i * j)) (rI CMulW fun i j => .int (i * j))) (orR (rRepT X.K) rRep)) := op_or (op_or op_mul op_mulW) (op_or op_repT op_rep)
structure Bu (K : PySem.W.Frag) (mg : Str → Option Value) (G : Cfg) : Prop where
  b_bool : mg "bool" = none
  b_enumerate : mg "enumerate" = none
  b_int : mg "int" = none
  b_isinstance : mg "isinstance" = none
  b_len : mg "len" = none
  b_list : mg "list" = none
  b_max : mg "max" = none
  b_min : mg "min" = none
  b_range : mg "range" = none
  b_repr : mg "repr" = none
  k_SweepError : mg "SweepError" = some (.ref (G.cl 20))
  k_InvalidLoad : mg "InvalidLoad" = some (.ref (G.cl 24))
  nm_InvalidLoad : G.nm 24 = (["value"] : List Str)
  ex_InvalidLoad : ExT K (G.cl 24)
  xm_InvalidLoad_SweepError : PySem.W.exmOne K (.ref (G.cl 24)) (.ref (G.cl 20)) = some true
  kx_InvalidLoad_LimitExceeded : PySem.W.kitOne K (.ref (G.cl 24)) (.ref (G.cl 32)) = some false
  k_LimitExceeded : mg "LimitExceeded" = some (.ref (G.cl 32))
  nm_LimitExceeded : G.nm 32 = (["limit"] : List Str)
  ex_LimitExceeded : ExT K (G.cl 32)
  fx_LimitExceeded_limit : FldX G K 32 0 "limit"
  xm_LimitExceeded_SweepError : PySem.W.exmOne K (.ref (G.cl 32)) (.ref (G.cl 20)) = some true
  kx_LimitExceeded_LimitExceeded : PySem.W.kitOne K (.ref (G.cl 32)) (.ref (G.cl 32)) = some true
  k_Load : mg "Load" = some (.ref (G.cl 2))
  cls_Load : Cls K (G.cl 2)
  nm_Load : G.nm 2 = (["_forward", "_backward"] : List Str)
  fa_Load__forward : FldAt G K 2 0 "_forward"
  fa_Load__backward : FldAt G K 2 1 "_backward"
  sf_Load : PySem.W.selfFirst K (G.cl 2) = true
  one_Load : PySem.W.findIn K (.ref (G.cl 2)) "__ne__" = some (some (.builtin "object.__ne__"))
  mo_Load : PySem.W.mroIn K (G.cl 2) (.type "object") = some true
  kb_Load : noBlt K (.ref (G.cl 2)) = true
  cc_Load : CcOk K (G.cl 2)
  nf_Load_Load : PySem.W.notFirst K (G.cl 2) (.ref (G.cl 2)) = true
  ki_Load_Load : PySem.W.kitOne K (.ref (G.cl 2)) (.ref (G.cl 2)) = some true
  kt_Load_int : PySem.W.kitOne K (.ref (G.cl 2)) (.type "int") = some false
  kt_Load_bool : PySem.W.kitOne K (.ref (G.cl 2)) (.type "bool") = some false
  cg : CgOk K
  mi1 : PySem.W.findIn K (.type "int") "__mul__" = some (some (.builtin "int.__mul__"))
  mi2 : PySem.W.findIn K (.type "int") "__rmul__" = some (some (.builtin "int.__rmul__"))
  rm_Load : ∃ f : Addr, PySem.W.findIn K (.ref (G.cl 2)) "__rmul__" = some (some (.ref f))
  mi3_Load : PySem.W.subIn K (.type "int") (.ref (G.cl 2)) = some false
  mi4_Load : PySem.W.subIn K (.ref (G.cl 2)) (.type "int") = some false
  ck_Load_MOST : CK G K (G.cl 2) "MOST" (.int 1200)
section
variable {P : Program} {w : World} {K : PySem.W.Frag} {mg : Str → Option Value} {base : Heap} {G : Cfg}
abbrev Nis_integer : List Str := ["value"]
theorem scis_integer : FnScope ["value"] ["value"] (defScope (tp 1)) := ⟨rfl, rfl, rfl, by decide +kernel, rfl, by decide +kernel, by decide +kernel⟩
def wis_integer : WS := (wRet (wAndV (wIsi1 (tbB .int fun k => List.lookup k [(2, false)]) (wV 0)) (wNotV (wIsi1 (tbB .bl fun k => List.lookup k [(2, false)]) (wV 0)))))
def sis_integer : SpD := spOf 1 1 wis_integer
theorem gois_integer (T : Bu K mg G) {f : Addr} (g : Gd K mg "is_integer" (tp 1) f ["value"]) : OkG P w K mg base false 1 "is_integer" ["value"] (lift G K sis_integer) := by
  refine okG g scis_integer fun cdv A out s H E hr hgd => ?_
  exact (dss_one (ds_ret (de_and (de_isi (.ty "int") (isi_bo .int (fun _ z => Ty.noConfusion z) [(2, false)] T.cg (tb_cons ⟨T.kt_Load_int, T.cls_Load, T.cc_Load⟩ tb_nil)) T.b_isinstance (de_v 0) (de_ty T.b_int (by decide +kernel))) (de_one (de_not (de_isi (.ty "bool") (isi_bo .bl (fun _ z => Ty.noConfusion z) [(2, false)] T.cg (tb_cons ⟨T.kt_Load_bool, T.cls_Load, T.cc_Load⟩ tb_nil)) T.b_isinstance (de_v 0) (de_ty T.b_bool (by decide +kernel))))))))
abbrev Nis_integer_within : List Str := ["value", "low", "high"]
theorem scis_integer_within : FnScope ["value", "low", "high"] ["value", "low", "high"] (defScope (tp 2)) := ⟨rfl, rfl, rfl, by decide +kernel, rfl, by decide +kernel, by decide +kernel⟩
def wis_integer_within : WS := (wRet (wAndV (wCall sis_integer [] (wCons (wV 0) wNil)) (wChain wLe wLe (wV 1) (wV 0) (wV 2))))
def sis_integer_within : SpD := spOf 3 3 wis_integer_within
theorem gois_integer_within (T : Bu K mg G) {f : Addr} (g : Gd K mg "is_integer_within" (tp 2) f ["value", "low", "high"]) (okis_integer : OkG P w K mg base false 1 "is_integer" ["value"] (lift G K sis_integer)) : OkG P w K mg base false 2 "is_integer_within" ["value", "low", "high"] (lift G K sis_integer_within) := by
  refine okG g scis_integer_within fun cdv A out s H E hr hgd => ?_
  exact (dss_one (ds_ret (de_and (de_f okis_integer (hr.mono (by decide)) nog (da_cons (de_v 0) da_nil)) (de_one (de_chain op_le (sim_I0 bl_rep) op_le (sim_I0 bl_rep) (de_v 1) (de_v 0) (de_v 2))))))
abbrev N_require_load : List Str := ["value"]
theorem sc_require_load : FnScope ["value"] ["value"] (defScope (tp 10)) := ⟨rfl, rfl, rfl, by decide +kernel, rfl, by decide +kernel, by decide +kernel⟩
def w_require_load : WS := (wIfS (wNotT (wTst (wIsi1 (tbO [(2, true)]) (wV 0)))) wNever wNext)
def s_require_load : SpD := spOf 1 1 w_require_load
theorem go_require_load (T : Bu K mg G) {f : Addr} (g : Gd K mg "_require_load" (tp 10) f ["value"]) : OkG P w K mg base false 1 "_require_load" ["value"] (lift G K s_require_load) := by
  refine okG g sc_require_load fun cdv A out s H E hr hgd => ?_
  exact (dss_one (ds_if (dt_not (dt_val (de_isi (.own _) (isi_o [(2, true)] T.kb_Load T.cg (tb_cons ⟨T.ki_Load_Load, T.cls_Load, T.cc_Load⟩ tb_nil)) T.b_isinstance (de_v 0) (de_cls (v := .ref (G.cl 2)) T.k_Load rfl)))) (dss_one ds_never) dss_nil))
abbrev N_law_mixed : List Str := ["_law_cell", "_law_n", "_law_turned"]
theorem sc_law_mixed : FnScope ["_law_cell", "_law_n", "_law_turned"] ["_law_cell", "_law_n"] (defScope (tp 12)) := ⟨rfl, rfl, rfl, by decide +kernel, rfl, by decide +kernel, by decide +kernel⟩
def w_law_mixed : WS := (wSeq (wSet 2 (wOp wPlus (wOp wPlus (wOp wMod (wB wInt1 (wCons (wOp wTimes (wOp wTimes (wV 0) (wOp wPlus (wC (.int 1)) (wOp wTimes (wC (.int 2)) (wV 1)))) (wC (.int 48271))) wNil)) (wC (.int 2147483647))) (wOp wTimes (wOp wTimes (wC (.int 7919)) (wV 1)) (wV 1))) (wOp wTimes (wC (.int 104729)) (wV 1))))
  (wRet (wOp wDiv (wOp wMod (wB wInt1 (wCons (wOp wTimes (wV 2) (wC (.int 69621))) wNil)) (wC (.int 2147483629))) (wC (.int 7)))))
def s_law_mixed : SpD := spOf 2 3 w_law_mixed
theorem go_law_mixed (T : Bu K mg G) {f : Addr} (g : Gd K mg "_law_mixed" (tp 12) f ["_law_cell", "_law_n"]) : OkG P w K mg base false 1 "_law_mixed" ["_law_cell", "_law_n"] (lift G K s_law_mixed) := by
  refine okG g sc_law_mixed fun cdv A out s H E hr hgd => ?_
  exact (dss_cons (ds_set 2 sc_law_mixed.nd (de_op plusR sim_plus (de_op plusR sim_plus (de_op op_mod (sim_I int_rep) (de_callT sim_int1 call_int1 T.b_int (by decide +kernel) (da_cons (de_op timesR sim_times (de_op timesR sim_times (de_v 0) (de_op plusR sim_plus de_int (de_op timesR sim_times de_int (de_v 1)))) de_int) da_nil)) de_int) (de_op timesR sim_times (de_op timesR sim_times de_int (de_v 1)) (de_v 1))) (de_op timesR sim_times de_int (de_v 1))))
  (dss_one (ds_ret (de_op op_fdiv (sim_I int_rep) (de_op op_mod (sim_I int_rep) (de_callT sim_int1 call_int1 T.b_int (by decide +kernel) (da_cons (de_op timesR sim_times (de_v 2) de_int) da_nil)) de_int) de_int))))
abbrev N_law_folded : List Str := ["_law_script", "_law_found", "_law_n", "_law_cell", "_law_at"]
theorem sc_law_folded : FnScope ["_law_script", "_law_found", "_law_n", "_law_cell", "_law_at"] ["_law_script"] (defScope (tp 13)) := ⟨rfl, rfl, rfl, by decide +kernel, rfl, by decide +kernel, by decide +kernel⟩
def w_law_folded : WS := (wSeq (wSet 1 (wLcM (wiR1 (wCons (wC (.int 64)) wNil)) (bNm 2) wYes (wOp wPlus (wC (.int 17)) (wV 2)) [2]))
  (wSeq (wFor (wiE (wCons (wV 0) wNil)) (bTup [2, 3]) (wSeq (wSet 4 (wOp wMod (wB wInt1 (wCons (wV 2) wNil)) (wC (.int 64))))
  (wPutL (wOp wMod (wB wInt1 (wCons (wOp wPlus (wOp wTimes (wOp wIx (wV 1) (wV 4)) (wC (.int 48271))) (wV 3)) wNil)) (wC (.int 2147483647))) (wV 1) (wV 4))))
  (wSeq (wFor (wiR2 (wCons (wC (.int 1)) (wCons (wC (.int 64)) wNil))) (bNm 2) (wPutL (wOp wMod (wB wInt1 (wCons (wOp wPlus (wOp wIx (wV 1) (wV 2)) (wOp wTimes (wOp wIx (wV 1) (wOp wSub (wV 2) (wC (.int 1)))) (wC (.int 16807)))) wNil)) (wC (.int 2147483647))) (wV 1) (wV 2)))
  (wRet (wFrz (wV 1))))))
def s_law_folded : SpD := spOf 1 5 w_law_folded
theorem go_law_folded (T : Bu K mg G) {f : Addr} (g : Gd K mg "_law_folded" (tp 13) f ["_law_script"]) : OkG P w K mg base false 1 "_law_folded" ["_law_script"] (lift G K s_law_folded) := by
  refine okG g sc_law_folded fun cdv A out s H E hr hgd => ?_
  exact (dss_cons (ds_setLcM 1 [("_law_n", 2)] rfl sc_law_folded.nd (blkOk_by (N := N_law_folded) (sc := defScope (tp 13)) (by decide +kernel)) (di_range1 T.b_range (da_cons de_int da_nil)) (simGw_nm (by decide)) (fun _ _ _ _ _ => (pg_name (i := 2) sc_law_folded.nd rfl (by first | exact Or.inl rfl | exact Or.inr rfl))) (fun _ _ _ _ _ => dpts_nil) (fun _ _ _ _ _ => (de_op plusR sim_plus de_int (de_v 2))) (sw_true rfl rfl rfl (by decide +kernel)))
  (dss_cons (ds_for (passes_of rfl) rfl (di_enum T.b_enumerate (da_cons (de_v 0) da_nil)) (pg_tup rfl (pgs_cons (pg_name (i := 2) sc_law_folded.nd rfl (by first | exact Or.inl rfl | exact Or.inr rfl)) (pgs_cons (pg_name (i := 3) sc_law_folded.nd rfl (by first | exact Or.inl rfl | exact Or.inr rfl)) pgs_nil))) (simG_tup [2, 3]) (dss_cons (ds_set 4 sc_law_folded.nd (de_op op_mod (sim_I int_rep) (de_callT sim_int1 call_int1 T.b_int (by decide +kernel) (da_cons (de_v 2) da_nil)) de_int))
  (dss_one (ds_putL (de_op op_mod (sim_I int_rep) (de_callT sim_int1 call_int1 T.b_int (by decide +kernel) (da_cons (de_op plusR sim_plus (de_op timesR sim_times (de_ix (ix_or ix_list ix_tup) sim_ix (de_v 1) (de_v 4) (fun _ _ => rfl)) de_int) (de_v 3)) da_nil)) de_int) (de_v 1) (de_v 4)))))
  (dss_cons (ds_for (passes_of rfl) rfl (di_range2 T.b_range (da_cons de_int (da_cons de_int da_nil))) (pg_name (i := 2) sc_law_folded.nd rfl (by first | exact Or.inl rfl | exact Or.inr rfl)) (simG_nm 2) (dss_one (ds_putL (de_op op_mod (sim_I int_rep) (de_callT sim_int1 call_int1 T.b_int (by decide +kernel) (da_cons (de_op plusR sim_plus (de_ix (ix_or ix_list ix_tup) sim_ix (de_v 1) (de_v 2) (fun _ _ => rfl)) (de_op timesR sim_times (de_ix (ix_or ix_list ix_tup) sim_ix (de_v 1) (de_op op_sub (sim_I0 int_rep) (de_v 2) de_int) (fun _ _ => rfl)) de_int)) da_nil)) de_int) (de_v 1) (de_v 2))))
  (dss_one (ds_ret (de_frz (de_v 1)))))))
abbrev N_law_draw : List Str := ["_law_m", "_law_top", "_law_n", "_law_cell", "_law_at"]
theorem sc_law_draw : FnScope ["_law_m", "_law_top", "_law_n", "_law_cell", "_law_at"] ["_law_m", "_law_top"] (defScope (tp 14)) := ⟨rfl, rfl, rfl, by decide +kernel, rfl, by decide +kernel, by decide +kernel⟩
def w_law_draw : WS := (wSeq (wSet 2 (wDGet (wV 0) (wC (.str "spot"))))
  (wSeq (wDPut (wOp wPlus (wV 2) (wC (.int 1))) (wV 0) (wC (.str "spot")))
  (wSeq (wIfS (wTst (wOp wNe2 (wDGet (wV 0) (wC (.str "great"))) (wLst wNil))) (wSeq (wSet 4 (wOp wMod (wB wInt1 (wCons (wV 2) wNil)) (wB wLen (wCons (wDGet (wV 0) (wC (.str "great"))) wNil))))
  (wSeq (wSet 3 (wOp wIx (wDGet (wV 0) (wC (.str "great"))) (wV 4)))
  (wIfS (wTst (wOp wGt (wV 3) (wC (.int 0)))) (wSeq (wPutL (wOp wDiv (wV 3) (wV 1)) (wDGet (wV 0) (wC (.str "great"))) (wV 4))
  (wRet (wOp wMod (wB wInt1 (wCons (wV 3) wNil)) (wV 1)))) wNext))) wNext)
  (wSeq (wSet 3 (wOp wIx (wDGet (wV 0) (wC (.str "cells"))) (wOp wMod (wB wInt1 (wCons (wV 2) wNil)) (wC (.int 64)))))
  (wRet (wOp wMod (wB wInt1 (wCons (wCall s_law_mixed [] (wCons (wCall s_law_mixed [] (wCons (wOp wPlus (wV 3) (wOp wTimes (wC (.int 31)) (wOp wDiv (wV 2) (wC (.int 64))))) (wCons (wV 2) wNil))) (wCons (wOp wPlus (wV 2) (wC (.int 7))) wNil))) wNil)) (wV 1)))))))
def s_law_draw : SpD := spOf 2 5 w_law_draw
theorem go_law_draw (T : Bu K mg G) {f : Addr} (g : Gd K mg "_law_draw" (tp 14) f ["_law_m", "_law_top"]) (ok_law_mixed : OkG P w K mg base false 1 "_law_mixed" ["_law_cell", "_law_n"] (lift G K s_law_mixed)) : OkG P w K mg base false 2 "_law_draw" ["_law_m", "_law_top"] (lift G K s_law_draw) := by
  refine okG g sc_law_draw fun cdv A out s H E hr hgd => ?_
  exact (dss_cons (ds_set 2 sc_law_draw.nd (de_dget (hu1 hr) (de_v 0) de_str (fun _ _ => rfl)))
  (dss_cons (ds_dput (hu1 hr) (de_op plusR sim_plus (de_v 2) de_int) (de_v 0) de_str)
  (dss_cons (ds_if (dt_cmp (op_or op_ne (op_neD (hu64 hr))) sim_ne2 (de_dget (hu1 hr) (de_v 0) de_str (fun _ _ => rfl)) (de_lst da_nil) (nomark _)) (dss_cons (ds_set 4 sc_law_draw.nd (de_op op_mod (sim_I int_rep) (de_callT sim_int1 call_int1 T.b_int (by decide +kernel) (da_cons (de_v 2) da_nil)) (de_callB sim_len call_len_seq T.b_len (by decide +kernel) (da_cons (de_dget (hu1 hr) (de_v 0) de_str (fun _ _ => rfl)) da_nil))))
  (dss_cons (ds_set 3 sc_law_draw.nd (de_ix (ix_or ix_list ix_tup) sim_ix (de_dget (hu1 hr) (de_v 0) de_str (fun _ _ => rfl)) (de_v 4) (fun _ _ => rfl)))
  (dss_one (ds_if (dt_cmp op_gt (sim_I0 bl_rep) (de_v 3) de_int (nomark _)) (dss_cons (ds_putL (de_op op_fdiv (sim_I int_rep) (de_v 3) (de_v 1)) (de_dget (hu1 hr) (de_v 0) de_str (fun _ _ => rfl)) (de_v 4))
  (dss_one (ds_ret (de_op op_mod (sim_I int_rep) (de_callT sim_int1 call_int1 T.b_int (by decide +kernel) (da_cons (de_v 3) da_nil)) (de_v 1))))) dss_nil)))) dss_nil)
  (dss_cons (ds_set 3 sc_law_draw.nd (de_ix (ix_or ix_list ix_tup) sim_ix (de_dget (hu1 hr) (de_v 0) de_str (fun _ _ => rfl)) (de_op op_mod (sim_I int_rep) (de_callT sim_int1 call_int1 T.b_int (by decide +kernel) (da_cons (de_v 2) da_nil)) de_int) (fun _ _ => rfl)))
  (dss_one (ds_ret (de_op op_mod (sim_I int_rep) (de_callT sim_int1 call_int1 T.b_int (by decide +kernel) (da_cons (de_f ok_law_mixed (hr.mono (by decide)) nog (da_cons (de_f ok_law_mixed (hr.mono (by decide)) nog (da_cons (de_op plusR sim_plus (de_v 3) (de_op timesR sim_times de_int (de_op op_fdiv (sim_I int_rep) (de_v 2) de_int))) (da_cons (de_v 2) da_nil))) (da_cons (de_op plusR sim_plus (de_v 2) de_int) da_nil))) da_nil)) (de_v 1))))))))
abbrev N_law_begun : List Str := ["_law_script", "_law_m", "_law_cell"]
theorem sc_law_begun : FnScope ["_law_script", "_law_m", "_law_cell"] ["_law_script"] (defScope (tp 15)) := ⟨rfl, rfl, rfl, by decide +kernel, rfl, by decide +kernel, by decide +kernel⟩
def w_law_begun : WS := (wSeq (wSet 1 (wDctM [.inr "cells", .inr "great", .inr "spot"] (wCons (wCall s_law_folded [] (wCons (wV 0) wNil)) (wCons (wLstM wNil) (wCons (wC (.int 0)) wNil)))))
  (wSeq (wDPut (wLcM (wiS (wV 0)) (bNm 2) wYes (wIf (wTst (wOp wGe (wV 2) (wOp wPow (wC (.int 10)) (wC (.int 18))))) (wV 2) (wC (.int 0))) [2]) (wV 1) (wC (.str "great")))
  (wRet (wV 1))))
def s_law_begun : SpD := spOf 1 3 w_law_begun
theorem go_law_begun (T : Bu K mg G) {f : Addr} (g : Gd K mg "_law_begun" (tp 15) f ["_law_script"]) (ok_law_folded : OkG P w K mg base false 1 "_law_folded" ["_law_script"] (lift G K s_law_folded)) : OkG P w K mg base false 2 "_law_begun" ["_law_script"] (lift G K s_law_begun) := by
  refine okG g sc_law_begun fun cdv A out s H E hr hgd => ?_
  exact (dss_cons (ds_set 1 sc_law_begun.nd (de_dctM (dp_cons pe_str (de_f ok_law_folded (hr.mono (by decide)) nog (da_cons (de_v 0) da_nil)) (dp_cons pe_str (de_lstM da_nil) (dp_cons pe_str de_int dp_nil)))))
  (dss_cons (ds_dput (hu1 hr) (de_lcM [("_law_cell", 2)] rfl sc_law_begun.nd (blkOk_by (N := N_law_begun) (sc := defScope (tp 15)) (by decide +kernel)) (di_seq (de_v 0)) (simGw_nm (by decide)) (fun _ _ _ _ _ => (pg_name (i := 2) sc_law_begun.nd rfl (by first | exact Or.inl rfl | exact Or.inr rfl))) (fun _ _ _ _ _ => dpts_nil) (fun _ _ _ _ _ => (de_if (dt_cmp op_ge (sim_I0 bl_rep) (de_v 2) (de_op op_pow (sim_I int_rep) de_int de_int) (nomark _)) (de_v 2) de_int))) (de_v 1) de_str)
  (dss_one (ds_ret (de_v 1)))))
abbrev N_law_pick : List Str := ["_law_m", "_law_some"]
theorem sc_law_pick : FnScope ["_law_m", "_law_some"] ["_law_m", "_law_some"] (defScope (tp 16)) := ⟨rfl, rfl, rfl, by decide +kernel, rfl, by decide +kernel, by decide +kernel⟩
def w_law_pick : WS := (wRet (wOp wIx (wV 1) (wCall s_law_draw [] (wCons (wV 0) (wCons (wB wLen (wCons (wV 1) wNil)) wNil)))))
def s_law_pick : SpD := spOf 2 2 w_law_pick
theorem go_law_pick (T : Bu K mg G) {f : Addr} (g : Gd K mg "_law_pick" (tp 16) f ["_law_m", "_law_some"]) (ok_law_draw : OkG P w K mg base false 2 "_law_draw" ["_law_m", "_law_top"] (lift G K s_law_draw)) : OkG P w K mg base false 3 "_law_pick" ["_law_m", "_law_some"] (lift G K s_law_pick) := by
  refine okG g sc_law_pick fun cdv A out s H E hr hgd => ?_
  exact (dss_one (ds_ret (de_ix (ix_or ix_list ix_tup) sim_ix (de_v 1) (de_f ok_law_draw (hr.mono (by decide)) nog (da_cons (de_v 0) (da_cons (de_callB sim_len call_len_seq T.b_len (by decide +kernel) (da_cons (de_v 1) da_nil)) da_nil))) (fun _ _ => rfl))))
abbrev N_law_near : List Str := ["_law_m"]
theorem sc_law_near : FnScope ["_law_m"] ["_law_m"] (defScope (tp 17)) := ⟨rfl, rfl, rfl, by decide +kernel, rfl, by decide +kernel, by decide +kernel⟩
def w_law_near : WS := (wRet (wCall s_law_pick [] (wCons (wV 0) (wCons (wLst (wCons (wC (.int 0)) (wCons (wC (.int 0)) (wCons (wC (.int 1)) (wCons (wC (.int 2)) (wCons (wC (.int 599)) (wCons (wC (.int 600)) (wCons (wC (.int 601)) (wCons (wC (.int 1199)) (wCons (wC (.int 1200)) (wCons (wCall s_law_draw [] (wCons (wV 0) (wCons (wC (.int 1201)) wNil))) (wCons (wCall s_law_draw [] (wCons (wV 0) (wCons (wC (.int 30)) wNil))) wNil)))))))))))) wNil))))
def s_law_near : SpD := spOf 1 1 w_law_near
theorem go_law_near (T : Bu K mg G) {f : Addr} (g : Gd K mg "_law_near" (tp 17) f ["_law_m"]) (ok_law_draw : OkG P w K mg base false 2 "_law_draw" ["_law_m", "_law_top"] (lift G K s_law_draw)) (ok_law_pick : OkG P w K mg base false 3 "_law_pick" ["_law_m", "_law_some"] (lift G K s_law_pick)) : OkG P w K mg base false 4 "_law_near" ["_law_m"] (lift G K s_law_near) := by
  refine okG g sc_law_near fun cdv A out s H E hr hgd => ?_
  exact (dss_one (ds_ret (de_f ok_law_pick (hr.mono (by decide)) nog (da_cons (de_v 0) (da_cons (de_lst (da_cons de_int (da_cons de_int (da_cons de_int (da_cons de_int (da_cons de_int (da_cons de_int (da_cons de_int (da_cons de_int (da_cons de_int (da_cons (de_f ok_law_draw (hr.mono (by decide)) nog (da_cons (de_v 0) (da_cons de_int da_nil))) (da_cons (de_f ok_law_draw (hr.mono (by decide)) nog (da_cons (de_v 0) (da_cons de_int da_nil))) da_nil)))))))))))) da_nil)))))
abbrev N_law_due : List Str := ["_law_a", "_law_b"]
theorem sc_law_due : FnScope ["_law_a", "_law_b"] ["_law_a", "_law_b"] (defScope (tp 19)) := ⟨rfl, rfl, rfl, by decide +kernel, rfl, by decide +kernel, by decide +kernel⟩
def w_law_due : WS := (wRet (wIf (wTst (wOp wLe (wB wMax2 (wCons (wV 0) (wCons (wV 1) wNil))) (wC (.int 1200)))) (wTup (wCons (wV 0) (wCons (wV 1) wNil))) (wTup (wCons (wC (.str "great")) (wCons (wC (.int 1200)) wNil)))))
def s_law_due : SpD := spOf 2 2 w_law_due
theorem go_law_due (T : Bu K mg G) {f : Addr} (g : Gd K mg "_law_due" (tp 19) f ["_law_a", "_law_b"]) : OkG P w K mg base false 1 "_law_due" ["_law_a", "_law_b"] (lift G K s_law_due) := by
  refine okG g sc_law_due fun cdv A out s H E hr hgd => ?_
  exact (dss_one (ds_ret (de_if (dt_cmp op_le (sim_I0 bl_rep) (de_callB sim_max2 (call_max2 rfl) T.b_max (by decide +kernel) (da_cons (de_v 0) (da_cons (de_v 1) da_nil))) de_int (nomark _)) (de_tup (da_cons (de_v 0) (da_cons (de_v 1) da_nil))) (de_tup (da_cons de_str (da_cons de_int da_nil))))))
theorem scInvalidLoad_init : FnScope ["self", "value"] ["self", "value"] (defScope (cb (tp 5) 0)) := ⟨rfl, rfl, rfl, by decide +kernel, rfl, by decide +kernel, by decide +kernel⟩
theorem goInvalidLoad_init (g : GXi K (G.cl 24) "InvalidLoad.__init__" (cb (tp 5) 0) ["value"] ["self", "value"]) : OkX P w K mg base (G.cl 24) 1 ["self", "value"] (fun ws => List.zip ["value"] ws) := okX1 g scInvalidLoad_init rfl (by decide) (by decide) (by decide) (by decide)
theorem scLimitExceeded_init : FnScope ["self", "limit"] ["self", "limit"] (defScope (cb (tp 6) 0)) := ⟨rfl, rfl, rfl, by decide +kernel, rfl, by decide +kernel, by decide +kernel⟩
theorem goLimitExceeded_init (g : GXi K (G.cl 32) "LimitExceeded.__init__" (cb (tp 6) 0) ["limit"] ["self", "limit"]) : OkX P w K mg base (G.cl 32) 1 ["self", "limit"] (fun ws => List.zip ["limit"] ws) := okX1 g scLimitExceeded_init rfl (by decide) (by decide) (by decide) (by decide)
abbrev NLoad_init : List Str := ["self", "forward", "backward", "value"]
theorem scLoad_init : FnScope ["self", "forward", "backward", "value"] ["self", "forward", "backward"] (defScope (cb (tp 8) 1)) := ⟨rfl, rfl, rfl, by decide +kernel, rfl, by decide +kernel, by decide +kernel⟩
def wLoad_init : WS := (wSeq (wFor (wiS (wTup (wCons (wV 1) (wCons (wV 2) wNil)))) (bNm 3) (wIfS (wNotT (wTst (wCall sis_integer_within [] (wCons (wV 3) (wCons (wC (.int 0)) (wCons (wC (.int 1200)) wNil)))))) (wRaise 1 24 (wCons (wV 3) wNil)) wNext))
  (wSeq (wFldPut [(2, 0)] (wV 0) (wV 1))
  (wFldPut [(2, 1)] (wV 0) (wV 2))))
def sLoad_init : SpD := spOf 3 4 wLoad_init
theorem goLoad_init (T : Bu K mg G) (g : GInit K (G.cl 2) "Load.__init__" (cb (tp 8) 1) []) (okInvalidLoad_init : OkX P w K mg base (G.cl 24) 1 ["self", "value"] (fun ws => List.zip ["value"] ws)) (okis_integer_within : OkG P w K mg base false 2 "is_integer_within" ["value", "low", "high"] (lift G K sis_integer_within)) : OkInit P w K mg base false 3 (G.cl 2) "Load.__init__" (cb (tp 8) 1) [] ["self", "forward", "backward"] (lift G K sLoad_init) := by
  refine okInit g scLoad_init fun f cdv A out s H E hr hgd => ?_
  exact (dss_cons (ds_for (passes_of rfl) rfl (di_seq (de_tup (da_cons (de_v 1) (da_cons (de_v 2) da_nil)))) (pg_name (i := 3) scLoad_init.nd rfl (by first | exact Or.inl rfl | exact Or.inr rfl)) (simG_nm 3) (dss_one (ds_if (dt_not (dt_val (de_f okis_integer_within (hr.mono (by decide)) nog (da_cons (de_v 3) (da_cons de_int (da_cons (de_cvalN T.ck_Load_MOST T.k_Load) da_nil)))))) (dss_one (ds_raise (fun _ _ => by rw [T.nm_InvalidLoad]) (by rw [T.nm_InvalidLoad]; rfl) okInvalidLoad_init T.ex_InvalidLoad (hr.mono (by decide)) T.k_InvalidLoad (da_cons (de_v 3) da_nil))) dss_nil)))
  (dss_cons (ds_fld [(2, 0)] (tb_cons ⟨T.fa_Load__forward, by rw [T.nm_Load]; decide⟩ tb_nil) (de_v 0) (de_v 1))
  (dss_one (ds_fld [(2, 1)] (tb_cons ⟨T.fa_Load__backward, by rw [T.nm_Load]; decide⟩ tb_nil) (de_v 0) (de_v 2)))))
abbrev NLoad_forward : List Str := ["self"]
theorem scLoad_forward : FnScope ["self"] ["self"] (defScope (cb (tp 8) 2)) := ⟨rfl, rfl, rfl, by decide +kernel, rfl, by decide +kernel, by decide +kernel⟩
def wLoad_forward : WS := (wRet (wFld [(2, 0)] (wV 0)))
def sLoad_forward : SpD := spOf 1 1 wLoad_forward
theorem goLoad_forward (T : Bu K mg G) (g : GProp K (G.cl 2) "forward" "Load.forward" (cb (tp 8) 2) ["self"]) : OkProp P w K mg base false 1 (G.cl 2) "forward" ["self"] (lift G K sLoad_forward) := by
  refine okProp g scLoad_forward fun f cdv A out s H E hr hgd => ?_
  exact (dss_one (ds_ret (de_fld [(2, 0)] (tb_cons T.fa_Load__forward tb_nil) (de_v 0))))
abbrev NLoad_backward : List Str := ["self"]
theorem scLoad_backward : FnScope ["self"] ["self"] (defScope (cb (tp 8) 3)) := ⟨rfl, rfl, rfl, by decide +kernel, rfl, by decide +kernel, by decide +kernel⟩
def wLoad_backward : WS := (wRet (wFld [(2, 1)] (wV 0)))
def sLoad_backward : SpD := spOf 1 1 wLoad_backward
theorem goLoad_backward (T : Bu K mg G) (g : GProp K (G.cl 2) "backward" "Load.backward" (cb (tp 8) 3) ["self"]) : OkProp P w K mg base false 1 (G.cl 2) "backward" ["self"] (lift G K sLoad_backward) := by
  refine okProp g scLoad_backward fun f cdv A out s H E hr hgd => ?_
  exact (dss_one (ds_ret (de_fld [(2, 1)] (tb_cons T.fa_Load__backward tb_nil) (de_v 0))))
abbrev NLoad_covers : List Str := ["self", "other"]
theorem scLoad_covers : FnScope ["self", "other"] ["self", "other"] (defScope (cb (tp 8) 4)) := ⟨rfl, rfl, rfl, by decide +kernel, rfl, by decide +kernel, by decide +kernel⟩
def wLoad_covers : WS := (wRet (wAndV (wOp wGe (wFld [(2, 0)] (wV 0)) (wFld [(2, 0)] (wV 1))) (wOp wGe (wFld [(2, 1)] (wV 0)) (wFld [(2, 1)] (wV 1)))))
def sLoad_covers : SpD := spOf 2 2 wLoad_covers
theorem goLoad_covers (T : Bu K mg G) (g : GMeth K (G.cl 2) "covers" "Load.covers" (cb (tp 8) 4) ["self", "other"]) : OkMeth P w K mg base false 1 (G.cl 2) "covers" ["self", "other"] (lift G K sLoad_covers) := by
  refine okMeth g scLoad_covers fun f cdv A out s H E hr hgd => ?_
  exact (dss_one (ds_ret (de_and (de_cmp op_ge (sim_I0 bl_rep) (de_fld [(2, 0)] (tb_cons T.fa_Load__forward tb_nil) (de_v 0)) (de_fld [(2, 0)] (tb_cons T.fa_Load__forward tb_nil) (de_v 1)) (nomark _)) (de_one (de_cmp op_ge (sim_I0 bl_rep) (de_fld [(2, 1)] (tb_cons T.fa_Load__backward tb_nil) (de_v 0)) (de_fld [(2, 1)] (tb_cons T.fa_Load__backward tb_nil) (de_v 1)) (nomark _))))))
abbrev NLoad_eq : List Str := ["self", "other"]
theorem scLoad_eq : FnScope ["self", "other"] ["self", "other"] (defScope (cb (tp 8) 5)) := ⟨rfl, rfl, rfl, by decide +kernel, rfl, by decide +kernel, by decide +kernel⟩
def wLoad_eq : WS := (wRet (wAndV (wIsi1 (tbO [(2, true)]) (wV 1)) (wAndV (wOp wEq2 (wFld [(2, 0)] (wV 0)) (wFld [(2, 0)] (wV 1))) (wOp wEq2 (wFld [(2, 1)] (wV 0)) (wFld [(2, 1)] (wV 1))))))
def sLoad_eq : SpD := spOf 2 2 wLoad_eq
theorem goLoad_eq (T : Bu K mg G) (g : GMeth K (G.cl 2) "__eq__" "Load.__eq__" (cb (tp 8) 5) ["self", "other"]) : OkMeth P w K mg base false 1 (G.cl 2) "__eq__" ["self", "other"] (lift G K sLoad_eq) := by
  refine okMeth g scLoad_eq fun f cdv A out s H E hr hgd => ?_
  exact (dss_one (ds_ret (de_and (de_isi (.own _) (isi_o [(2, true)] T.kb_Load T.cg (tb_cons ⟨T.ki_Load_Load, T.cls_Load, T.cc_Load⟩ tb_nil)) T.b_isinstance (de_v 1) (de_cls (v := .ref (G.cl 2)) T.k_Load rfl)) (de_and (de_cmp (op_or op_eq (op_eqD (hu64 hr))) sim_eq2 (de_fld [(2, 0)] (tb_cons T.fa_Load__forward tb_nil) (de_v 0)) (de_fld [(2, 0)] (tb_cons T.fa_Load__forward tb_nil) (de_v 1)) (nomark _)) (de_one (de_cmp (op_or op_eq (op_eqD (hu64 hr))) sim_eq2 (de_fld [(2, 1)] (tb_cons T.fa_Load__backward tb_nil) (de_v 0)) (de_fld [(2, 1)] (tb_cons T.fa_Load__backward tb_nil) (de_v 1)) (nomark _)))))))
abbrev NLoad_bool : List Str := ["self"]
theorem scLoad_bool : FnScope ["self"] ["self"] (defScope (cb (tp 8) 6)) := ⟨rfl, rfl, rfl, by decide +kernel, rfl, by decide +kernel, by decide +kernel⟩
def wLoad_bool : WS := (wRet (wBoolO [] (wOrTru (wFld [(2, 0)] (wV 0)) (wFld [(2, 1)] (wV 0)))))
def sLoad_bool : SpD := spOf 1 1 wLoad_bool
theorem goLoad_bool (T : Bu K mg G) (g : GMeth K (G.cl 2) "__bool__" "Load.__bool__" (cb (tp 8) 6) ["self"]) : OkMeth P w K mg base false 1 (G.cl 2) "__bool__" ["self"] (lift G K sLoad_bool) := by
  refine okMeth g scLoad_bool fun f cdv A out s H E hr hgd => ?_
  exact (dss_one (ds_ret (de_boolO [] tb_nil T.b_bool (de_orTru (de_fld [(2, 0)] (tb_cons T.fa_Load__forward tb_nil) (de_v 0)) (de_one (de_fld [(2, 1)] (tb_cons T.fa_Load__backward tb_nil) (de_v 0)))))))
abbrev NLoad_neg : List Str := ["self"]
theorem scLoad_neg : FnScope ["self"] ["self"] (defScope (cb (tp 8) 7)) := ⟨rfl, rfl, rfl, by decide +kernel, rfl, by decide +kernel, by decide +kernel⟩
def wLoad_neg : WS := (wRet (wFrzI 2 2 (wMake 2 sLoad_init [] (wCons (wFld [(2, 1)] (wV 0)) (wCons (wFld [(2, 0)] (wV 0)) wNil)))))
def sLoad_neg : SpD := spOf 1 1 wLoad_neg
theorem goLoad_neg (T : Bu K mg G) (g : GMeth K (G.cl 2) "__neg__" "Load.__neg__" (cb (tp 8) 7) ["self"]) (okLoad_init : OkInit P w K mg base false 3 (G.cl 2) "Load.__init__" (cb (tp 8) 1) [] ["self", "forward", "backward"] (lift G K sLoad_init)) : OkMeth P w K mg base false 5 (G.cl 2) "__neg__" ["self"] (lift G K sLoad_neg) := by
  refine okMeth g scLoad_neg fun f cdv A out s H E hr hgd => ?_
  exact (dss_one (ds_ret (de_frzI (by rw [T.nm_Load]; rfl) (de_new okLoad_init (hr.mono (by decide)) nog T.k_Load (fun _ _ _ _ _ _ us hl => match us, hl with | [_, _, _], _ => rfl) (da_cons (de_fld [(2, 1)] (tb_cons T.fa_Load__backward tb_nil) (de_v 0)) (da_cons (de_fld [(2, 0)] (tb_cons T.fa_Load__forward tb_nil) (de_v 0)) da_nil))))))
abbrev NLoad_and : List Str := ["self", "other"]
theorem scLoad_and : FnScope ["self", "other"] ["self", "other"] (defScope (cb (tp 8) 11)) := ⟨rfl, rfl, rfl, by decide +kernel, rfl, by decide +kernel, by decide +kernel⟩
def wLoad_and : WS := (wSeq (wDrop (wCall s_require_load [] (wCons (wV 1) wNil)))
  (wRet (wFrzI 2 2 (wMake 2 sLoad_init [] (wCons (wB wMin2 (wCons (wFld [(2, 0)] (wV 0)) (wCons (wFld [(2, 0)] (wV 1)) wNil))) (wCons (wB wMin2 (wCons (wFld [(2, 1)] (wV 0)) (wCons (wFld [(2, 1)] (wV 1)) wNil))) wNil))))))
def sLoad_and : SpD := spOf 2 2 wLoad_and
theorem goLoad_and (T : Bu K mg G) (g : GMeth K (G.cl 2) "__and__" "Load.__and__" (cb (tp 8) 11) ["self", "other"]) (okLoad_init : OkInit P w K mg base false 3 (G.cl 2) "Load.__init__" (cb (tp 8) 1) [] ["self", "forward", "backward"] (lift G K sLoad_init)) (ok_require_load : OkG P w K mg base false 1 "_require_load" ["value"] (lift G K s_require_load)) : OkMeth P w K mg base false 5 (G.cl 2) "__and__" ["self", "other"] (lift G K sLoad_and) := by
  refine okMeth g scLoad_and fun f cdv A out s H E hr hgd => ?_
  exact (dss_cons (ds_expr (de_f ok_require_load (hr.mono (by decide)) nog (da_cons (de_v 1) da_nil)))
  (dss_one (ds_ret (de_frzI (by rw [T.nm_Load]; rfl) (de_new okLoad_init (hr.mono (by decide)) nog T.k_Load (fun _ _ _ _ _ _ us hl => match us, hl with | [_, _, _], _ => rfl) (da_cons (de_callB sim_min2 (call_min2 rfl) T.b_min (by decide +kernel) (da_cons (de_fld [(2, 0)] (tb_cons T.fa_Load__forward tb_nil) (de_v 0)) (da_cons (de_fld [(2, 0)] (tb_cons T.fa_Load__forward tb_nil) (de_v 1)) da_nil))) (da_cons (de_callB sim_min2 (call_min2 rfl) T.b_min (by decide +kernel) (da_cons (de_fld [(2, 1)] (tb_cons T.fa_Load__backward tb_nil) (de_v 0)) (da_cons (de_fld [(2, 1)] (tb_cons T.fa_Load__backward tb_nil) (de_v 1)) da_nil))) da_nil)))))))
abbrev NLoad_or : List Str := ["self", "other"]
theorem scLoad_or : FnScope ["self", "other"] ["self", "other"] (defScope (cb (tp 8) 12)) := ⟨rfl, rfl, rfl, by decide +kernel, rfl, by decide +kernel, by decide +kernel⟩
def wLoad_or : WS := (wSeq (wDrop (wCall s_require_load [] (wCons (wV 1) wNil)))
  (wRet (wFrzI 2 2 (wMake 2 sLoad_init [] (wCons (wB wMax2 (wCons (wFld [(2, 0)] (wV 0)) (wCons (wFld [(2, 0)] (wV 1)) wNil))) (wCons (wB wMax2 (wCons (wFld [(2, 1)] (wV 0)) (wCons (wFld [(2, 1)] (wV 1)) wNil))) wNil))))))
def sLoad_or : SpD := spOf 2 2 wLoad_or
theorem goLoad_or (T : Bu K mg G) (g : GMeth K (G.cl 2) "__or__" "Load.__or__" (cb (tp 8) 12) ["self", "other"]) (okLoad_init : OkInit P w K mg base false 3 (G.cl 2) "Load.__init__" (cb (tp 8) 1) [] ["self", "forward", "backward"] (lift G K sLoad_init)) (ok_require_load : OkG P w K mg base false 1 "_require_load" ["value"] (lift G K s_require_load)) : OkMeth P w K mg base false 5 (G.cl 2) "__or__" ["self", "other"] (lift G K sLoad_or) := by
  refine okMeth g scLoad_or fun f cdv A out s H E hr hgd => ?_
  exact (dss_cons (ds_expr (de_f ok_require_load (hr.mono (by decide)) nog (da_cons (de_v 1) da_nil)))
  (dss_one (ds_ret (de_frzI (by rw [T.nm_Load]; rfl) (de_new okLoad_init (hr.mono (by decide)) nog T.k_Load (fun _ _ _ _ _ _ us hl => match us, hl with | [_, _, _], _ => rfl) (da_cons (de_callB sim_max2 (call_max2 rfl) T.b_max (by decide +kernel) (da_cons (de_fld [(2, 0)] (tb_cons T.fa_Load__forward tb_nil) (de_v 0)) (da_cons (de_fld [(2, 0)] (tb_cons T.fa_Load__forward tb_nil) (de_v 1)) da_nil))) (da_cons (de_callB sim_max2 (call_max2 rfl) T.b_max (by decide +kernel) (da_cons (de_fld [(2, 1)] (tb_cons T.fa_Load__backward tb_nil) (de_v 0)) (da_cons (de_fld [(2, 1)] (tb_cons T.fa_Load__backward tb_nil) (de_v 1)) da_nil))) da_nil)))))))
abbrev Nload_within_limit : List Str := ["forward", "backward"]
theorem scload_within_limit : FnScope ["forward", "backward"] ["forward", "backward"] (defScope (tp 9)) := ⟨rfl, rfl, rfl, by decide +kernel, rfl, by decide +kernel, by decide +kernel⟩
def wload_within_limit : WS := (wSeq (wIfS (wTst (wOp wGt (wB wMax2 (wCons (wV 0) (wCons (wV 1) wNil))) (wC (.int 1200)))) (wRaise 1 32 (wCons (wC (.int 1200)) wNil)) wNext)
  (wRet (wFrzI 2 2 (wMake 2 sLoad_init [] (wCons (wV 0) (wCons (wV 1) wNil))))))
def sload_within_limit : SpD := spOf 2 2 wload_within_limit
theorem goload_within_limit (T : Bu K mg G) {f : Addr} (g : Gd K mg "load_within_limit" (tp 9) f ["forward", "backward"]) (okLimitExceeded_init : OkX P w K mg base (G.cl 32) 1 ["self", "limit"] (fun ws => List.zip ["limit"] ws)) (okLoad_init : OkInit P w K mg base false 3 (G.cl 2) "Load.__init__" (cb (tp 8) 1) [] ["self", "forward", "backward"] (lift G K sLoad_init)) : OkG P w K mg base false 5 "load_within_limit" ["forward", "backward"] (lift G K sload_within_limit) := by
  refine okG g scload_within_limit fun cdv A out s H E hr hgd => ?_
  exact (dss_cons (ds_if (dt_cmp op_gt (sim_I0 bl_rep) (de_callB sim_max2 (call_max2 rfl) T.b_max (by decide +kernel) (da_cons (de_v 0) (da_cons (de_v 1) da_nil))) (de_cvalN T.ck_Load_MOST T.k_Load) (nomark _)) (dss_one (ds_raise (fun _ _ => by rw [T.nm_LimitExceeded]) (by rw [T.nm_LimitExceeded]; rfl) okLimitExceeded_init T.ex_LimitExceeded (hr.mono (by decide)) T.k_LimitExceeded (da_cons (de_cvalN T.ck_Load_MOST T.k_Load) da_nil))) dss_nil)
  (dss_one (ds_ret (de_frzI (by rw [T.nm_Load]; rfl) (de_new okLoad_init (hr.mono (by decide)) nog T.k_Load (fun _ _ _ _ _ _ us hl => match us, hl with | [_, _, _], _ => rfl) (da_cons (de_v 0) (da_cons (de_v 1) da_nil)))))))
abbrev N_law_told : List Str := ["_law_deed", "error", "_law_caught", "_law_found"]
theorem sc_law_told : FnScope N_law_told ["_law_deed"] (defScope (tp 18)) := ⟨rfl, rfl, rfl, by decide +kernel, rfl, by decide +kernel, by decide +kernel⟩
def w_law_told (v : D) (tk : Tk) : WS := (wSeq (wAsg (bTup [2, 3]) (wTup (wCons (wC .non) (wCons (wC .non) wNil))))
  (wSeq (wTry (wSet 3 (wDeed 0 v tk)) [([(24, true), (32, true)], some 1, (wSet 2 (wV 1)))])
  (wSeq (wIfS (wTst (wOp wIsN (wV 2) (wC .non))) (wRet (wIf (wTst (wIsi1 (tbO [(2, true)]) (wV 3))) (wTup (wCons (wProp [(2, sLoad_forward)] (wV 3)) (wCons (wProp [(2, sLoad_backward)] (wV 3)) wNil))) (wTup (wCons (wC (.str "no load")) (wCons (wC .non) wNil))))) wNext)
  (wRet (wIf (wTst (wIsX1 [(24, false), (32, true)] (wV 2))) (wTup (wCons (wC (.str "great")) (wCons (wFldX [(32, 0)] (wV 2)) wNil))) (wTup (wCons (wC (.str "else")) (wCons (wC .non) wNil))))))))
theorem go_law_told (T : Bu K mg G) {f : Addr} (g : Gd K mg "_law_told" (tp 18) f ["_law_deed"]) (okLoad_backward : OkProp P w K mg base false 1 (G.cl 2) "backward" ["self"] (lift G K sLoad_backward)) (okLoad_forward : OkProp P w K mg base false 1 (G.cl 2) "forward" ["self"] (lift G K sLoad_forward)) : OkLam P w K mg base G 2 "_law_told" "_law_deed" (tp 18) N_law_told w_law_told := by
  refine ⟨sc_law_told, ⟨_, g⟩, fun f cdv A out s H E v tk hr act => ?_⟩
  exact (dss_cons (ds_asg (de_tup (da_cons de_non (da_cons de_non da_nil))) (pg_tup rfl (pgs_cons (pg_name (i := 2) sc_law_told.nd rfl (by first | exact Or.inl rfl | exact Or.inr rfl)) (pgs_cons (pg_name (i := 3) sc_law_told.nd rfl (by first | exact Or.inl rfl | exact Or.inr rfl)) pgs_nil))) (simG_tup [2, 3]))
  (dss_cons (ds_try (fun pn xe po => (dss_one (ds_set 3 sc_law_told.nd (act _ _ _ _))))
  (.consAs 1 sc_law_told.nd T.k_SweepError (tb_cons T.xm_InvalidLoad_SweepError (tb_cons T.xm_LimitExceeded_SweepError tb_nil)) (fun a pn => (dss_one (ds_set 2 sc_law_told.nd (de_v 1)))) .nil))
  (dss_cons (ds_if (dt_cmp op_isN sim_isN (de_v 2) de_non (nomark _)) (dss_one (ds_ret (de_if (dt_val (de_isi (.own _) (isi_o [(2, true)] T.kb_Load T.cg (tb_cons ⟨T.ki_Load_Load, T.cls_Load, T.cc_Load⟩ tb_nil)) T.b_isinstance (de_v 3) (de_cls (v := .ref (G.cl 2)) T.k_Load rfl))) (de_tup (da_cons (de_prop [(2, sLoad_forward)] (tb_cons (pd_of okLoad_forward T.cls_Load (hr.mono (by decide)) nog) tb_nil) (de_v 3)) (da_cons (de_prop [(2, sLoad_backward)] (tb_cons (pd_of okLoad_backward T.cls_Load (hr.mono (by decide)) nog) tb_nil) (de_v 3)) da_nil))) (de_tup (da_cons de_str (da_cons de_non da_nil)))))) dss_nil)
  (dss_one (ds_ret (de_if (dt_val (de_isX (.own _) T.cg (tb_cons ⟨T.ex_InvalidLoad, T.kx_InvalidLoad_LimitExceeded⟩ (tb_cons ⟨T.ex_LimitExceeded, T.kx_LimitExceeded_LimitExceeded⟩ tb_nil)) T.b_isinstance (de_v 2) (de_cls (v := .ref (G.cl 32)) T.k_LimitExceeded rfl))) (de_tup (da_cons de_str (da_cons (de_fldX [(32, 0)] (tb_cons T.fx_LimitExceeded_limit tb_nil) (de_v 2)) da_nil))) (de_tup (da_cons de_str (da_cons de_non da_nil)))))))))
abbrev NLoad_add : List Str := ["self", "other"]
theorem scLoad_add : FnScope ["self", "other"] ["self", "other"] (defScope (cb (tp 8) 8)) := ⟨rfl, rfl, rfl, by decide +kernel, rfl, by decide +kernel, by decide +kernel⟩
def wLoad_add : WS := (wSeq (wDrop (wCall s_require_load [] (wCons (wV 1) wNil)))
  (wRet (wCall sload_within_limit [] (wCons (wOp wPlus (wFld [(2, 0)] (wV 0)) (wFld [(2, 0)] (wV 1))) (wCons (wOp wPlus (wFld [(2, 1)] (wV 0)) (wFld [(2, 1)] (wV 1))) wNil)))))
def sLoad_add : SpD := spOf 2 2 wLoad_add
theorem goLoad_add (T : Bu K mg G) (g : GMeth K (G.cl 2) "__add__" "Load.__add__" (cb (tp 8) 8) ["self", "other"]) (ok_require_load : OkG P w K mg base false 1 "_require_load" ["value"] (lift G K s_require_load)) (okload_within_limit : OkG P w K mg base false 5 "load_within_limit" ["forward", "backward"] (lift G K sload_within_limit)) : OkMeth P w K mg base false 6 (G.cl 2) "__add__" ["self", "other"] (lift G K sLoad_add) := by
  refine okMeth g scLoad_add fun f cdv A out s H E hr hgd => ?_
  exact (dss_cons (ds_expr (de_f ok_require_load (hr.mono (by decide)) nog (da_cons (de_v 1) da_nil)))
  (dss_one (ds_ret (de_f okload_within_limit (hr.mono (by decide)) nog (da_cons (de_op plusR sim_plus (de_fld [(2, 0)] (tb_cons T.fa_Load__forward tb_nil) (de_v 0)) (de_fld [(2, 0)] (tb_cons T.fa_Load__forward tb_nil) (de_v 1))) (da_cons (de_op plusR sim_plus (de_fld [(2, 1)] (tb_cons T.fa_Load__backward tb_nil) (de_v 0)) (de_fld [(2, 1)] (tb_cons T.fa_Load__backward tb_nil) (de_v 1))) da_nil))))))
abbrev NLoad_mul : List Str := ["self", "other"]
theorem scLoad_mul : FnScope ["self", "other"] ["self", "other"] (defScope (cb (tp 8) 9)) := ⟨rfl, rfl, rfl, by decide +kernel, rfl, by decide +kernel, by decide +kernel⟩
def wLoad_mul : WS := (wSeq (wIfS (wOrT (wNotT (wTst (wCall sis_integer [] (wCons (wV 1) wNil)))) (wTst (wOp wLt (wV 1) (wC (.int 0))))) wNever wNext)
  (wRet (wCall sload_within_limit [] (wCons (wOp wTimes (wFld [(2, 0)] (wV 0)) (wV 1)) (wCons (wOp wTimes (wFld [(2, 1)] (wV 0)) (wV 1)) wNil)))))
def sLoad_mul : SpD := spOf 2 2 wLoad_mul
theorem goLoad_mul (T : Bu K mg G) (g : GMeth K (G.cl 2) "__mul__" "Load.__mul__" (cb (tp 8) 9) ["self", "other"]) (okis_integer : OkG P w K mg base false 1 "is_integer" ["value"] (lift G K sis_integer)) (okload_within_limit : OkG P w K mg base false 5 "load_within_limit" ["forward", "backward"] (lift G K sload_within_limit)) : OkMeth P w K mg base false 6 (G.cl 2) "__mul__" ["self", "other"] (lift G K sLoad_mul) := by
  refine okMeth g scLoad_mul fun f cdv A out s H E hr hgd => ?_
  exact (dss_cons (ds_if (dt_w (dw_or (dt_not (dt_val (de_f okis_integer (hr.mono (by decide)) nog (da_cons (de_v 1) da_nil)))) (dw_or1 (dt_cmp op_lt (sim_I0 bl_rep) (de_v 1) de_int (nomark _))))) (dss_one ds_never) dss_nil)
  (dss_one (ds_ret (de_f okload_within_limit (hr.mono (by decide)) nog (da_cons (de_op timesR sim_times (de_fld [(2, 0)] (tb_cons T.fa_Load__forward tb_nil) (de_v 0)) (de_v 1)) (da_cons (de_op timesR sim_times (de_fld [(2, 1)] (tb_cons T.fa_Load__backward tb_nil) (de_v 0)) (de_v 1)) da_nil))))))
abbrev NLoad_rmul : List Str := ["self", "other"]
theorem scLoad_rmul : FnScope ["self", "other"] ["self", "other"] (defScope (cb (tp 8) 10)) := ⟨rfl, rfl, rfl, by decide +kernel, rfl, by decide +kernel, by decide +kernel⟩
def wLoad_rmul : WS := (wRet (wOpX (wMulO [(2, sLoad_mul)] [] wTimes) (wV 0) (wV 1)))
def sLoad_rmul : SpD := spOf 2 2 wLoad_rmul
theorem goLoad_rmul (T : Bu K mg G) (g : GMeth K (G.cl 2) "__rmul__" "Load.__rmul__" (cb (tp 8) 10) ["self", "other"]) (okLoad_mul : OkMeth P w K mg base false 6 (G.cl 2) "__mul__" ["self", "other"] (lift G K sLoad_mul)) : OkMeth P w K mg base false 7 (G.cl 2) "__rmul__" ["self", "other"] (lift G K sLoad_rmul) := by
  refine okMeth g scLoad_rmul fun f cdv A out s H E hr hgd => ?_
  exact (dss_one (ds_ret (de_opX (dop_mulO (tb := [(2, sLoad_mul)]) (rt := []) (dop_of timesR sim_times) (tb_cons (dop_mulI okLoad_mul T.rm_Load ⟨T.sf_Load, T.mi1, T.mi2, T.mi3_Load, T.mi4_Load⟩ (hr.mono (by decide)) nog) tb_nil) tb_nil) (de_v 0) (de_v 1))))
abbrev N_law_two_right : List Str := ["_law_some", "_law_others", "_law_due_here", "_law_low", "_law_high", "_law_found", "_law_one", "_law_other"]
theorem sc_law_two_right : FnScope ["_law_some", "_law_others", "_law_due_here", "_law_low", "_law_high", "_law_found", "_law_one", "_law_other"] ["_law_some", "_law_others"] (defScope (tp 20)) := ⟨rfl, rfl, rfl, by decide +kernel, rfl, by decide +kernel, by decide +kernel⟩
def w_law_two_right : WS := (wSeq (wAsg (bTup [6, 7]) (wTup (wCons (wFrzI 2 2 (wMake 2 sLoad_init [] (wCons (wOp wIx (wV 0) (wC (.int 0))) (wCons (wOp wIx (wV 0) (wC (.int 1))) wNil)))) (wCons (wFrzI 2 2 (wMake 2 sLoad_init [] (wCons (wOp wIx (wV 1) (wC (.int 0))) (wCons (wOp wIx (wV 1) (wC (.int 1))) wNil)))) wNil))))
  (wSeq (wSet 2 (wCall s_law_due [] (wCons (wOpX (wOwn [(2, (alIn [2]), sLoad_add)] wPlus) (wOp wIx (wV 0) (wC (.int 0))) (wOp wIx (wV 1) (wC (.int 0)))) (wCons (wOpX (wOwn [(2, (alIn [2]), sLoad_add)] wPlus) (wOp wIx (wV 0) (wC (.int 1))) (wOp wIx (wV 1) (wC (.int 1)))) wNil))))
  (wSeq (wIfS (wTst (wOp wNe2 (wB wRepr (wCons (wLst (wCons (wLam [6, 7] 8 4 w_law_told (wOpX (wOwn [(2, (alIn [2]), sLoad_add)] wPlus) (wV 6) (wV 7))) (wCons (wLam [6, 7] 8 4 w_law_told (wOpX (wOwn [(2, (alIn [2]), sLoad_add)] wPlus) (wV 7) (wV 6))) wNil))) wNil)) (wB wRepr (wCons (wLst (wCons (wV 2) (wCons (wV 2) wNil))) wNil)))) (wRet (wC (.bl false))) wNext)
  (wSeq (wSet 3 (wTup (wCons (wB wMin2 (wCons (wOp wIx (wV 0) (wC (.int 0))) (wCons (wOp wIx (wV 1) (wC (.int 0))) wNil))) (wCons (wB wMin2 (wCons (wOp wIx (wV 0) (wC (.int 1))) (wCons (wOp wIx (wV 1) (wC (.int 1))) wNil))) wNil))))
  (wSeq (wSet 4 (wTup (wCons (wB wMax2 (wCons (wOp wIx (wV 0) (wC (.int 0))) (wCons (wOp wIx (wV 1) (wC (.int 0))) wNil))) (wCons (wB wMax2 (wCons (wOp wIx (wV 0) (wC (.int 1))) (wCons (wOp wIx (wV 1) (wC (.int 1))) wNil))) wNil))))
  (wSeq (wSet 5 (wLst (wCons (wLam [6, 7] 8 4 w_law_told (wOpX (wOwn [(2, (alIn [2]), sLoad_and)] wNo2) (wV 6) (wV 7))) (wCons (wLam [6, 7] 8 4 w_law_told (wOpX (wOwn [(2, (alIn [2]), sLoad_and)] wNo2) (wV 7) (wV 6))) wNil))))
  (wSeq (wSet 5 (wOpX (wOwn [(2, (alIn [2]), sLoad_add)] wPlus) (wV 5) (wLst (wCons (wLam [6, 7] 8 4 w_law_told (wOpX (wOwn [(2, (alIn [2]), sLoad_or)] wNo2) (wV 6) (wV 7))) (wCons (wLam [6, 7] 8 4 w_law_told (wOpX (wOwn [(2, (alIn [2]), sLoad_or)] wNo2) (wV 7) (wV 6))) wNil)))))
  (wSeq (wIfS (wTst (wOp wNe2 (wB wRepr (wCons (wV 5) wNil)) (wB wRepr (wCons (wLst (wCons (wV 3) (wCons (wV 3) (wCons (wV 4) (wCons (wV 4) wNil))))) wNil)))) (wRet (wC (.bl false))) wNext)
  (wSeq (wSet 5 (wLst (wCons (wMeth [(2, sLoad_covers)] [] (wV 6) (wCons (wV 7) wNil)) (wCons (wMeth [(2, sLoad_covers)] [] (wV 7) (wCons (wV 6) wNil)) (wCons (wOpX (wOwn [(2, (alIn [2]), sLoad_eq)] wEq2) (wV 6) (wV 7)) (wCons (wOpX (wOwnNe [(2, (alIn [2]), sLoad_eq)] wNe2) (wV 7) (wV 6)) (wCons (wMeth [(2, sLoad_covers)] [] (wV 6) (wCons (wV 6) wNil)) wNil)))))))
  (wSeq (wIfS (wTst (wOp wNe2 (wB wRepr (wCons (wV 5) wNil)) (wB wRepr (wCons (wLst (wCons (wOp wEq2 (wV 3) (wV 1)) (wCons (wOp wEq2 (wV 3) (wV 0)) (wCons (wOp wEq2 (wV 0) (wV 1)) (wCons (wOp wNe2 (wV 0) (wV 1)) (wCons (wC (.bl true)) wNil)))))) wNil)))) (wRet (wC (.bl false))) wNext)
  (wRet (wOp wEq2 (wB wRepr (wCons (wLst (wCons (wProp [(2, sLoad_forward)] (wV 6)) (wCons (wProp [(2, sLoad_backward)] (wV 6)) (wCons (wProp [(2, sLoad_forward)] (wV 7)) (wCons (wProp [(2, sLoad_backward)] (wV 7)) wNil))))) wNil)) (wB wRepr (wCons (wB wListOf (wCons (wOpX (wOwn [(2, (alIn [2]), sLoad_add)] wPlus) (wV 0) (wV 1)) wNil)) wNil))))))))))))))
def s_law_two_right : SpD := spOf 2 8 w_law_two_right
theorem go_law_two_right (T : Bu K mg G) {f c P_ : Addr} (g : GdL K mg "_law_two_right" (tp 20) f ["_law_some", "_law_others"] c) (tB : LamX.TabB base mg c P_) (hT : (P_, ("_law_two_right" : Str) ++ ".<locals>." ++ "<lambda>") ∈ G.tabs) (hU : ∀ p ∈ G.tabs, p.1 = P_ → p.2 = ("_law_two_right" : Str) ++ ".<locals>." ++ "<lambda>") (okLoad_add : OkMeth P w K mg base false 6 (G.cl 2) "__add__" ["self", "other"] (lift G K sLoad_add)) (okLoad_and : OkMeth P w K mg base false 5 (G.cl 2) "__and__" ["self", "other"] (lift G K sLoad_and)) (okLoad_backward : OkProp P w K mg base false 1 (G.cl 2) "backward" ["self"] (lift G K sLoad_backward)) (okLoad_covers : OkMeth P w K mg base false 1 (G.cl 2) "covers" ["self", "other"] (lift G K sLoad_covers)) (okLoad_eq : OkMeth P w K mg base false 1 (G.cl 2) "__eq__" ["self", "other"] (lift G K sLoad_eq)) (okLoad_forward : OkProp P w K mg base false 1 (G.cl 2) "forward" ["self"] (lift G K sLoad_forward)) (okLoad_init : OkInit P w K mg base false 3 (G.cl 2) "Load.__init__" (cb (tp 8) 1) [] ["self", "forward", "backward"] (lift G K sLoad_init)) (okLoad_or : OkMeth P w K mg base false 5 (G.cl 2) "__or__" ["self", "other"] (lift G K sLoad_or)) (ok_law_due : OkG P w K mg base false 1 "_law_due" ["_law_a", "_law_b"] (lift G K s_law_due)) (ok_law_told : OkLam P w K mg base G 2 "_law_told" "_law_deed" (tp 18) N_law_told w_law_told) : OkG P w K mg base true 9 "_law_two_right" ["_law_some", "_law_others"] (lift G K s_law_two_right) := by
  refine okGL g sc_law_two_right fun A out s H E hr hgd => ?_
  exact (dss_cons (ds_asg (de_tup (da_cons (de_frzI (by rw [T.nm_Load]; rfl) (de_new okLoad_init (hr.mono (by decide)) nog T.k_Load (fun _ _ _ _ _ _ us hl => match us, hl with | [_, _, _], _ => rfl) (da_cons (de_ix (ix_or ix_list ix_tup) sim_ix (de_v 0) de_int (fun _ _ => rfl)) (da_cons (de_ix (ix_or ix_list ix_tup) sim_ix (de_v 0) de_int (fun _ _ => rfl)) da_nil)))) (da_cons (de_frzI (by rw [T.nm_Load]; rfl) (de_new okLoad_init (hr.mono (by decide)) nog T.k_Load (fun _ _ _ _ _ _ us hl => match us, hl with | [_, _, _], _ => rfl) (da_cons (de_ix (ix_or ix_list ix_tup) sim_ix (de_v 1) de_int (fun _ _ => rfl)) (da_cons (de_ix (ix_or ix_list ix_tup) sim_ix (de_v 1) de_int (fun _ _ => rfl)) da_nil)))) da_nil))) (pg_tup rfl (pgs_cons (pg_name (i := 6) sc_law_two_right.nd rfl (by first | exact Or.inl rfl | exact Or.inr rfl)) (pgs_cons (pg_name (i := 7) sc_law_two_right.nd rfl (by first | exact Or.inl rfl | exact Or.inr rfl)) pgs_nil))) (simG_tup [6, 7]))
  (dss_cons (ds_set 2 sc_law_two_right.nd (de_f ok_law_due (hr.mono (by decide)) nog (da_cons (de_opX (dop_own (w := wPlus) (tb := [(2, (alIn [2]), sLoad_add)]) (dop_of plusR sim_plus) (tb_cons (fun t ht => dop_bin okLoad_add (by decide +kernel) T.sf_Load (hr.mono (by decide)) nog (alIn_of (tb_cons (.inl rfl) tb_nil) t ht)) tb_nil)) (de_ix (ix_or ix_list ix_tup) sim_ix (de_v 0) de_int (fun _ _ => rfl)) (de_ix (ix_or ix_list ix_tup) sim_ix (de_v 1) de_int (fun _ _ => rfl))) (da_cons (de_opX (dop_own (w := wPlus) (tb := [(2, (alIn [2]), sLoad_add)]) (dop_of plusR sim_plus) (tb_cons (fun t ht => dop_bin okLoad_add (by decide +kernel) T.sf_Load (hr.mono (by decide)) nog (alIn_of (tb_cons (.inl rfl) tb_nil) t ht)) tb_nil)) (de_ix (ix_or ix_list ix_tup) sim_ix (de_v 0) de_int (fun _ _ => rfl)) (de_ix (ix_or ix_list ix_tup) sim_ix (de_v 1) de_int (fun _ _ => rfl))) da_nil))))
  (dss_cons (ds_if (dt_cmp (op_or op_ne (op_neD (hu64 hr))) sim_ne2 (de_callB sim_repr (call_reprD (hgd rfl) (hu66 hr)) T.b_repr (by decide +kernel) (da_cons (de_lst (da_cons (de_lam (kb := 6) (xs := []) (qq := ("_law_two_right" : Str) ++ ".<locals>.") [6, 7] ok_law_told (hr.mono (by decide)) (hr.mono (by decide)) tB rfl rfl hT hU (lamN_by (by kernel_rfl)) (.none rfl (fun _ _ _ _ _ _ _ _ => rfl)) (by intro A outer s H E f c hr; exact (de_opX (dop_own (w := wPlus) (tb := [(2, (alIn [2]), sLoad_add)]) (dop_of plusR sim_plus) (tb_cons (fun t ht => dop_bin okLoad_add (by decide +kernel) T.sf_Load (hr.mono (by decide)) nog (alIn_of (tb_cons (.inl rfl) tb_nil) t ht)) tb_nil)) (de_v 6) (de_v 7)))) (da_cons (de_lam (kb := 6) (xs := ["_law_none"]) (qq := ("_law_two_right" : Str) ++ ".<locals>.") [6, 7] ok_law_told (hr.mono (by decide)) (hr.mono (by decide)) tB rfl rfl hT hU (lamN_by (by kernel_rfl)) (.one rfl rfl (fun _ _ _ _ _ _ _ _ _ => ⟨_, rfl, fun _ => rfl⟩)) (by intro A outer s H E f c hr; exact (de_opX (dop_own (w := wPlus) (tb := [(2, (alIn [2]), sLoad_add)]) (dop_of plusR sim_plus) (tb_cons (fun t ht => dop_bin okLoad_add (by decide +kernel) T.sf_Load (hr.mono (by decide)) nog (alIn_of (tb_cons (.inl rfl) tb_nil) t ht)) tb_nil)) (de_v 7) (de_v 6)))) da_nil))) da_nil)) (de_callB sim_repr (call_reprD (hgd rfl) (hu66 hr)) T.b_repr (by decide +kernel) (da_cons (de_lst (da_cons (de_v 2) (da_cons (de_v 2) da_nil))) da_nil)) (nomark _)) (dss_one (ds_ret de_bl)) dss_nil)
  (dss_cons (ds_set 3 sc_law_two_right.nd (de_tup (da_cons (de_callB sim_min2 (call_min2 rfl) T.b_min (by decide +kernel) (da_cons (de_ix (ix_or ix_list ix_tup) sim_ix (de_v 0) de_int (fun _ _ => rfl)) (da_cons (de_ix (ix_or ix_list ix_tup) sim_ix (de_v 1) de_int (fun _ _ => rfl)) da_nil))) (da_cons (de_callB sim_min2 (call_min2 rfl) T.b_min (by decide +kernel) (da_cons (de_ix (ix_or ix_list ix_tup) sim_ix (de_v 0) de_int (fun _ _ => rfl)) (da_cons (de_ix (ix_or ix_list ix_tup) sim_ix (de_v 1) de_int (fun _ _ => rfl)) da_nil))) da_nil))))
  (dss_cons (ds_set 4 sc_law_two_right.nd (de_tup (da_cons (de_callB sim_max2 (call_max2 rfl) T.b_max (by decide +kernel) (da_cons (de_ix (ix_or ix_list ix_tup) sim_ix (de_v 0) de_int (fun _ _ => rfl)) (da_cons (de_ix (ix_or ix_list ix_tup) sim_ix (de_v 1) de_int (fun _ _ => rfl)) da_nil))) (da_cons (de_callB sim_max2 (call_max2 rfl) T.b_max (by decide +kernel) (da_cons (de_ix (ix_or ix_list ix_tup) sim_ix (de_v 0) de_int (fun _ _ => rfl)) (da_cons (de_ix (ix_or ix_list ix_tup) sim_ix (de_v 1) de_int (fun _ _ => rfl)) da_nil))) da_nil))))
  (dss_cons (ds_set 5 sc_law_two_right.nd (de_lst (da_cons (de_lam (kb := 5) (xs := []) (qq := ("_law_two_right" : Str) ++ ".<locals>.") [6, 7] ok_law_told (hr.mono (by decide)) (hr.mono (by decide)) tB rfl rfl hT hU (lamN_by (by kernel_rfl)) (.none rfl (fun _ _ _ _ _ _ _ _ => rfl)) (by intro A outer s H E f c hr; exact (de_opX (dop_own (w := wNo2) (tb := [(2, (alIn [2]), sLoad_and)]) dop_no2 (tb_cons (fun t ht => dop_bin okLoad_and (by decide +kernel) T.sf_Load (hr.mono (by decide)) nog (alIn_of (tb_cons (.inl rfl) tb_nil) t ht)) tb_nil)) (de_v 6) (de_v 7)))) (da_cons (de_lam (kb := 5) (xs := ["_law_none"]) (qq := ("_law_two_right" : Str) ++ ".<locals>.") [6, 7] ok_law_told (hr.mono (by decide)) (hr.mono (by decide)) tB rfl rfl hT hU (lamN_by (by kernel_rfl)) (.one rfl rfl (fun _ _ _ _ _ _ _ _ _ => ⟨_, rfl, fun _ => rfl⟩)) (by intro A outer s H E f c hr; exact (de_opX (dop_own (w := wNo2) (tb := [(2, (alIn [2]), sLoad_and)]) dop_no2 (tb_cons (fun t ht => dop_bin okLoad_and (by decide +kernel) T.sf_Load (hr.mono (by decide)) nog (alIn_of (tb_cons (.inl rfl) tb_nil) t ht)) tb_nil)) (de_v 7) (de_v 6)))) da_nil))))
  (dss_cons (ds_set 5 sc_law_two_right.nd (de_opX (dop_own (w := wPlus) (tb := [(2, (alIn [2]), sLoad_add)]) (dop_of plusR sim_plus) (tb_cons (fun t ht => dop_bin okLoad_add (by decide +kernel) T.sf_Load (hr.mono (by decide)) nog (alIn_of (tb_cons (.inl rfl) tb_nil) t ht)) tb_nil)) (de_v 5) (de_lst (da_cons (de_lam (kb := 5) (xs := []) (qq := ("_law_two_right" : Str) ++ ".<locals>.") [6, 7] ok_law_told (hr.mono (by decide)) (hr.mono (by decide)) tB rfl rfl hT hU (lamN_by (by kernel_rfl)) (.none rfl (fun _ _ _ _ _ _ _ _ => rfl)) (by intro A outer s H E f c hr; exact (de_opX (dop_own (w := wNo2) (tb := [(2, (alIn [2]), sLoad_or)]) dop_no2 (tb_cons (fun t ht => dop_bin okLoad_or (by decide +kernel) T.sf_Load (hr.mono (by decide)) nog (alIn_of (tb_cons (.inl rfl) tb_nil) t ht)) tb_nil)) (de_v 6) (de_v 7)))) (da_cons (de_lam (kb := 5) (xs := ["_law_none"]) (qq := ("_law_two_right" : Str) ++ ".<locals>.") [6, 7] ok_law_told (hr.mono (by decide)) (hr.mono (by decide)) tB rfl rfl hT hU (lamN_by (by kernel_rfl)) (.one rfl rfl (fun _ _ _ _ _ _ _ _ _ => ⟨_, rfl, fun _ => rfl⟩)) (by intro A outer s H E f c hr; exact (de_opX (dop_own (w := wNo2) (tb := [(2, (alIn [2]), sLoad_or)]) dop_no2 (tb_cons (fun t ht => dop_bin okLoad_or (by decide +kernel) T.sf_Load (hr.mono (by decide)) nog (alIn_of (tb_cons (.inl rfl) tb_nil) t ht)) tb_nil)) (de_v 7) (de_v 6)))) da_nil)))))
  (dss_cons (ds_if (dt_cmp (op_or op_ne (op_neD (hu64 hr))) sim_ne2 (de_callB sim_repr (call_reprD (hgd rfl) (hu66 hr)) T.b_repr (by decide +kernel) (da_cons (de_v 5) da_nil)) (de_callB sim_repr (call_reprD (hgd rfl) (hu66 hr)) T.b_repr (by decide +kernel) (da_cons (de_lst (da_cons (de_v 3) (da_cons (de_v 3) (da_cons (de_v 4) (da_cons (de_v 4) da_nil))))) da_nil)) (nomark _)) (dss_one (ds_ret de_bl)) dss_nil)
  (dss_cons (ds_set 5 sc_law_two_right.nd (de_lst (da_cons (de_meth (dds := []) [(2, sLoad_covers)] (tb_cons (md_of okLoad_covers T.cls_Load (by rw [T.nm_Load]; decide) (hr.mono (by decide)) nog) tb_nil) (de_v 6) (da_cons (de_v 7) da_nil)) (da_cons (de_meth (dds := []) [(2, sLoad_covers)] (tb_cons (md_of okLoad_covers T.cls_Load (by rw [T.nm_Load]; decide) (hr.mono (by decide)) nog) tb_nil) (de_v 7) (da_cons (de_v 6) da_nil)) (da_cons (de_cmpX (dop_own (w := wEq2) (tb := [(2, (alIn [2]), sLoad_eq)]) (dop_of (op_or op_eq (op_eqD (hu64 hr))) sim_eq2) (tb_cons (fun t ht => dop_cmp (fun _ _ => rfl) okLoad_eq (by decide +kernel) (hr.mono (by decide)) nog (alIn_plain t ht) (alIn_nf (tb_cons T.nf_Load_Load tb_nil) t ht)) tb_nil)) (de_v 6) (de_v 7) (nomark _)) (da_cons (de_cmpX (dop_ownNe (w := wNe2) (tb := [(2, (alIn [2]), sLoad_eq)]) (dop_of (op_or op_ne (op_neD (hu64 hr))) sim_ne2) (tb_cons (fun t ht => dop_ne okLoad_eq T.one_Load T.mo_Load (hr.mono (by decide)) (alIn_plain t ht) (alIn_nf (tb_cons T.nf_Load_Load tb_nil) t ht)) tb_nil)) (de_v 7) (de_v 6) (nomark _)) (da_cons (de_meth (dds := []) [(2, sLoad_covers)] (tb_cons (md_of okLoad_covers T.cls_Load (by rw [T.nm_Load]; decide) (hr.mono (by decide)) nog) tb_nil) (de_v 6) (da_cons (de_v 6) da_nil)) da_nil)))))))
  (dss_cons (ds_if (dt_cmp (op_or op_ne (op_neD (hu64 hr))) sim_ne2 (de_callB sim_repr (call_reprD (hgd rfl) (hu66 hr)) T.b_repr (by decide +kernel) (da_cons (de_v 5) da_nil)) (de_callB sim_repr (call_reprD (hgd rfl) (hu66 hr)) T.b_repr (by decide +kernel) (da_cons (de_lst (da_cons (de_cmp (op_or op_eq (op_eqD (hu64 hr))) sim_eq2 (de_v 3) (de_v 1) (nomark _)) (da_cons (de_cmp (op_or op_eq (op_eqD (hu64 hr))) sim_eq2 (de_v 3) (de_v 0) (nomark _)) (da_cons (de_cmp (op_or op_eq (op_eqD (hu64 hr))) sim_eq2 (de_v 0) (de_v 1) (nomark _)) (da_cons (de_cmp (op_or op_ne (op_neD (hu64 hr))) sim_ne2 (de_v 0) (de_v 1) (nomark _)) (da_cons de_bl da_nil)))))) da_nil)) (nomark _)) (dss_one (ds_ret de_bl)) dss_nil)
  (dss_one (ds_ret (de_cmp (op_or op_eq (op_eqD (hu64 hr))) sim_eq2 (de_callB sim_repr (call_reprD (hgd rfl) (hu66 hr)) T.b_repr (by decide +kernel) (da_cons (de_lst (da_cons (de_prop [(2, sLoad_forward)] (tb_cons (pd_of okLoad_forward T.cls_Load (hr.mono (by decide)) nog) tb_nil) (de_v 6)) (da_cons (de_prop [(2, sLoad_backward)] (tb_cons (pd_of okLoad_backward T.cls_Load (hr.mono (by decide)) nog) tb_nil) (de_v 6)) (da_cons (de_prop [(2, sLoad_forward)] (tb_cons (pd_of okLoad_forward T.cls_Load (hr.mono (by decide)) nog) tb_nil) (de_v 7)) (da_cons (de_prop [(2, sLoad_backward)] (tb_cons (pd_of okLoad_backward T.cls_Load (hr.mono (by decide)) nog) tb_nil) (de_v 7)) da_nil))))) da_nil)) (de_callB sim_repr (call_reprD (hgd rfl) (hu66 hr)) T.b_repr (by decide +kernel) (da_cons (de_callT sim_listOf call_list_of T.b_list (by decide +kernel) (da_cons (de_opX (dop_own (w := wPlus) (tb := [(2, (alIn [2]), sLoad_add)]) (dop_of plusR sim_plus) (tb_cons (fun t ht => dop_bin okLoad_add (by decide +kernel) T.sf_Load (hr.mono (by decide)) nog (alIn_of (tb_cons (.inl rfl) tb_nil) t ht)) tb_nil)) (de_v 0) (de_v 1)) da_nil)) da_nil)) (nomark _))))))))))))))
abbrev N_law_one_right : List Str := ["_law_some", "_law_times_so", "_law_one", "_law_due_here"]
theorem sc_law_one_right : FnScope ["_law_some", "_law_times_so", "_law_one", "_law_due_here"] ["_law_some", "_law_times_so"] (defScope (tp 21)) := ⟨rfl, rfl, rfl, by decide +kernel, rfl, by decide +kernel, by decide +kernel⟩
def w_law_one_right : WS := (wSeq (wAsg (bTup [2, 3]) (wTup (wCons (wFrzI 2 2 (wMake 2 sLoad_init [] (wCons (wOp wIx (wV 0) (wC (.int 0))) (wCons (wOp wIx (wV 0) (wC (.int 1))) wNil)))) (wCons (wCall s_law_due [] (wCons (wOp wTimes (wOp wIx (wV 0) (wC (.int 0))) (wV 1)) (wCons (wOp wTimes (wOp wIx (wV 0) (wC (.int 1))) (wV 1)) wNil))) wNil))))
  (wSeq (wIfS (wTst (wOp wNe2 (wB wRepr (wCons (wLst (wCons (wLam [1, 2] 4 4 w_law_told (wOpX (wMulO [(2, sLoad_mul)] [(2, sLoad_rmul)] wTimes) (wV 2) (wV 1))) (wCons (wLam [1, 2] 4 4 w_law_told (wOpX (wMulO [(2, sLoad_mul)] [(2, sLoad_rmul)] wTimes) (wV 1) (wV 2))) wNil))) wNil)) (wB wRepr (wCons (wLst (wCons (wV 3) (wCons (wV 3) wNil))) wNil)))) (wRet (wC (.bl false))) wNext)
  (wSeq (wIfS (wOrT (wTst (wOp wNe2 (wB wRepr (wCons (wLam [2] 4 4 w_law_told (wNegO [(2, sLoad_neg)] (wV 2))) wNil)) (wB wRepr (wCons (wRev (wV 0)) wNil)))) (wNotT (wTst (wOpX (wOwn [(2, (alIn [2]), sLoad_eq)] wEq2) (wNegO [(2, sLoad_neg)] (wNegO [(2, sLoad_neg)] (wV 2))) (wV 2))))) (wRet (wC (.bl false))) wNext)
  (wRet (wOp wEq2 (wB wRepr (wCons (wLst (wCons (wBoolO [(2, sLoad_bool)] (wV 2)) (wCons (wOpX (wOwn [(2, (alIn [2]), sLoad_eq)] wEq2) (wV 2) (wFrzI 2 2 (wMake 2 sLoad_init [] (wCons (wOp wIx (wV 0) (wC (.int 0))) (wCons (wOp wIx (wV 0) (wC (.int 1))) wNil))))) (wCons (wOpX (wOwnNe [(2, (alIn [2]), sLoad_eq)] wNe2) (wV 2) (wV 2)) wNil)))) wNil)) (wB wRepr (wCons (wLst (wCons (wOp wNe2 (wV 0) (wTup (wCons (wC (.int 0)) (wCons (wC (.int 0)) wNil)))) (wCons (wC (.bl true)) (wCons (wC (.bl false)) wNil)))) wNil)))))))
def s_law_one_right : SpD := spOf 2 4 w_law_one_right
theorem go_law_one_right (T : Bu K mg G) {f c P_ : Addr} (g : GdL K mg "_law_one_right" (tp 21) f ["_law_some", "_law_times_so"] c) (tB : LamX.TabB base mg c P_) (hT : (P_, ("_law_one_right" : Str) ++ ".<locals>." ++ "<lambda>") ∈ G.tabs) (hU : ∀ p ∈ G.tabs, p.1 = P_ → p.2 = ("_law_one_right" : Str) ++ ".<locals>." ++ "<lambda>") (okLoad_bool : OkMeth P w K mg base false 1 (G.cl 2) "__bool__" ["self"] (lift G K sLoad_bool)) (okLoad_eq : OkMeth P w K mg base false 1 (G.cl 2) "__eq__" ["self", "other"] (lift G K sLoad_eq)) (okLoad_init : OkInit P w K mg base false 3 (G.cl 2) "Load.__init__" (cb (tp 8) 1) [] ["self", "forward", "backward"] (lift G K sLoad_init)) (okLoad_mul : OkMeth P w K mg base false 6 (G.cl 2) "__mul__" ["self", "other"] (lift G K sLoad_mul)) (okLoad_neg : OkMeth P w K mg base false 5 (G.cl 2) "__neg__" ["self"] (lift G K sLoad_neg)) (okLoad_rmul : OkMeth P w K mg base false 7 (G.cl 2) "__rmul__" ["self", "other"] (lift G K sLoad_rmul)) (ok_law_due : OkG P w K mg base false 1 "_law_due" ["_law_a", "_law_b"] (lift G K s_law_due)) (ok_law_told : OkLam P w K mg base G 2 "_law_told" "_law_deed" (tp 18) N_law_told w_law_told) : OkG P w K mg base true 10 "_law_one_right" ["_law_some", "_law_times_so"] (lift G K s_law_one_right) := by
  refine okGL g sc_law_one_right fun A out s H E hr hgd => ?_
  exact (dss_cons (ds_asg (de_tup (da_cons (de_frzI (by rw [T.nm_Load]; rfl) (de_new okLoad_init (hr.mono (by decide)) nog T.k_Load (fun _ _ _ _ _ _ us hl => match us, hl with | [_, _, _], _ => rfl) (da_cons (de_ix (ix_or ix_list ix_tup) sim_ix (de_v 0) de_int (fun _ _ => rfl)) (da_cons (de_ix (ix_or ix_list ix_tup) sim_ix (de_v 0) de_int (fun _ _ => rfl)) da_nil)))) (da_cons (de_f ok_law_due (hr.mono (by decide)) nog (da_cons (de_op timesR sim_times (de_ix (ix_or ix_list ix_tup) sim_ix (de_v 0) de_int (fun _ _ => rfl)) (de_v 1)) (da_cons (de_op timesR sim_times (de_ix (ix_or ix_list ix_tup) sim_ix (de_v 0) de_int (fun _ _ => rfl)) (de_v 1)) da_nil))) da_nil))) (pg_tup rfl (pgs_cons (pg_name (i := 2) sc_law_one_right.nd rfl (by first | exact Or.inl rfl | exact Or.inr rfl)) (pgs_cons (pg_name (i := 3) sc_law_one_right.nd rfl (by first | exact Or.inl rfl | exact Or.inr rfl)) pgs_nil))) (simG_tup [2, 3]))
  (dss_cons (ds_if (dt_cmp (op_or op_ne (op_neD (hu64 hr))) sim_ne2 (de_callB sim_repr (call_reprD (hgd rfl) (hu66 hr)) T.b_repr (by decide +kernel) (da_cons (de_lst (da_cons (de_lam (kb := 7) (xs := []) (qq := ("_law_one_right" : Str) ++ ".<locals>.") [1, 2] ok_law_told (hr.mono (by decide)) (hr.mono (by decide)) tB rfl rfl hT hU (lamN_by (by kernel_rfl)) (.none rfl (fun _ _ _ _ _ _ _ _ => rfl)) (by intro A outer s H E f c hr; exact (de_opX (dop_mulO (tb := [(2, sLoad_mul)]) (rt := [(2, sLoad_rmul)]) (dop_of timesR sim_times) (tb_cons (dop_mulI okLoad_mul T.rm_Load ⟨T.sf_Load, T.mi1, T.mi2, T.mi3_Load, T.mi4_Load⟩ (hr.mono (by decide)) nog) tb_nil) (tb_cons (dop_rmulI okLoad_mul okLoad_rmul ⟨T.sf_Load, T.mi1, T.mi2, T.mi3_Load, T.mi4_Load⟩ (hr.mono (by decide)) nog) tb_nil)) (de_v 2) (de_v 1)))) (da_cons (de_lam (kb := 7) (xs := ["_law_none"]) (qq := ("_law_one_right" : Str) ++ ".<locals>.") [1, 2] ok_law_told (hr.mono (by decide)) (hr.mono (by decide)) tB rfl rfl hT hU (lamN_by (by kernel_rfl)) (.one rfl rfl (fun _ _ _ _ _ _ _ _ _ => ⟨_, rfl, fun _ => rfl⟩)) (by intro A outer s H E f c hr; exact (de_opX (dop_mulO (tb := [(2, sLoad_mul)]) (rt := [(2, sLoad_rmul)]) (dop_of timesR sim_times) (tb_cons (dop_mulI okLoad_mul T.rm_Load ⟨T.sf_Load, T.mi1, T.mi2, T.mi3_Load, T.mi4_Load⟩ (hr.mono (by decide)) nog) tb_nil) (tb_cons (dop_rmulI okLoad_mul okLoad_rmul ⟨T.sf_Load, T.mi1, T.mi2, T.mi3_Load, T.mi4_Load⟩ (hr.mono (by decide)) nog) tb_nil)) (de_v 1) (de_v 2)))) da_nil))) da_nil)) (de_callB sim_repr (call_reprD (hgd rfl) (hu66 hr)) T.b_repr (by decide +kernel) (da_cons (de_lst (da_cons (de_v 3) (da_cons (de_v 3) da_nil))) da_nil)) (nomark _)) (dss_one (ds_ret de_bl)) dss_nil)
  (dss_cons (ds_if (dt_w (dw_or (dt_cmp (op_or op_ne (op_neD (hu64 hr))) sim_ne2 (de_callB sim_repr (call_reprD (hgd rfl) (hu66 hr)) T.b_repr (by decide +kernel) (da_cons (de_lam (kb := 5) (xs := []) (qq := ("_law_one_right" : Str) ++ ".<locals>.") [2] ok_law_told (hr.mono (by decide)) (hr.mono (by decide)) tB rfl rfl hT hU (lamN_by (by kernel_rfl)) (.none rfl (fun _ _ _ _ _ _ _ _ => rfl)) (by intro A outer s H E f c hr; exact (de_negO [(2, sLoad_neg)] (tb_cons ⟨_, _, _, okLoad_neg, hr.mono (by decide), nog⟩ tb_nil) (de_v 2)))) da_nil)) (de_callB sim_repr (call_reprD (hgd rfl) (hu66 hr)) T.b_repr (by decide +kernel) (da_cons (de_rev (de_v 0)) da_nil)) (nomark _)) (dw_or1 (dt_not (dt_cmpX (dop_own (w := wEq2) (tb := [(2, (alIn [2]), sLoad_eq)]) (dop_of (op_or op_eq (op_eqD (hu64 hr))) sim_eq2) (tb_cons (fun t ht => dop_cmp (fun _ _ => rfl) okLoad_eq (by decide +kernel) (hr.mono (by decide)) nog (alIn_plain t ht) (alIn_nf (tb_cons T.nf_Load_Load tb_nil) t ht)) tb_nil)) (de_negO [(2, sLoad_neg)] (tb_cons ⟨_, _, _, okLoad_neg, hr.mono (by decide), nog⟩ tb_nil) (de_negO [(2, sLoad_neg)] (tb_cons ⟨_, _, _, okLoad_neg, hr.mono (by decide), nog⟩ tb_nil) (de_v 2))) (de_v 2) (nomark _)))))) (dss_one (ds_ret de_bl)) dss_nil)
  (dss_one (ds_ret (de_cmp (op_or op_eq (op_eqD (hu64 hr))) sim_eq2 (de_callB sim_repr (call_reprD (hgd rfl) (hu66 hr)) T.b_repr (by decide +kernel) (da_cons (de_lst (da_cons (de_boolO [(2, sLoad_bool)] (tb_cons ⟨_, _, _, okLoad_bool, hr.mono (by decide), nog⟩ tb_nil) T.b_bool (de_v 2)) (da_cons (de_cmpX (dop_own (w := wEq2) (tb := [(2, (alIn [2]), sLoad_eq)]) (dop_of (op_or op_eq (op_eqD (hu64 hr))) sim_eq2) (tb_cons (fun t ht => dop_cmp (fun _ _ => rfl) okLoad_eq (by decide +kernel) (hr.mono (by decide)) nog (alIn_plain t ht) (alIn_nf (tb_cons T.nf_Load_Load tb_nil) t ht)) tb_nil)) (de_v 2) (de_frzI (by rw [T.nm_Load]; rfl) (de_new okLoad_init (hr.mono (by decide)) nog T.k_Load (fun _ _ _ _ _ _ us hl => match us, hl with | [_, _, _], _ => rfl) (da_cons (de_ix (ix_or ix_list ix_tup) sim_ix (de_v 0) de_int (fun _ _ => rfl)) (da_cons (de_ix (ix_or ix_list ix_tup) sim_ix (de_v 0) de_int (fun _ _ => rfl)) da_nil)))) (nomark _)) (da_cons (de_cmpX (dop_ownNe (w := wNe2) (tb := [(2, (alIn [2]), sLoad_eq)]) (dop_of (op_or op_ne (op_neD (hu64 hr))) sim_ne2) (tb_cons (fun t ht => dop_ne okLoad_eq T.one_Load T.mo_Load (hr.mono (by decide)) (alIn_plain t ht) (alIn_nf (tb_cons T.nf_Load_Load tb_nil) t ht)) tb_nil)) (de_v 2) (de_v 2) (nomark _)) da_nil)))) da_nil)) (de_callB sim_repr (call_reprD (hgd rfl) (hu66 hr)) T.b_repr (by decide +kernel) (da_cons (de_lst (da_cons (de_cmp (op_or op_ne (op_neD (hu64 hr))) sim_ne2 (de_v 0) (de_tup (da_cons de_int (da_cons de_int da_nil))) (nomark _)) (da_cons de_bl (da_cons de_bl da_nil)))) da_nil)) (nomark _)))))))
abbrev Nlaw : List Str := ["_law_script", "_law_m", "_law_turn", "_law_times_so", "_law_some", "_law_others"]
theorem sclaw : FnScope ["_law_script", "_law_m", "_law_turn", "_law_times_so", "_law_some", "_law_others"] ["_law_script"] (defScope (tp 22)) := ⟨rfl, rfl, rfl, by decide +kernel, rfl, by decide +kernel, by decide +kernel⟩
def wlaw : WS := (wSeq (wSet 1 (wCall s_law_begun [] (wCons (wV 0) wNil)))
  (wSeq (wIfS (wTst (wOp wNe2 (wB wRepr (wCons (wC (.int 1200)) wNil)) (wC (.str "1200")))) (wRet (wC (.bl false))) wNext)
  (wSeq (wFor (wiR1 (wCons (wC (.int 8)) wNil)) (bNm 2) (wSeq (wPar 4 5 (wCons (wTup (wCons (wCall s_law_near [] (wCons (wV 1) wNil)) (wCons (wCall s_law_near [] (wCons (wV 1) wNil)) wNil))) (wCons (wTup (wCons (wCall s_law_near [] (wCons (wV 1) wNil)) (wCons (wCall s_law_near [] (wCons (wV 1) wNil)) wNil))) wNil)))
  (wSeq (wIfS (wTst (wOp wEq2 (wCall s_law_draw [] (wCons (wV 1) (wCons (wC (.int 3)) wNil))) (wC (.int 0)))) (wSeq (wSet 5 (wTup (wCons (wOp wPlus (wOp wSub (wC (.int 1200)) (wOp wIx (wV 4) (wC (.int 0)))) (wCall s_law_draw [] (wCons (wV 1) (wCons (wC (.int 2)) wNil)))) (wCons (wB wMax2 (wCons (wC (.int 0)) (wCons (wOp wSub (wOp wSub (wC (.int 1200)) (wOp wIx (wV 4) (wC (.int 1)))) (wCall s_law_draw [] (wCons (wV 1) (wCons (wC (.int 2)) wNil)))) wNil))) wNil))))
  (wSet 5 (wTup (wCons (wB wMin2 (wCons (wC (.int 1200)) (wCons (wOp wIx (wV 5) (wC (.int 0))) wNil))) (wCons (wOp wIx (wV 5) (wC (.int 1))) wNil))))) wNext)
  (wSeq (wSet 3 (wCall s_law_pick [] (wCons (wV 1) (wCons (wLst (wCons (wC (.int 0)) (wCons (wC (.int 1)) (wCons (wC (.int 2)) (wCons (wC (.int 3)) (wCons (wCall s_law_draw [] (wCons (wV 1) (wCons (wC (.int 40)) wNil))) (wCons (wC (.int 1200)) (wCons (wC (.int 1201)) (wCons (wOp wPow (wC (.int 10)) (wC (.int 20))) wNil))))))))) wNil))))
  (wIfS (wOrT (wNotT (wTst (wCall s_law_two_right [] (wCons (wV 4) (wCons (wV 5) wNil))))) (wNotT (wTst (wCall s_law_one_right [] (wCons (wV 4) (wCons (wV 3) wNil)))))) (wRet (wC (.bl false))) wNext)))))
  (wRet (wC (.bl true))))))
def slaw : SpD := spOf 1 6 wlaw
theorem golaw (T : Bu K mg G) {f : Addr} (g : Gd K mg "law" (tp 22) f ["_law_script"]) (ok_law_begun : OkG P w K mg base false 2 "_law_begun" ["_law_script"] (lift G K s_law_begun)) (ok_law_draw : OkG P w K mg base false 2 "_law_draw" ["_law_m", "_law_top"] (lift G K s_law_draw)) (ok_law_near : OkG P w K mg base false 4 "_law_near" ["_law_m"] (lift G K s_law_near)) (ok_law_one_right : OkG P w K mg base true 10 "_law_one_right" ["_law_some", "_law_times_so"] (lift G K s_law_one_right)) (ok_law_pick : OkG P w K mg base false 3 "_law_pick" ["_law_m", "_law_some"] (lift G K s_law_pick)) (ok_law_two_right : OkG P w K mg base true 9 "_law_two_right" ["_law_some", "_law_others"] (lift G K s_law_two_right)) : OkG P w K mg base true 11 "law" ["_law_script"] (lift G K slaw) := by
  refine okG g sclaw fun cdv A out s H E hr hgd => ?_
  exact (dss_cons (ds_set 1 sclaw.nd (de_f ok_law_begun (hr.mono (by decide)) nog (da_cons (de_v 0) da_nil)))
  (dss_cons (ds_if (dt_cmp (op_or op_ne (op_neD (hu64 hr))) sim_ne2 (de_callB sim_repr (call_reprD (hgd rfl) (hu66 hr)) T.b_repr (by decide +kernel) (da_cons (de_cvalN T.ck_Load_MOST T.k_Load) da_nil)) de_str (nomark _)) (dss_one (ds_ret de_bl)) dss_nil)
  (dss_cons (ds_for (passes_of rfl) rfl (di_range1 T.b_range (da_cons de_int da_nil)) (pg_name (i := 2) sclaw.nd rfl (by first | exact Or.inl rfl | exact Or.inr rfl)) (simG_nm 2) (dss_cons (ds_par 4 5 sclaw.nd (da_cons (de_tup (da_cons (de_f ok_law_near (hr.mono (by decide)) nog (da_cons (de_v 1) da_nil)) (da_cons (de_f ok_law_near (hr.mono (by decide)) nog (da_cons (de_v 1) da_nil)) da_nil))) (da_cons (de_tup (da_cons (de_f ok_law_near (hr.mono (by decide)) nog (da_cons (de_v 1) da_nil)) (da_cons (de_f ok_law_near (hr.mono (by decide)) nog (da_cons (de_v 1) da_nil)) da_nil))) da_nil)))
  (dss_cons (ds_if (dt_cmp (op_or op_eq (op_eqD (hu64 hr))) sim_eq2 (de_f ok_law_draw (hr.mono (by decide)) nog (da_cons (de_v 1) (da_cons de_int da_nil))) de_int (nomark _)) (dss_cons (ds_set 5 sclaw.nd (de_tup (da_cons (de_op plusR sim_plus (de_op op_sub (sim_I0 int_rep) de_int (de_ix (ix_or ix_list ix_tup) sim_ix (de_v 4) de_int (fun _ _ => rfl))) (de_f ok_law_draw (hr.mono (by decide)) nog (da_cons (de_v 1) (da_cons de_int da_nil)))) (da_cons (de_callB sim_max2 (call_max2 rfl) T.b_max (by decide +kernel) (da_cons de_int (da_cons (de_op op_sub (sim_I0 int_rep) (de_op op_sub (sim_I0 int_rep) de_int (de_ix (ix_or ix_list ix_tup) sim_ix (de_v 4) de_int (fun _ _ => rfl))) (de_f ok_law_draw (hr.mono (by decide)) nog (da_cons (de_v 1) (da_cons de_int da_nil)))) da_nil))) da_nil))))
  (dss_one (ds_set 5 sclaw.nd (de_tup (da_cons (de_callB sim_min2 (call_min2 rfl) T.b_min (by decide +kernel) (da_cons de_int (da_cons (de_ix (ix_or ix_list ix_tup) sim_ix (de_v 5) de_int (fun _ _ => rfl)) da_nil))) (da_cons (de_ix (ix_or ix_list ix_tup) sim_ix (de_v 5) de_int (fun _ _ => rfl)) da_nil)))))) dss_nil)
  (dss_cons (ds_set 3 sclaw.nd (de_f ok_law_pick (hr.mono (by decide)) nog (da_cons (de_v 1) (da_cons (de_lst (da_cons de_int (da_cons de_int (da_cons de_int (da_cons de_int (da_cons (de_f ok_law_draw (hr.mono (by decide)) nog (da_cons (de_v 1) (da_cons de_int da_nil))) (da_cons de_int (da_cons de_int (da_cons (de_op op_pow (sim_I int_rep) de_int de_int) da_nil))))))))) da_nil))))
  (dss_one (ds_if (dt_w (dw_or (dt_not (dt_val (de_f ok_law_two_right (hr.mono (by decide)) hgd (da_cons (de_v 4) (da_cons (de_v 5) da_nil))))) (dw_or1 (dt_not (dt_val (de_f ok_law_one_right (hr.mono (by decide)) hgd (da_cons (de_v 4) (da_cons (de_v 3) da_nil)))))))) (dss_one (ds_ret de_bl)) dss_nil))))))
  (dss_one (ds_ret de_bl)))))
end
end My

set_option Elab.async false
set_option linter.all false
set_option maxRecDepth 100000
set_option maxHeartbeats 1000000
namespace My
open PySem PySem.Spec L2 DL
open PyProof.Rows hiding St
theorem cm1 {i j : Int} (h : -(2 ^ 64) < i ∧ i < 2 ^ 64) : CMul i j ∨ i.natAbs.log2 + j.natAbs.log2 < 1000000 := .inl (.inl h)
theorem cm2 {i j : Int} (h : -(2 ^ 64) < j ∧ j < 2 ^ 64) : CMul i j ∨ i.natAbs.log2 + j.natAbs.log2 < 1000000 := .inl (.inr h)
theorem small_sz {n : Nat} (h : n ≤ 1000000) : n < sizeLine := by rw [sizeLine_eq]; omega
theorem mixed_spec {c n : Int} {M : MM} {Q : D → MM → Prop} {EX : XD → MM → Prop} (hc : -(2 ^ 62) < c ∧ c < 2 ^ 62) (hn : 0 ≤ n ∧ n < 2 ^ 40) (h : ∀ r : Int, 0 ≤ r → r < 2147483629 → Q (.int r) M) : s_law_mixed [.int c, .int n] M Q EX := by
  refine ⟨rfl, cm1 (by omega), cm1 (by omega), cm2 (by decide), (show (0 : Int) < 2147483647 by decide), cm1 (by decide), cm2 (by omega), cm1 (by decide), cm2 (by decide), (show (0 : Int) < 2147483629 by decide), ⟨by decide, by decide⟩, h _ ?_ ?_⟩
  · omega
  · omega
/-! ### the draws -/
def dEnt (cs : List Int) (g : Addr) (n : Int) : List (Key × D) := [(.inr "cells", .lst (cs.map D.int)), (.inr "great", .raw (.ref g)), (.inr "spot", .int n)]
/-- m draws, g its great list; f draws are left -/
structure Dr (m g : Addr) (f : Nat) (M : MM) : Prop where
  ex : ∃ (cs gs : List Int) (n : Int), M m = some (.dct (dEnt cs g n)) ∧ M g = some (.lst (gs.map D.int)) ∧ cs.length = 64 ∧ (∀ c ∈ cs, 0 ≤ c ∧ c < 2147483647) ∧ gs.length ≤ 63 ∧ 0 ≤ n ∧ n + (f : Int) < 2 ^ 39
  ne : m ≠ g
/-- all but the draws stays -/
def Sm (m g : Addr) (M M' : MM) : Prop := ∀ b, b ≠ m → b ≠ g → M' b = M b
theorem Sm.refl {m g : Addr} {M : MM} : Sm m g M M := fun _ _ _ => rfl
theorem Sm.trans {m g : Addr} {M M1 M2 : MM} (a : Sm m g M M1) (b : Sm m g M1 M2) : Sm m g M M2 := fun c h1 h2 => (b c h1 h2).trans (a c h1 h2)
theorem val_spot {cs : List Int} {g : Addr} {n : Int} : valD (dEnt cs g n) (.inr "spot") = some (.int n) := by rfl
theorem val_great {cs : List Int} {g : Addr} {n : Int} : valD (dEnt cs g n) (.inr "great") = some (.raw (.ref g)) := by rfl
theorem val_cells {cs : List Int} {g : Addr} {n : Int} : valD (dEnt cs g n) (.inr "cells") = some (.lst (cs.map D.int)) := by rfl
theorem put_spot {cs : List Int} {g : Addr} {n k : Int} : putD (dEnt cs g n) (.inr "spot") (.int k) = dEnt cs g k := by rfl
theorem draw_spec {m g : Addr} {f : Nat} {M : MM} {top : Int} {Q : D → MM → Prop} {EX : XD → MM → Prop} (hd : Dr m g (f + 1) M) (ht : 0 < top ∧ top < 1073741824) (h : ∀ (r : Int) (M' : MM), 0 ≤ r → r < top → Dr m g f M' → Sm m g M M' → Q (.int r) M') : s_law_draw [.raw (.ref m), .int top] M Q EX := by
  obtain ⟨⟨cs, gs, n, e1, e2, lc, bc, lg, n0, nf⟩, ne⟩ := hd
  refine ⟨rfl, ?_⟩
  refine at_dget (dct_mut e1) rfl val_spot ?_
  refine at_dput (k := .inr "spot") (i := .str "spot") e1 rfl (small_sz (show 3 ≤ 1000000 by decide)) ?_
  rw [put_spot]
  obtain ⟨M1, eM⟩ : ∃ M1, M1 = updM M m (.dct (dEnt cs g (n + 1))) := ⟨_, rfl⟩
  rw [← eM]
  have f1 : M1 m = some (.dct (dEnt cs g (n + 1))) := by rw [eM]; exact updM_same
  have f2 : M1 g = some (.lst (gs.map D.int)) := by rw [eM, updM_ne ne.symm]; exact e2
  have sm : Sm m g M M1 := fun b hb _ => by rw [eM]; exact updM_ne hb
  have dr : Dr m g f M1 := ⟨⟨cs, gs, n + 1, f1, f2, lc, bc, lg, by omega, by omega⟩, ne⟩
  -- the last part: a cell's own number
  have fin : ∀ d4 : Option D, (wSeq (wSet 3 (wOp wIx (wDGet (wV 0) (wC (.str "cells"))) (wOp wMod (wB wInt1 (wCons (wV 2) wNil)) (wC (.int 64)))))
      (wRet (wOp wMod (wB wInt1 (wCons (wCall s_law_mixed [] (wCons (wCall s_law_mixed [] (wCons (wOp wPlus (wV 3) (wOp wTimes (wC (.int 31)) (wOp wDiv (wV 2) (wC (.int 64))))) (wCons (wV 2) wNil))) (wCons (wOp wPlus (wV 2) (wC (.int 7))) wNil))) wNil)) (wV 1))))
      { nx := fun _ M' => Q .non M', rt := Q } (fun xd _ M' => EX xd M') [some (.raw (.ref m)), some (.int top), some (.int n), d4, none] M1 := by
    intro d4
    refine at_dget (dct_mut f1) (by rfl) val_cells ?_
    refine ⟨(show (0 : Int) < 64 by decide), ?_⟩
    obtain ⟨c, hc⟩ : ∃ c, cs[(n % 64).toNat]? = some c := ⟨_, List.getElem?_eq_getElem (by omega)⟩
    have bc' := bc c (List.mem_of_getElem? hc)
    refine at_ix (xs := cs.map D.int) (d := .int c) rfl ?_ ?_
    · rw [atD_nat (by omega) (by rw [List.length_map]; omega), List.getElem?_map, hc]; rfl
    refine ⟨⟨by decide, by decide⟩, cm1 (by decide), ?_⟩
    refine mixed_spec (by omega) (by omega) fun r1 a1 b1 => ?_
    refine mixed_spec (by omega) (by omega) fun r2 a2 b2 => ?_
    exact ⟨ht.1, h _ _ (Int.emod_nonneg _ (by omega)) (Int.emod_lt_of_pos _ ht.1) dr sm⟩
  refine at_dget (dct_mut f1) (by rfl) val_great ?_
  refine ⟨Nat.zero_le _, at_ne (p := .list (gs.map .int)) (q := .list []) ?_ rfl (shaped_ints gs) (by decide +kernel) ⟨_, rfl, ?_⟩⟩
  · rw [py_mut f2]; exact toPy_lst (toPys_ints gs)
  rw [eqv_nil]
  cases gs with
  | nil => exact fin none
  | cons z zs =>
    refine at_dget (dct_mut f1) (by rfl) val_great ?_
    refine at_len (seq_mut f2) ?_
    refine ⟨(show (0 : Int) < (((z :: zs).map D.int).length : Nat) by rw [List.length_map, List.length_cons]; omega), ?_⟩
    obtain ⟨j, ej⟩ : ∃ j : Nat, j = (n % (((z :: zs).map D.int).length : Nat)).toNat := ⟨_, rfl⟩
    have lp : (0 : Int) < (((z :: zs).map D.int).length : Nat) := by rw [List.length_map, List.length_cons]; omega
    have j0 : 0 ≤ n % (((z :: zs).map D.int).length : Nat) := Int.emod_nonneg _ (by omega)
    have j1 : n % (((z :: zs).map D.int).length : Nat) < (((z :: zs).map D.int).length : Nat) := Int.emod_lt_of_pos _ lp
    have lj : j < (z :: zs).length := by
      have el : ((z :: zs).map D.int).length = (z :: zs).length := List.length_map ..
      omega
    obtain ⟨c, hc⟩ : ∃ c, (z :: zs)[j]? = some c := ⟨_, List.getElem?_eq_getElem lj⟩
    refine at_dget (dct_mut f1) (by rfl) val_great ?_
    refine at_ix (d := .int c) (seq_mut f2) ?_ ?_
    · rw [atD_nat j0 j1, ← ej, List.getElem?_map, hc]; rfl
    refine ⟨_, rfl, ?_⟩
    refine if2 (fun hp => ?_) fun hp => ?_
    · refine ⟨ht, ?_⟩
      refine at_dget (dct_mut f1) (by rfl) val_great ?_
      refine at_putL (j := j) f2 ?_ ?_
      · rw [ixN_nat j0 j1, ← ej]
      refine ⟨ht.1, h _ _ (Int.emod_nonneg _ (by omega)) (Int.emod_lt_of_pos _ ht.1) ⟨⟨cs, (z :: zs).set j (c / top), n + 1, ?_, ?_, lc, bc, by rw [List.length_set]; exact lg, by omega, by omega⟩, ne⟩ fun b h1 h2 => ?_⟩
      · rw [updM_ne ne]; exact f1
      · rw [updM_same]; congr 2; rw [List.map_set]
      · rw [updM_ne h2]; exact sm b h1 h2
    · exact fin (some (.int c))
theorem Sm.kp {m g : Addr} {f : Nat} {M M' : MM} (s : Sm m g M M') (d : Dr m g f M') : Kp [m, g] M M' := fun b hb => by
  obtain ⟨⟨cs, gs, n, e1, e2, _⟩, _⟩ := d
  by_cases h1 : b = m
  · exact ⟨by rw [h1, e1]; simp, fun nb => absurd (by simp [h1]) nb⟩
  · by_cases h2 : b = g
    · exact ⟨by rw [h2, e2]; simp, fun nb => absurd (by simp [h2]) nb⟩
    · exact ⟨by rw [s b h1 h2]; exact hb, fun _ => s b h1 h2⟩
def Sep (A B : List Addr) : Prop := ∀ a ∈ A, a ∉ B
theorem Sep.symm {A B : List Addr} (h : Sep A B) : Sep B A := fun b hb ha => h b ha hb
def Alv (A : List Addr) (M : MM) : Prop := ∀ a ∈ A, M a ≠ none
theorem Alv.kp {A S : List Addr} {M M' : MM} (a : Alv A M) (k : Kp S M M') : Alv A M' := fun x hx => (k x (a x hx)).1
theorem Dr.alv {m g : Addr} {f : Nat} {M : MM} (d : Dr m g f M) : Alv [m, g] M := fun x hx => by
  obtain ⟨⟨cs, gs, n, e1, e2, _⟩, _⟩ := d
  simp only [List.mem_cons, List.not_mem_nil, or_false] at hx
  rcases hx with e | e
  · rw [e, e1]; simp
  · rw [e, e2]; simp
theorem Dr.kp {m g : Addr} {f : Nat} {M M' : MM} {S : List Addr} (d : Dr m g f M) (k : Kp S M M') (s : Sep [m, g] S) : Dr m g f M' := by
  obtain ⟨⟨cs, gs, n, e1, e2, h⟩, ne⟩ := d
  exact ⟨⟨cs, gs, n, k.some e1 (s m (by simp)), k.some e2 (s g (by simp)), h⟩, ne⟩
theorem not_fresh {A : List Addr} {p : Addr} (a : Alv A M) (hp : M p = none) : p ∉ A := fun z => a p z hp
theorem at_cutL {Q : D → MM → Prop} {xs : List Int} {lo hi : Option Int} {M : MM} (q : ∀ ys : List Int, ys.length ≤ xs.length → (∀ y ∈ ys, y ∈ xs) → Q (.lst (ys.map D.int)) M) : kCut Q (.lst (xs.map D.int)) lo hi M := by
  unfold kCut
  show Q (.lst (DL.cutD (xs.map D.int) lo hi)) M
  unfold DL.cutD
  rw [← List.map_drop, ← List.map_take]
  refine q _ ?_ fun y hy => List.mem_of_mem_drop (List.mem_of_mem_take hy)
  have h1 := List.length_take_le (HT.sIx (xs.map D.int).length (xs.map D.int).length hi - HT.sIx (xs.map D.int).length 0 lo) (xs.drop (HT.sIx (xs.map D.int).length 0 lo))
  have h2 : (xs.drop (HT.sIx (xs.map D.int).length 0 lo)).length ≤ xs.length := by rw [List.length_drop]; omega
  have h3 := List.length_take_le' (HT.sIx (xs.map D.int).length (xs.map D.int).length hi - HT.sIx (xs.map D.int).length 0 lo) (xs.drop (HT.sIx (xs.map D.int).length 0 lo))
  omega
theorem sep_fresh {A : List Addr} {M : MM} {p q : Addr} (a : Alv A M) (hp : M p = none) (hq : M q = none) : Sep A [p, q] := fun x hx hm => by
  simp only [List.mem_cons, List.not_mem_nil, or_false] at hm
  rcases hm with e | e
  · exact a x hx (e ▸ hp)
  · exact a x hx (e ▸ hq)
theorem sep_nil {A : List Addr} : Sep A [] := fun _ _ z => nomatch z
theorem seq_par {i j : Nat} {wa wb : WE} {B : WS} {E : ED} {EX : XK'} {δ : DS} {M : MM} (h : wa δ M (fun a M1 => wb δ M1 (fun b M2 => B E EX ((δ.set i (some a)).set j (some b)) M2) EX) EX) : wSeq (wPar i j (wCons wa (wCons wb wNil))) B E EX δ M := h
theorem seq_set {i : Nat} {wa : WE} {B : WS} {E : ED} {EX : XK'} {δ : DS} {M : MM} (h : wa δ M (fun a M1 => B E EX (δ.set i (some a)) M1) EX) : wSeq (wSet i wa) B E EX δ M := h
theorem for_r1 {n : Int} {j : Nat} {wb : WS} {E : ED} {EX : XK'} {δ : DS} {M : MM} (hn : -(2 ^ 62) ≤ n ∧ n < 2 ^ 62) (h : wLoop none (bNm j) wb (rngL 0 n.toNat) E EX δ M) : wFor (wiR1 (wCons (wC (.int n)) wNil)) (bNm j) wb E EX δ M := ⟨hn, h⟩
theorem within_spec {v lo hi : Int} {M : MM} {Q : D → MM → Prop} {EX : XD → MM → Prop} (h : lo ≤ v ∧ v ≤ hi) (hQ : Q (.bl true) M) : sis_integer_within [.int v, .int lo, .int hi] M Q EX := by
  refine ⟨rfl, rfl, ?_⟩
  refine at_isi (t := .int) (b := true) rfl rfl ⟨_, rfl, ifT rfl ?_⟩
  refine at_isi (t := .int) (b := false) rfl rfl ⟨_, rfl, ⟨_, rfl, ifT rfl ?_⟩⟩
  refine ⟨_, rfl, ?_⟩
  rw [decide_eq_true h.1]
  refine ifT rfl ?_
  show Q (.bl (decide (v ≤ hi))) M
  rw [decide_eq_true h.2]
  exact hQ
theorem folded_spec {ns : List Int} {M : MM} {Q : D → MM → Prop} {EX : XD → MM → Prop} (hl : ns.length ≤ 63) (hQ : ∀ (cs : List Int) M', cs.length = 64 → (∀ c ∈ cs, 0 ≤ c ∧ c < 2147483647) → Kp [] M M' → Q (.lst (cs.map D.int)) M') : s_law_folded [.frl (ns.map D.int)] M Q EX := by
  refine ⟨rfl, ?_⟩
  refine ⟨⟨by decide, by decide⟩, ?_⟩
  refine lc_inv (fun i acc M' => M' = M ∧ ∃ cs : List Int, acc = cs.map D.int ∧ cs.length = i ∧ i ≤ 64 ∧ ∀ c ∈ cs, 0 ≤ c ∧ c < 2147483647) ⟨rfl, [], rfl, rfl, by decide, fun _ z => nomatch z⟩ (fun _ _ _ _ => trivial) ?_ ?_
  · rintro i d acc M' hi ⟨rfl, cs, rfl, hc, hi64, hb⟩
    obtain ⟨hn, rfl⟩ := rngL_get hi
    refine ⟨_, rfl, fun nx hn' => ?_⟩
    refine ⟨small_sz (by rw [List.length_map]; omega), ?_⟩
    refine hn' _ _ ⟨rfl, cs ++ [(17 : Int) + (0 + ((i : Nat) : Int))], by rw [List.map_append]; rfl, by rw [List.length_append, hc]; rfl, by have : (64 : Int).toNat = 64 := rfl; omega, fun c hc' => ?_⟩
    rcases List.mem_append.mp hc' with z | z
    · exact hb c z
    · rw [List.mem_singleton.mp z]
      have : (64 : Int).toNat = 64 := rfl
      omega
  rintro acc M' ⟨rfl, cs, rfl, hc, _, hb⟩
  intro p hp
  have hc64 : cs.length = 64 := by rw [hc]; exact rngL_len 0 64
  refine at_enumF ?_
  refine loop_inv (fun i δ M1 => ∃ (ds : List Int) (d2 d3 d4 : Option D), δ = [some (.frl (ns.map D.int)), some (.raw (.ref p)), d2, d3, d4] ∧ M1 p = some (.lst (ds.map D.int)) ∧ ds.length = 64 ∧ (∀ c ∈ ds, 0 ≤ c ∧ c < 2147483647) ∧ ∀ b, b ≠ p → M1 b = M' b)
    ⟨cs, none, none, none, rfl, updM_same, hc64, hb, fun b nb => updM_ne nb⟩ (fun _ _ _ _ => True.intro) ?_ ?_
  · rintro i d δ M1 hi ⟨ds, d2, d3, d4, rfl, a1, dl, db, fr⟩
    obtain ⟨d1, e1, rfl⟩ := enumL_get hi
    obtain ⟨x, hx, rfl⟩ : ∃ x, ns[i]? = some x ∧ d1 = .int x := by
      rw [List.getElem?_map] at e1
      cases e : ns[i]? with
      | none => rw [e] at e1; cases e1
      | some x => rw [e] at e1; exact ⟨x, rfl, (Option.some.inj e1).symm⟩
    have li : i < ns.length := (List.getElem?_eq_some_iff.mp hx).1
    refine ⟨_, rfl, fun nx hn' => ?_⟩
    refine ⟨(show (0 : Int) < 64 by decide), ?_⟩
    have r0 : 0 ≤ (((0 + i : Nat) : Int) % 64) := Int.emod_nonneg _ (by decide)
    have r1 : (((0 + i : Nat) : Int) % 64) < 64 := Int.emod_lt_of_pos _ (by decide)
    obtain ⟨j, ej⟩ : ∃ j : Nat, j = (((0 + i : Nat) : Int) % 64).toNat := ⟨_, rfl⟩
    obtain ⟨c, hc'⟩ : ∃ c, ds[j]? = some c := ⟨_, List.getElem?_eq_getElem (by omega)⟩
    have bc := db c (List.mem_of_getElem? hc')
    refine at_ix (d := .int c) (seq_mut a1) ?_ ?_
    · rw [atD_nat r0 (by rw [List.length_map]; omega), ← ej, List.getElem?_map, hc']; rfl
    refine ⟨cm1 (by omega), (show (0 : Int) < 2147483647 by decide), ?_⟩
    refine at_putL (j := j) a1 ?_ ?_
    · rw [ixN_nat r0 (by rw [List.length_map]; omega), ← ej]
    refine hn' _ _ ⟨ds.set j ((c * 48271 + x) % 2147483647), _, _, _, rfl, ?_, by rw [List.length_set]; exact dl, fun z hz => ?_, fun b nb => by rw [updM_ne nb]; exact fr b nb⟩
    · rw [updM_same, List.map_set]
    · rcases List.mem_or_eq_of_mem_set hz with z1 | z1
      · exact db z z1
      · rw [z1]; exact ⟨Int.emod_nonneg _ (by decide), Int.emod_lt_of_pos _ (by decide)⟩
  rintro δ M1 ⟨ds, d2, d3, d4, rfl, a1, dl, db, fr⟩
  refine ⟨⟨by decide, by decide, by decide, by decide⟩, ?_⟩
  refine loop_inv (fun i δ M1 => ∃ (ds : List Int) (d2 d3 d4 : Option D), δ = [some (.frl (ns.map D.int)), some (.raw (.ref p)), d2, d3, d4] ∧ M1 p = some (.lst (ds.map D.int)) ∧ ds.length = 64 ∧ (∀ c ∈ ds, 0 ≤ c ∧ c < 2147483647) ∧ ∀ b, b ≠ p → M1 b = M' b)
    ⟨ds, d2, d3, d4, rfl, a1, dl, db, fr⟩ (fun _ _ _ _ => trivial) ?_ ?_
  · rintro i d δ M1 hi ⟨ds, d2, d3, d4, rfl, a1, dl, db, fr⟩
    obtain ⟨hn, rfl⟩ := rngL_get hi
    have hn' : i < 63 := hn
    refine ⟨_, rfl, fun nx hnx => ?_⟩
    obtain ⟨c, hc'⟩ : ∃ c, ds[1 + i]? = some c := ⟨_, List.getElem?_eq_getElem (by omega)⟩
    obtain ⟨c2, hc2⟩ : ∃ c, ds[i]? = some c := ⟨_, List.getElem?_eq_getElem (by omega)⟩
    have bc := db c (List.mem_of_getElem? hc')
    have bc2 := db c2 (List.mem_of_getElem? hc2)
    refine at_ix (d := .int c) (seq_mut a1) ?_ ?_
    · rw [atD_nat (by omega) (by rw [List.length_map]; omega), (show ((1 : Int) + (i : Nat)).toNat = 1 + i by omega), List.getElem?_map, hc']; rfl
    refine at_ix (d := .int c2) (seq_mut a1) ?_ ?_
    · rw [atD_nat (by omega) (by rw [List.length_map]; omega), (show ((1 : Int) + (i : Nat) - 1).toNat = i by omega), List.getElem?_map, hc2]; rfl
    refine ⟨cm1 (by omega), (show (0 : Int) < 2147483647 by decide), ?_⟩
    refine at_putL (j := 1 + i) a1 ?_ ?_
    · rw [ixN_nat (by omega) (by rw [List.length_map]; omega), (show ((1 : Int) + (i : Nat)).toNat = 1 + i by omega)]
    refine hnx _ _ ⟨ds.set (1 + i) ((c + c2 * 16807) % 2147483647), _, _, _, rfl, ?_, by rw [List.length_set]; exact dl, fun z hz => ?_, fun b nb => by rw [updM_ne nb]; exact fr b nb⟩
    · rw [updM_same, List.map_set]
    · rcases List.mem_or_eq_of_mem_set hz with z1 | z1
      · exact db z z1
      · rw [z1]; exact ⟨Int.emod_nonneg _ (by decide), Int.emod_lt_of_pos _ (by decide)⟩
  rintro δ M1 ⟨ds, d2, d3, d4, rfl, a1, dl, db, fr⟩
  refine at_frz a1 ?_
  refine hQ ds _ dl db fun b hb => ?_
  have nb : b ≠ p := fun z => hb (z ▸ hp)
  have e : delM M1 p b = M' b := by unfold delM; rw [if_neg nb]; exact fr b nb
  exact ⟨by rw [e]; exact hb, fun _ => e⟩
theorem at_iterR {Q : IT → MM → Prop} {M : MM} {ds : List D} (q : Q { items := ds } M) : kiS Q (.frl ds) M := by
  unfold kiS; exact q
theorem begun_spec {ns : List Int} {M : MM} {Q : D → MM → Prop} {EX : XD → MM → Prop} (hl : ns.length ≤ 63) (hQ : ∀ m g M', Dr m g 100000 M' → M m = none → M g = none → Kp [] M M' → Q (.raw (.ref m)) M') : s_law_begun [.frl (ns.map D.int)] M Q EX := by
  refine ⟨rfl, ?_⟩
  refine folded_spec hl fun cs M1 hc hb kp1 => ?_
  refine ⟨Nat.zero_le _, fun g0 hg0 => ⟨rfl, (show 3 ≤ 15 by decide), fun m hm => ?_⟩⟩
  have nm : m ≠ g0 := fun z => by rw [z, updM_same] at hm; cases hm
  have hm1 : M1 m = none := by rw [updM_ne nm] at hm; exact hm
  refine at_iterR ?_
  obtain ⟨M2, eM2⟩ : ∃ M2, M2 = updM (updM M1 g0 (.lst [])) m (.dct [(.inr "cells", .lst (cs.map D.int)), (.inr "great", .raw (.ref g0)), (.inr "spot", .int 0)]) := ⟨_, rfl⟩
  have a2 : M2 m = some (.dct (dEnt cs g0 0)) := by rw [eM2]; exact updM_same
  have kp2 : Kp [] M M2 := (kp1.trans (kp_new hg0)).trans (by rw [eM2]; exact kp_new hm)
  show wLcL _ _ _ _ _ _ _ _ (updM (updM M1 g0 (.lst [])) m (.dct [(.inr "cells", .lst (cs.map D.int)), (.inr "great", .raw (.ref g0)), (.inr "spot", .int 0)]))
  rw [← eM2]
  refine lc_inv (fun i acc M' => M' = M2 ∧ ∃ gs : List Int, acc = gs.map D.int ∧ gs.length = i ∧ i ≤ ns.length) ⟨rfl, [], rfl, rfl, Nat.zero_le _⟩ (fun _ _ _ _ => trivial) ?_ ?_
  · rintro i d acc M' hi ⟨rfl, gs, rfl, hg, hi2⟩
    obtain ⟨x, hx, rfl⟩ : ∃ x, ns[i]? = some x ∧ d = .int x := by
      rw [List.getElem?_map] at hi
      cases e : ns[i]? with
      | none => rw [e] at hi; cases hi
      | some x => rw [e] at hi; exact ⟨x, rfl, (Option.some.inj hi).symm⟩
    have li : i < ns.length := (List.getElem?_eq_some_iff.mp hx).1
    refine ⟨_, rfl, fun nx hn => ?_⟩
    have fin : ∀ z : Int, (gs.map D.int).length < sizeLine ∧ nx (gs.map D.int ++ [.int z]) M' := fun z => ⟨small_sz (by rw [List.length_map]; omega), hn _ _ ⟨rfl, gs ++ [z], by rw [List.map_append]; rfl, by rw [List.length_append, hg]; rfl, li⟩⟩
    refine ⟨⟨by decide, by decide⟩, _, rfl, if2 (fun _ => fin x) fun _ => fin 0⟩
  rintro acc M' ⟨rfl, gs, rfl, hg, hi2⟩
  intro g hg'
  have hgl : gs.length ≤ 63 := by
    have e : gs.length = ns.length := hg.trans (List.length_map ..)
    omega
  have ngm : m ≠ g := fun z => by rw [← z, a2] at hg'; cases hg'
  refine at_dput (k := .inr "great") (i := .str "great") (kvs := dEnt cs g0 0) (by rw [updM_ne ngm]; exact a2) rfl (small_sz (show 3 ≤ 1000000 by decide)) ?_
  refine hQ m g _ ⟨⟨cs, gs, 0, updM_same, ?_, hc, hb, hgl, by decide, by decide⟩, ngm⟩ (kp1.none hm1) (kp2.none hg') ?_
  · rw [updM_ne ngm.symm]; exact updM_same
  · have k3 : Kp [m] M (updM (updM M' g (.lst (gs.map D.int))) m (.dct (putD (dEnt cs g0 0) (.inr "great") (.raw (.ref g))))) := ((kp2.trans (kp_new hg')).mono (by simp)).trans (kp_upd (by simp))
    exact Kp.drop (kp1.none hm1) .refl k3
theorem Dr.le {m g : Addr} {a b : Nat} {M : MM} (h : Dr m g a M) (l : b ≤ a) : Dr m g b M := by
  obtain ⟨⟨cs, gs, n, e1, e2, lc, bc, lg, n0, nf⟩, ne⟩ := h
  exact ⟨⟨cs, gs, n, e1, e2, lc, bc, lg, n0, by omega⟩, ne⟩
/-- a comprehension over range(n) whose items are drawn -/
theorem lc_draws {we : WE} {δ0 : DS} {m g : Addr} {j f n : Nat} {M2 : MM} {fin : List D → MM → Prop} (P : Int → Prop) (hn : n ≤ 100000) (dr : Dr m g (f + n) M2)
    (hw : ∀ (i f' : Nat) (M' : MM), i < n → Dr m g (f' + 1) M' → ∀ nx : D → MM → Prop, (∀ (z : Int) M'', P z → Dr m g f' M'' → Sm m g M' M'' → nx (.int z) M'') → we (δ0.set j (some (.int (0 + ((i : Nat) : Int))))) M' nx noX)
    (hfin : ∀ (xs : List Int) M', xs.length = n → (∀ x ∈ xs, P x) → Dr m g f M' → Sm m g M2 M' → fin (xs.map D.int) M') : wLcL none (bNm j) wYes we δ0 fin (rngL 0 n) [] M2 := by
  refine lc_inv (fun i acc M' => ∃ xs : List Int, acc = xs.map D.int ∧ xs.length = i ∧ i ≤ n ∧ (∀ x ∈ xs, P x) ∧ Dr m g (f + (n - i)) M' ∧ Sm m g M2 M') ⟨[], rfl, rfl, Nat.zero_le _, fun _ z => (nomatch z), dr, .refl⟩ (fun _ _ _ _ => True.intro) ?_ ?_
  · rintro i d acc M' hi ⟨xs, rfl, hx, hi2, hb, dr', sm⟩
    obtain ⟨hi3, rfl⟩ := rngL_get hi
    refine ⟨_, rfl, fun nx hnx => ?_⟩
    refine hw i (f + (n - (i + 1))) M' hi3 (dr'.le (by omega)) _ fun z M'' hz dr2 sm2 => ?_
    exact ⟨small_sz (by rw [List.length_map]; omega), hnx _ _ ⟨xs ++ [z], by rw [List.map_append]; rfl, by rw [List.length_append, hx]; rfl, hi3, fun x hx2 => by
      rcases List.mem_append.mp hx2 with e | e
      · exact hb x e
      · rw [List.mem_singleton.mp e]; exact hz, dr2, sm.trans sm2⟩⟩
  · rintro acc M' ⟨xs, rfl, hx, hi2, hb, dr', sm⟩
    rw [rngL_len] at hx hi2 dr'
    exact hfin xs M' hx hb (dr'.le (by omega)) sm
/-- a comprehension that changes nothing -/
theorem lc_pure {src : Option (Addr × List D)} {b : BD} {wt : WT} {we : WE} {δ : DS} {fin : List D → MM → Prop} {M : MM} (gf : D → Option D) (hs : stay src M) :
    ∀ (ds acc : List D), (∀ d ∈ ds, ∃ δ', b d δ = some δ' ∧ match gf d with
      | some y => (∀ K : Bool → MM → Prop, K true M → wt δ' M K noX) ∧ ∀ K : D → MM → Prop, K y M → we δ' M K noX
      | none => ∀ K : Bool → MM → Prop, K false M → wt δ' M K noX) → acc.length + ds.length ≤ 1000000 → fin (acc ++ ds.filterMap gf) M → wLcL src b wt we δ fin ds acc M
  | [], acc, _, _, h => by
    unfold wLcL
    rw [List.filterMap_nil, List.append_nil] at h
    exact ⟨hs, h⟩
  | d :: ds, acc, hd, hl, h => by
    obtain ⟨δ', e, q⟩ := hd d (List.mem_cons_self ..)
    unfold wLcL
    refine ⟨hs, ?_⟩
    rw [e]
    have ih := fun acc => lc_pure (b := b) (wt := wt) (we := we) (δ := δ) (fin := fin) gf hs ds acc
    cases eg : gf d with
    | some y =>
      rw [eg] at q
      refine q.1 _ ?_
      rw [if_pos rfl]
      refine q.2 _ ⟨small_sz (by simp at hl; omega), ih (acc ++ [y]) (fun x hx => hd x (List.mem_cons_of_mem _ hx)) (by simp at hl ⊢; omega) ?_⟩
      rw [List.filterMap_cons, eg] at h
      rw [List.append_assoc]
      exact h
    | none =>
      rw [eg] at q
      refine q _ ?_
      rw [if_neg Bool.false_ne_true]
      refine ih acc (fun x hx => hd x (List.mem_cons_of_mem _ hx)) (by simp at hl; omega) ?_
      rw [List.filterMap_cons, eg] at h
      exact h
theorem at_append {Q : D → MM → Prop} {M : MM} {a : Addr} {xs : List D} {d : D} (h : M a = some (.lst xs)) (hl : xs.length ≤ 1000000) (q : Q .non (updM M a (.lst (xs ++ [d])))) : onL wAppend (.raw (.ref a)) [d] M Q := at_lst h ⟨small_sz hl, q⟩
theorem at_popAt {Q : D → MM → Prop} {M : MM} {a : Addr} {xs : List D} {z : Int} {d : D} (h : M a = some (.lst xs)) (h0 : 0 ≤ z) (h1 : z < xs.length) (hl : xs.length ≤ 1000000) (hd : xs[z.toNat]? = some d) (q : Q d (updM M a (.lst (xs.eraseIdx z.toNat)))) : onL wPopAt (.raw (.ref a)) [.int z] M Q := by
  refine at_lst h ⟨by omega, ?_⟩
  have e : seqIndex? z xs.length = some z.toNat := by
    have h' : ¬ z < 0 := by omega
    have h'' : z.toNat < xs.length := by omega
    first
      | (simp [seqIndex?, h', h'']; done)
      | (unfold seqIndex?; rw [if_neg h']; simp [h'', h0, h1]; done)
      | (unfold seqIndex?; simp [h', h'', h0, h1]; omega)
  rw [e]
  show match xs[z.toNat]? with
    | some d => Q d (updM M a (.lst (xs.eraseIdx z.toNat)))
    | none => False
  rw [hd]; exact q
theorem at_insert {Q : D → MM → Prop} {M : MM} {a : Addr} {xs : List D} {z : Int} {d : D} (h : M a = some (.lst xs)) (h0 : 0 ≤ z) (h1 : z < 1000000) (hl : xs.length ≤ 1000000) (q : Q .non (updM M a (.lst (xs.take z.toNat ++ [d] ++ xs.drop z.toNat)))) : onL wInsert (.raw (.ref a)) [.int z, d] M Q := at_lst h ⟨small_sz hl, ⟨h0, by omega⟩, q⟩
theorem kp_del {S : List Addr} {M0 M : MM} {p : Addr} (k : Kp S M0 M) (hp : M0 p = none) : Kp S M0 (delM M p) := fun b hb => by
  have ne : b ≠ p := fun z => hb (z ▸ hp)
  unfold delM
  rw [if_neg ne]
  exact k b hb
theorem delM_ne {M : MM} {a b : Addr} (h : b ≠ a) : delM M a b = M b := by unfold delM; rw [if_neg h]
theorem seq_drop {we : WE} {B : WS} {E : ED} {EX : XK'} {δ : DS} {M : MM} (h : we δ M (fun _ M1 => B E EX δ M1) EX) : wSeq (wDrop we) B E EX δ M := h
theorem call_of {sp : SpD} {wa : WA} {δ : DS} {M : MM} {Q : D → MM → Prop} {EX : XK'} (ds : List D) (ha : ∀ R : List D → MM → Prop, R ds M → wa δ M R EX) (h : sp ds M Q (fun xd M2 => EX xd δ M2)) : wCall sp [] wa δ M Q EX :=
  ha _ (by rw [List.append_nil]; exact h)
theorem seq_asg {b : BD} {we : WE} {B : WS} {E : ED} {EX : XK'} {δ : DS} {M : MM} (h : we δ M (kAsg b (fun δ' M' => B E EX δ' M') δ) EX) : wSeq (wAsg b we) B E EX δ M := h
theorem at_asg {b : BD} {nx : DS → MM → Prop} {δ δ' : DS} {d : D} {M : MM} (h : b d δ = some δ') (q : nx δ' M) : kAsg b nx δ d M := by unfold kAsg; rw [h]; exact q
theorem call_cons {sp : SpD} {we : WE} {wr : WA} {δ : DS} {M : MM} {Q : D → MM → Prop} {EX : XK'} (h : we δ M (fun d M1 => wr δ M1 (fun ds M2 => sp (d :: ds) M2 Q (fun xd M3 => EX xd δ M3)) EX) EX) : wCall sp [] (wCons we wr) δ M Q EX := by
  have e : (fun (ds : List D) (M1 : MM) => sp (ds ++ []) M1 Q (fun xd M2 => EX xd δ M2)) = fun ds M1 => sp ds M1 Q (fun xd M2 => EX xd δ M2) := by funext ds M1; rw [List.append_nil]
  show wCons we wr δ M (fun ds M1 => sp (ds ++ []) M1 Q (fun xd M2 => EX xd δ M2)) EX
  rw [e]
  exact h
/-- what a new instance that is settled at once asks -/
abbrev NewI (c n : Nat) (sp : SpD) (ds : List D) (M : MM) (Q : D → MM → Prop) (EX : XD → MM → Prop) : Prop :=
  ∀ p, M p = none → sp (.raw (.ref p) :: ds) (updM M p (.ins c [])) (fun d M2 => d = .non ∧ ∃ q fs, D.raw (.ref p) = .raw (.ref q) ∧ M2 q = some (.ins c fs) ∧ fs.length = n ∧ Q (.ins c fs) (delM M2 q)) EX
theorem frz_mkS {c n : Nat} {sp : SpD} {we : WE} {δ : DS} {M : MM} {Q : D → MM → Prop} {EX : XK'} (d : D) (ds : List D) (hw : ∀ K : D → MM → Prop, K d M → we δ M K EX) (hs : seqOf M d = some ds) (h : NewI c n sp ds M Q (fun xd M2 => EX xd δ M2)) : wFrzI c n (wMakeS c sp we) δ M Q EX :=
  hw _ ⟨ds, hs, h⟩
theorem frz_mkSV {c n : Nat} {sp : SpD} {wf we : WE} {δ : DS} {M : MM} {Q : D → MM → Prop} {EX : XK'} (d : D) (ds : List D) (hf : ∀ K : D → MM → Prop, K (.cls c) M → wf δ M K EX) (hw : ∀ K : D → MM → Prop, K d M → we δ M K EX) (hs : seqOf M d = some ds) (h : NewI c n sp ds M Q (fun xd M2 => EX xd δ M2)) : wFrzI c n (wMakeSV [(c, sp)] wf we) δ M Q EX :=
  hf _ ⟨c, sp, rfl, by simp [List.lookup], hw _ ⟨ds, hs, h⟩⟩
theorem frz_mk {c n : Nat} {sp : SpD} {wa : WA} {δ : DS} {M : MM} {Q : D → MM → Prop} {EX : XK'} (ds : List D) (hw : ∀ K : List D → MM → Prop, K ds M → wa δ M K EX) (h : NewI c n sp ds M Q (fun xd M2 => EX xd δ M2)) : wFrzI c n (wMake c sp [] wa) δ M Q EX :=
  hw _ (fun p hp => by rw [List.append_nil]; exact h p hp)
theorem call_cons1 {we : WE} {δ : DS} {M : MM} {R : List D → MM → Prop} {EX : XK'} (h : we δ M (fun d M1 => R [d] M1) EX) : wCons we wNil δ M R EX := h
theorem opx_of {w : WR2X} {wa wb : WE} {δ : DS} {M : MM} {Q : D → MM → Prop} {EX : XK'} (h : wa δ M (fun x M1 => wb δ M1 (fun y M2 => w x y δ M2 Q EX) EX) EX) : wOpX w wa wb δ M Q EX := h
theorem op_of {w : WR2} {wa wb : WE} {δ : DS} {M : MM} {Q : D → MM → Prop} {EX : XK'} (h : wa δ M (fun x M1 => wb δ M1 (fun y M2 => w x y M2 Q) EX) EX) : wOp w wa wb δ M Q EX := h
theorem b1_of {w : WR1} {we : WE} {δ : DS} {M : MM} {Q : D → MM → Prop} {EX : XK'} (h : we δ M (fun d M1 => w [d] M1 Q) EX) : wB w (wCons we wNil) δ M Q EX := h
theorem tst_of {we : WE} {δ : DS} {M : MM} {Q : Bool → MM → Prop} {EX : XK'} (h : we δ M (fun d M1 => ∃ c, d = .bl c ∧ Q c M1) EX) : wTst we δ M Q EX := h
theorem prop_of {tb : List (Nat × SpD)} {wo : WE} {δ : DS} {M : MM} {Q : D → MM → Prop} {EX : XK'} (h : wo δ M (fun d M1 => ∃ c fs sp, insOf M1 d = some (c, fs) ∧ tb.lookup c = some sp ∧ sp [d] M1 Q (fun _ _ => False)) EX) : wProp tb wo δ M Q EX := h
theorem if_of {p : WT} {w u : WS} {E : ED} {EX : XK'} {δ : DS} {M : MM} (h : p δ M (fun c M1 => if c = true then w E EX δ M1 else u E EX δ M1) EX) : wIfS p w u E EX δ M := h
theorem or_of {p q : WT} {δ : DS} {M : MM} {Q : Bool → MM → Prop} {EX : XK'} (h : p δ M (fun c M1 => if c = true then Q true M1 else q δ M1 Q EX) EX) : wOrT p q δ M Q EX := h
theorem and_of {p q : WT} {δ : DS} {M : MM} {Q : Bool → MM → Prop} {EX : XK'} (h : p δ M (fun c M1 => if c = true then q δ M1 Q EX else Q false M1) EX) : wAndT p q δ M Q EX := h
theorem not_of {p : WT} {δ : DS} {M : MM} {Q : Bool → MM → Prop} {EX : XK'} (h : p δ M (fun c M1 => Q (!c) M1) EX) : wNotT p δ M Q EX := h
theorem v_of {i : Nat} {d : D} {δ : DS} {M : MM} {Q : D → MM → Prop} {EX : XK'} (h : δ[i]? = some (some d)) (q : Q d M) : wV i δ M Q EX := by
  unfold wV; rw [h]; exact q
theorem ret_of {we : WE} {E : ED} {EX : XK'} {δ : DS} {M : MM} (h : we δ M (fun d M1 => E.rt d M1) EX) : wRet we E EX δ M := h
theorem seq_of {A B : WS} {E : ED} {EX : XK'} {δ : DS} {M : MM} (h : A { nx := fun δ' M' => B E EX δ' M', rt := E.rt, bk := E.bk, ct := E.ct } EX δ M) : wSeq A B E EX δ M := h
theorem at_listOf {xs : List D} {d : D} {M : MM} {Q : D → MM → Prop} (h : seqOf M d = some xs) (q : Q (.lst xs) M) : wListOf [d] M Q := by
  unfold wListOf; dsimp only; rw [h]; exact q
end My

set_option Elab.async false
set_option linter.all false
set_option maxRecDepth 100000
set_option maxHeartbeats 1000000
namespace My
open PySem PySem.Spec L2 DL
open PyProof.Rows hiding St
/-- numbers of a row -/
abbrev InR (x : Int) : Prop := -999 ≤ x ∧ x ≤ 999
structure RowOk (n : Nat) (xs : List Int) : Prop where
  pos : 1 ≤ xs.length
  top : xs.length ≤ n
  rng : ∀ x ∈ xs, InR x
theorem set_self' {α : Type} {l : List α} {i : Nat} {a : α} (h : l[i]? = some a) : l.set i a = l := by
  apply List.ext_getElem?
  intro j
  by_cases z : i = j
  · subst z; rw [List.getElem?_set_self (List.getElem?_eq_some_iff.mp h).1, h]
  · rw [List.getElem?_set_ne z]
/-- draws, changing lists beside them that are not of the ground -/
structure Loc (m g : Addr) (f : Nat) (S : List (Addr × List D)) (M0 M : MM) : Prop where
  dr : Dr m g f M
  ls : ∀ e ∈ S, M e.1 = some (.lst e.2)
  nd : (m :: g :: S.map (·.1)).Nodup
  fr : ∀ e ∈ S, M0 e.1 = none
  kp : Kp [m, g] M0 M
section
variable {m g p : Addr} {f f' i : Nat} {S : List (Addr × List D)} {xs ys : List D} {M0 M M' : MM}
theorem Loc.start (d : Dr m g f M) : Loc m g f [] M M := ⟨d, (fun _ h => nomatch h), by
  obtain ⟨_, ne⟩ := d
  simp [ne], (fun _ h => nomatch h), .refl⟩
theorem Loc.mem (l : Loc m g f S M0 M) (h : S[i]? = some (p, xs)) : (p, xs) ∈ S := List.mem_of_getElem? h
theorem Loc.at (l : Loc m g f S M0 M) (h : S[i]? = some (p, xs)) : M p = some (.lst xs) := l.ls _ (l.mem h)
theorem Loc.nm (l : Loc m g f S M0 M) {e : Addr × List D} (h : e ∈ S) : e.1 ≠ m ∧ e.1 ≠ g := by
  have z := l.nd
  simp only [List.nodup_cons, List.mem_cons, not_or] at z
  have hm : e.1 ∈ S.map (·.1) := List.mem_map_of_mem h
  exact ⟨fun q => z.1.2 (q ▸ hm), fun q => z.2.1 (q ▸ hm)⟩
theorem Dr.other (d : Dr m g f M) (h : ∀ b, b = m ∨ b = g → M' b = M b) : Dr m g f M' := by
  obtain ⟨⟨cs, gs, n, e1, e2, r⟩, ne⟩ := d
  exact ⟨⟨cs, gs, n, (h m (.inl rfl)).trans e1, (h g (.inr rfl)).trans e2, r⟩, ne⟩
theorem Loc.new (l : Loc m g f S M0 M) (hp : M p = none) : Loc m g f (S ++ [(p, xs)]) M0 (updM M p (.lst xs)) := by
  have np := not_fresh l.dr.alv hp
  simp only [List.mem_cons, List.not_mem_nil, or_false, not_or] at np
  have ns : ∀ e ∈ S, e.1 ≠ p := fun e he z => by have := l.ls e he; rw [z, hp] at this; cases this
  refine ⟨l.dr.other fun b hb => updM_ne fun z => by rcases hb with e | e <;> subst e <;> first | exact np.1 z.symm | exact np.2 z.symm, fun e he => ?_, ?_, fun e he => ?_, l.kp.trans (kp_new hp)⟩
  · rcases List.mem_append.mp he with h | h
    · rw [updM_ne (ns e h)]; exact l.ls e h
    · rw [List.mem_singleton.mp h]; exact updM_same
  · have z := l.nd
    rw [List.map_append, List.map_cons, List.map_nil, ← List.cons_append, ← List.cons_append, List.nodup_append]
    refine ⟨z, by simp, fun x hx y hy => ?_⟩
    rw [List.mem_singleton.mp hy]
    rcases List.mem_cons.mp hx with e | hx
    · rw [e]; exact Ne.symm np.1
    · rcases List.mem_cons.mp hx with e | hx
      · rw [e]; exact Ne.symm np.2
      · obtain ⟨e, he, q⟩ := List.mem_map.mp hx
        rw [← q]; exact ns e he
  · rcases List.mem_append.mp he with h | h
    · exact l.fr e h
    · rw [List.mem_singleton.mp h]; exact l.kp.none hp
theorem nodup_at {l : List Addr} (h : l.Nodup) {i j : Nat} {a : Addr} (hi : l[i]? = some a) (hj : l[j]? = some a) : i = j := by
  obtain ⟨h1, e1⟩ := List.getElem?_eq_some_iff.mp hi
  obtain ⟨h2, e2⟩ := List.getElem?_eq_some_iff.mp hj
  exact (List.getElem_inj (h₀ := h1) (h₁ := h2) h).mp (e1.trans e2.symm)
theorem Loc.one (l : Loc m g f S M0 M) (h : S[i]? = some (p, xs)) {j : Nat} {e : Addr × List D} (hj : S[j]? = some e) (ep : e.1 = p) : j = i := by
  have z := (List.nodup_cons.mp (List.nodup_cons.mp l.nd).2).2
  exact nodup_at z (by rw [List.getElem?_map, hj]; exact congrArg some ep) (by rw [List.getElem?_map, h]; rfl)
theorem Loc.set (l : Loc m g f S M0 M) (h : S[i]? = some (p, xs)) : Loc m g f (S.set i (p, ys)) M0 (updM M p (.lst ys)) := by
  have hm := l.mem h
  have np := l.nm hm
  have li : i < S.length := (List.getElem?_eq_some_iff.mp h).1
  refine ⟨l.dr.other fun b hb => updM_ne fun z => by rcases hb with e | e <;> subst e <;> first | exact np.1 z.symm | exact np.2 z.symm, fun e he => ?_, ?_, fun e he => ?_, fun b hb => ?_⟩
  · obtain ⟨j, hj⟩ := List.mem_iff_getElem?.mp he
    by_cases z : i = j
    · subst z
      rw [List.getElem?_set_self li] at hj
      cases hj; exact updM_same
    · rw [List.getElem?_set_ne z] at hj
      rw [updM_ne fun q => z (l.one h hj q).symm]
      exact l.ls e (List.mem_of_getElem? hj)
  · have e : (S.set i (p, ys)).map (·.1) = S.map (·.1) := by
      rw [List.map_set]
      have z : (S.map (·.1))[i]? = some p := by rw [List.getElem?_map, h]; rfl
      exact set_self' z
    rw [e]; exact l.nd
  · obtain ⟨j, hj⟩ := List.mem_iff_getElem?.mp he
    by_cases z : i = j
    · subst z
      rw [List.getElem?_set_self li] at hj
      cases hj; exact l.fr (p, xs) hm
    · rw [List.getElem?_set_ne z] at hj
      exact l.fr e (List.mem_of_getElem? hj)
  · have ne : b ≠ p := fun e => hb (e ▸ l.fr _ hm)
    rw [updM_ne ne]; exact l.kp b hb
theorem Loc.call (l : Loc m g f S M0 M) (d : Dr m g f' M') (k : Kp [m, g] M M') : Loc m g f' S M0 M' :=
  ⟨d, fun e he => k.some (l.ls e he) (by have := l.nm he; simp [this.1, this.2]), l.nd, l.fr, l.kp.trans k⟩
theorem Loc.draw (l : Loc m g f S M0 M) (d : Dr m g f' M') (s : Sm m g M M') : Loc m g f' S M0 M' := l.call d (s.kp d)
theorem Loc.pure (l : Loc m g f S M0 M) (k : Kp [] M M') : Loc m g f S M0 M' := l.call (l.dr.kp k sep_nil) (k.mono (fun _ h => nomatch h))
theorem Loc.le (l : Loc m g f S M0 M) (h : f' ≤ f) : Loc m g f' S M0 M := ⟨l.dr.le h, l.ls, l.nd, l.fr, l.kp⟩
theorem Loc.del (l : Loc m g f S M0 M) (h : S[i]? = some (p, xs)) : Loc m g f (S.eraseIdx i) M0 (delM M p) := by
  have hm := l.mem h
  have np := l.nm hm
  refine ⟨l.dr.other fun b hb => delM_ne fun z => by rcases hb with e | e <;> subst e <;> first | exact np.1 z.symm | exact np.2 z.symm, fun e he => ?_, ?_, fun e he => l.fr e (List.mem_of_mem_eraseIdx he), kp_del l.kp (l.fr _ hm)⟩
  · obtain ⟨j, hj⟩ := List.mem_iff_getElem?.mp (List.mem_of_mem_eraseIdx he)
    have ne : e.1 ≠ p := fun q => by
      have z := l.one h hj q
      subst z
      rw [h] at hj
      cases hj
      obtain ⟨j2, hj2⟩ := List.mem_iff_getElem?.mp he
      rw [List.getElem?_eraseIdx] at hj2
      split at hj2
      · have := l.one h hj2 rfl; omega
      · have := l.one h hj2 rfl; omega
    rw [delM_ne ne]
    exact l.ls e (List.mem_of_getElem? hj)
  · have z : ((S.eraseIdx i).map (·.1)).Sublist (S.map (·.1)) := (List.eraseIdx_sublist S i).map _
    exact l.nd.sublist ((z.cons₂ _).cons₂ _)
end
theorem rgD_ints (n : Nat) : rgD 0 n = ((List.range n).map Int.ofNat).map D.int := by
  unfold rgD
  rw [Int.sub_zero, Int.toNat_natCast, List.map_map]
  refine List.map_congr_left fun i _ => ?_
  show D.int (0 + (i : Int)) = D.int i
  rw [Int.zero_add]
theorem rg_ok {n : Int} (h0 : 0 ≤ n) (h : n ≤ 1000) : RgOk 0 n := by
  refine ⟨?_, ?_, ?_, ?_, ?_⟩ <;> first | omega | (rw [sizeLine_eq]; omega) | decide

end My

set_option Elab.async false
set_option linter.all false
set_option maxRecDepth 100000
/-! what a hand lays down, by letters -/
namespace Mth
/-- put into a list in order -/
def ins (x : Int) : List Int → List Int
  | [] => [x]
  | y :: ys => if x ≤ y then x :: y :: ys else y :: ins x ys
theorem ins_perm (x : Int) : ∀ l, (ins x l).Perm (x :: l)
  | [] => .refl _
  | y :: ys => by
    unfold ins
    split
    · exact .refl _
    · exact ((ins_perm x ys).cons y).trans (.swap ..)
theorem ins_len (x : Int) (l : List Int) : (ins x l).length = l.length + 1 := by rw [(ins_perm x l).length_eq]; rfl
theorem ins_sorted (x : Int) : ∀ {l : List Int}, l.Pairwise (· ≤ ·) → (ins x l).Pairwise (· ≤ ·)
  | [], _ => List.pairwise_singleton ..
  | y :: ys, h => by
    unfold ins
    obtain ⟨h1, h2⟩ := List.pairwise_cons.mp h
    split
    · rename_i hxy
      exact List.pairwise_cons.mpr ⟨fun z hz => by
        rcases List.mem_cons.mp hz with e | e
        · rw [e]; exact hxy
        · have := h1 z e; omega, h⟩
    · rename_i hxy
      refine List.pairwise_cons.mpr ⟨fun z hz => ?_, ins_sorted x h2⟩
      rcases List.mem_cons.mp ((ins_perm x ys).mem_iff.mp hz) with e | e
      · omega
      · exact h1 z e
/-- the hand of size k: what it lays down for the numbers, then what it holds -/
def ldGo (k : Nat) : List Int → List Int → List Int
  | [], held => held
  | x :: xs, held => if k < (ins x held).length then (ins x held).headD 0 :: ldGo k xs (ins x held).tail else ldGo k xs (ins x held)
abbrev ld (k : Nat) (xs : List Int) : List Int := ldGo k xs []
theorem ldGo_perm (k : Nat) : ∀ xs held, (ldGo k xs held).Perm (held ++ xs)
  | [], held => by unfold ldGo; rw [List.append_nil]
  | x :: xs, held => by
    have p := ins_perm x held
    have q : (ins x held ++ xs).Perm (held ++ x :: xs) := by
      refine (p.append_right xs).trans ?_
      exact (List.perm_middle (l₁ := held) (a := x) (l₂ := xs)).symm
    unfold ldGo
    split
    · cases e : ins x held with
      | nil => rw [e] at p; exact absurd p.length_eq (by simp)
      | cons y ys =>
        show (y :: ldGo k xs ys).Perm _
        refine ((ldGo_perm k xs ys).cons y).trans ?_
        rw [e] at q
        exact q
    · exact (ldGo_perm k xs _).trans q
theorem ld_perm (k : Nat) (xs : List Int) : (ld k xs).Perm xs := ldGo_perm k xs []
abbrev mir (xs : List Int) : List Int := xs.reverse.map (- ·)
/-- the row after a load -/
def aft (a b : Nat) (xs : List Int) : List Int := mir (ld b (mir (ld a xs)))
theorem mir_mir (xs : List Int) : mir (mir xs) = xs := by
  unfold mir
  rw [← List.map_reverse, List.reverse_reverse, List.map_map]
  have : ((- ·) ∘ (- ·) : Int → Int) = id := by funext x; simp
  rw [this, List.map_id]
theorem mir_perm {xs ys : List Int} (p : xs.Perm ys) : (mir xs).Perm (mir ys) := ((xs.reverse_perm.trans p).trans ys.reverse_perm.symm).map _
theorem aft_perm (a b : Nat) (xs : List Int) : (aft a b xs).Perm xs := by
  have h := mir_perm (ld_perm b (mir (ld a xs)))
  rw [mir_mir] at h
  exact h.trans (ld_perm a xs)
/-! ### letters -/
abbrev lets (t : Int) (xs : List Int) : List Bool := xs.map fun x => decide (t ≤ x)
/-- without the first k letters 1 -/
def dropT : Nat → List Bool → List Bool
  | 0, l => l
  | _ + 1, [] => []
  | k + 1, true :: l => dropT k l
  | k + 1, false :: l => false :: dropT (k + 1) l
theorem dropT_zero (l : List Bool) : dropT 0 l = l := by cases l <;> rfl
theorem dropT_false (k : Nat) (l : List Bool) : dropT k (false :: l) = false :: dropT k l := by
  cases k with
  | zero => rw [dropT_zero, dropT_zero]
  | succ k => rfl
theorem cft (l : List Bool) : (true :: l).count false = l.count false := List.count_cons_of_ne (by decide)
theorem ctf (l : List Bool) : (false :: l).count true = l.count true := List.count_cons_of_ne (by decide)
theorem cff (l : List Bool) : (false :: l).count false = l.count false + 1 := List.count_cons_self
theorem ctt (l : List Bool) : (true :: l).count true = l.count true + 1 := List.count_cons_self
theorem dropT_true (k : Nat) (l : List Bool) : dropT (k + 1) (true :: l) = dropT k l := rfl
def fwd (k : Nat) (l : List Bool) : List Bool := dropT k l ++ List.replicate (min k (l.count true)) true
/-- letters of a list in order: first 0, then 1 -/
theorem lets_sorted (t : Int) : ∀ {l : List Int}, l.Pairwise (· ≤ ·) → lets t l = List.replicate ((lets t l).count false) false ++ List.replicate ((lets t l).count true) true
  | [], _ => rfl
  | x :: l, h => by
    obtain ⟨h1, h2⟩ := List.pairwise_cons.mp h
    have ih := lets_sorted t h2
    show decide (t ≤ x) :: lets t l = _
    by_cases hx : t ≤ x
    · have all : lets t l = List.replicate l.length true := by
        rw [List.eq_replicate_iff]
        refine ⟨by simp, fun b hb => ?_⟩
        obtain ⟨y, hy, e⟩ := List.mem_map.mp hb
        have := h1 y hy
        rw [← e]; simp; omega
      have hd : decide (t ≤ x) = true := by simp [hx]
      rw [show lets t (x :: l) = true :: List.replicate l.length true from by show decide (t ≤ x) :: lets t l = _; rw [hd, all], hd, all]
      simp [List.count_replicate, List.replicate_succ]
    · have hd : decide (t ≤ x) = false := by simp [hx]
      rw [show lets t (x :: l) = false :: lets t l from by show decide (t ≤ x) :: lets t l = _; rw [hd], hd]
      rw [List.count_cons_self, List.count_cons_of_ne (by decide), List.replicate_succ, List.cons_append, ← ih]
theorem lets_perm (t : Int) {xs ys : List Int} (p : xs.Perm ys) : (lets t xs).Perm (lets t ys) := p.map _
theorem cnt_len (t : Int) (l : List Int) : (lets t l).count false + (lets t l).count true = l.length := by
  induction l with
  | nil => rfl
  | cons x l ih =>
    show (decide (t ≤ x) :: lets t l).count false + (decide (t ≤ x) :: lets t l).count true = _
    cases decide (t ≤ x) <;> simp at ih ⊢ <;> omega
theorem go_lets (t : Int) (k : Nat) : ∀ (xs held : List Int), held.Pairwise (· ≤ ·) → held.length ≤ k →
    lets t (ldGo k xs held) = List.replicate ((lets t held).count false) false ++ dropT (k - (lets t held).count true) (lets t xs) ++ List.replicate (min k ((lets t held).count true + (lets t xs).count true)) true
  | [], held, hs, hl => by
    have c := cnt_len t held
    have e : dropT (k - (lets t held).count true) (lets t []) = [] := by
      show dropT _ [] = []
      cases (k - (lets t held).count true) <;> rfl
    unfold ldGo
    rw [e, List.append_nil, show (lets t []).count true = 0 from rfl, Nat.add_zero, Nat.min_eq_right (by omega)]
    exact lets_sorted t hs
  | x :: xs, held, hs, hl => by
    have hp := lets_perm t (ins_perm x held)
    have hsI := ins_sorted x hs
    have cf := hp.count_eq false
    have ct := hp.count_eq true
    have il := ins_len x held
    have c := cnt_len t held
    have ci := cnt_len t (ins x held)
    have e1 : lets t (x :: held) = decide (t ≤ x) :: lets t held := rfl
    have e2 : lets t (x :: xs) = decide (t ≤ x) :: lets t xs := rfl
    rw [e1] at cf ct
    unfold ldGo
    obtain ⟨a, ha⟩ : ∃ a, a = (lets t held).count false := ⟨_, rfl⟩
    obtain ⟨b, hb⟩ : ∃ b, b = (lets t held).count true := ⟨_, rfl⟩
    rw [← ha] at c
    rw [← hb] at c
    split
    · rename_i hk
      have hk2 : held.length = k := by omega
      cases eI : ins x held with
      | nil => rw [eI] at il; cases il
      | cons y ys =>
        rw [eI] at hsI cf ct ci il
        obtain ⟨h1, h2⟩ := List.pairwise_cons.mp hsI
        have ls := lets_sorted t hsI
        have ly : ys.length ≤ k := by simp at il; omega
        have ih := go_lets t k xs ys h2 ly
        show lets t (y :: ldGo k xs ys) = _
        have e3 : lets t (y :: ldGo k xs ys) = decide (t ≤ y) :: lets t (ldGo k xs ys) := rfl
        rw [e3, ih, e2, ← ha, ← hb]
        have e4 : lets t (y :: ys) = decide (t ≤ y) :: lets t ys := rfl
        rw [e4] at cf ct ls
        by_cases hx : t ≤ x
        · have hd : decide (t ≤ x) = true := by simp [hx]
          rw [hd] at cf ct ⊢
          rw [cft, ← ha] at cf
          rw [ctt, ← hb] at ct
          by_cases hy : t ≤ y
          · have hdy : decide (t ≤ y) = true := by simp [hy]
            rw [hdy] at cf ct ls ⊢
            rw [cft] at cf
            rw [ctt] at ct
            -- the least letter is 1: no 0 is held
            have a0 : a = 0 := by
              cases a with
              | zero => rfl
              | succ a =>
                exfalso
                rw [cft, cf, List.replicate_succ] at ls
                cases ls
            have cyt : (lets t ys).count true = b := by omega
            rw [cf, cyt, a0]
            have hbk : b = k := by omega
            rw [hbk, Nat.sub_self, dropT_zero, dropT_zero]
            simp only [List.replicate_zero, List.nil_append]
            rw [ctt, Nat.min_eq_left (by omega), Nat.min_eq_left (by omega)]
            rfl
          · have hdy : decide (t ≤ y) = false := by simp [hy]
            rw [hdy] at cf ct ls ⊢
            rw [cff] at cf
            rw [ctf] at ct
            have hbk : b < k := by omega
            rw [← cf, ct, show k - b = (k - (b + 1)) + 1 from by omega, dropT_true, ctt, List.replicate_succ]
            rw [show b + 1 + (lets t xs).count true = b + ((lets t xs).count true + 1) from by omega]
            rfl
        · have hd : decide (t ≤ x) = false := by simp [hx]
          rw [hd] at cf ct ⊢
          rw [cff, ← ha] at cf
          rw [ctf, ← hb] at ct
          have hdy : decide (t ≤ y) = false := by
            cases q : decide (t ≤ y) with
            | false => rfl
            | true =>
              rw [q] at cf ls
              rw [cft] at cf
              rw [cft, cf, List.replicate_succ] at ls
              cases ls
          rw [hdy] at cf ct ⊢
          rw [cff] at cf
          rw [ctf] at ct
          have ca : (lets t ys).count false = a := by omega
          rw [ca, ct, dropT_false, ctf]
          have : (false :: (List.replicate a false ++ dropT (k - b) (lets t xs) ++ List.replicate (min k (b + (lets t xs).count true)) true)) = List.replicate (a + 1) false ++ (dropT (k - b) (lets t xs) ++ List.replicate (min k (b + (lets t xs).count true)) true) := by
            rw [List.replicate_succ, List.append_assoc]; rfl
          rw [this, List.replicate_succ']
          simp only [List.append_assoc, List.cons_append, List.nil_append]
    · rename_i hk
      have ih := go_lets t k xs (ins x held) hsI (by omega)
      rw [ih, e2, ← ha, ← hb]
      by_cases hx : t ≤ x
      · have hd : decide (t ≤ x) = true := by simp [hx]
        rw [hd] at cf ct ⊢
        rw [cft, ← ha] at cf
        rw [ctt, ← hb] at ct
        rw [cf, ct, ctt, show k - b = (k - (b + 1)) + 1 from by omega, dropT_true, show b + 1 + (lets t xs).count true = b + ((lets t xs).count true + 1) from by omega]
      · have hd : decide (t ≤ x) = false := by simp [hx]
        rw [hd] at cf ct ⊢
        rw [cff, ← ha] at cf
        rw [ctf, ← hb] at ct
        rw [cf, ct, dropT_false, ctf, List.replicate_succ']
        simp only [List.append_assoc, List.cons_append, List.nil_append]
theorem ld_lets (t : Int) (k : Nat) (xs : List Int) : lets t (ld k xs) = fwd k (lets t xs) := by
  have h := go_lets t k xs [] .nil (Nat.zero_le _)
  have e1 : (lets t []).count false = 0 := rfl
  have e2 : (lets t []).count true = 0 := rfl
  rw [e1, e2, Nat.sub_zero, Nat.zero_add] at h
  exact h
/-- .. of the mirrored list -/
def flip (l : List Bool) : List Bool := l.reverse.map (!·)
theorem lets_mir (t : Int) (xs : List Int) : lets t (mir xs) = flip (lets (1 - t) xs) := by
  unfold flip lets mir
  rw [List.map_map, ← List.map_reverse, List.map_map]
  refine List.map_congr_left fun x _ => ?_
  show decide (t ≤ -x) = !decide (1 - t ≤ x)
  by_cases h : t ≤ -x
  · have h2 : ¬ (1 - t ≤ x) := by omega
    simp [h, h2]
  · have h2 : 1 - t ≤ x := by omega
    simp [h, h2]
def bwd (k : Nat) (l : List Bool) : List Bool := flip (fwd k (flip l))
theorem aft_lets (t : Int) (a b : Nat) (xs : List Int) : lets t (aft a b xs) = bwd b (fwd a (lets t xs)) := by
  unfold aft bwd
  rw [lets_mir, ld_lets, lets_mir, ld_lets, show (1 - (1 - t)) = t from by omega]
end Mth

set_option Elab.async false
set_option linter.all false
set_option maxRecDepth 100000
/-! letters, moved by their places -/
namespace Mth
def idxT : Nat → List Bool → List Int
  | _, [] => []
  | n, true :: l => (n : Int) :: idxT (n + 1) l
  | n, false :: l => idxT (n + 1) l
def idxF : Nat → List Bool → List Int
  | _, [] => []
  | n, false :: l => (n : Int) :: idxF (n + 1) l
  | n, true :: l => idxF (n + 1) l
def mid (S : List Int) : Nat → List Bool → List Bool
  | _, [] => []
  | n, c :: l => if (n : Int) ∈ S then mid S (n + 1) l else c :: mid S (n + 1) l
def lawLet (L : List Bool) (a b : Nat) : List Bool :=
  List.replicate ((idxF 0 L).drop ((idxF 0 L).length - b)).length false ++ mid ((idxT 0 L).take a ++ (idxF 0 L).drop ((idxF 0 L).length - b)) 0 L ++ List.replicate ((idxT 0 L).take a).length true
theorem idxT_len : ∀ (n : Nat) (L : List Bool), (idxT n L).length = L.count true
  | _, [] => rfl
  | n, true :: l => by rw [ctt, ← idxT_len (n + 1) l]; rfl
  | n, false :: l => by rw [ctf, ← idxT_len (n + 1) l]; rfl
theorem idxF_len : ∀ (n : Nat) (L : List Bool), (idxF n L).length = L.count false
  | _, [] => rfl
  | n, true :: l => by rw [cft, ← idxF_len (n + 1) l]; rfl
  | n, false :: l => by rw [cff, ← idxF_len (n + 1) l]; rfl
theorem idxT_ge : ∀ (n : Nat) (L : List Bool) (x : Int), x ∈ idxT n L → (n : Int) ≤ x
  | _, [], _, h => by cases h
  | n, true :: l, x, h => by
    rcases List.mem_cons.mp h with e | e
    · omega
    · have := idxT_ge (n + 1) l x e; omega
  | n, false :: l, x, h => by have := idxT_ge (n + 1) l x h; omega
theorem idxF_ge : ∀ (n : Nat) (L : List Bool) (x : Int), x ∈ idxF n L → (n : Int) ≤ x
  | _, [], _, h => by cases h
  | n, false :: l, x, h => by
    rcases List.mem_cons.mp h with e | e
    · omega
    · have := idxF_ge (n + 1) l x e; omega
  | n, true :: l, x, h => by have := idxF_ge (n + 1) l x h; omega
theorem mid_congr {S S' : List Int} : ∀ (n : Nat) (L : List Bool), (∀ m : Int, (n : Int) ≤ m → (m ∈ S ↔ m ∈ S')) → mid S n L = mid S' n L
  | _, [], _ => rfl
  | n, c :: l, h => by
    have e := mid_congr (n + 1) l fun m hm => h m (by omega)
    unfold mid
    rw [e]
    by_cases z : (n : Int) ∈ S
    · rw [if_pos z, if_pos ((h n (by omega)).mp z)]
    · rw [if_neg z, if_neg fun y => z ((h n (by omega)).mpr y)]
/-- the first i letters 1 go, the first j letters 0 stay -/
def dTF : Nat → Nat → List Bool → List Bool
  | _, _, [] => []
  | i, j, true :: l => if i = 0 then true :: dTF 0 j l else dTF (i - 1) j l
  | i, j, false :: l => if j = 0 then dTF i 0 l else false :: dTF i (j - 1) l
theorem mid_dTF : ∀ (n i j : Nat) (L : List Bool), mid ((idxT n L).take i ++ (idxF n L).drop j) n L = dTF i j L
  | _, _, _, [] => rfl
  | n, i, j, true :: l => by
    have fT : ∀ k, (n : Int) ∉ (idxT (n + 1) l).take k := fun k h => by have := idxT_ge (n + 1) l _ (List.mem_of_mem_take h); omega
    have fF : ∀ k, (n : Int) ∉ (idxF (n + 1) l).drop k := fun k h => by have := idxF_ge (n + 1) l _ (List.mem_of_mem_drop h); omega
    show mid ((((n : Int) :: idxT (n + 1) l)).take i ++ (idxF (n + 1) l).drop j) n (true :: l) = _
    cases i with
    | zero =>
      have ih := mid_dTF (n + 1) 0 j l
      unfold mid dTF
      rw [if_pos rfl, List.take_zero, List.nil_append, if_neg (fF j)]
      rw [List.take_zero, List.nil_append] at ih
      rw [ih]
    | succ i =>
      have ih := mid_dTF (n + 1) i j l
      unfold mid dTF
      rw [List.take_succ_cons, if_pos (by simp), if_neg (by omega), Nat.add_sub_cancel, ← ih]
      refine mid_congr (n + 1) l fun m hm => ?_
      have : m ≠ n := by omega
      simp [this]
  | n, i, j, false :: l => by
    have fT : ∀ k, (n : Int) ∉ (idxT (n + 1) l).take k := fun k h => by have := idxT_ge (n + 1) l _ (List.mem_of_mem_take h); omega
    have fF : ∀ k, (n : Int) ∉ (idxF (n + 1) l).drop k := fun k h => by have := idxF_ge (n + 1) l _ (List.mem_of_mem_drop h); omega
    show mid ((idxT (n + 1) l).take i ++ ((n : Int) :: idxF (n + 1) l).drop j) n (false :: l) = _
    cases j with
    | zero =>
      have ih := mid_dTF (n + 1) i 0 l
      unfold mid dTF
      rw [if_pos rfl, List.drop_zero, if_pos (by simp), ← ih, List.drop_zero]
      refine mid_congr (n + 1) l fun m hm => ?_
      have : m ≠ n := by omega
      simp [this]
    | succ j =>
      have ih := mid_dTF (n + 1) i j l
      unfold mid dTF
      rw [List.drop_succ_cons, if_neg (fun h => (List.mem_append.mp h).elim (fT i) (fF j)), if_neg (by omega), Nat.add_sub_cancel, ← ih]
/-- the first j letters 0 stay -/
def keepF : Nat → List Bool → List Bool
  | _, [] => []
  | j, true :: l => true :: keepF j l
  | 0, false :: l => keepF 0 l
  | j + 1, false :: l => false :: keepF j l
theorem dTF_eq : ∀ (i j : Nat) (L : List Bool), dTF i j L = keepF j (dropT i L)
  | i, j, [] => by cases i <;> cases j <;> rfl
  | i, j, true :: l => by
    unfold dTF
    cases i with
    | zero => rw [if_pos rfl, dropT_zero, dTF_eq 0 j l, dropT_zero]; cases j <;> rfl
    | succ i => rw [if_neg (by omega), Nat.add_sub_cancel, dTF_eq i j l, dropT_true]
  | i, j, false :: l => by
    unfold dTF
    rw [dropT_false]
    cases j with
    | zero => rw [if_pos rfl, dTF_eq i 0 l]; rfl
    | succ j => rw [if_neg (by omega), Nat.add_sub_cancel, dTF_eq i j l]; rfl
theorem keepF_true : ∀ (j : Nat) (l : List Bool), keepF j (l ++ [true]) = keepF j l ++ [true]
  | j, [] => by cases j <;> rfl
  | j, true :: l => by
    show keepF j (true :: (l ++ [true])) = _
    rw [show keepF j (true :: (l ++ [true])) = true :: keepF j (l ++ [true]) from by cases j <;> rfl, keepF_true j l, show keepF j (true :: l) = true :: keepF j l from by cases j <;> rfl]; rfl
  | 0, false :: l => by
    show keepF 0 (false :: (l ++ [true])) = _
    rw [show keepF 0 (false :: (l ++ [true])) = keepF 0 (l ++ [true]) from rfl, keepF_true 0 l]; rfl
  | j + 1, false :: l => by
    show keepF (j + 1) (false :: (l ++ [true])) = _
    rw [show keepF (j + 1) (false :: (l ++ [true])) = false :: keepF j (l ++ [true]) from rfl, keepF_true j l]; rfl
theorem keepF_false : ∀ (j : Nat) (l : List Bool), keepF j (l ++ [false]) = if j ≤ l.count false then keepF j l else keepF j l ++ [false]
  | 0, [] => rfl
  | j + 1, [] => rfl
  | j, true :: l => by
    have h := keepF_false j l
    show keepF j (true :: (l ++ [false])) = _
    rw [show keepF j (true :: (l ++ [false])) = true :: keepF j (l ++ [false]) from by cases j <;> rfl, h, cft, show keepF j (true :: l) = true :: keepF j l from by cases j <;> rfl]
    split <;> rfl
  | 0, false :: l => by
    have h := keepF_false 0 l
    show keepF 0 (false :: (l ++ [false])) = _
    rw [show keepF 0 (false :: (l ++ [false])) = keepF 0 (l ++ [false]) from rfl, h, if_pos (Nat.zero_le _), if_pos (Nat.zero_le _)]; rfl
  | j + 1, false :: l => by
    have h := keepF_false j l
    show keepF (j + 1) (false :: (l ++ [false])) = _
    rw [show keepF (j + 1) (false :: (l ++ [false])) = false :: keepF j (l ++ [false]) from rfl, h, cff]
    by_cases z : j ≤ l.count false
    · rw [if_pos z, if_pos (by omega)]; rfl
    · rw [if_neg z, if_neg (by omega)]; rfl
theorem flip_cons (c : Bool) (l : List Bool) : flip (c :: l) = flip l ++ [!c] := by unfold flip; rw [List.reverse_cons, List.map_append]; rfl
theorem flip_app (x y : List Bool) : flip (x ++ y) = flip y ++ flip x := by unfold flip; rw [List.reverse_append, List.map_append]
theorem flip_flip (l : List Bool) : flip (flip l) = l := by
  unfold flip
  rw [← List.map_reverse, List.reverse_reverse, List.map_map]
  have : ((!·) ∘ (!·) : Bool → Bool) = id := by funext x; cases x <;> rfl
  rw [this, List.map_id]
theorem flip_rep (n : Nat) (c : Bool) : flip (List.replicate n c) = List.replicate n (!c) := by unfold flip; rw [List.reverse_replicate, List.map_replicate]
theorem flip_cnt (l : List Bool) : (flip l).count true = l.count false := by
  induction l with
  | nil => rfl
  | cons c l ih => rw [flip_cons, List.count_append, ih]; cases c <;> simp
theorem flip_cntF (l : List Bool) : (flip l).count false = l.count true := by
  have h := flip_cnt (flip l)
  rw [flip_flip] at h
  exact h.symm
theorem flip_drop : ∀ (b : Nat) (W : List Bool), flip (dropT b W) = keepF (W.count true - b) (flip W)
  | b, [] => by
    have e : dropT b [] = [] := by cases b <;> rfl
    rw [e]
    show [] = keepF _ []
    unfold keepF; rfl
  | b, true :: l => by
    rw [flip_cons, show (!true) = false from rfl, keepF_false, flip_cntF, ctt]
    cases b with
    | zero =>
      have h := flip_drop 0 l
      rw [dropT_zero, Nat.sub_zero] at h
      rw [dropT_zero, Nat.sub_zero, if_neg (by omega), flip_cons, h]
      congr 1
      -- keeping one more than there are
      have keep : ∀ (j : Nat) (m : List Bool), m.count false ≤ j → keepF j m = m := by
        intro j m
        induction m generalizing j with
        | nil => intro _; cases j <;> rfl
        | cons c m ih =>
          intro hj
          cases c with
          | true => rw [cft] at hj; rw [show keepF j (true :: m) = true :: keepF j m from by cases j <;> rfl, ih j hj]
          | false =>
            rw [cff] at hj
            cases j with
            | zero => omega
            | succ j => rw [show keepF (j + 1) (false :: m) = false :: keepF j m from rfl, ih j (by omega)]
      rw [keep _ _ (by rw [flip_cntF] <;> exact Nat.le_refl _), keep _ _ (by rw [flip_cntF] <;> omega)]
    | succ b =>
      rw [dropT_true, flip_drop b l, if_pos (by omega), show l.count true + 1 - (b + 1) = l.count true - b from by omega]
  | b, false :: l => by
    rw [dropT_false, flip_cons, flip_cons, ctf, show (!false) = true from rfl, keepF_true, flip_drop b l]
theorem dropT_rep (k g : Nat) (W : List Bool) : dropT k (List.replicate g false ++ W) = List.replicate g false ++ dropT k W := by
  induction g with
  | zero => rfl
  | succ g ih => rw [List.replicate_succ, List.cons_append, dropT_false, ih]; rfl
theorem dropT_cntF : ∀ (k : Nat) (L : List Bool), (dropT k L).count false = L.count false
  | k, [] => by cases k <;> rfl
  | 0, l => by rw [dropT_zero]
  | k + 1, true :: l => by rw [dropT_true, dropT_cntF k l, cft]
  | k + 1, false :: l => by rw [dropT_false, cff, cff, dropT_cntF (k + 1) l]
theorem lawLet_eq (L : List Bool) (a b : Nat) : lawLet L a b = bwd b (fwd a L) := by
  have lF := idxF_len 0 L
  have lT := idxT_len 0 L
  have e1 : ((idxF 0 L).drop ((idxF 0 L).length - b)).length = min b (L.count false) := by rw [List.length_drop, lF]; omega
  have e2 : ((idxT 0 L).take a).length = min a (L.count true) := by rw [List.length_take, lT]
  unfold lawLet
  rw [e1, e2, mid_dTF, dTF_eq, lF]
  unfold bwd fwd
  have e3 : flip (dropT a L ++ List.replicate (min a (L.count true)) true) = List.replicate (min a (L.count true)) false ++ flip (dropT a L) := by rw [flip_app, flip_rep]; rfl
  rw [e3, dropT_rep, List.count_append, List.count_replicate, flip_cnt, dropT_cntF]
  rw [flip_app, flip_app, flip_rep, flip_rep, flip_drop, flip_cnt, flip_flip, dropT_cntF]
  simp [List.append_assoc]
theorem ldGo_cons (k : Nat) (x : Int) (xs held : List Int) : ldGo k (x :: xs) held = if k < (ins x held).length then (ins x held).headD 0 :: ldGo k xs (ins x held).tail else ldGo k xs (ins x held) := rfl
end Mth

set_option Elab.async false
set_option linter.all false
set_option maxRecDepth 100000
set_option maxHeartbeats 1000000
namespace My
open PySem PySem.Spec L2 DL
open PyProof.Rows hiding St
/-! ### hands without an object, mirrored lists -/
theorem sorted_uniq {s t : List Int} (p : s.Perm t) (h1 : s.Pairwise (· ≤ ·)) (h2 : t.Pairwise (· ≤ ·)) : s = t := List.Perm.eq_of_pairwise (fun a b _ _ h1 h2 => Int.le_antisymm h1 h2) h1 h2 p
theorem kiS_T {Q : IT → MM → Prop} {M : MM} {ds : List D} (q : Q { items := ds } M) : kiS Q (.tup ds) M := by
  unfold kiS; exact q
end My

set_option Elab.async false
set_option linter.all false
set_option maxRecDepth 100000
set_option maxHeartbeats 1000000
namespace My
open PySem PySem.Spec L2 DL
open PyProof.Rows hiding St
/-! ### rows, values that never change -/
abbrev rowD (xs : List Int) : D := .ins 6 [.tup (xs.map D.int)]
theorem enumL_mem {n : Nat} {ds : List D} {i : Nat} {x : D} (h : (enumL n ds)[i]? = some x) : ∃ d, ds[i]? = some d ∧ x = .tup [.int ((n + i : Nat)), d] := enumL_get h
theorem RowOk.perm {n : Nat} {xs ys : List Int} (h : RowOk n xs) (p : ys.Perm xs) : RowOk n ys := ⟨by rw [p.length_eq]; exact h.pos, by rw [p.length_eq]; exact h.top, fun x hx => h.rng x (p.mem_iff.mp hx)⟩
theorem eqvAll_ints : ∀ xs ys : List Int, PyData.eqvAll (xs.map .int) (ys.map .int) = decide (xs = ys)
  | [], [] => rfl
  | [], y :: ys => by simp [PyData.eqvAll]
  | x :: xs, [] => by simp [PyData.eqvAll]
  | x :: xs, y :: ys => by
    have ih := eqvAll_ints xs ys
    simp only [List.map_cons, PyData.eqvAll, PyData.eqv, ih]
    by_cases h : x = y <;> by_cases h2 : xs = ys <;> simp [h, h2]
theorem eqv_tup {xs ys : List Int} : PyData.eqv (.tuple (xs.map .int)) (.tuple (ys.map .int)) = decide (xs = ys) := by
  simp only [PyData.eqv]
  exact eqvAll_ints xs ys
theorem eqv_lst {xs ys : List Int} : PyData.eqv (.list (xs.map .int)) (.list (ys.map .int)) = decide (xs = ys) := by
  simp only [PyData.eqv]
  exact eqvAll_ints xs ys
end My

set_option Elab.async false
set_option linter.all false
set_option maxRecDepth 100000
set_option maxHeartbeats 1000000
namespace My
open PySem PySem.Spec L2 DL
open PyProof.Rows hiding St
abbrev loadD (a b : Int) : D := .ins 2 [.int a, .int b]
theorem load_init {a b : Int} {p : Addr} {M : MM} {Q : D → MM → Prop} {EX : XD → MM → Prop} (hp : M p = some (.ins 2 [])) (ha : 0 ≤ a ∧ a ≤ 1200) (hb : 0 ≤ b ∧ b ≤ 1200) (hQ : Q .non (updM (updM M p (.ins 2 [.int a])) p (.ins 2 [.int a, .int b]))) : sLoad_init [.raw (.ref p), .int a, .int b] M Q EX := by
  refine ⟨rfl, Nat.le_of_lt (small_sz (show 2 ≤ 1000000 by decide)), kiS_T ?_⟩
  refine loop_inv (fun i δ M' => ∃ d3 : Option D, δ = [some (.raw (.ref p)), some (.int a), some (.int b), d3] ∧ M' = M) ⟨none, rfl, rfl⟩ (fun _ _ _ _ => True.intro) ?_ ?_
  · rintro i d δ M' hi ⟨d3, rfl, rfl⟩
    refine ⟨_, rfl, fun nx hnx => ?_⟩
    have hd : ∃ x, d = .int x ∧ 0 ≤ x ∧ x ≤ 1200 := by
      match i, hi with
      | 0, hi => cases hi; exact ⟨a, rfl, ha⟩
      | 1, hi => cases hi; exact ⟨b, rfl, hb⟩
      | i + 2, hi => cases hi
    obtain ⟨x, rfl, hx⟩ := hd
    refine within_spec hx ?_
    exact ⟨_, rfl, ifF rfl (hnx _ _ ⟨_, rfl, rfl⟩)⟩
  · rintro δ M' ⟨d3, rfl, rfl⟩
    refine at_fldNew (i := 0) hp rfl rfl ?_
    exact at_fldNew (i := 1) updM_same rfl rfl hQ
theorem load_make {a b : Int} {M : MM} {Q : D → MM → Prop} {EX : XD → MM → Prop} (ha : 0 ≤ a ∧ a ≤ 1200) (hb : 0 ≤ b ∧ b ≤ 1200) (hQ : ∀ M', Kp [] M M' → Q (loadD a b) M') :
    ∀ p, M p = none → sLoad_init [.raw (.ref p), .int a, .int b] (updM M p (.ins 2 [])) (fun d M2 => d = .non ∧ ∃ q fs, D.raw (.ref p) = .raw (.ref q) ∧ M2 q = some (.ins 2 fs) ∧ fs.length = 2 ∧ Q (.ins 2 fs) (delM M2 q)) EX := by
  intro p hp
  refine load_init updM_same ha hb ⟨rfl, p, _, rfl, updM_same, rfl, hQ _ (kp_del ?_ hp)⟩
  exact Kp.drop hp .refl (((kp_new hp : Kp [p] M _).trans (kp_upd (by simp))).trans (kp_upd (by simp)))
end My

set_option Elab.async false
set_option linter.all false
set_option maxRecDepth 100000
set_option maxHeartbeats 400000
namespace My
open PySem PySem.Spec L2 DL
open PyProof.Rows hiding St
theorem tup_of {wa : WA} {δ : DS} {M : MM} {Q : D → MM → Prop} {EX : XK'} (h : wa δ M (fun ds M1 => ds.length ≤ sizeLine ∧ Q (.tup ds) M1) EX) : wTup wa δ M Q EX := h
theorem cons_of {we : WE} {wr : WA} {δ : DS} {M : MM} {Q : List D → MM → Prop} {EX : XK'} (h : we δ M (fun d M1 => wr δ M1 (fun ds M2 => Q (d :: ds) M2) EX) EX) : wCons we wr δ M Q EX := h
theorem for_of {wi : WI} {b : BD} {wb : WS} {E : ED} {EX : XK'} {δ : DS} {M : MM} (h : wi δ M (fun it M1 => wLoop it.src b wb it.items E EX δ M1) EX) : wFor wi b wb E EX δ M := h
theorem r1_of {we : WE} {δ : DS} {M : MM} {Q : IT → MM → Prop} {EX : XK'} (h : we δ M (fun d M1 => kiR1 Q [d] M1) EX) : wiR1 (wCons we wNil) δ M Q EX := h
theorem andV_of {wa wb : WE} {δ : DS} {M : MM} {Q : D → MM → Prop} {EX : XK'} (h : wa δ M (fun x M1 => ∃ c, x = .bl c ∧ if c = true then wb δ M1 Q EX else Q (.bl false) M1) EX) : wAndV wa wb δ M Q EX := h
theorem next_of {E : ED} {EX : XK'} {δ : DS} {M : MM} (h : E.nx δ M) : wNext E EX δ M := h
theorem so_of {we : WE} {δ : DS} {M : MM} {Q : Option Int → MM → Prop} {EX : XK'} {i : Int} (h : ∀ K : D → MM → Prop, K (.int i) M → we δ M K EX) (q : Q (some i) M) : woS we δ M Q EX := h _ q
theorem c_of {d : D} {δ : DS} {M : MM} {Q : D → MM → Prop} {EX : XK'} (h : Q d M) : wC d δ M Q EX := h
theorem yes_of {δ : DS} {M : MM} {Q : Bool → MM → Prop} {EX : XK'} (h : Q true M) : wYes δ M Q EX := h
theorem notV_of {wa : WE} {δ : DS} {M : MM} {Q : D → MM → Prop} {EX : XK'} (h : wa δ M (fun x M1 => ∃ c, x = .bl c ∧ Q (.bl (!c)) M1) EX) : wNotV wa δ M Q EX := h
theorem isi_of {tb : Ty → Option Bool} {we : WE} {δ : DS} {M : MM} {Q : D → MM → Prop} {EX : XK'} (h : we δ M (kIsi tb Q) EX) : wIsi1 tb we δ M Q EX := h
theorem lenO_of {tb : List (Nat × SpD)} {we : WE} {δ : DS} {M : MM} {Q : D → MM → Prop} {EX : XK'} (h : we δ M (kLenO tb δ Q EX) EX) : wLenO tb we δ M Q EX := h
theorem fld_of {cs : List (Nat × Nat)} {we : WE} {δ : DS} {M : MM} {Q : D → MM → Prop} {EX : XK'} (h : we δ M (kFld cs Q) EX) : wFld cs we δ M Q EX := h
theorem cut_of {wo : WE} {wl wh : WO} {δ : DS} {M : MM} {Q : D → MM → Prop} {EX : XK'} (h : wo δ M (fun d M1 => wl δ M1 (fun lo M2 => wh δ M2 (fun hi M3 => kCut Q d lo hi M3) EX) EX) EX) : wCut wo wl wh δ M Q EX := h
theorem cutD_hi (ds : List D) (c : Nat) : DL.cutD ds none (some (c : Int)) = ds.take c := by
  unfold DL.cutD
  rw [HT.sIx_nat]
  show (ds.drop 0).take (min c ds.length - 0) = _
  rw [List.drop_zero, Nat.sub_zero]
  by_cases h : c ≤ ds.length
  · rw [Nat.min_eq_left h]
  · rw [Nat.min_eq_right (by omega), List.take_length, List.take_of_length_le (by omega)]
theorem cutD_lo (ds : List D) (c : Nat) : DL.cutD ds (some (c : Int)) none = ds.drop c := by
  unfold DL.cutD
  rw [HT.sIx_nat]
  show (ds.drop (min c ds.length)).take (ds.length - min c ds.length) = _
  rw [List.take_of_length_le (by rw [List.length_drop]; omega)]
  by_cases h : c ≤ ds.length
  · rw [Nat.min_eq_left h]
  · rw [Nat.min_eq_right (by omega), List.drop_length, List.drop_of_length_le (by omega)]
theorem at_cutT {Q : D → MM → Prop} {xs : List D} {lo hi : Option Int} {M : MM} (q : Q (.tup (DL.cutD xs lo hi)) M) : kCut Q (.tup xs) lo hi M := by
  unfold kCut; exact q
theorem at_cutLs {Q : D → MM → Prop} {xs : List D} {lo hi : Option Int} {M : MM} (q : Q (.lst (DL.cutD xs lo hi)) M) : kCut Q (.lst xs) lo hi M := by
  unfold kCut; exact q
/-! ### rows -/
theorem perm_sorted {xs ys : List Int} (p : ys.Perm xs) (s : ys.Pairwise (· ≤ ·)) : xs = ys ↔ xs.Pairwise (· ≤ ·) := by
  constructor
  · intro e; rw [e]; exact s
  · intro h
    exact (p.symm.eq_of_pairwise (fun a b _ _ h1 h2 => Int.le_antisymm h1 h2) h s)
theorem load_forward {a b : Int} {M : MM} {Q : D → MM → Prop} {EX : XD → MM → Prop} (hQ : Q (.int a) M) : sLoad_forward [loadD a b] M Q EX := ⟨rfl, at_fld (i := 0) (x := .int a) rfl rfl rfl hQ⟩
theorem load_backward {a b : Int} {M : MM} {Q : D → MM → Prop} {EX : XD → MM → Prop} (hQ : Q (.int b) M) : sLoad_backward [loadD a b] M Q EX := ⟨rfl, at_fld (i := 1) (x := .int b) rfl rfl rfl hQ⟩
theorem p_forward {i : Nat} {a b : Int} {δ : DS} {M : MM} {Q : D → MM → Prop} {EX : XK'} (h : δ[i]? = some (some (loadD a b))) (hQ : Q (.int a) M) : wProp [(2, sLoad_forward)] (wV i) δ M Q EX :=
  prop_of (v_of h ⟨2, _, _, rfl, rfl, load_forward hQ⟩)
theorem p_backward {i : Nat} {a b : Int} {δ : DS} {M : MM} {Q : D → MM → Prop} {EX : XK'} (h : δ[i]? = some (some (loadD a b))) (hQ : Q (.int b) M) : wProp [(2, sLoad_backward)] (wV i) δ M Q EX :=
  prop_of (v_of h ⟨2, _, _, rfl, rfl, load_backward hQ⟩)
theorem map_take (c : Nat) (xs : List Int) : (xs.map D.int).take c = (xs.take c).map D.int := List.map_take.symm
theorem map_drop (c : Nat) (xs : List Int) : (xs.map D.int).drop c = (xs.drop c).map D.int := List.map_drop.symm
theorem frz_mk2 {c n : Nat} {sp : SpD} {wa : WA} {δ : DS} {M : MM} {Q : D → MM → Prop} {EX : XK'} (h : wa δ M (fun ds M1 => NewI c n sp ds M1 Q (fun xd M2 => EX xd δ M2)) EX) : wFrzI c n (wMake c sp [] wa) δ M Q EX := by
  have e : (fun (ds : List D) (M1 : MM) => ∀ p, M1 p = none → sp (.raw (.ref p) :: (ds ++ [])) (updM M1 p (.ins c [])) (fun d M2 => d = .non ∧ ∃ q fs, D.raw (.ref p) = .raw (.ref q) ∧ M2 q = some (.ins c fs) ∧ fs.length = n ∧ Q (.ins c fs) (delM M2 q)) (fun xd M2 => EX xd δ M2)) = fun ds M1 => NewI c n sp ds M1 Q (fun xd M2 => EX xd δ M2) := by
    funext ds M1; rw [List.append_nil]
  show wa δ M (fun (ds : List D) (M1 : MM) => ∀ p, M1 p = none → sp (.raw (.ref p) :: (ds ++ [])) (updM M1 p (.ins c [])) (fun d M2 => d = .non ∧ ∃ q fs, D.raw (.ref p) = .raw (.ref q) ∧ M2 q = some (.ins c fs) ∧ fs.length = n ∧ Q (.ins c fs) (delM M2 q)) (fun xd M2 => EX xd δ M2)) EX
  rw [e]
  exact h
theorem plus_int {i j : Int} {M : MM} {Q : D → MM → Prop} (h : Q (.int (i + j)) M) : wPlus (.int i) (.int j) M Q := h
theorem sub_int {i j : Int} {M : MM} {Q : D → MM → Prop} (h : Q (.int (i - j)) M) : wSub (.int i) (.int j) M Q := h
theorem pick_spec {m g : Addr} {f : Nat} {ds : List D} {M : MM} {Q : D → MM → Prop} {EX : XD → MM → Prop} (hd : Dr m g (f + 1) M) (h0 : ds ≠ []) (hl : ds.length ≤ 1000)
    (hQ : ∀ d ∈ ds, ∀ M', Dr m g f M' → Sm m g M M' → Q d M') : s_law_pick [.raw (.ref m), .lst ds] M Q EX := by
  have hp : 0 < ds.length := List.length_pos_iff.mpr h0
  refine ⟨rfl, ?_⟩
  unfold w_law_pick
  refine ret_of (op_of (v_of (d := .lst ds) rfl (call_cons (v_of (d := .raw (.ref m)) rfl (call_cons1 (b1_of (v_of (d := .lst ds) rfl (at_len (xs := ds) rfl ?_))))))))
  refine draw_spec (f := f) hd (by omega) fun r M1 r0 r1 dr1 sm1 => ?_
  have e := atD_nat (xs := ds) r0 r1
  have hlt : r.toNat < ds.length := by omega
  rw [List.getElem?_eq_getElem hlt] at e
  exact at_ix (xs := ds) rfl e (hQ _ (List.getElem_mem hlt) M1 dr1 sm1)
theorem lst_of {wa : WA} {δ : DS} {M : MM} {Q : D → MM → Prop} {EX : XK'} (h : wa δ M (fun ds M1 => ds.length ≤ sizeLine ∧ Q (.lst ds) M1) EX) : wLst wa δ M Q EX := h
section
variable {we wf wg : WE} {x y z : D} {δ : DS} {M : MM} {Q : D → MM → Prop} {EX : XK'}
abbrev Ev (we : WE) (x : D) (δ : DS) (M : MM) (EX : XK') : Prop := ∀ K : D → MM → Prop, K x M → we δ M K EX
theorem tup0 (h : Q (.tup []) M) : wTup wNil δ M Q EX := ⟨Nat.zero_le _, h⟩
theorem tup1 (h1 : Ev we x δ M EX) (h : Q (.tup [x]) M) : wTup (wCons we wNil) δ M Q EX := tup_of (call_cons1 (h1 _ ⟨Nat.le_of_lt (small_sz (show 1 ≤ 1000000 by decide)), h⟩))
theorem tup2 (h1 : Ev we x δ M EX) (h2 : Ev wf y δ M EX) (h : Q (.tup [x, y]) M) : wTup (wCons we (wCons wf wNil)) δ M Q EX := tup_of (cons_of (h1 _ (call_cons1 (h2 _ ⟨Nat.le_of_lt (small_sz (show 2 ≤ 1000000 by decide)), h⟩))))
theorem tup3 (h1 : Ev we x δ M EX) (h2 : Ev wf y δ M EX) (h3 : Ev wg z δ M EX) (h : Q (.tup [x, y, z]) M) : wTup (wCons we (wCons wf (wCons wg wNil))) δ M Q EX := tup_of (cons_of (h1 _ (cons_of (h2 _ (call_cons1 (h3 _ ⟨Nat.le_of_lt (small_sz (show 3 ≤ 1000000 by decide)), h⟩))))))
theorem lst2 (h1 : Ev we x δ M EX) (h2 : Ev wf y δ M EX) (h : Q (.lst [x, y]) M) : wLst (wCons we (wCons wf wNil)) δ M Q EX := lst_of (cons_of (h1 _ (call_cons1 (h2 _ ⟨Nat.le_of_lt (small_sz (show 2 ≤ 1000000 by decide)), h⟩))))
theorem ev_c {d : D} : Ev (wC d) d δ M EX := fun K h => h
theorem ev_v {i : Nat} (hd : δ[i]? = some (some x)) : Ev (wV i) x δ M EX := fun K h => v_of hd h
end
theorem cat_lst {xs ys : List D} {M : MM} {Q : D → MM → Prop} (hl : xs.length + ys.length ≤ 1000000) (h : Q (.lst (xs ++ ys)) M) : wPlus (.lst xs) (.lst ys) M Q := by
  show wCat _ _ M Q
  exact at_cat rfl rfl (Nat.le_of_lt (small_sz hl)) h
theorem sho_bl (b : Bool) : Sho (.bool b) := by cases b <;> exact ⟨by decide +kernel, by decide +kernel, by decide +kernel, by decide +kernel⟩
theorem cm_of {c : Nat} {sp : SpD} {wa : WA} {δ : DS} {M : MM} {Q : D → MM → Prop} {EX : XK'} (h : wa δ M (fun ds M1 => sp (.cls c :: ds) M1 Q (fun xd M2 => EX xd δ M2)) EX) : wCm c sp wa δ M Q EX := h
theorem mk_load {wx wy : WE} {a b : Int} {δ : DS} {M : MM} {Q : D → MM → Prop} {EX : XK'} (ha : 0 ≤ a ∧ a ≤ 1200) (hb : 0 ≤ b ∧ b ≤ 1200) (hx : Ev wx (.int a) δ M EX) (hy : Ev wy (.int b) δ M EX) (h : ∀ M', Kp [] M M' → Q (loadD a b) M') : wFrzI 2 2 (wMake 2 sLoad_init [] (wCons wx (wCons wy wNil))) δ M Q EX :=
  frz_mk2 (cons_of (hx _ (call_cons1 (hy _ (load_make (Q := Q) ha hb h)))))
theorem repr_bl {c : Bool} {M : MM} {K : D → MM → Prop} (h : K (.str (PyData.bool c).shown) M) : wRepr [.bl c] M K := at_repr (p := .bool c) (by unfold py; rfl) (sho_bl c) h
theorem ne_strs {u v : Str} {M : MM} {Q : D → MM → Prop} (e : u = v) (h : Q (.bl false) M) : wNe2 (.str u) (.str v) M Q := by
  show Q (.bl (!decide (u = v))) M
  rw [decide_eq_true e]; exact h
theorem is_b {n a b : Bool} {M : MM} {Q : D → MM → Prop} (h : Q (.bl (if n = true then !decide (a = b) else decide (a = b))) M) : wIsB n (.bl a) (.bl b) M Q := h
/-! ### begins_with -/
abbrev tT : Ty → Option Bool := tbB .tup fun k => List.lookup k [(6, false)]
abbrev tS : Ty → Option Bool := tbB .str fun k => List.lookup k [(6, false)]
section
variable {v x : D} {ds : List D} {t : Ty} {w s : Str} {n : Int} {M : MM} {Q : D → MM → Prop} {EX : XD → MM → Prop}
theorem ix0 {δ : DS} {K : D → MM → Prop} {EX : XK'} (h : δ[0]? = some (some (.tup (x :: ds)))) (q : K x M) : wOp wIx (wV 0) (wC (.int 0)) δ M K EX :=
  op_of (v_of h (c_of (at_ix (xs := x :: ds) (d := x) rfl ((atD_nat (by decide) (by simp)).trans rfl) q)))
end
theorem ix1 {i : Nat} {x y : D} {δ : DS} {M : MM} {K : D → MM → Prop} {EX : XK'} (h : δ[i]? = some (some (.tup [x, y]))) (q : K y M) : wOp wIx (wV i) (wC (.int 1)) δ M K EX :=
  op_of (v_of h (c_of (at_ix (xs := [x, y]) (d := y) rfl rfl q)))
section
variable {xs ys : List Int} {M : MM}
end
end My

set_option Elab.async false
set_option linter.all false
set_option maxRecDepth 100000
set_option maxHeartbeats 400000
namespace My
open PySem PySem.Spec L2 DL
open PyProof.Rows hiding St
theorem sz8 (k : Nat) (h : k ≤ 1000000) : k ≤ sizeLine := Nat.le_of_lt (small_sz h)
theorem gt8 {i j : Int} {M : MM} {Q : D → MM → Prop} (h : Q (.bl (decide (j < i))) M) : wGt (.int i) (.int j) M Q := h
theorem lt8 {i j : Int} {M : MM} {Q : D → MM → Prop} (h : Q (.bl (decide (i < j))) M) : wLt (.int i) (.int j) M Q := h
theorem ge8 {i j : Int} {M : MM} {Q : D → MM → Prop} (h : Q (.bl (decide (j ≤ i))) M) : wGe (.int i) (.int j) M Q := h
theorem isX8 {tb : List (Nat × Bool)} {c : Nat} {fs : List D} {b : Bool} {M : MM} {Q : D → MM → Prop} (q : Q (.bl b) M) (h : tb.lookup c = some b := by rfl) : kIsX tb Q (.exc c fs) M := by
  unfold kIsX
  dsimp only
  rw [h]
  exact q
def dueD (a b : Int) : D := if max a b ≤ 1200 then .tup [.int a, .int b] else .tup [.str "great", .int 1200]
theorem told_spec {v : D} {tk : Tk} {M : MM} {Q : D → MM → Prop} {EX : XD → MM → Prop}
    (h : ∀ (Q' : D → MM → Prop) (EX' : XD → MM → Prop), (∀ a b M1, Q (.tup [.int a, .int b]) M1 → Q' (loadD a b) M1) → (∀ M1, Q (.tup [.str "great", .int 1200]) M1 → EX' (.own 32 [.int 1200]) M1) → tk M Q' EX') : spOf 1 4 (w_law_told v tk) [v] M Q EX := by
  refine ⟨rfl, ?_⟩
  unfold w_law_told
  refine seq_asg ⟨sz8 2 (by decide), at_asg (d := .tup [.non, .non]) rfl ?_⟩
  refine seq_of ?_
  refine ⟨rfl, h _ _ (fun a b M1 q => ?_) (fun M1 q => ?_)⟩
  · dsimp only
    refine seq_of (if_of (tst_of (op_of (v_of (d := .non) rfl ?_))))
    refine ⟨_, rfl, ifT rfl ?_⟩
    refine ret_of ?_
    refine at_isi (t := .own 2) rfl rfl ⟨_, rfl, ifT rfl ?_⟩
    refine ⟨2, [.int a, .int b], _, rfl, rfl, rfl, at_fld (i := 0) rfl rfl rfl ?_⟩
    exact ⟨2, [.int a, .int b], _, rfl, rfl, rfl, at_fld (i := 1) rfl rfl rfl ⟨sz8 2 (by decide), q⟩⟩
  · show kTry _ _ _ (.own 32 [.int 1200]) _ M1
    unfold kTry
    dsimp only [wSet, wV, List.lookup, goneD]
    refine seq_of (if_of (tst_of (op_of (v_of (d := .exc 32 [.int 1200]) rfl ?_))))
    refine ⟨_, rfl, ifF rfl ?_⟩
    dsimp only [wNext]
    refine ret_of ?_
    refine isX8 ⟨_, rfl, ifT rfl ?_⟩
    exact at_fldX (i := 0) rfl rfl ⟨sz8 2 (by decide), q⟩
theorem limit_spec {x y : Int} {M : MM} {Q : D → MM → Prop} {EX : XD → MM → Prop} (hx : 0 ≤ x) (hy : 0 ≤ y) (h0 : max x y ≤ 1200 → ∀ M', Kp [] M M' → Q (loadD x y) M') (h1 : 1200 < max x y → EX (.own 32 [.int 1200]) M) : sload_within_limit [.int x, .int y] M Q EX := by
  refine ⟨rfl, ?_⟩
  unfold wload_within_limit
  refine seq_of ?_
  refine if_of ?_
  refine tst_of ?_
  refine op_of ?_
  show wCons _ _ _ _ _ _
  refine cons_of (v_of (d := .int x) rfl (call_cons1 (v_of (d := .int y) rfl ?_)))
  refine at_max2 ?_
  refine c_of ?_
  refine gt8 ⟨_, rfl, ?_⟩
  by_cases c : 1200 < max x y
  · refine ifT (decide_eq_true c) ?_
    exact ⟨rfl, h1 c⟩
  · refine ifF (decide_eq_false c) (next_of ?_)
    dsimp only
    refine ret_of ?_
    exact mk_load (a := x) (b := y) (by omega) (by omega) (ev_v rfl) (ev_v rfl) fun M2 k2 => h0 (by omega) M2 k2
theorem req_spec {a b : Int} {M : MM} {Q : D → MM → Prop} {EX : XD → MM → Prop} (hQ : Q .non M) : s_require_load [loadD a b] M Q EX := by
  refine ⟨rfl, ?_⟩
  unfold w_require_load
  exact if_of (not_of (tst_of (isi_of (v_of (d := loadD a b) rfl (at_isi (t := .own 2) (b := true) rfl rfl ⟨_, rfl, ifF rfl (next_of hQ)⟩)))))
theorem add_spec {a b c d : Int} {M : MM} {Q : D → MM → Prop} {EX : XD → MM → Prop} (hx : 0 ≤ a + c) (hy : 0 ≤ b + d) (h0 : max (a + c) (b + d) ≤ 1200 → ∀ M', Kp [] M M' → Q (loadD (a + c) (b + d)) M') (h1 : 1200 < max (a + c) (b + d) → EX (.own 32 [.int 1200]) M) : sLoad_add [loadD a b, loadD c d] M Q EX := by
  refine ⟨rfl, ?_⟩
  unfold wLoad_add
  refine seq_drop (call_cons1 (v_of (d := loadD c d) rfl (req_spec ?_)))
  refine ret_of ?_
  refine call_of [.int (a + c), .int (b + d)] (fun R h => ?_) (limit_spec hx hy h0 h1)
  refine cons_of (op_of (fld_of (v_of (d := loadD a b) rfl (at_fld (i := 0) rfl rfl rfl (fld_of (v_of (d := loadD c d) rfl (at_fld (i := 0) rfl rfl rfl (plus_int ?_))))))))
  exact call_cons1 (op_of (fld_of (v_of (d := loadD a b) rfl (at_fld (i := 1) rfl rfl rfl (fld_of (v_of (d := loadD c d) rfl (at_fld (i := 1) rfl rfl rfl (plus_int h))))))))
end My

set_option Elab.async false
set_option linter.all false
set_option maxRecDepth 100000
set_option maxHeartbeats 400000
namespace My
open PySem PySem.Spec L2 DL
open PyProof.Rows hiding St
theorem isint_spec {i : Int} {M : MM} {Q : D → MM → Prop} {EX : XD → MM → Prop} (hQ : Q (.bl true) M) : sis_integer [.int i] M Q EX := by
  refine ⟨rfl, ?_⟩
  unfold wis_integer
  refine ret_of (andV_of (isi_of (v_of (d := .int i) rfl (at_isi (t := .int) (b := true) rfl rfl ⟨_, rfl, ifT rfl ?_⟩))))
  exact isi_of (v_of (d := .int i) rfl (at_isi (t := .int) (b := false) rfl rfl ⟨_, rfl, hQ⟩))
theorem log_small {i : Int} (h : i.natAbs ≤ 1000000000000000000000) : i.natAbs.log2 < 100 := by
  by_cases z : i.natAbs = 0
  · rw [z]; decide
  · exact (Nat.log2_lt z).mpr (Nat.lt_of_le_of_lt h (by decide))
theorem times_int {i j : Int} {M : MM} {Q : D → MM → Prop} (hi : i.natAbs ≤ 1000000000000000000000) (hj : j.natAbs ≤ 1000000000000000000000) (h : Q (.int (i * j)) M) : wTimes (.int i) (.int j) M Q := by
  have h1 := log_small hi
  have h2 := log_small hj
  exact ⟨.inr (by omega), h⟩
theorem mul_spec {a b k : Int} {M : MM} {Q : D → MM → Prop} {EX : XD → MM → Prop} (ha : 0 ≤ a ∧ a ≤ 1200) (hb : 0 ≤ b ∧ b ≤ 1200) (hk : 0 ≤ k ∧ k ≤ 100000000000000000000) (hx : 0 ≤ a * k) (hy : 0 ≤ b * k) (h0 : max (a * k) (b * k) ≤ 1200 → ∀ M', Kp [] M M' → Q (loadD (a * k) (b * k)) M') (h1 : 1200 < max (a * k) (b * k) → EX (.own 32 [.int 1200]) M) : sLoad_mul [loadD a b, .int k] M Q EX := by
  refine ⟨rfl, ?_⟩
  unfold wLoad_mul
  refine seq_of (if_of (or_of (not_of (tst_of (call_of [.int k] (fun R h => call_cons1 (v_of rfl h)) (isint_spec ⟨_, rfl, ifF rfl ?_⟩))))))
  refine tst_of (op_of (v_of (d := .int k) rfl (c_of (lt8 ⟨_, rfl, ?_⟩))))
  refine ifF (decide_eq_false (by omega)) (next_of ?_)
  dsimp only
  refine ret_of ?_
  refine call_of [.int (a * k), .int (b * k)] (fun R h => ?_) (limit_spec hx hy h0 h1)
  refine cons_of (op_of (fld_of (v_of (d := loadD a b) rfl (at_fld (i := 0) rfl rfl rfl (v_of (d := .int k) rfl (times_int (by omega) (by omega) ?_))))))
  exact call_cons1 (op_of (fld_of (v_of (d := loadD a b) rfl (at_fld (i := 1) rfl rfl rfl (v_of (d := .int k) rfl (times_int (by omega) (by omega) h))))))
theorem rmul_spec {a b k : Int} {M : MM} {Q : D → MM → Prop} {EX : XD → MM → Prop} (ha : 0 ≤ a ∧ a ≤ 1200) (hb : 0 ≤ b ∧ b ≤ 1200) (hk : 0 ≤ k ∧ k ≤ 100000000000000000000) (hx : 0 ≤ a * k) (hy : 0 ≤ b * k) (h0 : max (a * k) (b * k) ≤ 1200 → ∀ M', Kp [] M M' → Q (loadD (a * k) (b * k)) M') (h1 : 1200 < max (a * k) (b * k) → EX (.own 32 [.int 1200]) M) : sLoad_rmul [loadD a b, .int k] M Q EX := by
  refine ⟨rfl, ?_⟩
  unfold wLoad_rmul
  exact ret_of (opx_of (v_of (d := loadD a b) rfl (v_of (d := .int k) rfl ⟨sLoad_mul, rfl, mul_spec ha hb hk hx hy h0 h1⟩)))
theorem covers_spec8 {a b c d : Int} {M : MM} {Q : D → MM → Prop} {EX : XD → MM → Prop} (hQ : Q (.bl (decide (c ≤ a ∧ d ≤ b))) M) : sLoad_covers [loadD a b, loadD c d] M Q EX := by
  refine ⟨rfl, ?_⟩
  unfold wLoad_covers
  refine ret_of (andV_of (op_of (fld_of (v_of (d := loadD a b) rfl (at_fld (i := 0) rfl rfl rfl (fld_of (v_of (d := loadD c d) rfl (at_fld (i := 0) rfl rfl rfl (ge8 ⟨_, rfl, ?_⟩)))))))))
  by_cases h1 : c ≤ a
  · refine ifT (decide_eq_true h1) (op_of (fld_of (v_of (d := loadD a b) rfl (at_fld (i := 1) rfl rfl rfl (fld_of (v_of (d := loadD c d) rfl (at_fld (i := 1) rfl rfl rfl (ge8 ?_))))))))
    have e : decide (c ≤ a ∧ d ≤ b) = decide (d ≤ b) := by by_cases h2 : d ≤ b <;> simp [h1, h2]
    rw [e] at hQ; exact hQ
  · refine ifF (decide_eq_false h1) ?_
    rw [decide_eq_false fun z => h1 z.1] at hQ; exact hQ
theorem load_eq {a b c d : Int} {M : MM} {Q : D → MM → Prop} {EX : XD → MM → Prop} (hQ : Q (.bl (decide (a = c ∧ b = d))) M) : sLoad_eq [loadD a b, loadD c d] M Q EX := by
  refine ⟨rfl, ?_⟩
  unfold wLoad_eq
  refine ret_of (andV_of (isi_of (v_of (d := loadD c d) rfl (at_isi (t := .own 2) rfl rfl ⟨_, rfl, ifT rfl ?_⟩))))
  refine andV_of (op_of (fld_of (v_of (d := loadD a b) rfl (at_fld (i := 0) (x := .int a) rfl rfl rfl (fld_of (v_of (d := loadD c d) rfl (at_fld (i := 0) (x := .int c) rfl rfl rfl ⟨_, rfl, ?_⟩)))))))
  by_cases h : a = c
  · refine ifT (decide_eq_true h) ?_
    refine op_of (fld_of (v_of (d := loadD a b) rfl (at_fld (i := 1) (x := .int b) rfl rfl rfl (fld_of (v_of (d := loadD c d) rfl (at_fld (i := 1) (x := .int d) rfl rfl rfl ?_))))))
    show Q (.bl (decide (b = d))) M
    have e : decide (b = d) = decide (a = c ∧ b = d) := by by_cases h2 : b = d <;> simp [h, h2]
    rw [e]; exact hQ
  · refine ifF (decide_eq_false h) ?_
    rw [decide_eq_false fun z => h z.1] at hQ; exact hQ
theorem neg_spec8 {a b : Int} {M : MM} {Q : D → MM → Prop} {EX : XD → MM → Prop} (ha : 0 ≤ a ∧ a ≤ 1200) (hb : 0 ≤ b ∧ b ≤ 1200) (hQ : ∀ M', Kp [] M M' → Q (loadD b a) M') : sLoad_neg [loadD a b] M Q EX := by
  refine ⟨rfl, ?_⟩
  unfold wLoad_neg
  exact ret_of (mk_load hb ha (fun K h => fld_of (v_of (d := loadD a b) rfl (at_fld (i := 1) rfl rfl rfl h))) (fun K h => fld_of (v_of (d := loadD a b) rfl (at_fld (i := 0) rfl rfl rfl h))) hQ)
theorem bool_spec {a b : Int} {M : MM} {Q : D → MM → Prop} {EX : XD → MM → Prop} (hQ : Q (.bl (decide (¬(a = 0 ∧ b = 0)))) M) : sLoad_bool [loadD a b] M Q EX := by
  refine ⟨rfl, ?_⟩
  unfold wLoad_bool
  refine ret_of ?_
  show wOrTru _ _ _ _ _ _
  refine fld_of (v_of (d := loadD a b) rfl (at_fld (i := 0) rfl rfl rfl ⟨a != 0, rfl, ?_⟩))
  by_cases c : a = 0
  · refine ifF (by simp [c]) (fld_of (v_of (d := loadD a b) rfl (at_fld (i := 1) rfl rfl rfl (at_boolI ?_))))
    have e : (b != 0) = decide (¬(a = 0 ∧ b = 0)) := by by_cases h : b = 0 <;> simp [c, h]
    rw [e]; exact hQ
  · refine ifT (by simp [c]) (at_boolI ?_)
    have e : (a != 0) = decide (¬(a = 0 ∧ b = 0)) := by simp [c]
    rw [e]; exact hQ
end My

set_option Elab.async false
set_option linter.all false
set_option maxRecDepth 100000
set_option maxHeartbeats 400000
namespace My
open PySem PySem.Spec L2 DL
open PyProof.Rows hiding St
theorem min2_8 {i j : Int} {M : MM} {Q : D → MM → Prop} (h : Q (.int (min i j)) M) : wMin2 [.int i, .int j] M Q := by
  unfold wMin2
  dsimp only
  have e : (if j < i then j else i) = min i j := by split <;> omega
  rw [e]; exact h
theorem and_spec8 {a b c d : Int} {M : MM} {Q : D → MM → Prop} {EX : XD → MM → Prop} (ha : 0 ≤ a ∧ a ≤ 1200) (hb : 0 ≤ b ∧ b ≤ 1200) (hc : 0 ≤ c ∧ c ≤ 1200) (hd : 0 ≤ d ∧ d ≤ 1200) (hQ : ∀ M', Kp [] M M' → Q (loadD (min a c) (min b d)) M') : sLoad_and [loadD a b, loadD c d] M Q EX := by
  refine ⟨rfl, ?_⟩
  unfold wLoad_and
  refine seq_drop (call_cons1 (v_of (d := loadD c d) rfl (req_spec ?_)))
  refine ret_of (mk_load (by omega) (by omega) (fun K h => ?_) (fun K h => ?_) hQ)
  · show wCons _ _ _ _ _ _
    exact cons_of (fld_of (v_of (d := loadD a b) rfl (at_fld (i := 0) rfl rfl rfl (call_cons1 (fld_of (v_of (d := loadD c d) rfl (at_fld (i := 0) rfl rfl rfl (min2_8 h))))))))
  · show wCons _ _ _ _ _ _
    exact cons_of (fld_of (v_of (d := loadD a b) rfl (at_fld (i := 1) rfl rfl rfl (call_cons1 (fld_of (v_of (d := loadD c d) rfl (at_fld (i := 1) rfl rfl rfl (min2_8 h))))))))
theorem or_spec8 {a b c d : Int} {M : MM} {Q : D → MM → Prop} {EX : XD → MM → Prop} (ha : 0 ≤ a ∧ a ≤ 1200) (hb : 0 ≤ b ∧ b ≤ 1200) (hc : 0 ≤ c ∧ c ≤ 1200) (hd : 0 ≤ d ∧ d ≤ 1200) (hQ : ∀ M', Kp [] M M' → Q (loadD (max a c) (max b d)) M') : sLoad_or [loadD a b, loadD c d] M Q EX := by
  refine ⟨rfl, ?_⟩
  unfold wLoad_or
  refine seq_drop (call_cons1 (v_of (d := loadD c d) rfl (req_spec ?_)))
  refine ret_of (mk_load (by omega) (by omega) (fun K h => ?_) (fun K h => ?_) hQ)
  · show wCons _ _ _ _ _ _
    exact cons_of (fld_of (v_of (d := loadD a b) rfl (at_fld (i := 0) rfl rfl rfl (call_cons1 (fld_of (v_of (d := loadD c d) rfl (at_fld (i := 0) rfl rfl rfl (at_max2 h))))))))
  · show wCons _ _ _ _ _ _
    exact cons_of (fld_of (v_of (d := loadD a b) rfl (at_fld (i := 1) rfl rfl rfl (call_cons1 (fld_of (v_of (d := loadD c d) rfl (at_fld (i := 1) rfl rfl rfl (at_max2 h))))))))
/-- a deed that makes the load (x, y), or is over the limit -/
def Does8 (x y : Int) (wb : WE) (δ : DS) (M : MM) : Prop := ∀ (Q : D → MM → Prop) (EX : XD → MM → Prop), (max x y ≤ 1200 → ∀ M', Kp [] M M' → Q (loadD x y) M') → (1200 < max x y → EX (.own 32 [.int 1200]) M) → wb δ M Q (fun xd _ M2 => EX xd M2)
theorem lam_told {is : List Nat} {n : Nat} {wb : WE} {δ : DS} {M : MM} {Q : D → MM → Prop} {EX : XK'} (cs : List D) (hp : pickD is δ = some cs) {x y : Int} (h : Does8 x y wb (maskD n is cs) M) (hQ : ∀ M', Kp [] M M' → Q (dueD x y) M') : wLam is n 4 w_law_told wb δ M Q EX :=
  ⟨cs, hp, fun f c q vs => told_spec fun Q' EX' a0 a1 => h Q' EX' (fun e M' k => a0 _ _ M' (by have := hQ M' k; rw [dueD, if_pos e] at this; exact this)) (fun e => a1 M (by have := hQ M .refl; rw [dueD, if_neg (by omega)] at this; exact this))⟩
theorem ifv8 {p : WT} {wa wb : WE} {δ : DS} {M : MM} {Q : D → MM → Prop} {EX : XK'} (h : p δ M (fun c M1 => if c = true then wa δ M1 Q EX else wb δ M1 Q EX) EX) : wIf p wa wb δ M Q EX := h
theorem due_spec {a b : Int} {M : MM} {Q : D → MM → Prop} {EX : XD → MM → Prop} (hQ : Q (dueD a b) M) : s_law_due [.int a, .int b] M Q EX := by
  refine ⟨rfl, ?_⟩
  unfold w_law_due
  refine ret_of ?_
  refine ifv8 ?_
  refine tst_of (op_of ?_)
  show wCons _ _ _ _ _ _
  refine cons_of (v_of (d := .int a) rfl (call_cons1 (v_of (d := .int b) rfl (at_max2 (c_of ⟨_, rfl, ?_⟩)))))
  unfold dueD at hQ
  by_cases c : max a b ≤ 1200
  · rw [if_pos c] at hQ
    exact ifT (decide_eq_true c) (tup_of (cons_of (v_of (d := .int a) rfl (call_cons1 (v_of (d := .int b) rfl ⟨sz8 2 (by decide), hQ⟩)))))
  · rw [if_neg c] at hQ
    exact ifF (decide_eq_false c) (tup_of (cons_of (c_of (call_cons1 (c_of ⟨sz8 2 (by decide), hQ⟩)))))
end My

set_option Elab.async false
set_option linter.all false
set_option maxRecDepth 100000
set_option maxHeartbeats 400000
namespace My
open PySem PySem.Spec L2 DL
open PyProof.Rows hiding St
theorem pick8 {m g : Addr} {f : Nat} {xs : List Int} {M : MM} {Q : D → MM → Prop} {EX : XD → MM → Prop} (hl : 0 < xs.length ∧ xs.length ≤ 100) (dr : Dr m g (f + 1) M) (hQ : ∀ x ∈ xs, ∀ M', Dr m g f M' → Kp [m, g] M M' → Q (.int x) M') : s_law_pick [.raw (.ref m), .lst (xs.map D.int)] M Q EX := by
  refine ⟨rfl, ?_⟩
  unfold w_law_pick
  refine ret_of (op_of (v_of (d := .lst (xs.map D.int)) rfl ?_))
  refine call_of [.raw (.ref m), .int xs.length] (fun R h => cons_of (v_of rfl (call_cons1 (b1_of (v_of (d := .lst (xs.map D.int)) rfl (at_len (xs := xs.map D.int) rfl (by rw [List.length_map]; exact h))))))) ?_
  refine draw_spec (f := f) dr (by omega) fun r M1 r0 r1 dr1 sm1 => ?_
  obtain ⟨k, rfl⟩ : ∃ k : Nat, r = k := ⟨r.toNat, by omega⟩
  have hk : k < xs.length := by omega
  have e := List.getElem?_eq_getElem hk
  refine at_ix (xs := xs.map D.int) (d := .int xs[k]) rfl ?_ (hQ _ (List.getElem_mem hk) M1 dr1 (sm1.kp dr1))
  rw [atD_nat (by omega) (by simp; omega)]
  rw [Int.toNat_natCast, List.getElem?_map, e]; rfl
theorem near_spec {m g : Addr} {f : Nat} {M : MM} {Q : D → MM → Prop} {EX : XD → MM → Prop} (dr : Dr m g (f + 3) M) (hQ : ∀ x M', 0 ≤ x ∧ x ≤ 1200 → Dr m g f M' → Kp [m, g] M M' → Q (.int x) M') : s_law_near [.raw (.ref m)] M Q EX := by
  refine ⟨rfl, ?_⟩
  unfold w_law_near
  refine ret_of ?_
  show wCons _ _ _ _ _ _
  refine cons_of (v_of (d := .raw (.ref m)) rfl (call_cons1 (lst_of ?_)))
  refine cons_of (c_of ?_)
  refine cons_of (c_of ?_)
  refine cons_of (c_of ?_)
  refine cons_of (c_of ?_)
  refine cons_of (c_of ?_)
  refine cons_of (c_of ?_)
  refine cons_of (c_of ?_)
  refine cons_of (c_of ?_)
  refine cons_of (c_of ?_)
  refine cons_of ?_
  refine call_of [.raw (.ref m), .int 1201] (fun R h => cons_of (v_of rfl (call_cons1 (c_of h)))) ?_
  refine draw_spec (f := f + 2) dr (by decide) fun r M1 r0 r1 dr1 sm1 => ?_
  refine call_cons1 ?_
  refine call_of [.raw (.ref m), .int 30] (fun R h => cons_of (v_of rfl (call_cons1 (c_of h)))) ?_
  refine draw_spec (f := f + 1) dr1 (by decide) fun q M2 q0 q1 dr2 sm2 => ?_
  refine ⟨sz8 11 (by decide), ?_⟩
  refine pick8 (f := f) (xs := [0, 0, 1, 2, 599, 600, 601, 1199, 1200, r, q]) ⟨by simp, by simp⟩ dr2 fun x hx M3 dr3 k3 => hQ x M3 ?_ dr3 (((sm1.kp dr1).trans (sm2.kp dr2)).trans k3)
  simp only [List.mem_cons, List.mem_nil_iff, or_false] at hx
  omega
end My

set_option Elab.async false
set_option linter.all false
set_option maxRecDepth 100000
set_option maxHeartbeats 400000
namespace My
open PySem PySem.Spec L2 DL
open PyProof.Rows hiding St
/-- what repr shows in a line or so -/
structure Ln (p : PyData) : Prop where
  sh : p.showable = true
  nd : p.hasDict = false
  dp : p.depth ≤ 1
  lv : PyData.leavesShort 101 p = true
  bk : p.bulk ≤ 10
theorem ln_due {x y : Int} (hx : -(2 ^ 100) < x ∧ x < 2 ^ 100) (hy : -(2 ^ 100) < y ∧ y < 2 ^ 100) : Ln (.tuple [.int x, .int y]) := by
  have h : ∀ z ∈ [x, y], -(2 ^ 100) < z ∧ z < 2 ^ 100 := fun z hz => by
    simp only [List.mem_cons, List.mem_nil_iff, or_false] at hz
    rcases hz with rfl | rfl
    · exact hx
    · exact hy
  refine ⟨?_, ?_, ?_, ?_, ?_⟩
  · simp only [PyData.showable]
    exact PyData.showableAll_ints [x, y] fun z hz => Nat.lt_trans (int_lt (h z hz)) (by decide)
  · have := noDictAll_ints [x, y]
    simp only [PyData.hasDict]; exact this
  · have := depth_ints [x, y]
    simp only [PyData.depth]; simp only [List.map_cons, List.map_nil] at this; omega
  · simp only [PyData.leavesShort]; exact leavesAll_ints (ns := [x, y]) h
  · have := bulkAll_ints [x, y]
    simp only [PyData.bulk]; simp only [List.map_cons, List.map_nil, List.length_cons, List.length_nil] at this; omega
theorem ln_great : Ln (.tuple [.str "great", .int 1200]) := ⟨by decide +kernel, by decide +kernel, by decide +kernel, by decide +kernel, by decide +kernel⟩
theorem lns_all : ∀ {ps : List PyData}, (∀ p ∈ ps, Ln p) → PyData.showableAll ps = true ∧ PyData.hasDictAll ps = false ∧ PyData.depthAll ps ≤ 1 ∧ PyData.leavesShortAll 101 ps = true ∧ PyData.bulkAll ps ≤ 12 * ps.length
  | [], _ => ⟨by simp only [PyData.showableAll], by simp only [PyData.hasDictAll], by simp only [PyData.depthAll]; omega, by simp only [PyData.leavesShortAll], by simp only [PyData.bulkAll]; omega⟩
  | p :: ps, h => by
    obtain ⟨a, b, c, d, e⟩ := lns_all (ps := ps) fun q hq => h q (List.mem_cons_of_mem _ hq)
    obtain ⟨a1, b1, c1, d1, e1⟩ := h p List.mem_cons_self
    refine ⟨by simp only [PyData.showableAll, a, a1, Bool.and_self], by simp only [PyData.hasDictAll, b, b1, Bool.or_self], by simp only [PyData.depthAll]; omega, by simp only [PyData.leavesShortAll, d, d1, Bool.and_self], ?_⟩
    simp only [PyData.bulkAll, List.length_cons]
    omega
theorem sho_lns {ps : List PyData} (h : ∀ p ∈ ps, Ln p) (hl : ps.length ≤ 10) : Sho (.list ps) := by
  obtain ⟨a, b, c, d, e⟩ := lns_all h
  refine ⟨by simp only [PyData.showable]; exact a, by simp only [PyData.hasDict]; exact b, by simp only [PyData.depth]; omega, ?_⟩
  have z := PyData.shown_le_bulk 101 (by decide) (.list ps) (by simp only [PyData.leavesShort]; exact d)
  simp only [PyData.bulk] at z
  rw [sizeLine_eq]; omega
def duP (x y : Int) : PyData := if max x y ≤ 1200 then .tuple [.int x, .int y] else .tuple [.str "great", .int 1200]
theorem toPy_due (x y : Int) : toPy (dueD x y) = some (duP x y) := by
  unfold dueD duP
  by_cases c : max x y ≤ 1200
  · rw [if_pos c, if_pos c]; exact toPy_tup (toPys_ints [x, y])
  · rw [if_neg c, if_neg c]; exact toPy_tup (ps := [.str "great", .int 1200]) rfl
theorem ln_duP {x y : Int} (hx : -(2 ^ 100) < x ∧ x < 2 ^ 100) (hy : -(2 ^ 100) < y ∧ y < 2 ^ 100) : Ln (duP x y) := by
  unfold duP
  by_cases c : max x y ≤ 1200
  · rw [if_pos c]; exact ln_due hx hy
  · rw [if_neg c]; exact ln_great
theorem toPys_dues : ∀ L : List (Int × Int), toPys (L.map fun z => dueD z.1 z.2) = some (L.map fun z => duP z.1 z.2)
  | [] => rfl
  | z :: L => by
    show (match toPy (dueD z.1 z.2), toPys (L.map fun z => dueD z.1 z.2) with | some p, some ps => some (p :: ps) | _, _ => none) = _
    rw [toPy_due, toPys_dues L]; rfl
abbrev duesD (L : List (Int × Int)) : D := .lst (L.map fun z => dueD z.1 z.2)
/-- repr of a list of what is due -/
theorem repr_dues {L : List (Int × Int)} {M : MM} {Q : D → MM → Prop} (h : ∀ z ∈ L, (-(2 ^ 100) < z.1 ∧ z.1 < 2 ^ 100) ∧ -(2 ^ 100) < z.2 ∧ z.2 < 2 ^ 100) (hl : L.length ≤ 10) (q : Q (.str (PyData.shown (.list (L.map fun z => duP z.1 z.2)))) M) : wRepr [duesD L] M Q := by
  refine at_repr (by unfold py; exact toPy_lst (toPys_dues L)) (sho_lns (fun p hp => ?_) (by rw [List.length_map]; exact hl)) q
  obtain ⟨z, hz, rfl⟩ := List.mem_map.mp hp
  exact ln_duP (h z hz).1 (h z hz).2
end My

set_option Elab.async false
set_option linter.all false
set_option maxRecDepth 100000
set_option maxHeartbeats 400000
namespace My
open PySem PySem.Spec L2 DL
open PyProof.Rows hiding St
abbrev In8 (x : Int) : Prop := 0 ≤ x ∧ x ≤ 1200
theorem jx0 {a b : Int} {i : Nat} {δ : DS} {M : MM} {K : D → MM → Prop} {EX : XK'} (h : δ[i]? = some (some (.tup [.int a, .int b]))) (hK : K (.int a) M) : wOp wIx (wV i) (wC (.int 0)) δ M K EX := op_of (v_of h (c_of (at_ix (xs := [.int a, .int b]) (d := .int a) rfl rfl hK)))
theorem jx1 {a b : Int} {i : Nat} {δ : DS} {M : MM} {K : D → MM → Prop} {EX : XK'} (h : δ[i]? = some (some (.tup [.int a, .int b]))) (hK : K (.int b) M) : wOp wIx (wV i) (wC (.int 1)) δ M K EX := op_of (v_of h (c_of (at_ix (xs := [.int a, .int b]) (d := .int b) rfl rfl hK)))
theorem ownp {tb : List (Nat × (Ty → Bool) × SpD)} {i j : Int} {δ : DS} {M : MM} {K : D → MM → Prop} {EX : XK'} (h : K (.int (i + j)) M) : wOwn tb wPlus (.int i) (.int j) δ M K EX := plus_int h
theorem does_add {a b c d : Int} {p q : Nat} {δ : DS} {M : MM} (hp : δ[p]? = some (some (loadD a b))) (hq : δ[q]? = some (some (loadD c d))) (ha : In8 a) (hb : In8 b) (hc : In8 c) (hd : In8 d) : Does8 (a + c) (b + d) (wOpX (wOwn [(2, (alIn [2]), sLoad_add)] wPlus) (wV p) (wV q)) δ M := fun Q EX h0 h1 =>
  opx_of (v_of hp (v_of hq ⟨alIn [2], sLoad_add, .own 2, rfl, rfl, rfl, add_spec (by unfold In8 at *; omega) (by unfold In8 at *; omega) h0 h1⟩))
theorem does_and {a b c d : Int} {p q : Nat} {δ : DS} {M : MM} (hp : δ[p]? = some (some (loadD a b))) (hq : δ[q]? = some (some (loadD c d))) (ha : In8 a) (hb : In8 b) (hc : In8 c) (hd : In8 d) : Does8 (min a c) (min b d) (wOpX (wOwn [(2, (alIn [2]), sLoad_and)] wNo2) (wV p) (wV q)) δ M := fun Q EX h0 h1 =>
  opx_of (v_of hp (v_of hq ⟨alIn [2], sLoad_and, .own 2, rfl, rfl, rfl, and_spec8 ha hb hc hd (h0 (by unfold In8 at *; omega))⟩))
theorem does_or {a b c d : Int} {p q : Nat} {δ : DS} {M : MM} (hp : δ[p]? = some (some (loadD a b))) (hq : δ[q]? = some (some (loadD c d))) (ha : In8 a) (hb : In8 b) (hc : In8 c) (hd : In8 d) : Does8 (max a c) (max b d) (wOpX (wOwn [(2, (alIn [2]), sLoad_or)] wNo2) (wV p) (wV q)) δ M := fun Q EX h0 h1 =>
  opx_of (v_of hp (v_of hq ⟨alIn [2], sLoad_or, .own 2, rfl, rfl, rfl, or_spec8 ha hb hc hd (h0 (by unfold In8 at *; omega))⟩))
theorem ne_str8 {s : Str} {M : MM} {Q : D → MM → Prop} (h : Q (.bl false) M) : wNe2 (.str s) (.str s) M Q := by
  show Q (.bl (!decide (s = s))) M
  rw [decide_eq_true rfl]
  exact h
theorem bd100 {x : Int} (h : 0 ≤ x ∧ x ≤ 1000000) : -(2 ^ 100) < x ∧ x < 2 ^ 100 := by omega
abbrev two8 (a b c d : Int) (d2 d3 d4 d5 : Option D) : DS := [some (.tup [.int a, .int b]), some (.tup [.int c, .int d]), d2, d3, d4, d5, some (loadD a b), some (loadD c d)]
theorem two_a {a b c d : Int} {M : MM} {B : WS} {E : ED} {EX : XK'} (ha : In8 a) (hb : In8 b) (hc : In8 c) (hd : In8 d) (hB : ∀ M', Kp [] M M' → B E EX (two8 a b c d (some (dueD (a + c) (b + d))) none none none) M') :
    wSeq (wIfS (wTst (wOp wNe2 (wB wRepr (wCons (wLst (wCons (wLam [6, 7] 8 4 w_law_told (wOpX (wOwn [(2, (alIn [2]), sLoad_add)] wPlus) (wV 6) (wV 7))) (wCons (wLam [6, 7] 8 4 w_law_told (wOpX (wOwn [(2, (alIn [2]), sLoad_add)] wPlus) (wV 7) (wV 6))) wNil))) wNil)) (wB wRepr (wCons (wLst (wCons (wV 2) (wCons (wV 2) wNil))) wNil)))) (wRet (wC (.bl false))) wNext) B E EX (two8 a b c d (some (dueD (a + c) (b + d))) none none none) M := by
  refine seq_of ?_
  refine if_of ?_
  refine tst_of ?_
  refine op_of ?_
  refine b1_of ?_
  refine lst_of ?_
  refine cons_of ?_
  refine lam_told [loadD a b, loadD c d] rfl (x := a + c) (y := b + d) (does_add rfl rfl ha hb hc hd) fun M3 k3 => ?_
  refine call_cons1 ?_
  refine lam_told [loadD a b, loadD c d] rfl (x := c + a) (y := d + b) (does_add rfl rfl hc hd ha hb) fun M4 k4 => ?_
  rw [show c + a = a + c by omega, show d + b = b + d by omega]
  refine ⟨sz8 2 (by decide), ?_⟩
  have bd : ∀ z ∈ [(a + c, b + d), (a + c, b + d)], (-(2 ^ 100) < z.1 ∧ z.1 < 2 ^ 100) ∧ -(2 ^ 100) < z.2 ∧ z.2 < 2 ^ 100 := fun z hz => by
    simp only [List.mem_cons, List.mem_nil_iff, or_false, or_self] at hz
    subst hz
    unfold In8 at *
    exact ⟨bd100 (by dsimp only; omega), bd100 (by dsimp only; omega)⟩
  refine repr_dues (L := [(a + c, b + d), (a + c, b + d)]) bd (by simp) ?_
  refine b1_of ?_
  refine lst_of ?_
  refine cons_of ?_
  refine v_of (d := dueD (a + c) (b + d)) rfl ?_
  refine call_cons1 ?_
  refine v_of (d := dueD (a + c) (b + d)) rfl ?_
  refine ⟨sz8 2 (by decide), ?_⟩
  refine repr_dues (L := [(a + c, b + d), (a + c, b + d)]) bd (by simp) ?_
  exact ne_str8 ⟨_, rfl, ifF rfl (next_of (hB M4 (k3.trans k4)))⟩
end My

set_option Elab.async false
set_option linter.all false
set_option maxRecDepth 100000
set_option maxHeartbeats 400000
namespace My
open PySem PySem.Spec L2 DL
open PyProof.Rows hiding St
theorem due_le {x y : Int} (hx : In8 x) (hy : In8 y) : dueD x y = .tup [.int x, .int y] := by
  unfold dueD
  rw [if_pos (by unfold In8 at *; omega)]
theorem ownl {tb : List (Nat × (Ty → Bool) × SpD)} {xs ys : List D} {δ : DS} {M : MM} {K : D → MM → Prop} {EX : XK'} (hl : xs.length + ys.length ≤ 1000000) (h : K (.lst (xs ++ ys)) M) : wOwn tb wPlus (.lst xs) (.lst ys) δ M K EX := cat_lst hl h
theorem two_b {a b c d : Int} {d2 : D} {M : MM} {B : WS} {E : ED} {EX : XK'} (ha : In8 a) (hb : In8 b) (hc : In8 c) (hd : In8 d) (hB : ∀ d5 M', Kp [] M M' → B E EX (two8 a b c d (some d2) (some (.tup [.int (min a c), .int (min b d)])) (some (.tup [.int (max a c), .int (max b d)])) d5) M') :
    wSeq (wSet 3 (wTup (wCons (wB wMin2 (wCons (wOp wIx (wV 0) (wC (.int 0))) (wCons (wOp wIx (wV 1) (wC (.int 0))) wNil))) (wCons (wB wMin2 (wCons (wOp wIx (wV 0) (wC (.int 1))) (wCons (wOp wIx (wV 1) (wC (.int 1))) wNil))) wNil))))
  (wSeq (wSet 4 (wTup (wCons (wB wMax2 (wCons (wOp wIx (wV 0) (wC (.int 0))) (wCons (wOp wIx (wV 1) (wC (.int 0))) wNil))) (wCons (wB wMax2 (wCons (wOp wIx (wV 0) (wC (.int 1))) (wCons (wOp wIx (wV 1) (wC (.int 1))) wNil))) wNil))))
  (wSeq (wSet 5 (wLst (wCons (wLam [6, 7] 8 4 w_law_told (wOpX (wOwn [(2, (alIn [2]), sLoad_and)] wNo2) (wV 6) (wV 7))) (wCons (wLam [6, 7] 8 4 w_law_told (wOpX (wOwn [(2, (alIn [2]), sLoad_and)] wNo2) (wV 7) (wV 6))) wNil))))
  (wSeq (wSet 5 (wOpX (wOwn [(2, (alIn [2]), sLoad_add)] wPlus) (wV 5) (wLst (wCons (wLam [6, 7] 8 4 w_law_told (wOpX (wOwn [(2, (alIn [2]), sLoad_or)] wNo2) (wV 6) (wV 7))) (wCons (wLam [6, 7] 8 4 w_law_told (wOpX (wOwn [(2, (alIn [2]), sLoad_or)] wNo2) (wV 7) (wV 6))) wNil)))))
  (wSeq (wIfS (wTst (wOp wNe2 (wB wRepr (wCons (wV 5) wNil)) (wB wRepr (wCons (wLst (wCons (wV 3) (wCons (wV 3) (wCons (wV 4) (wCons (wV 4) wNil))))) wNil)))) (wRet (wC (.bl false))) wNext) B)))) E EX (two8 a b c d (some d2) none none none) M := by
  have mn : ∀ {i j : Int} {w0 w1 : WE} {δ : DS} {M : MM} {K : D → MM → Prop} {EX : XK'}, (∀ R : D → MM → Prop, R (.int i) M → w0 δ M R EX) → (∀ R : D → MM → Prop, R (.int j) M → w1 δ M R EX) → K (.int (min i j)) M → wB wMin2 (wCons w0 (wCons w1 wNil)) δ M K EX := fun h0 h1 h => by
    show wCons _ _ _ _ _ _
    exact cons_of (h0 _ (call_cons1 (h1 _ (min2_8 h))))
  have mx : ∀ {i j : Int} {w0 w1 : WE} {δ : DS} {M : MM} {K : D → MM → Prop} {EX : XK'}, (∀ R : D → MM → Prop, R (.int i) M → w0 δ M R EX) → (∀ R : D → MM → Prop, R (.int j) M → w1 δ M R EX) → K (.int (max i j)) M → wB wMax2 (wCons w0 (wCons w1 wNil)) δ M K EX := fun h0 h1 h => by
    show wCons _ _ _ _ _ _
    exact cons_of (h0 _ (call_cons1 (h1 _ (at_max2 h))))
  refine seq_set ?_
  refine tup_of ?_
  refine cons_of (mn (fun R h => jx0 rfl h) (fun R h => jx0 rfl h) ?_)
  refine call_cons1 (mn (fun R h => jx1 rfl h) (fun R h => jx1 rfl h) ⟨sz8 2 (by decide), ?_⟩)
  refine seq_set ?_
  refine tup_of ?_
  refine cons_of (mx (fun R h => jx0 rfl h) (fun R h => jx0 rfl h) ?_)
  refine call_cons1 (mx (fun R h => jx1 rfl h) (fun R h => jx1 rfl h) ⟨sz8 2 (by decide), ?_⟩)
  refine seq_set ?_
  refine lst_of ?_
  refine cons_of ?_
  refine lam_told [loadD a b, loadD c d] rfl (does_and rfl rfl ha hb hc hd) fun M1 k1 => ?_
  refine call_cons1 ?_
  refine lam_told [loadD a b, loadD c d] rfl (does_and rfl rfl hc hd ha hb) fun M2 k2 => ?_
  refine ⟨sz8 2 (by decide), ?_⟩
  refine seq_set ?_
  refine opx_of ?_
  refine v_of rfl ?_
  refine lst_of ?_
  refine cons_of ?_
  refine lam_told [loadD a b, loadD c d] rfl (does_or rfl rfl ha hb hc hd) fun M3 k3 => ?_
  refine call_cons1 ?_
  refine lam_told [loadD a b, loadD c d] rfl (does_or rfl rfl hc hd ha hb) fun M4 k4 => ?_
  refine ⟨sz8 2 (by decide), ?_⟩
  refine ownl (by simp) ?_
  rw [show min c a = min a c by omega, show min d b = min b d by omega, show max c a = max a c by omega, show max d b = max b d by omega]
  have bd : ∀ z ∈ [(min a c, min b d), (min a c, min b d), (max a c, max b d), (max a c, max b d)], (-(2 ^ 100) < z.1 ∧ z.1 < 2 ^ 100) ∧ -(2 ^ 100) < z.2 ∧ z.2 < 2 ^ 100 := fun z hz => by
    simp only [List.mem_cons, List.mem_nil_iff, or_false] at hz
    unfold In8 at *
    rcases hz with rfl | rfl | rfl | rfl <;> exact ⟨bd100 (by dsimp only; omega), bd100 (by dsimp only; omega)⟩
  refine seq_of ?_
  refine if_of ?_
  refine tst_of ?_
  refine op_of ?_
  refine b1_of ?_
  refine v_of (d := duesD [(min a c, min b d), (min a c, min b d), (max a c, max b d), (max a c, max b d)]) rfl ?_
  refine repr_dues bd (by simp) ?_
  refine b1_of ?_
  refine lst_of ?_
  refine cons_of (v_of rfl ?_)
  refine cons_of (v_of rfl ?_)
  refine cons_of (v_of rfl ?_)
  refine call_cons1 (v_of rfl ⟨sz8 4 (by decide), ?_⟩)
  have e1 : D.tup [.int (min a c), .int (min b d)] = dueD (min a c) (min b d) := (due_le (by unfold In8 at *; omega) (by unfold In8 at *; omega)).symm
  have e2 : D.tup [.int (max a c), .int (max b d)] = dueD (max a c) (max b d) := (due_le (by unfold In8 at *; omega) (by unfold In8 at *; omega)).symm
  have fin := hB (some (duesD [(min a c, min b d), (min a c, min b d), (max a c, max b d), (max a c, max b d)])) M4 (((k1.trans k2).trans k3).trans k4)
  rw [show (D.lst [.tup [.int (min a c), .int (min b d)], .tup [.int (min a c), .int (min b d)], .tup [.int (max a c), .int (max b d)], .tup [.int (max a c), .int (max b d)]]) = duesD [(min a c, min b d), (min a c, min b d), (max a c, max b d), (max a c, max b d)] by rw [e1, e2]; rfl]
  refine repr_dues bd (by simp) ?_
  exact ne_str8 ⟨_, rfl, ifF rfl (next_of fin)⟩
end My

set_option Elab.async false
set_option linter.all false
set_option maxRecDepth 100000
set_option maxHeartbeats 400000
namespace My
open PySem PySem.Spec L2 DL
open PyProof.Rows hiding St
theorem ln_bl (b : Bool) : Ln (.bool b) := by cases b <;> exact ⟨by decide +kernel, by decide +kernel, by decide +kernel, by decide +kernel, by decide +kernel⟩
theorem toPys_bls : ∀ L : List Bool, toPys (L.map D.bl) = some (L.map PyData.bool)
  | [] => rfl
  | b :: L => by
    show (match toPy (.bl b), toPys (L.map D.bl) with | some p, some ps => some (p :: ps) | _, _ => none) = _
    rw [show toPy (.bl b) = some (.bool b) from rfl, toPys_bls L]; rfl
theorem repr_bls {L : List Bool} {M : MM} {Q : D → MM → Prop} (hl : L.length ≤ 10) (q : Q (.str (PyData.shown (.list (L.map PyData.bool)))) M) : wRepr [.lst (L.map D.bl)] M Q := by
  refine at_repr (by unfold py; exact toPy_lst (toPys_bls L)) (sho_lns (fun p hp => ?_) (by rw [List.length_map]; exact hl)) q
  obtain ⟨b, _, rfl⟩ := List.mem_map.mp hp
  exact ln_bl b
theorem eq_pair {a b c d : Int} {M : MM} {Q : D → MM → Prop} (h : Q (.bl (decide (a = c ∧ b = d))) M) : wEq2 (.tup [.int a, .int b]) (.tup [.int c, .int d]) M Q := by
  show wEq (.tup ([a, b].map D.int)) (.tup ([c, d].map D.int)) M Q
  refine at_eq (py_tup (ns := [a, b])) (py_tup (ns := [c, d])) (shaped_intsT _) (shaped_intsT _) ?_
  rw [eqv_tup, show decide ([a, b] = [c, d]) = decide (a = c ∧ b = d) by simp]
  exact h
theorem ne_pair {a b c d : Int} {M : MM} {Q : D → MM → Prop} (h : Q (.bl (!decide (a = c ∧ b = d))) M) : wNe2 (.tup [.int a, .int b]) (.tup [.int c, .int d]) M Q := by
  show wNe (.tup ([a, b].map D.int)) (.tup ([c, d].map D.int)) M Q
  refine at_ne (py_tup (ns := [a, b])) (py_tup (ns := [c, d])) (shaped_intsT _) (shaped_intsT _) ?_
  rw [eqv_tup, show decide ([a, b] = [c, d]) = decide (a = c ∧ b = d) by simp]
  exact h
theorem cov8 {a b c d : Int} {p q : Nat} {δ : DS} {M : MM} {K : D → MM → Prop} {EX : XK'} (hp : δ[p]? = some (some (loadD a b))) (hq : δ[q]? = some (some (loadD c d))) (h : K (.bl (decide (c ≤ a ∧ d ≤ b))) M) : wMeth [(2, sLoad_covers)] [] (wV p) (wCons (wV q) wNil) δ M K EX :=
  v_of hp ⟨2, _, sLoad_covers, rfl, rfl, call_cons1 (v_of hq (covers_spec8 h))⟩
theorem eqo8 {a b c d : Int} {p q : Nat} {δ : DS} {M : MM} {K : D → MM → Prop} {EX : XK'} (hp : δ[p]? = some (some (loadD a b))) (hq : δ[q]? = some (some (loadD c d))) (h : K (.bl (decide (a = c ∧ b = d))) M) : wOpX (wOwn [(2, (alIn [2]), sLoad_eq)] wEq2) (wV p) (wV q) δ M K EX :=
  opx_of (v_of hp (v_of hq ⟨alIn [2], sLoad_eq, .own 2, rfl, rfl, rfl, load_eq h⟩))
theorem neo8 {a b c d : Int} {p q : Nat} {δ : DS} {M : MM} {K : D → MM → Prop} {EX : XK'} (hp : δ[p]? = some (some (loadD a b))) (hq : δ[q]? = some (some (loadD c d))) (h : K (.bl (!decide (a = c ∧ b = d))) M) : wOpX (wOwnNe [(2, (alIn [2]), sLoad_eq)] wNe2) (wV p) (wV q) δ M K EX :=
  opx_of (v_of hp (v_of hq ⟨alIn [2], sLoad_eq, .own 2, rfl, rfl, rfl, load_eq ⟨_, rfl, h⟩⟩))
end My

set_option Elab.async false
set_option linter.all false
set_option maxRecDepth 100000
set_option maxHeartbeats 400000
namespace My
open PySem PySem.Spec L2 DL
open PyProof.Rows hiding St
theorem eq_str8 {s : Str} {M : MM} {Q : D → MM → Prop} (h : Q (.bl true) M) : wEq2 (.str s) (.str s) M Q := by
  show Q (.bl (decide (s = s))) M
  rw [decide_eq_true rfl]
  exact h
theorem two_c {a b c d : Int} {d2 d4 : D} {d5 : Option D} {M : MM} {B : WS} {E : ED} {EX : XK'} (hB : ∀ d5 M', Kp [] M M' → B E EX (two8 a b c d (some d2) (some (.tup [.int (min a c), .int (min b d)])) (some d4) d5) M') :
    wSeq (wSet 5 (wLst (wCons (wMeth [(2, sLoad_covers)] [] (wV 6) (wCons (wV 7) wNil)) (wCons (wMeth [(2, sLoad_covers)] [] (wV 7) (wCons (wV 6) wNil)) (wCons (wOpX (wOwn [(2, (alIn [2]), sLoad_eq)] wEq2) (wV 6) (wV 7)) (wCons (wOpX (wOwnNe [(2, (alIn [2]), sLoad_eq)] wNe2) (wV 7) (wV 6)) (wCons (wMeth [(2, sLoad_covers)] [] (wV 6) (wCons (wV 6) wNil)) wNil)))))))
  (wSeq (wIfS (wTst (wOp wNe2 (wB wRepr (wCons (wV 5) wNil)) (wB wRepr (wCons (wLst (wCons (wOp wEq2 (wV 3) (wV 1)) (wCons (wOp wEq2 (wV 3) (wV 0)) (wCons (wOp wEq2 (wV 0) (wV 1)) (wCons (wOp wNe2 (wV 0) (wV 1)) (wCons (wC (.bl true)) wNil)))))) wNil)))) (wRet (wC (.bl false))) wNext) B) E EX (two8 a b c d (some d2) (some (.tup [.int (min a c), .int (min b d)])) (some d4) d5) M := by
  have e1 : decide (c ≤ a ∧ d ≤ b) = decide (min a c = c ∧ min b d = d) := decide_eq_decide.mpr (by omega)
  have e2 : decide (a ≤ c ∧ b ≤ d) = decide (min a c = a ∧ min b d = b) := decide_eq_decide.mpr (by omega)
  have e4 : (!decide (c = a ∧ d = b)) = (!decide (a = c ∧ b = d)) := by rw [decide_eq_decide.mpr (show (c = a ∧ d = b) ↔ (a = c ∧ b = d) by omega)]
  have e5 : decide (a ≤ a ∧ b ≤ b) = true := decide_eq_true (by omega)
  refine seq_set ?_
  refine lst_of ?_
  refine cons_of (cov8 rfl rfl ?_)
  refine cons_of (cov8 rfl rfl ?_)
  refine cons_of (eqo8 rfl rfl ?_)
  refine cons_of (neo8 rfl rfl ?_)
  refine call_cons1 (cov8 rfl rfl ⟨sz8 5 (by decide), ?_⟩)
  rw [e1, e2, e4, e5]
  refine seq_of ?_
  refine if_of ?_
  refine tst_of ?_
  refine op_of ?_
  refine b1_of ?_
  refine v_of (d := .lst ([decide (min a c = c ∧ min b d = d), decide (min a c = a ∧ min b d = b), decide (a = c ∧ b = d), (!decide (a = c ∧ b = d)), true].map D.bl)) rfl ?_
  refine repr_bls (by simp) ?_
  refine b1_of ?_
  refine lst_of ?_
  refine cons_of (op_of (v_of rfl (v_of rfl (eq_pair ?_))))
  refine cons_of (op_of (v_of rfl (v_of rfl (eq_pair ?_))))
  refine cons_of (op_of (v_of rfl (v_of rfl (eq_pair ?_))))
  refine cons_of (op_of (v_of rfl (v_of rfl (ne_pair ?_))))
  refine call_cons1 (c_of ⟨sz8 5 (by decide), ?_⟩)
  refine repr_bls (L := [decide (min a c = c ∧ min b d = d), decide (min a c = a ∧ min b d = b), decide (a = c ∧ b = d), (!decide (a = c ∧ b = d)), true]) (by simp) ?_
  exact ne_str8 ⟨_, rfl, ifF rfl (next_of (hB _ M .refl))⟩
end My

set_option Elab.async false
set_option linter.all false
set_option maxRecDepth 100000
set_option maxHeartbeats 400000
namespace My
open PySem PySem.Spec L2 DL
open PyProof.Rows hiding St
theorem fwd8 {a b : Int} {i : Nat} {δ : DS} {M : MM} {K : D → MM → Prop} {EX : XK'} (h : δ[i]? = some (some (loadD a b))) (hK : K (.int a) M) : wProp [(2, sLoad_forward)] (wV i) δ M K EX :=
  prop_of (v_of h ⟨2, _, sLoad_forward, rfl, rfl, ⟨rfl, at_fld (i := 0) rfl rfl rfl hK⟩⟩)
theorem bwd8 {a b : Int} {i : Nat} {δ : DS} {M : MM} {K : D → MM → Prop} {EX : XK'} (h : δ[i]? = some (some (loadD a b))) (hK : K (.int b) M) : wProp [(2, sLoad_backward)] (wV i) δ M K EX :=
  prop_of (v_of h ⟨2, _, sLoad_backward, rfl, rfl, ⟨rfl, at_fld (i := 1) rfl rfl rfl hK⟩⟩)
theorem ownt {tb : List (Nat × (Ty → Bool) × SpD)} {xs ys : List D} {δ : DS} {M : MM} {K : D → MM → Prop} {EX : XK'} (hl : xs.length + ys.length ≤ sizeLine) (h : K (.tup (xs ++ ys)) M) : wOwn tb wPlus (.tup xs) (.tup ys) δ M K EX := ⟨hl, h⟩
theorem two_right_spec {a b c d : Int} {M : MM} {Q : D → MM → Prop} {EX : XD → MM → Prop} (ha : In8 a) (hb : In8 b) (hc : In8 c) (hd : In8 d) (hQ : ∀ M', Kp [] M M' → Q (.bl true) M') : s_law_two_right [.tup [.int a, .int b], .tup [.int c, .int d]] M Q EX := by
  refine ⟨rfl, ?_⟩
  unfold w_law_two_right
  refine seq_asg ?_
  refine tup_of ?_
  refine cons_of (mk_load (a := a) (b := b) ha hb (fun K h => jx0 rfl h) (fun K h => jx1 rfl h) fun M1 k1 => ?_)
  refine call_cons1 (mk_load (a := c) (b := d) hc hd (fun K h => jx0 rfl h) (fun K h => jx1 rfl h) fun M2 k2 => ⟨sz8 2 (by decide), at_asg rfl ?_⟩)
  try dsimp only
  refine seq_set ?_
  refine call_of [.int (a + c), .int (b + d)] (fun R h => ?_) (due_spec ?_)
  · exact cons_of (opx_of (jx0 rfl (jx0 rfl (ownp (call_cons1 (opx_of (jx1 rfl (jx1 rfl (ownp h)))))))))
  refine two_a ha hb hc hd fun M3 k3 => ?_
  refine two_b ha hb hc hd fun d5 M4 k4 => ?_
  refine two_c fun d5 M5 k5 => ?_
  have bd : ∀ x ∈ [a, b, c, d], -(2 ^ 100) < x ∧ x < 2 ^ 100 := fun x hx => by
    simp only [List.mem_cons, List.mem_nil_iff, or_false] at hx
    unfold In8 at *
    rcases hx with rfl | rfl | rfl | rfl <;> omega
  refine ret_of ?_
  refine op_of ?_
  refine b1_of ?_
  refine lst_of ?_
  refine cons_of (fwd8 rfl ?_)
  refine cons_of (bwd8 rfl ?_)
  refine cons_of (fwd8 rfl ?_)
  refine call_cons1 (bwd8 rfl ⟨sz8 4 (by decide), ?_⟩)
  refine at_repr (py_lst (ns := [a, b, c, d])) (sho_list bd (by simp)) ?_
  refine b1_of ?_
  refine b1_of ?_
  refine opx_of ?_
  refine v_of (d := .tup [.int a, .int b]) rfl ?_
  refine v_of (d := .tup [.int c, .int d]) rfl ?_
  refine ownt (sz8 4 (by decide)) ?_
  refine at_listOf (xs := [.int a, .int b, .int c, .int d]) rfl ?_
  refine at_repr (py_lst (ns := [a, b, c, d])) (sho_list bd (by simp)) ?_
  exact eq_str8 (hQ M5 ((((k1.trans k2).trans k3).trans k4).trans k5))
end My

set_option Elab.async false
set_option linter.all false
set_option maxRecDepth 100000
set_option maxHeartbeats 400000
namespace My
open PySem PySem.Spec L2 DL
open PyProof.Rows hiding St
abbrev K8 (k : Int) : Prop := 0 ≤ k ∧ k ≤ 100000000000000000000
theorem prod8 {a k : Int} (ha : In8 a) (hk : K8 k) : 0 ≤ a * k ∧ a * k ≤ 120000000000000000000000 := by
  refine ⟨Int.mul_nonneg ha.1 hk.1, ?_⟩
  have h := Int.mul_le_mul ha.2 hk.2 hk.1 (by decide : (0 : Int) ≤ 1200)
  omega
theorem does_mul {a b k : Int} {p q : Nat} {δ : DS} {M : MM} (hp : δ[p]? = some (some (loadD a b))) (hq : δ[q]? = some (some (.int k))) (ha : In8 a) (hb : In8 b) (hk : K8 k) : Does8 (a * k) (b * k) (wOpX (wMulO [(2, sLoad_mul)] [(2, sLoad_rmul)] wTimes) (wV p) (wV q)) δ M := fun Q EX h0 h1 =>
  opx_of (v_of hp (v_of hq ⟨sLoad_mul, rfl, mul_spec ha hb hk (prod8 ha hk).1 (prod8 hb hk).1 h0 h1⟩))
theorem does_rmul {a b k : Int} {p q : Nat} {δ : DS} {M : MM} (hp : δ[p]? = some (some (loadD a b))) (hq : δ[q]? = some (some (.int k))) (ha : In8 a) (hb : In8 b) (hk : K8 k) : Does8 (a * k) (b * k) (wOpX (wMulO [(2, sLoad_mul)] [(2, sLoad_rmul)] wTimes) (wV q) (wV p)) δ M := fun Q EX h0 h1 =>
  opx_of (v_of hq (v_of hp ⟨sLoad_rmul, rfl, rmul_spec ha hb hk (prod8 ha hk).1 (prod8 hb hk).1 h0 h1⟩))
theorem nego8 {a b : Int} {we : WE} {δ : DS} {M : MM} {K : D → MM → Prop} {EX : XK'} (hw : ∀ R : D → MM → Prop, R (loadD a b) M → we δ M R EX) (ha : In8 a) (hb : In8 b) (h : ∀ M', Kp [] M M' → K (loadD b a) M') : wNegO [(2, sLoad_neg)] we δ M K EX :=
  hw _ ⟨sLoad_neg, rfl, neg_spec8 ha hb h⟩
theorem does_neg {a b : Int} {p : Nat} {δ : DS} {M : MM} (hp : δ[p]? = some (some (loadD a b))) (ha : In8 a) (hb : In8 b) : Does8 b a (wNegO [(2, sLoad_neg)] (wV p)) δ M := fun Q EX h0 h1 =>
  nego8 (fun R h => v_of hp h) ha hb (h0 (by unfold In8 at *; omega))
theorem repr_pair {a b : Int} {M : MM} {Q : D → MM → Prop} (ha : In8 a) (hb : In8 b) (q : Q (.str (PyData.shown (.tuple ([a, b].map .int)))) M) : wRepr [.tup [.int a, .int b]] M Q :=
  at_repr (py_tup (ns := [a, b])) (sho_tuple (fun x hx => by
    simp only [List.mem_cons, List.mem_nil_iff, or_false] at hx
    unfold In8 at *
    rcases hx with rfl | rfl <;> omega) (by simp)) q
theorem one_right_spec {a b k : Int} {M : MM} {Q : D → MM → Prop} {EX : XD → MM → Prop} (ha : In8 a) (hb : In8 b) (hk : K8 k) (hQ : ∀ M', Kp [] M M' → Q (.bl true) M') : s_law_one_right [.tup [.int a, .int b], .int k] M Q EX := by
  have pa := prod8 ha hk
  have pb := prod8 hb hk
  refine ⟨rfl, ?_⟩
  unfold w_law_one_right
  refine seq_asg ?_
  refine tup_of ?_
  refine cons_of (mk_load (a := a) (b := b) ha hb (fun K h => jx0 rfl h) (fun K h => jx1 rfl h) fun M1 k1 => ?_)
  refine call_cons1 ?_
  refine call_of [.int (a * k), .int (b * k)] (fun R h => ?_) (due_spec ⟨sz8 2 (by decide), at_asg rfl ?_⟩)
  · exact cons_of (op_of (jx0 rfl (v_of (d := .int k) rfl (times_int (by unfold In8 at *; omega) (by omega) (call_cons1 (op_of (jx1 rfl (v_of (d := .int k) rfl (times_int (by unfold In8 at *; omega) (by omega) h)))))))))
  try dsimp only
  have bd : ∀ z ∈ [(a * k, b * k), (a * k, b * k)], (-(2 ^ 100) < z.1 ∧ z.1 < 2 ^ 100) ∧ -(2 ^ 100) < z.2 ∧ z.2 < 2 ^ 100 := fun z hz => by
    simp only [List.mem_cons, List.mem_nil_iff, or_false, or_self] at hz
    subst hz
    dsimp only
    omega
  refine seq_of ?_
  refine if_of ?_
  refine tst_of ?_
  refine op_of ?_
  refine b1_of ?_
  refine lst_of ?_
  refine cons_of ?_
  refine lam_told [.int k, loadD a b] rfl (x := a * k) (y := b * k) (does_mul rfl rfl ha hb hk) fun M3 k3 => ?_
  refine call_cons1 ?_
  refine lam_told [.int k, loadD a b] rfl (x := a * k) (y := b * k) (does_rmul rfl rfl ha hb hk) fun M4 k4 => ⟨sz8 2 (by decide), ?_⟩
  refine repr_dues (L := [(a * k, b * k), (a * k, b * k)]) bd (by simp) ?_
  refine b1_of ?_
  refine lst_of ?_
  refine cons_of (v_of (d := dueD (a * k) (b * k)) rfl ?_)
  refine call_cons1 (v_of (d := dueD (a * k) (b * k)) rfl ⟨sz8 2 (by decide), ?_⟩)
  refine repr_dues (L := [(a * k, b * k), (a * k, b * k)]) bd (by simp) ?_
  refine ne_str8 ⟨_, rfl, ifF rfl (next_of ?_)⟩
  try dsimp only
  refine seq_of ?_
  refine if_of ?_
  refine or_of ?_
  refine tst_of ?_
  refine op_of ?_
  refine b1_of ?_
  refine lam_told [loadD a b] rfl (x := b) (y := a) (does_neg rfl ha hb) fun M5 k5 => ?_
  rw [due_le hb ha]
  refine repr_pair hb ha ?_
  refine b1_of ?_
  show wV 0 _ _ _ _
  refine v_of (d := .tup [.int a, .int b]) rfl (at_revT ?_)
  refine repr_pair hb ha ?_
  refine ne_str8 ⟨_, rfl, ifF rfl ?_⟩
  refine not_of ?_
  refine tst_of ?_
  refine opx_of ?_
  show wNegO _ (wV 2) _ _ _ _
  refine nego8 (a := a) (b := b) (fun R h => v_of rfl h) ha hb fun M6 k6 => ?_
  refine ⟨sLoad_neg, rfl, neg_spec8 hb ha fun M7 k7 => ?_⟩
  refine v_of (d := loadD a b) rfl ⟨alIn [2], sLoad_eq, .own 2, rfl, rfl, rfl, load_eq ⟨_, rfl, ?_⟩⟩
  refine ifF (by simp) (next_of ?_)
  try dsimp only
  refine ret_of ?_
  refine op_of ?_
  refine b1_of ?_
  refine lst_of ?_
  refine cons_of (v_of (d := loadD a b) rfl (at_boolO (c := 2) rfl rfl (bool_spec ⟨_, rfl, ?_⟩)))
  refine cons_of ?_
  refine opx_of ?_
  refine v_of (d := loadD a b) rfl ?_
  refine mk_load (a := a) (b := b) ha hb (fun K h => jx0 rfl h) (fun K h => jx1 rfl h) fun M8 k8 => ?_
  refine ⟨alIn [2], sLoad_eq, .own 2, rfl, rfl, rfl, load_eq ?_⟩
  refine call_cons1 (neo8 rfl rfl ⟨sz8 3 (by decide), ?_⟩)
  rw [show decide (a = a ∧ b = b) = true from decide_eq_true ⟨rfl, rfl⟩]
  refine repr_bls (L := [decide (¬(a = 0 ∧ b = 0)), true, !true]) (by simp) ?_
  refine b1_of ?_
  refine lst_of ?_
  refine cons_of (op_of (v_of (d := .tup [.int a, .int b]) rfl (tup_of (cons_of (c_of (call_cons1 (c_of ⟨sz8 2 (by decide), ?_⟩)))))))
  refine ne_pair ?_
  refine cons_of (c_of ?_)
  refine call_cons1 (c_of ⟨sz8 3 (by decide), ?_⟩)
  rw [show (!decide (a = 0 ∧ b = 0)) = decide (¬(a = 0 ∧ b = 0)) by simp]
  refine repr_bls (L := [decide (¬(a = 0 ∧ b = 0)), true, false]) (by simp) ?_
  exact eq_str8 (hQ M8 (((((((k1.trans k3).trans k4).trans k5).trans k6).trans k7)).trans k8))
end My

set_option Elab.async false
set_option linter.all false
set_option maxRecDepth 100000
set_option maxHeartbeats 3000000
namespace My
open PySem PySem.Spec L2 DL
open PyProof.Rows hiding St
abbrev lw (ns : List Int) (m : Addr) (d2 d3 d4 d5 : Option D) : DS := [some (.frl (ns.map D.int)), some (.raw (.ref m)), d2, d3, d4, d5]
theorem nears8 {m g : Addr} {f : Nat} {δ : DS} {M : MM} {K : D → MM → Prop} {EX : XK'} (h1 : δ[1]? = some (some (.raw (.ref m)))) (dr : Dr m g (f + 6) M) (hK : ∀ x y M', In8 x → In8 y → Dr m g f M' → K (.tup [.int x, .int y]) M') : wTup (wCons (wCall s_law_near [] (wCons (wV 1) wNil)) (wCons (wCall s_law_near [] (wCons (wV 1) wNil)) wNil)) δ M K EX := by
  refine tup_of ?_
  refine cons_of ?_
  refine call_of [.raw (.ref m)] (fun R h => call_cons1 (v_of h1 h)) ?_
  refine near_spec (f := f + 3) dr fun x M1 hx dr1 k1 => ?_
  refine call_cons1 ?_
  refine call_of [.raw (.ref m)] (fun R h => call_cons1 (v_of h1 h)) ?_
  exact near_spec (f := f) dr1 fun y M2 hy dr2 k2 => ⟨sz8 2 (by decide), hK x y M2 hx hy dr2⟩
theorem eq8 {i j : Int} {M : MM} {Q : D → MM → Prop} (h : Q (.bl (decide (i = j))) M) : wEq2 (.int i) (.int j) M Q := h
theorem set8 {i : Nat} {wa : WE} {E : ED} {EX : XK'} {δ : DS} {M : MM} (h : wa δ M (fun a M1 => E.nx (δ.set i (some a)) M1) EX) : wSet i wa E EX δ M := h
theorem rest8 {ns : List Int} {m g : Addr} {F : Nat} {a b c d : Int} {d2 d3' : Option D} {M3 : MM} {E : ED} {EX : XK'} (ha : In8 a) (hb : In8 b) (hc : In8 c) (hd : In8 d) (dr3 : Dr m g (F + 20) M3)
    (hnx : ∀ (d3 : Option D) M', Dr m g F M' → E.nx (lw ns m d2 d3 (some (.tup [.int a, .int b])) (some (.tup [.int c, .int d]))) M') :
        wSeq (wSet 3 (wCall s_law_pick [] (wCons (wV 1) (wCons (wLst (wCons (wC (.int 0)) (wCons (wC (.int 1)) (wCons (wC (.int 2)) (wCons (wC (.int 3)) (wCons (wCall s_law_draw [] (wCons (wV 1) (wCons (wC (.int 40)) wNil))) (wCons (wC (.int 1200)) (wCons (wC (.int 1201)) (wCons (wOp wPow (wC (.int 10)) (wC (.int 20))) wNil))))))))) wNil))))
          (wIfS (wOrT (wNotT (wTst (wCall s_law_two_right [] (wCons (wV 4) (wCons (wV 5) wNil))))) (wNotT (wTst (wCall s_law_one_right [] (wCons (wV 4) (wCons (wV 3) wNil)))))) (wRet (wC (.bl false))) wNext) E EX (lw ns m d2 d3' (some (.tup [.int a, .int b])) (some (.tup [.int c, .int d]))) M3 := by
  refine seq_set ?_
  refine cons_of (v_of (d := .raw (.ref m)) rfl ?_)
  refine call_cons1 (lst_of ?_)
  refine cons_of (c_of ?_)
  refine cons_of (c_of ?_)
  refine cons_of (c_of ?_)
  refine cons_of (c_of ?_)
  refine cons_of ?_
  refine call_of [.raw (.ref m), .int 40] (fun R h => cons_of (v_of rfl (call_cons1 (c_of h)))) ?_
  refine draw_spec (f := F + 19) dr3 (by decide) fun r M4 r0 r1 dr4 sm4 => ?_
  refine cons_of (c_of ?_)
  refine cons_of (c_of ?_)
  refine call_cons1 (op_of (c_of (c_of ⟨by unfold CPow; decide, ?_⟩)))
  refine ⟨sz8 8 (by decide), ?_⟩
  show s_law_pick [.raw (.ref m), .lst ([0, 1, 2, 3, r, 1200, 1201, 100000000000000000000].map D.int)] M4 _ _
  refine pick8 (f := F + 18) (xs := [0, 1, 2, 3, r, 1200, 1201, 100000000000000000000]) ⟨by simp, by simp⟩ dr4 fun t ht M5 dr5 k5 => ?_
  have kt : K8 t := by
    simp only [List.mem_cons, List.mem_nil_iff, or_false] at ht
    unfold K8
    omega
  refine if_of ?_
  refine or_of ?_
  refine not_of ?_
  refine tst_of ?_
  refine call_of [.tup [.int a, .int b], .tup [.int c, .int d]] (fun R h => cons_of (v_of rfl (call_cons1 (v_of rfl h)))) ?_
  refine two_right_spec ha hb hc hd fun M6 k6 => ⟨_, rfl, ifF rfl ?_⟩
  refine not_of ?_
  refine tst_of ?_
  refine call_of [.tup [.int a, .int b], .int t] (fun R h => cons_of (v_of rfl (call_cons1 (v_of rfl h)))) ?_
  refine one_right_spec ha hb kt fun M7 k7 => ⟨_, rfl, ifF rfl (next_of ?_)⟩
  exact hnx _ _ (((dr5.kp k6 sep_nil).kp k7 sep_nil).le (by omega))
theorem law_spec (ns : List Int) (hl : ns.length ≤ 63) : slaw [.frl (ns.map D.int)] (fun _ => none) (fun d _ => d = .bl true) fun _ _ => False := by
  refine ⟨rfl, ?_⟩
  unfold wlaw
  refine seq_set (call_of [.frl (ns.map D.int)] (fun R h => h) (begun_spec hl fun m g M dr hm hg k => ?_))
  refine seq_of ?_
  refine if_of ?_
  refine tst_of ?_
  refine op_of ?_
  refine b1_of ?_
  refine c_of ?_
  refine at_repr py_int (sho_int (by omega)) ?_
  refine c_of ?_
  rw [show PyData.shown (.int 1200) = ("1200" : Str) by decide +kernel]
  refine ne_str8 ⟨_, rfl, ifF rfl (next_of ?_)⟩
  try dsimp only
  refine seq_of (for_r1 (by decide) ?_)
  refine loop_inv (fun i δ M' => ∃ d2 d3 d4 d5 : Option D, δ = lw ns m d2 d3 d4 d5 ∧ Dr m g (3000 - 100 * i) M' ∧ i ≤ 8) ⟨none, none, none, none, rfl, dr.le (by decide), by decide⟩ (fun _ _ _ _ => True.intro) ?_ ?_
  · rintro i d δ M' hi ⟨d2, d3, d4, d5, rfl, dr', hi5⟩
    have hi1 : i < 8 := (List.getElem?_eq_some_iff.mp hi).1
    refine ⟨_, rfl, fun nx hnx => ?_⟩
    obtain ⟨F, eF⟩ : ∃ F, F = 3000 - 100 * (i + 1) := ⟨_, rfl⟩
    refine seq_par ?_
    refine nears8 (f := F + 60) rfl (dr'.le (by omega)) fun a b M1 ha hb dr1 => ?_
    refine nears8 (f := F + 50) rfl (dr1.le (by omega)) fun c d M2 hc hd dr2 => ?_
    refine seq_of ?_
    refine if_of ?_
    refine tst_of ?_
    refine op_of ?_
    refine call_of [.raw (.ref m), .int 3] (fun R h => cons_of (v_of rfl (call_cons1 (c_of h)))) ?_
    refine draw_spec (f := F + 49) dr2 (by decide) fun r M3 r0 r1 dr3 sm3 => ?_
    refine c_of (eq8 ⟨_, rfl, ?_⟩)
    by_cases hr : r = 0
    · refine ifT (decide_eq_true hr) ?_
      refine seq_set ?_
      refine tup_of ?_
      refine cons_of ?_
      refine op_of (op_of (c_of (jx0 rfl (sub_int ?_))))
      refine call_of [.raw (.ref m), .int 2] (fun R h => cons_of (v_of rfl (call_cons1 (c_of h)))) ?_
      refine draw_spec (f := F + 48) dr3 (by decide) fun q M4 q0 q1 dr4 sm4 => plus_int ?_
      refine call_cons1 ?_
      show wCons _ _ _ _ _ _
      refine cons_of (c_of ?_)
      refine call_cons1 (op_of (op_of (c_of (jx1 rfl (sub_int ?_)))))
      refine call_of [.raw (.ref m), .int 2] (fun R h => cons_of (v_of rfl (call_cons1 (c_of h)))) ?_
      refine draw_spec (f := F + 47) dr4 (by decide) fun t M5 t0 t1 dr5 sm5 => sub_int ?_
      refine at_max2 ⟨sz8 2 (by decide), ?_⟩
      refine set8 ?_
      refine tup_of ?_
      refine cons_of ?_
      show wCons _ _ _ _ _ _
      refine cons_of (c_of (call_cons1 (jx0 rfl (min2_8 ?_))))
      refine call_cons1 (jx1 rfl ⟨sz8 2 (by decide), ?_⟩)
      exact rest8 (c := min 1200 (1200 - a + q)) (d := max 0 (1200 - b - t)) (F := F) ha hb (by unfold In8 at *; omega) (by unfold In8 at *; omega) (dr5.le (by omega)) (fun d3 M9 dr9 => hnx _ _ ⟨_, _, _, _, rfl, eF ▸ dr9, hi1⟩)
    · refine ifF (decide_eq_false hr) (next_of ?_)
      exact rest8 (c := c) (d := d) (F := F) ha hb hc hd (dr3.le (by omega)) (fun d3 M9 dr9 => hnx _ _ ⟨_, _, _, _, rfl, eF ▸ dr9, hi1⟩)
  · rintro δ M' ⟨d2, d3, d4, d5, rfl, dr', hi5⟩
    try dsimp only
    exact ret_of (c_of rfl)
end My

set_option Elab.async false
set_option linter.all false
set_option maxRecDepth 100000
set_option maxHeartbeats 4000000
namespace My
open PySem PySem.Spec L2 DL
open PyProof.Rows hiding St
theorem all_mk {P : Program} {w : World} {K : PySem.W.Frag} {h : Heap} {mg : Str → Option Value} {C_SweepError : Addr} {C_InvalidLoad : Addr} {C_LimitExceeded : Addr} {C_Load : Addr} {tk_Load_MOST : Tok} {f__law_folded : Addr} {od__law_folded an__law_folded : Option Addr} {sl__law_folded : Array (Option Value)} {oc__law_folded dc__law_folded pm__law_folded cd__law_folded ct__law_folded : Value} {kV__law_folded : Value} {f__law_begun : Addr} {od__law_begun an__law_begun : Option Addr} {sl__law_begun : Array (Option Value)} {oc__law_begun dc__law_begun pm__law_begun cd__law_begun ct__law_begun : Value} {kV__law_begun : Value} {f__law_mixed : Addr} {od__law_mixed an__law_mixed : Option Addr} {sl__law_mixed : Array (Option Value)} {oc__law_mixed dc__law_mixed pm__law_mixed cd__law_mixed ct__law_mixed : Value} {kV__law_mixed : Value} {f__law_draw : Addr} {od__law_draw an__law_draw : Option Addr} {sl__law_draw : Array (Option Value)} {oc__law_draw dc__law_draw pm__law_draw cd__law_draw ct__law_draw : Value} {kV__law_draw : Value} {f__law_pick : Addr} {od__law_pick an__law_pick : Option Addr} {sl__law_pick : Array (Option Value)} {oc__law_pick dc__law_pick pm__law_pick cd__law_pick ct__law_pick : Value} {kV__law_pick : Value} {f__law_near : Addr} {od__law_near an__law_near : Option Addr} {sl__law_near : Array (Option Value)} {oc__law_near dc__law_near pm__law_near cd__law_near ct__law_near : Value} {kV__law_near : Value} {f_Load_bool : Addr} {od_Load_bool an_Load_bool : Option Addr} {sl_Load_bool : Array (Option Value)} {oc_Load_bool dc_Load_bool pm_Load_bool cd_Load_bool ct_Load_bool : Value} {kV_Load_bool : Value} {f_Load_eq : Addr} {od_Load_eq an_Load_eq : Option Addr} {sl_Load_eq : Array (Option Value)} {oc_Load_eq dc_Load_eq pm_Load_eq cd_Load_eq ct_Load_eq : Value} {kV_Load_eq : Value} {f_InvalidLoad_init : Addr} {od_InvalidLoad_init an_InvalidLoad_init : Option Addr} {sl_InvalidLoad_init : Array (Option Value)} {oc_InvalidLoad_init dc_InvalidLoad_init pm_InvalidLoad_init cd_InvalidLoad_init ct_InvalidLoad_init : Value} {kV_InvalidLoad_init : Value} {f_is_integer : Addr} {od_is_integer an_is_integer : Option Addr} {sl_is_integer : Array (Option Value)} {oc_is_integer dc_is_integer pm_is_integer cd_is_integer ct_is_integer : Value} {kV_is_integer : Value} {f_is_integer_within : Addr} {od_is_integer_within an_is_integer_within : Option Addr} {sl_is_integer_within : Array (Option Value)} {oc_is_integer_within dc_is_integer_within pm_is_integer_within cd_is_integer_within ct_is_integer_within : Value} {kV_is_integer_within : Value} {f_Load_init : Addr} {od_Load_init an_Load_init : Option Addr} {sl_Load_init : Array (Option Value)} {oc_Load_init dc_Load_init pm_Load_init cd_Load_init ct_Load_init : Value} {kV_Load_init : Value} {f_LimitExceeded_init : Addr} {od_LimitExceeded_init an_LimitExceeded_init : Option Addr} {sl_LimitExceeded_init : Array (Option Value)} {oc_LimitExceeded_init dc_LimitExceeded_init pm_LimitExceeded_init cd_LimitExceeded_init ct_LimitExceeded_init : Value} {kV_LimitExceeded_init : Value} {f_load_within_limit : Addr} {od_load_within_limit an_load_within_limit : Option Addr} {sl_load_within_limit : Array (Option Value)} {oc_load_within_limit dc_load_within_limit pm_load_within_limit cd_load_within_limit ct_load_within_limit : Value} {kV_load_within_limit : Value} {f_Load_mul : Addr} {od_Load_mul an_Load_mul : Option Addr} {sl_Load_mul : Array (Option Value)} {oc_Load_mul dc_Load_mul pm_Load_mul cd_Load_mul ct_Load_mul : Value} {kV_Load_mul : Value} {f_Load_neg : Addr} {od_Load_neg an_Load_neg : Option Addr} {sl_Load_neg : Array (Option Value)} {oc_Load_neg dc_Load_neg pm_Load_neg cd_Load_neg ct_Load_neg : Value} {kV_Load_neg : Value} {f_Load_rmul : Addr} {od_Load_rmul an_Load_rmul : Option Addr} {sl_Load_rmul : Array (Option Value)} {oc_Load_rmul dc_Load_rmul pm_Load_rmul cd_Load_rmul ct_Load_rmul : Value} {kV_Load_rmul : Value} {f__law_due : Addr} {od__law_due an__law_due : Option Addr} {sl__law_due : Array (Option Value)} {oc__law_due dc__law_due pm__law_due cd__law_due ct__law_due : Value} {kV__law_due : Value} {f_Load_backward : Addr} {od_Load_backward an_Load_backward : Option Addr} {sl_Load_backward : Array (Option Value)} {oc_Load_backward dc_Load_backward pm_Load_backward cd_Load_backward ct_Load_backward : Value} {kV_Load_backward : Value} {p_Load_backward : Addr} {r_Load_backward : List Value} {f_Load_forward : Addr} {od_Load_forward an_Load_forward : Option Addr} {sl_Load_forward : Array (Option Value)} {oc_Load_forward dc_Load_forward pm_Load_forward cd_Load_forward ct_Load_forward : Value} {kV_Load_forward : Value} {p_Load_forward : Addr} {r_Load_forward : List Value} {f__law_told : Addr} {od__law_told an__law_told : Option Addr} {sl__law_told : Array (Option Value)} {oc__law_told dc__law_told pm__law_told cd__law_told ct__law_told : Value} {kV__law_told : Value} {f__law_one_right : Addr} {od__law_one_right an__law_one_right : Option Addr} {sl__law_one_right : Array (Option Value)} {oc__law_one_right dc__law_one_right pm__law_one_right cd__law_one_right ct__law_one_right : Value} {kV__law_one_right : Value} {cL__law_one_right P__law_one_right : Addr} {f__require_load : Addr} {od__require_load an__require_load : Option Addr} {sl__require_load : Array (Option Value)} {oc__require_load dc__require_load pm__require_load cd__require_load ct__require_load : Value} {kV__require_load : Value} {f_Load_add : Addr} {od_Load_add an_Load_add : Option Addr} {sl_Load_add : Array (Option Value)} {oc_Load_add dc_Load_add pm_Load_add cd_Load_add ct_Load_add : Value} {kV_Load_add : Value} {f_Load_and : Addr} {od_Load_and an_Load_and : Option Addr} {sl_Load_and : Array (Option Value)} {oc_Load_and dc_Load_and pm_Load_and cd_Load_and ct_Load_and : Value} {kV_Load_and : Value} {f_Load_covers : Addr} {od_Load_covers an_Load_covers : Option Addr} {sl_Load_covers : Array (Option Value)} {oc_Load_covers dc_Load_covers pm_Load_covers cd_Load_covers ct_Load_covers : Value} {kV_Load_covers : Value} {f_Load_or : Addr} {od_Load_or an_Load_or : Option Addr} {sl_Load_or : Array (Option Value)} {oc_Load_or dc_Load_or pm_Load_or cd_Load_or ct_Load_or : Value} {kV_Load_or : Value} {f__law_two_right : Addr} {od__law_two_right an__law_two_right : Option Addr} {sl__law_two_right : Array (Option Value)} {oc__law_two_right dc__law_two_right pm__law_two_right cd__law_two_right ct__law_two_right : Value} {kV__law_two_right : Value} {cL__law_two_right P__law_two_right : Addr} {f_law : Addr} {od_law an_law : Option Addr} {sl_law : Array (Option Value)} {oc_law dc_law pm_law cd_law ct_law : Value} {kV_law : Value} (X : K.In h) (N : h.Ns mainGlobals mg)
    (aC_SweepError : PySem.W.nsIn K mainGlobals "SweepError" = some (some (.ref C_SweepError)))
    (aC_InvalidLoad : PySem.W.nsIn K mainGlobals "InvalidLoad" = some (some (.ref C_InvalidLoad)))
    (ya_InvalidLoad : oexB K C_InvalidLoad = true)
    (yb_InvalidLoad : PySem.W.findIn K (.ref C_InvalidLoad) "__setattr__" = some (some (.builtin "object.__setattr__")))
    (yc_InvalidLoad : PySem.W.subIn K (.ref C_InvalidLoad) (.type "BaseException") = some true)
    (yd_InvalidLoad : PySem.W.typeIn K (.ref C_InvalidLoad) = some (.type "type"))
    (ye_InvalidLoad : PySem.W.keepIn K (.ref C_InvalidLoad) = true)
    (yf_InvalidLoad : xfB K C_InvalidLoad = true)
    (yg_InvalidLoad : (PySem.W.clsIn K C_InvalidLoad).isSome = true)
    (yh_InvalidLoad : PySem.W.findIn K (.ref C_InvalidLoad) "__class__" = some (some (.builtin "object.__class__")))
    (yi_InvalidLoad : PySem.W.mroIn K C_InvalidLoad (.type "object") = some true)
    (yxm_InvalidLoad_SweepError : PySem.W.exmOne K (.ref C_InvalidLoad) (.ref C_SweepError) = some true)
    (ykx_InvalidLoad_LimitExceeded : PySem.W.kitOne K (.ref C_InvalidLoad) (.ref C_LimitExceeded) = some false)
    (aC_LimitExceeded : PySem.W.nsIn K mainGlobals "LimitExceeded" = some (some (.ref C_LimitExceeded)))
    (ya_LimitExceeded : oexB K C_LimitExceeded = true)
    (yb_LimitExceeded : PySem.W.findIn K (.ref C_LimitExceeded) "__setattr__" = some (some (.builtin "object.__setattr__")))
    (yc_LimitExceeded : PySem.W.subIn K (.ref C_LimitExceeded) (.type "BaseException") = some true)
    (yd_LimitExceeded : PySem.W.typeIn K (.ref C_LimitExceeded) = some (.type "type"))
    (ye_LimitExceeded : PySem.W.keepIn K (.ref C_LimitExceeded) = true)
    (yf_LimitExceeded : xfB K C_LimitExceeded = true)
    (yg_LimitExceeded : (PySem.W.clsIn K C_LimitExceeded).isSome = true)
    (yh_LimitExceeded : PySem.W.findIn K (.ref C_LimitExceeded) "__class__" = some (some (.builtin "object.__class__")))
    (yi_LimitExceeded : PySem.W.mroIn K C_LimitExceeded (.type "object") = some true)
    (n_LimitExceeded_limit : PySem.W.findIn K (.ref C_LimitExceeded) "limit" = some none)
    (yxm_LimitExceeded_SweepError : PySem.W.exmOne K (.ref C_LimitExceeded) (.ref C_SweepError) = some true)
    (ykx_LimitExceeded_LimitExceeded : PySem.W.kitOne K (.ref C_LimitExceeded) (.ref C_LimitExceeded) = some true)
    (aC_Load : PySem.W.nsIn K mainGlobals "Load" = some (some (.ref C_Load)))
    (pg_Load : PySem.W.plainGet K C_Load Str.empty = true)
    (hd_Load : PySem.W.hasDictIn K C_Load = true)
    (po_Load : PySem.W.plainOver K C_Load = true)
    (sa_Load : PySem.W.findIn K (.ref C_Load) "__setattr__" = some (some (.builtin "object.__setattr__")))
    (n_Load__forward : PySem.W.findIn K (.ref C_Load) "_forward" = some none)
    (n_Load__backward : PySem.W.findIn K (.ref C_Load) "_backward" = some none)
    (ysf_Load : PySem.W.selfFirst K C_Load = true)
    (yone_Load : PySem.W.findIn K (.ref C_Load) "__ne__" = some (some (.builtin "object.__ne__")))
    (ymo_Load : PySem.W.mroIn K C_Load (.type "object") = some true)
    (ykb_Load : noBlt K (.ref C_Load) = true)
    (yca_Load : PySem.W.findIn K (.ref C_Load) "__class__" = some (some (.builtin "object.__class__")))
    (ynf_Load_Load : PySem.W.notFirst K C_Load (.ref C_Load) = true)
    (yki_Load_Load : PySem.W.kitOne K (.ref C_Load) (.ref C_Load) = some true)
    (ykt_Load_int : PySem.W.kitOne K (.ref C_Load) (.type "int") = some false)
    (ykt_Load_bool : PySem.W.kitOne K (.ref C_Load) (.type "bool") = some false)
    (rd_Load : PySem.W.readsIn K C_Load (.type "type") = true)
    (ga_Load : PySem.W.specialIn K (.ref C_Load) "__getattribute__" = some (some (.builtin "type.__getattribute__")))
    (cv_Load_MOST : PySem.W.findCls K (.ref C_Load) (.type "type") "MOST" = some (.val (.int 1200 tk_Load_MOST)))
    (z_bool : PySem.W.nsIn K mainGlobals "bool" = some none)
    (z_enumerate : PySem.W.nsIn K mainGlobals "enumerate" = some none)
    (z_int : PySem.W.nsIn K mainGlobals "int" = some none)
    (z_isinstance : PySem.W.nsIn K mainGlobals "isinstance" = some none)
    (z_len : PySem.W.nsIn K mainGlobals "len" = some none)
    (z_list : PySem.W.nsIn K mainGlobals "list" = some none)
    (z_max : PySem.W.nsIn K mainGlobals "max" = some none)
    (z_min : PySem.W.nsIn K mainGlobals "min" = some none)
    (z_range : PySem.W.nsIn K mainGlobals "range" = some none)
    (z_repr : PySem.W.nsIn K mainGlobals "repr" = some none)
    (ymi1 : PySem.W.findIn K (.type "int") "__mul__" = some (some (.builtin "int.__mul__")))
    (ymi2 : PySem.W.findIn K (.type "int") "__rmul__" = some (some (.builtin "int.__rmul__")))
    (ymi3_Load : PySem.W.subIn K (.type "int") (.ref C_Load) = some false)
    (ymi4_Load : PySem.W.subIn K (.ref C_Load) (.type "int") = some false)
    (ycg1 : PySem.W.specialIn K (.builtin "object.__class__") "__get__" = some (some (.builtin "getset_descriptor.__get__")))
    (ycg2 : PySem.W.takesIn K (.builtin "object.__class__") = some true)
    (a__law_folded : PySem.W.nsIn K mainGlobals "_law_folded" = some (some (.ref f__law_folded)))
    (l__law_folded : K.lookup f__law_folded = some ⟨oc__law_folded, od__law_folded, .func (PySem.W.fnOf "_law_folded" "_law_folded" (defArgs (tp 13)) (defBody (tp 13)) (defScope (tp 13)) .none kV__law_folded dc__law_folded pm__law_folded an__law_folded cd__law_folded ct__law_folded), sl__law_folded⟩)
    (c__law_folded : PySem.W.codeIn K cd__law_folded "_law_folded" = true)
    (k__law_folded : PySem.W.keepIn K (.ref f__law_folded) = true)
    (a__law_begun : PySem.W.nsIn K mainGlobals "_law_begun" = some (some (.ref f__law_begun)))
    (l__law_begun : K.lookup f__law_begun = some ⟨oc__law_begun, od__law_begun, .func (PySem.W.fnOf "_law_begun" "_law_begun" (defArgs (tp 15)) (defBody (tp 15)) (defScope (tp 15)) .none kV__law_begun dc__law_begun pm__law_begun an__law_begun cd__law_begun ct__law_begun), sl__law_begun⟩)
    (c__law_begun : PySem.W.codeIn K cd__law_begun "_law_begun" = true)
    (k__law_begun : PySem.W.keepIn K (.ref f__law_begun) = true)
    (a__law_mixed : PySem.W.nsIn K mainGlobals "_law_mixed" = some (some (.ref f__law_mixed)))
    (l__law_mixed : K.lookup f__law_mixed = some ⟨oc__law_mixed, od__law_mixed, .func (PySem.W.fnOf "_law_mixed" "_law_mixed" (defArgs (tp 12)) (defBody (tp 12)) (defScope (tp 12)) .none kV__law_mixed dc__law_mixed pm__law_mixed an__law_mixed cd__law_mixed ct__law_mixed), sl__law_mixed⟩)
    (c__law_mixed : PySem.W.codeIn K cd__law_mixed "_law_mixed" = true)
    (k__law_mixed : PySem.W.keepIn K (.ref f__law_mixed) = true)
    (a__law_draw : PySem.W.nsIn K mainGlobals "_law_draw" = some (some (.ref f__law_draw)))
    (l__law_draw : K.lookup f__law_draw = some ⟨oc__law_draw, od__law_draw, .func (PySem.W.fnOf "_law_draw" "_law_draw" (defArgs (tp 14)) (defBody (tp 14)) (defScope (tp 14)) .none kV__law_draw dc__law_draw pm__law_draw an__law_draw cd__law_draw ct__law_draw), sl__law_draw⟩)
    (c__law_draw : PySem.W.codeIn K cd__law_draw "_law_draw" = true)
    (k__law_draw : PySem.W.keepIn K (.ref f__law_draw) = true)
    (a__law_pick : PySem.W.nsIn K mainGlobals "_law_pick" = some (some (.ref f__law_pick)))
    (l__law_pick : K.lookup f__law_pick = some ⟨oc__law_pick, od__law_pick, .func (PySem.W.fnOf "_law_pick" "_law_pick" (defArgs (tp 16)) (defBody (tp 16)) (defScope (tp 16)) .none kV__law_pick dc__law_pick pm__law_pick an__law_pick cd__law_pick ct__law_pick), sl__law_pick⟩)
    (c__law_pick : PySem.W.codeIn K cd__law_pick "_law_pick" = true)
    (k__law_pick : PySem.W.keepIn K (.ref f__law_pick) = true)
    (a__law_near : PySem.W.nsIn K mainGlobals "_law_near" = some (some (.ref f__law_near)))
    (l__law_near : K.lookup f__law_near = some ⟨oc__law_near, od__law_near, .func (PySem.W.fnOf "_law_near" "_law_near" (defArgs (tp 17)) (defBody (tp 17)) (defScope (tp 17)) .none kV__law_near dc__law_near pm__law_near an__law_near cd__law_near ct__law_near), sl__law_near⟩)
    (c__law_near : PySem.W.codeIn K cd__law_near "_law_near" = true)
    (k__law_near : PySem.W.keepIn K (.ref f__law_near) = true)
    (a_Load_bool : PySem.W.findIn K (.ref C_Load) "__bool__" = some (some (.ref f_Load_bool)))
    (i_Load_bool : PySem.W.isFn K (.ref f_Load_bool) = true)
    (l_Load_bool : K.lookup f_Load_bool = some ⟨oc_Load_bool, od_Load_bool, .func (PySem.W.fnOf "__bool__" "Load.__bool__" (defArgs (cb (tp 8) 6)) (defBody (cb (tp 8) 6)) (defScope (cb (tp 8) 6)) .none kV_Load_bool dc_Load_bool pm_Load_bool an_Load_bool cd_Load_bool ct_Load_bool), sl_Load_bool⟩)
    (c_Load_bool : PySem.W.codeIn K cd_Load_bool "Load.__bool__" = true)
    (k_Load_bool : PySem.W.keepIn K (.ref f_Load_bool) = true)
    (a_Load_eq : PySem.W.findIn K (.ref C_Load) "__eq__" = some (some (.ref f_Load_eq)))
    (i_Load_eq : PySem.W.isFn K (.ref f_Load_eq) = true)
    (l_Load_eq : K.lookup f_Load_eq = some ⟨oc_Load_eq, od_Load_eq, .func (PySem.W.fnOf "__eq__" "Load.__eq__" (defArgs (cb (tp 8) 5)) (defBody (cb (tp 8) 5)) (defScope (cb (tp 8) 5)) .none kV_Load_eq dc_Load_eq pm_Load_eq an_Load_eq cd_Load_eq ct_Load_eq), sl_Load_eq⟩)
    (c_Load_eq : PySem.W.codeIn K cd_Load_eq "Load.__eq__" = true)
    (k_Load_eq : PySem.W.keepIn K (.ref f_Load_eq) = true)
    (a_InvalidLoad_init : PySem.W.findIn K (.ref C_InvalidLoad) "__init__" = some (some (.ref f_InvalidLoad_init)))
    (i_InvalidLoad_init : PySem.W.isFn K (.ref f_InvalidLoad_init) = true)
    (l_InvalidLoad_init : K.lookup f_InvalidLoad_init = some ⟨oc_InvalidLoad_init, od_InvalidLoad_init, .func (PySem.W.fnOf "__init__" "InvalidLoad.__init__" (defArgs (cb (tp 5) 0)) (defBody (cb (tp 5) 0)) (defScope (cb (tp 5) 0)) .none kV_InvalidLoad_init dc_InvalidLoad_init pm_InvalidLoad_init an_InvalidLoad_init cd_InvalidLoad_init ct_InvalidLoad_init), sl_InvalidLoad_init⟩)
    (c_InvalidLoad_init : PySem.W.codeIn K cd_InvalidLoad_init "InvalidLoad.__init__" = true)
    (k_InvalidLoad_init : PySem.W.keepIn K (.ref f_InvalidLoad_init) = true)
    (ty_InvalidLoad_init : PySem.W.typeIn K (.ref f_InvalidLoad_init) = some (.type "function"))
    (n_InvalidLoad_value : PySem.W.findIn K (.ref C_InvalidLoad) "value" = some none)
    (a_is_integer : PySem.W.nsIn K mainGlobals "is_integer" = some (some (.ref f_is_integer)))
    (l_is_integer : K.lookup f_is_integer = some ⟨oc_is_integer, od_is_integer, .func (PySem.W.fnOf "is_integer" "is_integer" (defArgs (tp 1)) (defBody (tp 1)) (defScope (tp 1)) .none kV_is_integer dc_is_integer pm_is_integer an_is_integer cd_is_integer ct_is_integer), sl_is_integer⟩)
    (c_is_integer : PySem.W.codeIn K cd_is_integer "is_integer" = true)
    (k_is_integer : PySem.W.keepIn K (.ref f_is_integer) = true)
    (a_is_integer_within : PySem.W.nsIn K mainGlobals "is_integer_within" = some (some (.ref f_is_integer_within)))
    (l_is_integer_within : K.lookup f_is_integer_within = some ⟨oc_is_integer_within, od_is_integer_within, .func (PySem.W.fnOf "is_integer_within" "is_integer_within" (defArgs (tp 2)) (defBody (tp 2)) (defScope (tp 2)) .none kV_is_integer_within dc_is_integer_within pm_is_integer_within an_is_integer_within cd_is_integer_within ct_is_integer_within), sl_is_integer_within⟩)
    (c_is_integer_within : PySem.W.codeIn K cd_is_integer_within "is_integer_within" = true)
    (k_is_integer_within : PySem.W.keepIn K (.ref f_is_integer_within) = true)
    (a_Load_init : PySem.W.findIn K (.ref C_Load) "__init__" = some (some (.ref f_Load_init)))
    (i_Load_init : PySem.W.isFn K (.ref f_Load_init) = true)
    (l_Load_init : K.lookup f_Load_init = some ⟨oc_Load_init, od_Load_init, .func (PySem.W.fnOf "__init__" "Load.__init__" (defArgs (cb (tp 8) 1)) (defBody (cb (tp 8) 1)) (defScope (cb (tp 8) 1)) .none kV_Load_init dc_Load_init pm_Load_init an_Load_init cd_Load_init ct_Load_init), sl_Load_init⟩)
    (c_Load_init : PySem.W.codeIn K cd_Load_init "Load.__init__" = true)
    (k_Load_init : PySem.W.keepIn K (.ref f_Load_init) = true)
    (mk_Load_init : PySem.W.makesIn K C_Load = true)
    (kc_Load_init : PySem.W.keepIn K (.ref C_Load) = true)
    (a_LimitExceeded_init : PySem.W.findIn K (.ref C_LimitExceeded) "__init__" = some (some (.ref f_LimitExceeded_init)))
    (i_LimitExceeded_init : PySem.W.isFn K (.ref f_LimitExceeded_init) = true)
    (l_LimitExceeded_init : K.lookup f_LimitExceeded_init = some ⟨oc_LimitExceeded_init, od_LimitExceeded_init, .func (PySem.W.fnOf "__init__" "LimitExceeded.__init__" (defArgs (cb (tp 6) 0)) (defBody (cb (tp 6) 0)) (defScope (cb (tp 6) 0)) .none kV_LimitExceeded_init dc_LimitExceeded_init pm_LimitExceeded_init an_LimitExceeded_init cd_LimitExceeded_init ct_LimitExceeded_init), sl_LimitExceeded_init⟩)
    (c_LimitExceeded_init : PySem.W.codeIn K cd_LimitExceeded_init "LimitExceeded.__init__" = true)
    (k_LimitExceeded_init : PySem.W.keepIn K (.ref f_LimitExceeded_init) = true)
    (ty_LimitExceeded_init : PySem.W.typeIn K (.ref f_LimitExceeded_init) = some (.type "function"))
    (a_load_within_limit : PySem.W.nsIn K mainGlobals "load_within_limit" = some (some (.ref f_load_within_limit)))
    (l_load_within_limit : K.lookup f_load_within_limit = some ⟨oc_load_within_limit, od_load_within_limit, .func (PySem.W.fnOf "load_within_limit" "load_within_limit" (defArgs (tp 9)) (defBody (tp 9)) (defScope (tp 9)) .none kV_load_within_limit dc_load_within_limit pm_load_within_limit an_load_within_limit cd_load_within_limit ct_load_within_limit), sl_load_within_limit⟩)
    (c_load_within_limit : PySem.W.codeIn K cd_load_within_limit "load_within_limit" = true)
    (k_load_within_limit : PySem.W.keepIn K (.ref f_load_within_limit) = true)
    (a_Load_mul : PySem.W.findIn K (.ref C_Load) "__mul__" = some (some (.ref f_Load_mul)))
    (i_Load_mul : PySem.W.isFn K (.ref f_Load_mul) = true)
    (l_Load_mul : K.lookup f_Load_mul = some ⟨oc_Load_mul, od_Load_mul, .func (PySem.W.fnOf "__mul__" "Load.__mul__" (defArgs (cb (tp 8) 9)) (defBody (cb (tp 8) 9)) (defScope (cb (tp 8) 9)) .none kV_Load_mul dc_Load_mul pm_Load_mul an_Load_mul cd_Load_mul ct_Load_mul), sl_Load_mul⟩)
    (c_Load_mul : PySem.W.codeIn K cd_Load_mul "Load.__mul__" = true)
    (k_Load_mul : PySem.W.keepIn K (.ref f_Load_mul) = true)
    (a_Load_neg : PySem.W.findIn K (.ref C_Load) "__neg__" = some (some (.ref f_Load_neg)))
    (i_Load_neg : PySem.W.isFn K (.ref f_Load_neg) = true)
    (l_Load_neg : K.lookup f_Load_neg = some ⟨oc_Load_neg, od_Load_neg, .func (PySem.W.fnOf "__neg__" "Load.__neg__" (defArgs (cb (tp 8) 7)) (defBody (cb (tp 8) 7)) (defScope (cb (tp 8) 7)) .none kV_Load_neg dc_Load_neg pm_Load_neg an_Load_neg cd_Load_neg ct_Load_neg), sl_Load_neg⟩)
    (c_Load_neg : PySem.W.codeIn K cd_Load_neg "Load.__neg__" = true)
    (k_Load_neg : PySem.W.keepIn K (.ref f_Load_neg) = true)
    (a_Load_rmul : PySem.W.findIn K (.ref C_Load) "__rmul__" = some (some (.ref f_Load_rmul)))
    (i_Load_rmul : PySem.W.isFn K (.ref f_Load_rmul) = true)
    (l_Load_rmul : K.lookup f_Load_rmul = some ⟨oc_Load_rmul, od_Load_rmul, .func (PySem.W.fnOf "__rmul__" "Load.__rmul__" (defArgs (cb (tp 8) 10)) (defBody (cb (tp 8) 10)) (defScope (cb (tp 8) 10)) .none kV_Load_rmul dc_Load_rmul pm_Load_rmul an_Load_rmul cd_Load_rmul ct_Load_rmul), sl_Load_rmul⟩)
    (c_Load_rmul : PySem.W.codeIn K cd_Load_rmul "Load.__rmul__" = true)
    (k_Load_rmul : PySem.W.keepIn K (.ref f_Load_rmul) = true)
    (a__law_due : PySem.W.nsIn K mainGlobals "_law_due" = some (some (.ref f__law_due)))
    (l__law_due : K.lookup f__law_due = some ⟨oc__law_due, od__law_due, .func (PySem.W.fnOf "_law_due" "_law_due" (defArgs (tp 19)) (defBody (tp 19)) (defScope (tp 19)) .none kV__law_due dc__law_due pm__law_due an__law_due cd__law_due ct__law_due), sl__law_due⟩)
    (c__law_due : PySem.W.codeIn K cd__law_due "_law_due" = true)
    (k__law_due : PySem.W.keepIn K (.ref f__law_due) = true)
    (a_Load_backward : PySem.W.findIn K (.ref C_Load) "backward" = some (some (.ref p_Load_backward)))
    (gt_Load_backward : PySem.W.specialIn K (.ref p_Load_backward) "__get__" = some (some (.builtin "property.__get__")))
    (tk_Load_backward : PySem.W.takesIn K (.ref p_Load_backward) = some true)
    (rc_Load_backward : PySem.W.recIn K p_Load_backward "property" = some (.ref f_Load_backward :: r_Load_backward))
    (l_Load_backward : K.lookup f_Load_backward = some ⟨oc_Load_backward, od_Load_backward, .func (PySem.W.fnOf "backward" "Load.backward" (defArgs (cb (tp 8) 3)) (defBody (cb (tp 8) 3)) (defScope (cb (tp 8) 3)) .none kV_Load_backward dc_Load_backward pm_Load_backward an_Load_backward cd_Load_backward ct_Load_backward), sl_Load_backward⟩)
    (c_Load_backward : PySem.W.codeIn K cd_Load_backward "Load.backward" = true)
    (k_Load_backward : PySem.W.keepIn K (.ref f_Load_backward) = true)
    (a_Load_forward : PySem.W.findIn K (.ref C_Load) "forward" = some (some (.ref p_Load_forward)))
    (gt_Load_forward : PySem.W.specialIn K (.ref p_Load_forward) "__get__" = some (some (.builtin "property.__get__")))
    (tk_Load_forward : PySem.W.takesIn K (.ref p_Load_forward) = some true)
    (rc_Load_forward : PySem.W.recIn K p_Load_forward "property" = some (.ref f_Load_forward :: r_Load_forward))
    (l_Load_forward : K.lookup f_Load_forward = some ⟨oc_Load_forward, od_Load_forward, .func (PySem.W.fnOf "forward" "Load.forward" (defArgs (cb (tp 8) 2)) (defBody (cb (tp 8) 2)) (defScope (cb (tp 8) 2)) .none kV_Load_forward dc_Load_forward pm_Load_forward an_Load_forward cd_Load_forward ct_Load_forward), sl_Load_forward⟩)
    (c_Load_forward : PySem.W.codeIn K cd_Load_forward "Load.forward" = true)
    (k_Load_forward : PySem.W.keepIn K (.ref f_Load_forward) = true)
    (a__law_told : PySem.W.nsIn K mainGlobals "_law_told" = some (some (.ref f__law_told)))
    (l__law_told : K.lookup f__law_told = some ⟨oc__law_told, od__law_told, .func (PySem.W.fnOf "_law_told" "_law_told" (defArgs (tp 18)) (defBody (tp 18)) (defScope (tp 18)) .none kV__law_told dc__law_told pm__law_told an__law_told cd__law_told ct__law_told), sl__law_told⟩)
    (c__law_told : PySem.W.codeIn K cd__law_told "_law_told" = true)
    (k__law_told : PySem.W.keepIn K (.ref f__law_told) = true)
    (a__law_one_right : PySem.W.nsIn K mainGlobals "_law_one_right" = some (some (.ref f__law_one_right)))
    (l__law_one_right : K.lookup f__law_one_right = some ⟨oc__law_one_right, od__law_one_right, .func (PySem.W.fnOf "_law_one_right" "_law_one_right" (defArgs (tp 21)) (defBody (tp 21)) (defScope (tp 21)) .none kV__law_one_right dc__law_one_right pm__law_one_right an__law_one_right cd__law_one_right ct__law_one_right), sl__law_one_right⟩)
    (c__law_one_right : PySem.W.codeIn K cd__law_one_right "_law_one_right" = true)
    (k__law_one_right : PySem.W.keepIn K (.ref f__law_one_right) = true)
    (ec__law_one_right : cd__law_one_right = .ref cL__law_one_right)
    (a__require_load : PySem.W.nsIn K mainGlobals "_require_load" = some (some (.ref f__require_load)))
    (l__require_load : K.lookup f__require_load = some ⟨oc__require_load, od__require_load, .func (PySem.W.fnOf "_require_load" "_require_load" (defArgs (tp 10)) (defBody (tp 10)) (defScope (tp 10)) .none kV__require_load dc__require_load pm__require_load an__require_load cd__require_load ct__require_load), sl__require_load⟩)
    (c__require_load : PySem.W.codeIn K cd__require_load "_require_load" = true)
    (k__require_load : PySem.W.keepIn K (.ref f__require_load) = true)
    (a_Load_add : PySem.W.findIn K (.ref C_Load) "__add__" = some (some (.ref f_Load_add)))
    (i_Load_add : PySem.W.isFn K (.ref f_Load_add) = true)
    (l_Load_add : K.lookup f_Load_add = some ⟨oc_Load_add, od_Load_add, .func (PySem.W.fnOf "__add__" "Load.__add__" (defArgs (cb (tp 8) 8)) (defBody (cb (tp 8) 8)) (defScope (cb (tp 8) 8)) .none kV_Load_add dc_Load_add pm_Load_add an_Load_add cd_Load_add ct_Load_add), sl_Load_add⟩)
    (c_Load_add : PySem.W.codeIn K cd_Load_add "Load.__add__" = true)
    (k_Load_add : PySem.W.keepIn K (.ref f_Load_add) = true)
    (a_Load_and : PySem.W.findIn K (.ref C_Load) "__and__" = some (some (.ref f_Load_and)))
    (i_Load_and : PySem.W.isFn K (.ref f_Load_and) = true)
    (l_Load_and : K.lookup f_Load_and = some ⟨oc_Load_and, od_Load_and, .func (PySem.W.fnOf "__and__" "Load.__and__" (defArgs (cb (tp 8) 11)) (defBody (cb (tp 8) 11)) (defScope (cb (tp 8) 11)) .none kV_Load_and dc_Load_and pm_Load_and an_Load_and cd_Load_and ct_Load_and), sl_Load_and⟩)
    (c_Load_and : PySem.W.codeIn K cd_Load_and "Load.__and__" = true)
    (k_Load_and : PySem.W.keepIn K (.ref f_Load_and) = true)
    (a_Load_covers : PySem.W.findIn K (.ref C_Load) "covers" = some (some (.ref f_Load_covers)))
    (i_Load_covers : PySem.W.isFn K (.ref f_Load_covers) = true)
    (l_Load_covers : K.lookup f_Load_covers = some ⟨oc_Load_covers, od_Load_covers, .func (PySem.W.fnOf "covers" "Load.covers" (defArgs (cb (tp 8) 4)) (defBody (cb (tp 8) 4)) (defScope (cb (tp 8) 4)) .none kV_Load_covers dc_Load_covers pm_Load_covers an_Load_covers cd_Load_covers ct_Load_covers), sl_Load_covers⟩)
    (c_Load_covers : PySem.W.codeIn K cd_Load_covers "Load.covers" = true)
    (k_Load_covers : PySem.W.keepIn K (.ref f_Load_covers) = true)
    (a_Load_or : PySem.W.findIn K (.ref C_Load) "__or__" = some (some (.ref f_Load_or)))
    (i_Load_or : PySem.W.isFn K (.ref f_Load_or) = true)
    (l_Load_or : K.lookup f_Load_or = some ⟨oc_Load_or, od_Load_or, .func (PySem.W.fnOf "__or__" "Load.__or__" (defArgs (cb (tp 8) 12)) (defBody (cb (tp 8) 12)) (defScope (cb (tp 8) 12)) .none kV_Load_or dc_Load_or pm_Load_or an_Load_or cd_Load_or ct_Load_or), sl_Load_or⟩)
    (c_Load_or : PySem.W.codeIn K cd_Load_or "Load.__or__" = true)
    (k_Load_or : PySem.W.keepIn K (.ref f_Load_or) = true)
    (a__law_two_right : PySem.W.nsIn K mainGlobals "_law_two_right" = some (some (.ref f__law_two_right)))
    (l__law_two_right : K.lookup f__law_two_right = some ⟨oc__law_two_right, od__law_two_right, .func (PySem.W.fnOf "_law_two_right" "_law_two_right" (defArgs (tp 20)) (defBody (tp 20)) (defScope (tp 20)) .none kV__law_two_right dc__law_two_right pm__law_two_right an__law_two_right cd__law_two_right ct__law_two_right), sl__law_two_right⟩)
    (c__law_two_right : PySem.W.codeIn K cd__law_two_right "_law_two_right" = true)
    (k__law_two_right : PySem.W.keepIn K (.ref f__law_two_right) = true)
    (ec__law_two_right : cd__law_two_right = .ref cL__law_two_right)
    (a_law : PySem.W.nsIn K mainGlobals "law" = some (some (.ref f_law)))
    (l_law : K.lookup f_law = some ⟨oc_law, od_law, .func (PySem.W.fnOf "law" "law" (defArgs (tp 22)) (defBody (tp 22)) (defScope (tp 22)) .none kV_law dc_law pm_law an_law cd_law ct_law), sl_law⟩)
    (c_law : PySem.W.codeIn K cd_law "law" = true)
    (k_law : PySem.W.keepIn K (.ref f_law) = true)
    (nP_ : ([P__law_one_right, P__law_two_right] : List Addr).Nodup) :
    ∃ G : Cfg, (∀ p ∈ G.tabs, p.1 ∈ ([(cL__law_one_right, P__law_one_right), (cL__law_two_right, P__law_two_right)] : List (Addr × Addr)).map (·.2)) ∧ ∀ base : Heap, K.In base → base.Ns mainGlobals mg → (∀ p ∈ ([(cL__law_one_right, P__law_one_right), (cL__law_two_right, P__law_two_right)] : List (Addr × Addr)), LamX.TabB base mg p.1 p.2) → OkG P w K mg base true 11 "law" ["_law_script"] (lift G K slaw) := by
  refine ⟨⟨fun c => match c with | 20 => C_SweepError | 24 => C_InvalidLoad | 32 => C_LimitExceeded | 2 => C_Load | _ => 0, fun c => match c with | 20 => [] | 24 => ["value"] | 32 => ["limit"] | 2 => ["_forward", "_backward"] | _ => [], [(P__law_one_right, ("_law_one_right" : Str) ++ ".<locals>." ++ "<lambda>"), (P__law_two_right, ("_law_two_right" : Str) ++ ".<locals>." ++ "<lambda>")]⟩, (tb_cons (.head _) (tb_cons (.tail _ (.head _)) tb_nil)), fun base _ _ hTB => ?_⟩
  have T : Bu K mg ⟨fun c => match c with | 20 => C_SweepError | 24 => C_InvalidLoad | 32 => C_LimitExceeded | 2 => C_Load | _ => 0, fun c => match c with | 20 => [] | 24 => ["value"] | 32 => ["limit"] | 2 => ["_forward", "_backward"] | _ => [], [(P__law_one_right, ("_law_one_right" : Str) ++ ".<locals>." ++ "<lambda>"), (P__law_two_right, ("_law_two_right" : Str) ++ ".<locals>." ++ "<lambda>")]⟩ := { k_SweepError := PySem.W.mg_of X N aC_SweepError, k_InvalidLoad := PySem.W.mg_of X N aC_InvalidLoad, nm_InvalidLoad := rfl, ex_InvalidLoad := (exT_of ya_InvalidLoad yb_InvalidLoad yc_InvalidLoad yd_InvalidLoad ye_InvalidLoad yf_InvalidLoad yg_InvalidLoad yh_InvalidLoad yi_InvalidLoad), xm_InvalidLoad_SweepError := yxm_InvalidLoad_SweepError, kx_InvalidLoad_LimitExceeded := ykx_InvalidLoad_LimitExceeded, k_LimitExceeded := PySem.W.mg_of X N aC_LimitExceeded, nm_LimitExceeded := rfl, ex_LimitExceeded := (exT_of ya_LimitExceeded yb_LimitExceeded yc_LimitExceeded yd_LimitExceeded ye_LimitExceeded yf_LimitExceeded yg_LimitExceeded yh_LimitExceeded yi_LimitExceeded), fx_LimitExceeded_limit := ⟨(exT_of ya_LimitExceeded yb_LimitExceeded yc_LimitExceeded yd_LimitExceeded ye_LimitExceeded yf_LimitExceeded yg_LimitExceeded yh_LimitExceeded yi_LimitExceeded), n_LimitExceeded_limit, (show List.Nodup (["limit"] : List Str) by decide +kernel), rfl⟩, xm_LimitExceeded_SweepError := yxm_LimitExceeded_SweepError, kx_LimitExceeded_LimitExceeded := ykx_LimitExceeded_LimitExceeded, k_Load := PySem.W.mg_of X N aC_Load, cls_Load := ⟨pg_Load, hd_Load, po_Load, sa_Load⟩, fa_Load__forward := ⟨⟨pg_Load, hd_Load, po_Load, sa_Load⟩, n_Load__forward, (show List.Nodup (["_forward", "_backward"] : List Str) by decide +kernel), rfl⟩, fa_Load__backward := ⟨⟨pg_Load, hd_Load, po_Load, sa_Load⟩, n_Load__backward, (show List.Nodup (["_forward", "_backward"] : List Str) by decide +kernel), rfl⟩, nm_Load := rfl, sf_Load := ysf_Load, one_Load := yone_Load, mo_Load := ymo_Load, kb_Load := ykb_Load, cc_Load := ⟨yca_Load, ymo_Load⟩, nf_Load_Load := ynf_Load_Load, ki_Load_Load := yki_Load_Load, kt_Load_int := ykt_Load_int, kt_Load_bool := ykt_Load_bool, ck_Load_MOST := ⟨.type "type", .int 1200, _, ⟨rd_Load, ga_Load⟩, ⟨cv_Load_MOST, ⟨_, rfl⟩⟩, fun _ => .int 1200⟩, b_bool := PySem.W.mg_none_of X N z_bool, b_enumerate := PySem.W.mg_none_of X N z_enumerate, b_int := PySem.W.mg_none_of X N z_int, b_isinstance := PySem.W.mg_none_of X N z_isinstance, b_len := PySem.W.mg_none_of X N z_len, b_list := PySem.W.mg_none_of X N z_list, b_max := PySem.W.mg_none_of X N z_max, b_min := PySem.W.mg_none_of X N z_min, b_range := PySem.W.mg_none_of X N z_range, b_repr := PySem.W.mg_none_of X N z_repr, mi1 := ymi1, mi2 := ymi2, rm_Load := ⟨_, a_Load_rmul⟩, mi3_Load := ymi3_Load, mi4_Load := ymi4_Load, cg := ⟨ycg1, ycg2⟩ }
  have ok_law_folded := go_law_folded (P := P) (w := w) (base := base) T ⟨PySem.W.mg_of X N a__law_folded, _, fun_mk (st := (tp 13)) l__law_folded c__law_folded k__law_folded, ((fun_mk (st := (tp 13)) l__law_folded c__law_folded k__law_folded).binds (ps := ["_law_script"]) fun _ _ _ _ _ _ us hl => match us, hl with | [_], _ => rfl)⟩ 
  have ok_law_begun := go_law_begun (P := P) (w := w) (base := base) T ⟨PySem.W.mg_of X N a__law_begun, _, fun_mk (st := (tp 15)) l__law_begun c__law_begun k__law_begun, ((fun_mk (st := (tp 15)) l__law_begun c__law_begun k__law_begun).binds (ps := ["_law_script"]) fun _ _ _ _ _ _ us hl => match us, hl with | [_], _ => rfl)⟩ ok_law_folded
  have ok_law_mixed := go_law_mixed (P := P) (w := w) (base := base) T ⟨PySem.W.mg_of X N a__law_mixed, _, fun_mk (st := (tp 12)) l__law_mixed c__law_mixed k__law_mixed, ((fun_mk (st := (tp 12)) l__law_mixed c__law_mixed k__law_mixed).binds (ps := ["_law_cell", "_law_n"]) fun _ _ _ _ _ _ us hl => match us, hl with | [_, _], _ => rfl)⟩ 
  have ok_law_draw := go_law_draw (P := P) (w := w) (base := base) T ⟨PySem.W.mg_of X N a__law_draw, _, fun_mk (st := (tp 14)) l__law_draw c__law_draw k__law_draw, ((fun_mk (st := (tp 14)) l__law_draw c__law_draw k__law_draw).binds (ps := ["_law_m", "_law_top"]) fun _ _ _ _ _ _ us hl => match us, hl with | [_, _], _ => rfl)⟩ ok_law_mixed
  have ok_law_pick := go_law_pick (P := P) (w := w) (base := base) T ⟨PySem.W.mg_of X N a__law_pick, _, fun_mk (st := (tp 16)) l__law_pick c__law_pick k__law_pick, ((fun_mk (st := (tp 16)) l__law_pick c__law_pick k__law_pick).binds (ps := ["_law_m", "_law_some"]) fun _ _ _ _ _ _ us hl => match us, hl with | [_, _], _ => rfl)⟩ ok_law_draw
  have ok_law_near := go_law_near (P := P) (w := w) (base := base) T ⟨PySem.W.mg_of X N a__law_near, _, fun_mk (st := (tp 17)) l__law_near c__law_near k__law_near, ((fun_mk (st := (tp 17)) l__law_near c__law_near k__law_near).binds (ps := ["_law_m"]) fun _ _ _ _ _ _ us hl => match us, hl with | [_], _ => rfl)⟩ ok_law_draw ok_law_pick
  have okLoad_bool := goLoad_bool (P := P) (w := w) (base := base) T ⟨_, _, ⟨a_Load_bool, i_Load_bool, k_Load_bool⟩, fun_mk (st := (cb (tp 8) 6)) l_Load_bool c_Load_bool k_Load_bool, ((fun_mk (st := (cb (tp 8) 6)) l_Load_bool c_Load_bool k_Load_bool).binds (ps := ["self"]) fun _ _ _ _ _ _ us hl => match us, hl with | [_], _ => rfl)⟩ 
  have okLoad_eq := goLoad_eq (P := P) (w := w) (base := base) T ⟨_, _, ⟨a_Load_eq, i_Load_eq, k_Load_eq⟩, fun_mk (st := (cb (tp 8) 5)) l_Load_eq c_Load_eq k_Load_eq, ((fun_mk (st := (cb (tp 8) 5)) l_Load_eq c_Load_eq k_Load_eq).binds (ps := ["self", "other"]) fun _ _ _ _ _ _ us hl => match us, hl with | [_, _], _ => rfl)⟩ 
  have okInvalidLoad_init := goInvalidLoad_init (P := P) (w := w) (mg := mg) (base := base) (G := ⟨fun c => match c with | 20 => C_SweepError | 24 => C_InvalidLoad | 32 => C_LimitExceeded | 2 => C_Load | _ => 0, fun c => match c with | 20 => [] | 24 => ["value"] | 32 => ["limit"] | 2 => ["_forward", "_backward"] | _ => [], [(P__law_one_right, ("_law_one_right" : Str) ++ ".<locals>." ++ "<lambda>"), (P__law_two_right, ("_law_two_right" : Str) ++ ".<locals>." ++ "<lambda>")]⟩) ⟨⟨_, _, a_InvalidLoad_init, ty_InvalidLoad_init, fun_mk (st := (cb (tp 5) 0)) l_InvalidLoad_init c_InvalidLoad_init k_InvalidLoad_init, ((fun_mk (st := (cb (tp 5) 0)) l_InvalidLoad_init c_InvalidLoad_init k_InvalidLoad_init).binds (ps := ["self", "value"]) fun _ _ _ _ _ _ us hl => match us, hl with | [_, _], _ => rfl)⟩, (tb_cons n_InvalidLoad_value tb_nil)⟩
  have okis_integer := gois_integer (P := P) (w := w) (base := base) T ⟨PySem.W.mg_of X N a_is_integer, _, fun_mk (st := (tp 1)) l_is_integer c_is_integer k_is_integer, ((fun_mk (st := (tp 1)) l_is_integer c_is_integer k_is_integer).binds (ps := ["value"]) fun _ _ _ _ _ _ us hl => match us, hl with | [_], _ => rfl)⟩ 
  have okis_integer_within := gois_integer_within (P := P) (w := w) (base := base) T ⟨PySem.W.mg_of X N a_is_integer_within, _, fun_mk (st := (tp 2)) l_is_integer_within c_is_integer_within k_is_integer_within, ((fun_mk (st := (tp 2)) l_is_integer_within c_is_integer_within k_is_integer_within).binds (ps := ["value", "low", "high"]) fun _ _ _ _ _ _ us hl => match us, hl with | [_, _, _], _ => rfl)⟩ okis_integer
  have okLoad_init := goLoad_init (P := P) (w := w) (base := base) T ⟨_, _, ⟨mk_Load_init, a_Load_init, i_Load_init, kc_Load_init⟩, ⟨⟨_, _, _, _, _, _, _, _, _, _, rfl, l_Load_init, c_Load_init, .inl ⟨rfl, rfl⟩, .inl rfl⟩, k_Load_init⟩⟩ okInvalidLoad_init okis_integer_within
  have okLimitExceeded_init := goLimitExceeded_init (P := P) (w := w) (mg := mg) (base := base) (G := ⟨fun c => match c with | 20 => C_SweepError | 24 => C_InvalidLoad | 32 => C_LimitExceeded | 2 => C_Load | _ => 0, fun c => match c with | 20 => [] | 24 => ["value"] | 32 => ["limit"] | 2 => ["_forward", "_backward"] | _ => [], [(P__law_one_right, ("_law_one_right" : Str) ++ ".<locals>." ++ "<lambda>"), (P__law_two_right, ("_law_two_right" : Str) ++ ".<locals>." ++ "<lambda>")]⟩) ⟨⟨_, _, a_LimitExceeded_init, ty_LimitExceeded_init, fun_mk (st := (cb (tp 6) 0)) l_LimitExceeded_init c_LimitExceeded_init k_LimitExceeded_init, ((fun_mk (st := (cb (tp 6) 0)) l_LimitExceeded_init c_LimitExceeded_init k_LimitExceeded_init).binds (ps := ["self", "limit"]) fun _ _ _ _ _ _ us hl => match us, hl with | [_, _], _ => rfl)⟩, (tb_cons n_LimitExceeded_limit tb_nil)⟩
  have okload_within_limit := goload_within_limit (P := P) (w := w) (base := base) T ⟨PySem.W.mg_of X N a_load_within_limit, _, fun_mk (st := (tp 9)) l_load_within_limit c_load_within_limit k_load_within_limit, ((fun_mk (st := (tp 9)) l_load_within_limit c_load_within_limit k_load_within_limit).binds (ps := ["forward", "backward"]) fun _ _ _ _ _ _ us hl => match us, hl with | [_, _], _ => rfl)⟩ okLimitExceeded_init okLoad_init
  have okLoad_mul := goLoad_mul (P := P) (w := w) (base := base) T ⟨_, _, ⟨a_Load_mul, i_Load_mul, k_Load_mul⟩, fun_mk (st := (cb (tp 8) 9)) l_Load_mul c_Load_mul k_Load_mul, ((fun_mk (st := (cb (tp 8) 9)) l_Load_mul c_Load_mul k_Load_mul).binds (ps := ["self", "other"]) fun _ _ _ _ _ _ us hl => match us, hl with | [_, _], _ => rfl)⟩ okis_integer okload_within_limit
  have okLoad_neg := goLoad_neg (P := P) (w := w) (base := base) T ⟨_, _, ⟨a_Load_neg, i_Load_neg, k_Load_neg⟩, fun_mk (st := (cb (tp 8) 7)) l_Load_neg c_Load_neg k_Load_neg, ((fun_mk (st := (cb (tp 8) 7)) l_Load_neg c_Load_neg k_Load_neg).binds (ps := ["self"]) fun _ _ _ _ _ _ us hl => match us, hl with | [_], _ => rfl)⟩ okLoad_init
  have okLoad_rmul := goLoad_rmul (P := P) (w := w) (base := base) T ⟨_, _, ⟨a_Load_rmul, i_Load_rmul, k_Load_rmul⟩, fun_mk (st := (cb (tp 8) 10)) l_Load_rmul c_Load_rmul k_Load_rmul, ((fun_mk (st := (cb (tp 8) 10)) l_Load_rmul c_Load_rmul k_Load_rmul).binds (ps := ["self", "other"]) fun _ _ _ _ _ _ us hl => match us, hl with | [_, _], _ => rfl)⟩ okLoad_mul
  have ok_law_due := go_law_due (P := P) (w := w) (base := base) T ⟨PySem.W.mg_of X N a__law_due, _, fun_mk (st := (tp 19)) l__law_due c__law_due k__law_due, ((fun_mk (st := (tp 19)) l__law_due c__law_due k__law_due).binds (ps := ["_law_a", "_law_b"]) fun _ _ _ _ _ _ us hl => match us, hl with | [_, _], _ => rfl)⟩ 
  have okLoad_backward := goLoad_backward (P := P) (w := w) (base := base) T ⟨_, _, _, ⟨a_Load_backward, gt_Load_backward, tk_Load_backward, ⟨_, rc_Load_backward⟩⟩, fun_mk (st := (cb (tp 8) 3)) l_Load_backward c_Load_backward k_Load_backward, ((fun_mk (st := (cb (tp 8) 3)) l_Load_backward c_Load_backward k_Load_backward).binds (ps := ["self"]) fun _ _ _ _ _ _ us hl => match us, hl with | [_], _ => rfl)⟩ 
  have okLoad_forward := goLoad_forward (P := P) (w := w) (base := base) T ⟨_, _, _, ⟨a_Load_forward, gt_Load_forward, tk_Load_forward, ⟨_, rc_Load_forward⟩⟩, fun_mk (st := (cb (tp 8) 2)) l_Load_forward c_Load_forward k_Load_forward, ((fun_mk (st := (cb (tp 8) 2)) l_Load_forward c_Load_forward k_Load_forward).binds (ps := ["self"]) fun _ _ _ _ _ _ us hl => match us, hl with | [_], _ => rfl)⟩ 
  have ok_law_told := go_law_told (P := P) (w := w) (base := base) T ⟨PySem.W.mg_of X N a__law_told, _, fun_mk (st := (tp 18)) l__law_told c__law_told k__law_told, ((fun_mk (st := (tp 18)) l__law_told c__law_told k__law_told).binds (ps := ["_law_deed"]) fun _ _ _ _ _ _ us hl => match us, hl with | [_], _ => rfl)⟩ okLoad_backward okLoad_forward
  have ok_law_one_right := go_law_one_right (P := P) (w := w) (base := base) T (f := f__law_one_right) (c := cL__law_one_right) (P_ := P__law_one_right) ⟨PySem.W.mg_of X N a__law_one_right, _, fun_mk (st := (tp 21)) l__law_one_right c__law_one_right k__law_one_right, ((fun_mk (st := (tp 21)) l__law_one_right c__law_one_right k__law_one_right).binds (ps := ["_law_some", "_law_times_so"]) fun _ _ _ _ _ _ us hl => match us, hl with | [_, _], _ => rfl), ec__law_one_right⟩ (hTB (cL__law_one_right, P__law_one_right) (.head _)) (.head _) (tabs_uniq (l := [(P__law_one_right, ("_law_one_right" : Str) ++ ".<locals>." ++ "<lambda>"), (P__law_two_right, ("_law_two_right" : Str) ++ ".<locals>." ++ "<lambda>")]) nP_ (.head _)) okLoad_bool okLoad_eq okLoad_init okLoad_mul okLoad_neg okLoad_rmul ok_law_due ok_law_told
  have ok_require_load := go_require_load (P := P) (w := w) (base := base) T ⟨PySem.W.mg_of X N a__require_load, _, fun_mk (st := (tp 10)) l__require_load c__require_load k__require_load, ((fun_mk (st := (tp 10)) l__require_load c__require_load k__require_load).binds (ps := ["value"]) fun _ _ _ _ _ _ us hl => match us, hl with | [_], _ => rfl)⟩ 
  have okLoad_add := goLoad_add (P := P) (w := w) (base := base) T ⟨_, _, ⟨a_Load_add, i_Load_add, k_Load_add⟩, fun_mk (st := (cb (tp 8) 8)) l_Load_add c_Load_add k_Load_add, ((fun_mk (st := (cb (tp 8) 8)) l_Load_add c_Load_add k_Load_add).binds (ps := ["self", "other"]) fun _ _ _ _ _ _ us hl => match us, hl with | [_, _], _ => rfl)⟩ ok_require_load okload_within_limit
  have okLoad_and := goLoad_and (P := P) (w := w) (base := base) T ⟨_, _, ⟨a_Load_and, i_Load_and, k_Load_and⟩, fun_mk (st := (cb (tp 8) 11)) l_Load_and c_Load_and k_Load_and, ((fun_mk (st := (cb (tp 8) 11)) l_Load_and c_Load_and k_Load_and).binds (ps := ["self", "other"]) fun _ _ _ _ _ _ us hl => match us, hl with | [_, _], _ => rfl)⟩ okLoad_init ok_require_load
  have okLoad_covers := goLoad_covers (P := P) (w := w) (base := base) T ⟨_, _, ⟨a_Load_covers, i_Load_covers, k_Load_covers⟩, fun_mk (st := (cb (tp 8) 4)) l_Load_covers c_Load_covers k_Load_covers, ((fun_mk (st := (cb (tp 8) 4)) l_Load_covers c_Load_covers k_Load_covers).binds (ps := ["self", "other"]) fun _ _ _ _ _ _ us hl => match us, hl with | [_, _], _ => rfl)⟩ 
  have okLoad_or := goLoad_or (P := P) (w := w) (base := base) T ⟨_, _, ⟨a_Load_or, i_Load_or, k_Load_or⟩, fun_mk (st := (cb (tp 8) 12)) l_Load_or c_Load_or k_Load_or, ((fun_mk (st := (cb (tp 8) 12)) l_Load_or c_Load_or k_Load_or).binds (ps := ["self", "other"]) fun _ _ _ _ _ _ us hl => match us, hl with | [_, _], _ => rfl)⟩ okLoad_init ok_require_load
  have ok_law_two_right := go_law_two_right (P := P) (w := w) (base := base) T (f := f__law_two_right) (c := cL__law_two_right) (P_ := P__law_two_right) ⟨PySem.W.mg_of X N a__law_two_right, _, fun_mk (st := (tp 20)) l__law_two_right c__law_two_right k__law_two_right, ((fun_mk (st := (tp 20)) l__law_two_right c__law_two_right k__law_two_right).binds (ps := ["_law_some", "_law_others"]) fun _ _ _ _ _ _ us hl => match us, hl with | [_, _], _ => rfl), ec__law_two_right⟩ (hTB (cL__law_two_right, P__law_two_right) (.tail _ (.head _))) (.tail _ (.head _)) (tabs_uniq (l := [(P__law_one_right, ("_law_one_right" : Str) ++ ".<locals>." ++ "<lambda>"), (P__law_two_right, ("_law_two_right" : Str) ++ ".<locals>." ++ "<lambda>")]) nP_ (.tail _ (.head _))) okLoad_add okLoad_and okLoad_backward okLoad_covers okLoad_eq okLoad_forward okLoad_init okLoad_or ok_law_due ok_law_told
  have oklaw := golaw (P := P) (w := w) (base := base) T ⟨PySem.W.mg_of X N a_law, _, fun_mk (st := (tp 22)) l_law c_law k_law, ((fun_mk (st := (tp 22)) l_law c_law k_law).binds (ps := ["_law_script"]) fun _ _ _ _ _ _ us hl => match us, hl with | [_], _ => rfl)⟩ ok_law_begun ok_law_draw ok_law_near ok_law_one_right ok_law_pick ok_law_two_right
  exact oklaw
def ad_C_SweepError (K : PySem.W.Frag) : Addr := DH.refO (PySem.W.nsIn K mainGlobals "SweepError")
def ad_C_InvalidLoad (K : PySem.W.Frag) : Addr := DH.refO (PySem.W.nsIn K mainGlobals "InvalidLoad")
def ad_C_LimitExceeded (K : PySem.W.Frag) : Addr := DH.refO (PySem.W.nsIn K mainGlobals "LimitExceeded")
def ad_C_Load (K : PySem.W.Frag) : Addr := DH.refO (PySem.W.nsIn K mainGlobals "Load")
def ad_f__law_folded (K : PySem.W.Frag) : Addr := DH.refO (PySem.W.nsIn K mainGlobals "_law_folded")
def ad_f__law_begun (K : PySem.W.Frag) : Addr := DH.refO (PySem.W.nsIn K mainGlobals "_law_begun")
def ad_f__law_mixed (K : PySem.W.Frag) : Addr := DH.refO (PySem.W.nsIn K mainGlobals "_law_mixed")
def ad_f__law_draw (K : PySem.W.Frag) : Addr := DH.refO (PySem.W.nsIn K mainGlobals "_law_draw")
def ad_f__law_pick (K : PySem.W.Frag) : Addr := DH.refO (PySem.W.nsIn K mainGlobals "_law_pick")
def ad_f__law_near (K : PySem.W.Frag) : Addr := DH.refO (PySem.W.nsIn K mainGlobals "_law_near")
def ad_f_Load_bool (K : PySem.W.Frag) : Addr := DH.refO (PySem.W.findIn K (.ref (ad_C_Load K)) "__bool__")
def ad_f_Load_eq (K : PySem.W.Frag) : Addr := DH.refO (PySem.W.findIn K (.ref (ad_C_Load K)) "__eq__")
def ad_f_InvalidLoad_init (K : PySem.W.Frag) : Addr := DH.refO (PySem.W.findIn K (.ref (ad_C_InvalidLoad K)) "__init__")
def ad_f_is_integer (K : PySem.W.Frag) : Addr := DH.refO (PySem.W.nsIn K mainGlobals "is_integer")
def ad_f_is_integer_within (K : PySem.W.Frag) : Addr := DH.refO (PySem.W.nsIn K mainGlobals "is_integer_within")
def ad_f_Load_init (K : PySem.W.Frag) : Addr := DH.refO (PySem.W.findIn K (.ref (ad_C_Load K)) "__init__")
def ad_f_LimitExceeded_init (K : PySem.W.Frag) : Addr := DH.refO (PySem.W.findIn K (.ref (ad_C_LimitExceeded K)) "__init__")
def ad_f_load_within_limit (K : PySem.W.Frag) : Addr := DH.refO (PySem.W.nsIn K mainGlobals "load_within_limit")
def ad_f_Load_mul (K : PySem.W.Frag) : Addr := DH.refO (PySem.W.findIn K (.ref (ad_C_Load K)) "__mul__")
def ad_f_Load_neg (K : PySem.W.Frag) : Addr := DH.refO (PySem.W.findIn K (.ref (ad_C_Load K)) "__neg__")
def ad_f_Load_rmul (K : PySem.W.Frag) : Addr := DH.refO (PySem.W.findIn K (.ref (ad_C_Load K)) "__rmul__")
def ad_f__law_due (K : PySem.W.Frag) : Addr := DH.refO (PySem.W.nsIn K mainGlobals "_law_due")
def ad_p_Load_backward (K : PySem.W.Frag) : Addr := DH.refO (PySem.W.findIn K (.ref (ad_C_Load K)) "backward")
def ad_p_Load_forward (K : PySem.W.Frag) : Addr := DH.refO (PySem.W.findIn K (.ref (ad_C_Load K)) "forward")
def ad_f__law_told (K : PySem.W.Frag) : Addr := DH.refO (PySem.W.nsIn K mainGlobals "_law_told")
def ad_f__law_one_right (K : PySem.W.Frag) : Addr := DH.refO (PySem.W.nsIn K mainGlobals "_law_one_right")
def ad_f__require_load (K : PySem.W.Frag) : Addr := DH.refO (PySem.W.nsIn K mainGlobals "_require_load")
def ad_f_Load_add (K : PySem.W.Frag) : Addr := DH.refO (PySem.W.findIn K (.ref (ad_C_Load K)) "__add__")
def ad_f_Load_and (K : PySem.W.Frag) : Addr := DH.refO (PySem.W.findIn K (.ref (ad_C_Load K)) "__and__")
def ad_f_Load_covers (K : PySem.W.Frag) : Addr := DH.refO (PySem.W.findIn K (.ref (ad_C_Load K)) "covers")
def ad_f_Load_or (K : PySem.W.Frag) : Addr := DH.refO (PySem.W.findIn K (.ref (ad_C_Load K)) "__or__")
def ad_f__law_two_right (K : PySem.W.Frag) : Addr := DH.refO (PySem.W.nsIn K mainGlobals "_law_two_right")
def ad_f_law (K : PySem.W.Frag) : Addr := DH.refO (PySem.W.nsIn K mainGlobals "law")
def ad_f_Load_backward (K : PySem.W.Frag) : Addr := DH.hdR (PySem.W.recIn K (ad_p_Load_backward K) "property")
def ad_f_Load_forward (K : PySem.W.Frag) : Addr := DH.hdR (PySem.W.recIn K (ad_p_Load_forward K) "property")
def ad_cL__law_one_right (K : PySem.W.Frag) : Addr := DH.vRef ((DH.oFd (K.lookup (ad_f__law_one_right K))).code)
def ad_cL__law_two_right (K : PySem.W.Frag) : Addr := DH.vRef ((DH.oFd (K.lookup (ad_f__law_two_right K))).code)
def fct0 (K : PySem.W.Frag) : List Bool := [DH.isRef (PySem.W.nsIn K mainGlobals "SweepError"),
  DH.isRef (PySem.W.nsIn K mainGlobals "InvalidLoad"),
  DH.isRef (PySem.W.nsIn K mainGlobals "LimitExceeded"),
  DH.isRef (PySem.W.nsIn K mainGlobals "Load"),
  DH.isRef (PySem.W.nsIn K mainGlobals "_law_folded"),
  DH.isRef (PySem.W.nsIn K mainGlobals "_law_begun"),
  DH.isRef (PySem.W.nsIn K mainGlobals "_law_mixed"),
  DH.isRef (PySem.W.nsIn K mainGlobals "_law_draw"),
  DH.isRef (PySem.W.nsIn K mainGlobals "_law_pick"),
  DH.isRef (PySem.W.nsIn K mainGlobals "_law_near"),
  DH.isRef (PySem.W.findIn K (.ref (ad_C_Load K)) "__bool__"),
  DH.isRef (PySem.W.findIn K (.ref (ad_C_Load K)) "__eq__"),
  DH.isRef (PySem.W.findIn K (.ref (ad_C_InvalidLoad K)) "__init__"),
  DH.isRef (PySem.W.nsIn K mainGlobals "is_integer"),
  DH.isRef (PySem.W.nsIn K mainGlobals "is_integer_within"),
  DH.isRef (PySem.W.findIn K (.ref (ad_C_Load K)) "__init__"),
  DH.isRef (PySem.W.findIn K (.ref (ad_C_LimitExceeded K)) "__init__"),
  DH.isRef (PySem.W.nsIn K mainGlobals "load_within_limit"),
  DH.isRef (PySem.W.findIn K (.ref (ad_C_Load K)) "__mul__"),
  DH.isRef (PySem.W.findIn K (.ref (ad_C_Load K)) "__neg__")]
def fct1 (K : PySem.W.Frag) : List Bool := [DH.isRef (PySem.W.findIn K (.ref (ad_C_Load K)) "__rmul__"),
  DH.isRef (PySem.W.nsIn K mainGlobals "_law_due"),
  DH.isRef (PySem.W.findIn K (.ref (ad_C_Load K)) "backward"),
  DH.isRef (PySem.W.findIn K (.ref (ad_C_Load K)) "forward"),
  DH.isRef (PySem.W.nsIn K mainGlobals "_law_told"),
  DH.isRef (PySem.W.nsIn K mainGlobals "_law_one_right"),
  DH.isRef (PySem.W.nsIn K mainGlobals "_require_load"),
  DH.isRef (PySem.W.findIn K (.ref (ad_C_Load K)) "__add__"),
  DH.isRef (PySem.W.findIn K (.ref (ad_C_Load K)) "__and__"),
  DH.isRef (PySem.W.findIn K (.ref (ad_C_Load K)) "covers"),
  DH.isRef (PySem.W.findIn K (.ref (ad_C_Load K)) "__or__"),
  DH.isRef (PySem.W.nsIn K mainGlobals "_law_two_right"),
  DH.isRef (PySem.W.nsIn K mainGlobals "law"),
  DH.isRec (PySem.W.recIn K (ad_p_Load_backward K) "property"),
  DH.isRec (PySem.W.recIn K (ad_p_Load_forward K) "property"),
  DH.isVRef ((DH.oFd (K.lookup (ad_f__law_one_right K))).code),
  DH.isVRef ((DH.oFd (K.lookup (ad_f__law_two_right K))).code),
  oexB K (ad_C_InvalidLoad K),
  DH.eqO (PySem.W.findIn K (.ref (ad_C_InvalidLoad K)) "__setattr__") (some (some (.builtin "object.__setattr__"))),
  DH.eqB (PySem.W.subIn K (.ref (ad_C_InvalidLoad K)) (.type "BaseException")) (some true)]
def fct2 (K : PySem.W.Frag) : List Bool := [DH.eqT (PySem.W.typeIn K (.ref (ad_C_InvalidLoad K))) (some (.type "type")),
  PySem.W.keepIn K (.ref (ad_C_InvalidLoad K)),
  xfB K (ad_C_InvalidLoad K),
  (PySem.W.clsIn K (ad_C_InvalidLoad K)).isSome,
  DH.eqO (PySem.W.findIn K (.ref (ad_C_InvalidLoad K)) "__class__") (some (some (.builtin "object.__class__"))),
  DH.eqB (PySem.W.mroIn K (ad_C_InvalidLoad K) (.type "object")) (some true),
  DH.eqB (PySem.W.exmOne K (.ref (ad_C_InvalidLoad K)) (.ref (ad_C_SweepError K))) (some true),
  DH.eqB (PySem.W.kitOne K (.ref (ad_C_InvalidLoad K)) (.ref (ad_C_LimitExceeded K))) (some false),
  oexB K (ad_C_LimitExceeded K),
  DH.eqO (PySem.W.findIn K (.ref (ad_C_LimitExceeded K)) "__setattr__") (some (some (.builtin "object.__setattr__"))),
  DH.eqB (PySem.W.subIn K (.ref (ad_C_LimitExceeded K)) (.type "BaseException")) (some true),
  DH.eqT (PySem.W.typeIn K (.ref (ad_C_LimitExceeded K))) (some (.type "type")),
  PySem.W.keepIn K (.ref (ad_C_LimitExceeded K)),
  xfB K (ad_C_LimitExceeded K),
  (PySem.W.clsIn K (ad_C_LimitExceeded K)).isSome,
  DH.eqO (PySem.W.findIn K (.ref (ad_C_LimitExceeded K)) "__class__") (some (some (.builtin "object.__class__"))),
  DH.eqB (PySem.W.mroIn K (ad_C_LimitExceeded K) (.type "object")) (some true),
  DH.eqO (PySem.W.findIn K (.ref (ad_C_LimitExceeded K)) "limit") (some none),
  DH.eqB (PySem.W.exmOne K (.ref (ad_C_LimitExceeded K)) (.ref (ad_C_SweepError K))) (some true),
  DH.eqB (PySem.W.kitOne K (.ref (ad_C_LimitExceeded K)) (.ref (ad_C_LimitExceeded K))) (some true)]
def fct3 (K : PySem.W.Frag) : List Bool := [PySem.W.plainGet K (ad_C_Load K) Str.empty,
  PySem.W.hasDictIn K (ad_C_Load K),
  PySem.W.plainOver K (ad_C_Load K),
  DH.eqO (PySem.W.findIn K (.ref (ad_C_Load K)) "__setattr__") (some (some (.builtin "object.__setattr__"))),
  DH.eqO (PySem.W.findIn K (.ref (ad_C_Load K)) "_forward") (some none),
  DH.eqO (PySem.W.findIn K (.ref (ad_C_Load K)) "_backward") (some none),
  PySem.W.selfFirst K (ad_C_Load K),
  DH.eqO (PySem.W.findIn K (.ref (ad_C_Load K)) "__ne__") (some (some (.builtin "object.__ne__"))),
  DH.eqB (PySem.W.mroIn K (ad_C_Load K) (.type "object")) (some true),
  noBlt K (.ref (ad_C_Load K)),
  DH.eqO (PySem.W.findIn K (.ref (ad_C_Load K)) "__class__") (some (some (.builtin "object.__class__"))),
  PySem.W.notFirst K (ad_C_Load K) (.ref (ad_C_Load K)),
  DH.eqB (PySem.W.kitOne K (.ref (ad_C_Load K)) (.ref (ad_C_Load K))) (some true),
  DH.eqB (PySem.W.kitOne K (.ref (ad_C_Load K)) (.type "int")) (some false),
  DH.eqB (PySem.W.kitOne K (.ref (ad_C_Load K)) (.type "bool")) (some false),
  PySem.W.readsIn K (ad_C_Load K) (.type "type"),
  DH.eqO (PySem.W.specialIn K (.ref (ad_C_Load K)) "__getattribute__") (some (some (.builtin "type.__getattribute__"))),
  DH.isCInt (PySem.W.findCls K (.ref (ad_C_Load K)) (.type "type") "MOST") (1200),
  DH.eqO (PySem.W.nsIn K mainGlobals "bool") (some none),
  DH.eqO (PySem.W.nsIn K mainGlobals "enumerate") (some none)]
def fct4 (K : PySem.W.Frag) : List Bool := [DH.eqO (PySem.W.nsIn K mainGlobals "int") (some none),
  DH.eqO (PySem.W.nsIn K mainGlobals "isinstance") (some none),
  DH.eqO (PySem.W.nsIn K mainGlobals "len") (some none),
  DH.eqO (PySem.W.nsIn K mainGlobals "list") (some none),
  DH.eqO (PySem.W.nsIn K mainGlobals "max") (some none),
  DH.eqO (PySem.W.nsIn K mainGlobals "min") (some none),
  DH.eqO (PySem.W.nsIn K mainGlobals "range") (some none),
  DH.eqO (PySem.W.nsIn K mainGlobals "repr") (some none),
  DH.eqO (PySem.W.findIn K (.type "int") "__mul__") (some (some (.builtin "int.__mul__"))),
  DH.eqO (PySem.W.findIn K (.type "int") "__rmul__") (some (some (.builtin "int.__rmul__"))),
  DH.eqB (PySem.W.subIn K (.type "int") (.ref (ad_C_Load K))) (some false),
  DH.eqB (PySem.W.subIn K (.ref (ad_C_Load K)) (.type "int")) (some false),
  DH.eqO (PySem.W.specialIn K (.builtin "object.__class__") "__get__") (some (some (.builtin "getset_descriptor.__get__"))),
  DH.eqB (PySem.W.takesIn K (.builtin "object.__class__")) (some true),
  PySem.W.codeIn K ((DH.oFd (K.lookup (ad_f__law_folded K))).code) "_law_folded",
  PySem.W.keepIn K (.ref (ad_f__law_folded K)),
  PySem.W.codeIn K ((DH.oFd (K.lookup (ad_f__law_begun K))).code) "_law_begun",
  PySem.W.keepIn K (.ref (ad_f__law_begun K)),
  PySem.W.codeIn K ((DH.oFd (K.lookup (ad_f__law_mixed K))).code) "_law_mixed",
  PySem.W.keepIn K (.ref (ad_f__law_mixed K))]
def fct5 (K : PySem.W.Frag) : List Bool := [PySem.W.codeIn K ((DH.oFd (K.lookup (ad_f__law_draw K))).code) "_law_draw",
  PySem.W.keepIn K (.ref (ad_f__law_draw K)),
  PySem.W.codeIn K ((DH.oFd (K.lookup (ad_f__law_pick K))).code) "_law_pick",
  PySem.W.keepIn K (.ref (ad_f__law_pick K)),
  PySem.W.codeIn K ((DH.oFd (K.lookup (ad_f__law_near K))).code) "_law_near",
  PySem.W.keepIn K (.ref (ad_f__law_near K)),
  PySem.W.isFn K (.ref (ad_f_Load_bool K)),
  PySem.W.codeIn K ((DH.oFd (K.lookup (ad_f_Load_bool K))).code) "Load.__bool__",
  PySem.W.keepIn K (.ref (ad_f_Load_bool K)),
  PySem.W.isFn K (.ref (ad_f_Load_eq K)),
  PySem.W.codeIn K ((DH.oFd (K.lookup (ad_f_Load_eq K))).code) "Load.__eq__",
  PySem.W.keepIn K (.ref (ad_f_Load_eq K)),
  PySem.W.isFn K (.ref (ad_f_InvalidLoad_init K)),
  PySem.W.codeIn K ((DH.oFd (K.lookup (ad_f_InvalidLoad_init K))).code) "InvalidLoad.__init__",
  PySem.W.keepIn K (.ref (ad_f_InvalidLoad_init K)),
  DH.eqT (PySem.W.typeIn K (.ref (ad_f_InvalidLoad_init K))) (some (.type "function")),
  DH.eqO (PySem.W.findIn K (.ref (ad_C_InvalidLoad K)) "value") (some none),
  PySem.W.codeIn K ((DH.oFd (K.lookup (ad_f_is_integer K))).code) "is_integer",
  PySem.W.keepIn K (.ref (ad_f_is_integer K)),
  PySem.W.codeIn K ((DH.oFd (K.lookup (ad_f_is_integer_within K))).code) "is_integer_within"]
def fct6 (K : PySem.W.Frag) : List Bool := [PySem.W.keepIn K (.ref (ad_f_is_integer_within K)),
  PySem.W.isFn K (.ref (ad_f_Load_init K)),
  PySem.W.codeIn K ((DH.oFd (K.lookup (ad_f_Load_init K))).code) "Load.__init__",
  PySem.W.keepIn K (.ref (ad_f_Load_init K)),
  PySem.W.makesIn K (ad_C_Load K),
  PySem.W.keepIn K (.ref (ad_C_Load K)),
  PySem.W.isFn K (.ref (ad_f_LimitExceeded_init K)),
  PySem.W.codeIn K ((DH.oFd (K.lookup (ad_f_LimitExceeded_init K))).code) "LimitExceeded.__init__",
  PySem.W.keepIn K (.ref (ad_f_LimitExceeded_init K)),
  DH.eqT (PySem.W.typeIn K (.ref (ad_f_LimitExceeded_init K))) (some (.type "function")),
  PySem.W.codeIn K ((DH.oFd (K.lookup (ad_f_load_within_limit K))).code) "load_within_limit",
  PySem.W.keepIn K (.ref (ad_f_load_within_limit K)),
  PySem.W.isFn K (.ref (ad_f_Load_mul K)),
  PySem.W.codeIn K ((DH.oFd (K.lookup (ad_f_Load_mul K))).code) "Load.__mul__",
  PySem.W.keepIn K (.ref (ad_f_Load_mul K)),
  PySem.W.isFn K (.ref (ad_f_Load_neg K)),
  PySem.W.codeIn K ((DH.oFd (K.lookup (ad_f_Load_neg K))).code) "Load.__neg__",
  PySem.W.keepIn K (.ref (ad_f_Load_neg K)),
  PySem.W.isFn K (.ref (ad_f_Load_rmul K)),
  PySem.W.codeIn K ((DH.oFd (K.lookup (ad_f_Load_rmul K))).code) "Load.__rmul__"]
def fct7 (K : PySem.W.Frag) : List Bool := [PySem.W.keepIn K (.ref (ad_f_Load_rmul K)),
  PySem.W.codeIn K ((DH.oFd (K.lookup (ad_f__law_due K))).code) "_law_due",
  PySem.W.keepIn K (.ref (ad_f__law_due K)),
  DH.eqO (PySem.W.specialIn K (.ref (ad_p_Load_backward K)) "__get__") (some (some (.builtin "property.__get__"))),
  DH.eqB (PySem.W.takesIn K (.ref (ad_p_Load_backward K))) (some true),
  PySem.W.codeIn K ((DH.oFd (K.lookup (ad_f_Load_backward K))).code) "Load.backward",
  PySem.W.keepIn K (.ref (ad_f_Load_backward K)),
  DH.eqO (PySem.W.specialIn K (.ref (ad_p_Load_forward K)) "__get__") (some (some (.builtin "property.__get__"))),
  DH.eqB (PySem.W.takesIn K (.ref (ad_p_Load_forward K))) (some true),
  PySem.W.codeIn K ((DH.oFd (K.lookup (ad_f_Load_forward K))).code) "Load.forward",
  PySem.W.keepIn K (.ref (ad_f_Load_forward K)),
  PySem.W.codeIn K ((DH.oFd (K.lookup (ad_f__law_told K))).code) "_law_told",
  PySem.W.keepIn K (.ref (ad_f__law_told K)),
  PySem.W.codeIn K ((DH.oFd (K.lookup (ad_f__law_one_right K))).code) "_law_one_right",
  PySem.W.keepIn K (.ref (ad_f__law_one_right K)),
  PySem.W.codeIn K ((DH.oFd (K.lookup (ad_f__require_load K))).code) "_require_load",
  PySem.W.keepIn K (.ref (ad_f__require_load K)),
  PySem.W.isFn K (.ref (ad_f_Load_add K)),
  PySem.W.codeIn K ((DH.oFd (K.lookup (ad_f_Load_add K))).code) "Load.__add__",
  PySem.W.keepIn K (.ref (ad_f_Load_add K))]
def fct8 (K : PySem.W.Frag) : List Bool := [PySem.W.isFn K (.ref (ad_f_Load_and K)),
  PySem.W.codeIn K ((DH.oFd (K.lookup (ad_f_Load_and K))).code) "Load.__and__",
  PySem.W.keepIn K (.ref (ad_f_Load_and K)),
  PySem.W.isFn K (.ref (ad_f_Load_covers K)),
  PySem.W.codeIn K ((DH.oFd (K.lookup (ad_f_Load_covers K))).code) "Load.covers",
  PySem.W.keepIn K (.ref (ad_f_Load_covers K)),
  PySem.W.isFn K (.ref (ad_f_Load_or K)),
  PySem.W.codeIn K ((DH.oFd (K.lookup (ad_f_Load_or K))).code) "Load.__or__",
  PySem.W.keepIn K (.ref (ad_f_Load_or K)),
  PySem.W.codeIn K ((DH.oFd (K.lookup (ad_f__law_two_right K))).code) "_law_two_right",
  PySem.W.keepIn K (.ref (ad_f__law_two_right K)),
  PySem.W.codeIn K ((DH.oFd (K.lookup (ad_f_law K))).code) "law",
  PySem.W.keepIn K (.ref (ad_f_law K)),
  decide (([(254 : Addr), (247 : Addr)] : List Addr).Nodup),
  PySem.W.codeHdIn K (ad_cL__law_one_right K) (254 : Addr),
  (K.lookup (254 : Addr)).isNone,
  PySem.W.codeHdIn K (ad_cL__law_two_right K) (247 : Addr),
  (K.lookup (247 : Addr)).isNone]
def fcts (K : PySem.W.Frag) : List (List Bool) := [fct0 K, fct1 K, fct2 K, fct3 K, fct4 K, fct5 K, fct6 K, fct7 K, fct8 K]
def fns0 (K : PySem.W.Frag) : List DH.FnV := [DH.fnV (K.lookup (ad_f__law_folded K)),
  DH.fnV (K.lookup (ad_f__law_begun K)),
  DH.fnV (K.lookup (ad_f__law_mixed K)),
  DH.fnV (K.lookup (ad_f__law_draw K)),
  DH.fnV (K.lookup (ad_f__law_pick K)),
  DH.fnV (K.lookup (ad_f__law_near K)),
  DH.fnV (K.lookup (ad_f_Load_bool K)),
  DH.fnV (K.lookup (ad_f_Load_eq K)),
  DH.fnV (K.lookup (ad_f_InvalidLoad_init K)),
  DH.fnV (K.lookup (ad_f_is_integer K)),
  DH.fnV (K.lookup (ad_f_is_integer_within K)),
  DH.fnV (K.lookup (ad_f_Load_init K)),
  DH.fnV (K.lookup (ad_f_LimitExceeded_init K)),
  DH.fnV (K.lookup (ad_f_load_within_limit K)),
  DH.fnV (K.lookup (ad_f_Load_mul K)),
  DH.fnV (K.lookup (ad_f_Load_neg K)),
  DH.fnV (K.lookup (ad_f_Load_rmul K)),
  DH.fnV (K.lookup (ad_f__law_due K)),
  DH.fnV (K.lookup (ad_f_Load_backward K)),
  DH.fnV (K.lookup (ad_f_Load_forward K))]
def fvs0 : List DH.FnV := [DH.fv "_law_folded" "_law_folded" (defArgs (tp 13)) (defBody (tp 13)) (defScope (tp 13)) [],
  DH.fv "_law_begun" "_law_begun" (defArgs (tp 15)) (defBody (tp 15)) (defScope (tp 15)) [],
  DH.fv "_law_mixed" "_law_mixed" (defArgs (tp 12)) (defBody (tp 12)) (defScope (tp 12)) [],
  DH.fv "_law_draw" "_law_draw" (defArgs (tp 14)) (defBody (tp 14)) (defScope (tp 14)) [],
  DH.fv "_law_pick" "_law_pick" (defArgs (tp 16)) (defBody (tp 16)) (defScope (tp 16)) [],
  DH.fv "_law_near" "_law_near" (defArgs (tp 17)) (defBody (tp 17)) (defScope (tp 17)) [],
  DH.fv "__bool__" "Load.__bool__" (defArgs (cb (tp 8) 6)) (defBody (cb (tp 8) 6)) (defScope (cb (tp 8) 6)) [],
  DH.fv "__eq__" "Load.__eq__" (defArgs (cb (tp 8) 5)) (defBody (cb (tp 8) 5)) (defScope (cb (tp 8) 5)) [],
  DH.fv "__init__" "InvalidLoad.__init__" (defArgs (cb (tp 5) 0)) (defBody (cb (tp 5) 0)) (defScope (cb (tp 5) 0)) [],
  DH.fv "is_integer" "is_integer" (defArgs (tp 1)) (defBody (tp 1)) (defScope (tp 1)) [],
  DH.fv "is_integer_within" "is_integer_within" (defArgs (tp 2)) (defBody (tp 2)) (defScope (tp 2)) [],
  DH.fv "__init__" "Load.__init__" (defArgs (cb (tp 8) 1)) (defBody (cb (tp 8) 1)) (defScope (cb (tp 8) 1)) [],
  DH.fv "__init__" "LimitExceeded.__init__" (defArgs (cb (tp 6) 0)) (defBody (cb (tp 6) 0)) (defScope (cb (tp 6) 0)) [],
  DH.fv "load_within_limit" "load_within_limit" (defArgs (tp 9)) (defBody (tp 9)) (defScope (tp 9)) [],
  DH.fv "__mul__" "Load.__mul__" (defArgs (cb (tp 8) 9)) (defBody (cb (tp 8) 9)) (defScope (cb (tp 8) 9)) [],
  DH.fv "__neg__" "Load.__neg__" (defArgs (cb (tp 8) 7)) (defBody (cb (tp 8) 7)) (defScope (cb (tp 8) 7)) [],
  DH.fv "__rmul__" "Load.__rmul__" (defArgs (cb (tp 8) 10)) (defBody (cb (tp 8) 10)) (defScope (cb (tp 8) 10)) [],
  DH.fv "_law_due" "_law_due" (defArgs (tp 19)) (defBody (tp 19)) (defScope (tp 19)) [],
  DH.fv "backward" "Load.backward" (defArgs (cb (tp 8) 3)) (defBody (cb (tp 8) 3)) (defScope (cb (tp 8) 3)) [],
  DH.fv "forward" "Load.forward" (defArgs (cb (tp 8) 2)) (defBody (cb (tp 8) 2)) (defScope (cb (tp 8) 2)) []]
def fns1 (K : PySem.W.Frag) : List DH.FnV := [DH.fnV (K.lookup (ad_f__law_told K)),
  DH.fnV (K.lookup (ad_f__law_one_right K)),
  DH.fnV (K.lookup (ad_f__require_load K)),
  DH.fnV (K.lookup (ad_f_Load_add K)),
  DH.fnV (K.lookup (ad_f_Load_and K)),
  DH.fnV (K.lookup (ad_f_Load_covers K)),
  DH.fnV (K.lookup (ad_f_Load_or K)),
  DH.fnV (K.lookup (ad_f__law_two_right K)),
  DH.fnV (K.lookup (ad_f_law K))]
def fvs1 : List DH.FnV := [DH.fv "_law_told" "_law_told" (defArgs (tp 18)) (defBody (tp 18)) (defScope (tp 18)) [],
  DH.fv "_law_one_right" "_law_one_right" (defArgs (tp 21)) (defBody (tp 21)) (defScope (tp 21)) [],
  DH.fv "_require_load" "_require_load" (defArgs (tp 10)) (defBody (tp 10)) (defScope (tp 10)) [],
  DH.fv "__add__" "Load.__add__" (defArgs (cb (tp 8) 8)) (defBody (cb (tp 8) 8)) (defScope (cb (tp 8) 8)) [],
  DH.fv "__and__" "Load.__and__" (defArgs (cb (tp 8) 11)) (defBody (cb (tp 8) 11)) (defScope (cb (tp 8) 11)) [],
  DH.fv "covers" "Load.covers" (defArgs (cb (tp 8) 4)) (defBody (cb (tp 8) 4)) (defScope (cb (tp 8) 4)) [],
  DH.fv "__or__" "Load.__or__" (defArgs (cb (tp 8) 12)) (defBody (cb (tp 8) 12)) (defScope (cb (tp 8) 12)) [],
  DH.fv "_law_two_right" "_law_two_right" (defArgs (tp 20)) (defBody (tp 20)) (defScope (tp 20)) [],
  DH.fv "law" "law" (defArgs (tp 22)) (defBody (tp 22)) (defScope (tp 22)) []]
def fns (K : PySem.W.Frag) : List (List DH.FnV) := [fns0 K, fns1 K]
def fvs : List (List DH.FnV) := [fvs0, fvs1]
def cs (K : PySem.W.Frag) : List (Addr × Addr) := [((ad_cL__law_one_right K), (254 : Addr)), ((ad_cL__law_two_right K), (247 : Addr))]
def ts : List Addr := [254, 247]
theorem tab_of {K : PySem.W.Frag} {h : Heap} (X : K.In h) (c : ((fcts K).all fun l => l.all id) = true) : (∀ p ∈ cs K, K.lookup p.2 = none) ∧ (∀ p ∈ cs K, PySem.W.CodeHd h p.1 p.2) ∧ ∀ p ∈ cs K, p.2 ∈ ts :=
  ⟨(tb_cons (DH.none_ok (DH.at_ c 8 15 rfl rfl)) (tb_cons (DH.none_ok (DH.at_ c 8 17 rfl rfl)) tb_nil)),
   (tb_cons (PySem.W.codeHd_of_K X (DH.at_ c 8 14 rfl rfl)) (tb_cons (PySem.W.codeHd_of_K X (DH.at_ c 8 16 rfl rfl)) tb_nil)),
   (tb_cons (.head _) (tb_cons (.tail _ (.head _)) tb_nil))⟩
theorem all_of {w : World} {K : PySem.W.Frag} {h : Heap} {mg : Str → Option Value} (X : K.In h) (N : h.Ns mainGlobals mg) (c : ((fcts K).all fun l => l.all id) = true) (d : fns K = fvs) :
    ∃ G : Cfg, (∀ p ∈ G.tabs, p.1 ∈ (cs K : List (Addr × Addr)).map (·.2)) ∧ ∀ base : Heap, K.In base → base.Ns mainGlobals mg → (∀ p ∈ (cs K : List (Addr × Addr)), LamX.TabB base mg p.1 p.2) → OkG PySem.Challenge.rw_handsweeps_k08_loads_reckoned.prog w K mg base true 11 "law" ["_law_script"] (lift G K slaw) :=
  all_mk (C_SweepError := (ad_C_SweepError K)) (C_InvalidLoad := (ad_C_InvalidLoad K)) (C_LimitExceeded := (ad_C_LimitExceeded K)) (C_Load := (ad_C_Load K)) (tk_Load_MOST := (DH.tokC (PySem.W.findCls K (.ref (ad_C_Load K)) (.type "type") "MOST"))) (f__law_folded := (ad_f__law_folded K)) (od__law_folded := (DH.oDct (K.lookup (ad_f__law_folded K)))) (an__law_folded := ((DH.oFd (K.lookup (ad_f__law_folded K))).annotations)) (sl__law_folded := (DH.oSlt (K.lookup (ad_f__law_folded K)))) (oc__law_folded := (DH.oCls (K.lookup (ad_f__law_folded K)))) (dc__law_folded := ((DH.oFd (K.lookup (ad_f__law_folded K))).doc)) (pm__law_folded := ((DH.oFd (K.lookup (ad_f__law_folded K))).pyModule)) (cd__law_folded := ((DH.oFd (K.lookup (ad_f__law_folded K))).code)) (ct__law_folded := ((DH.oFd (K.lookup (ad_f__law_folded K))).closureTuple)) (kV__law_folded := ((DH.oFd (K.lookup (ad_f__law_folded K))).kwdefaults)) (f__law_begun := (ad_f__law_begun K)) (od__law_begun := (DH.oDct (K.lookup (ad_f__law_begun K)))) (an__law_begun := ((DH.oFd (K.lookup (ad_f__law_begun K))).annotations)) (sl__law_begun := (DH.oSlt (K.lookup (ad_f__law_begun K)))) (oc__law_begun := (DH.oCls (K.lookup (ad_f__law_begun K)))) (dc__law_begun := ((DH.oFd (K.lookup (ad_f__law_begun K))).doc)) (pm__law_begun := ((DH.oFd (K.lookup (ad_f__law_begun K))).pyModule)) (cd__law_begun := ((DH.oFd (K.lookup (ad_f__law_begun K))).code)) (ct__law_begun := ((DH.oFd (K.lookup (ad_f__law_begun K))).closureTuple)) (kV__law_begun := ((DH.oFd (K.lookup (ad_f__law_begun K))).kwdefaults)) (f__law_mixed := (ad_f__law_mixed K)) (od__law_mixed := (DH.oDct (K.lookup (ad_f__law_mixed K)))) (an__law_mixed := ((DH.oFd (K.lookup (ad_f__law_mixed K))).annotations)) (sl__law_mixed := (DH.oSlt (K.lookup (ad_f__law_mixed K)))) (oc__law_mixed := (DH.oCls (K.lookup (ad_f__law_mixed K)))) (dc__law_mixed := ((DH.oFd (K.lookup (ad_f__law_mixed K))).doc)) (pm__law_mixed := ((DH.oFd (K.lookup (ad_f__law_mixed K))).pyModule)) (cd__law_mixed := ((DH.oFd (K.lookup (ad_f__law_mixed K))).code)) (ct__law_mixed := ((DH.oFd (K.lookup (ad_f__law_mixed K))).closureTuple)) (kV__law_mixed := ((DH.oFd (K.lookup (ad_f__law_mixed K))).kwdefaults)) (f__law_draw := (ad_f__law_draw K)) (od__law_draw := (DH.oDct (K.lookup (ad_f__law_draw K)))) (an__law_draw := ((DH.oFd (K.lookup (ad_f__law_draw K))).annotations)) (sl__law_draw := (DH.oSlt (K.lookup (ad_f__law_draw K)))) (oc__law_draw := (DH.oCls (K.lookup (ad_f__law_draw K)))) (dc__law_draw := ((DH.oFd (K.lookup (ad_f__law_draw K))).doc)) (pm__law_draw := ((DH.oFd (K.lookup (ad_f__law_draw K))).pyModule)) (cd__law_draw := ((DH.oFd (K.lookup (ad_f__law_draw K))).code)) (ct__law_draw := ((DH.oFd (K.lookup (ad_f__law_draw K))).closureTuple)) (kV__law_draw := ((DH.oFd (K.lookup (ad_f__law_draw K))).kwdefaults)) (f__law_pick := (ad_f__law_pick K)) (od__law_pick := (DH.oDct (K.lookup (ad_f__law_pick K)))) (an__law_pick := ((DH.oFd (K.lookup (ad_f__law_pick K))).annotations)) (sl__law_pick := (DH.oSlt (K.lookup (ad_f__law_pick K)))) (oc__law_pick := (DH.oCls (K.lookup (ad_f__law_pick K)))) (dc__law_pick := ((DH.oFd (K.lookup (ad_f__law_pick K))).doc)) (pm__law_pick := ((DH.oFd (K.lookup (ad_f__law_pick K))).pyModule)) (cd__law_pick := ((DH.oFd (K.lookup (ad_f__law_pick K))).code)) (ct__law_pick := ((DH.oFd (K.lookup (ad_f__law_pick K))).closureTuple)) (kV__law_pick := ((DH.oFd (K.lookup (ad_f__law_pick K))).kwdefaults)) (f__law_near := (ad_f__law_near K)) (od__law_near := (DH.oDct (K.lookup (ad_f__law_near K)))) (an__law_near := ((DH.oFd (K.lookup (ad_f__law_near K))).annotations)) (sl__law_near := (DH.oSlt (K.lookup (ad_f__law_near K)))) (oc__law_near := (DH.oCls (K.lookup (ad_f__law_near K)))) (dc__law_near := ((DH.oFd (K.lookup (ad_f__law_near K))).doc)) (pm__law_near := ((DH.oFd (K.lookup (ad_f__law_near K))).pyModule)) (cd__law_near := ((DH.oFd (K.lookup (ad_f__law_near K))).code)) (ct__law_near := ((DH.oFd (K.lookup (ad_f__law_near K))).closureTuple)) (kV__law_near := ((DH.oFd (K.lookup (ad_f__law_near K))).kwdefaults)) (f_Load_bool := (ad_f_Load_bool K)) (od_Load_bool := (DH.oDct (K.lookup (ad_f_Load_bool K)))) (an_Load_bool := ((DH.oFd (K.lookup (ad_f_Load_bool K))).annotations)) (sl_Load_bool := (DH.oSlt (K.lookup (ad_f_Load_bool K)))) (oc_Load_bool := (DH.oCls (K.lookup (ad_f_Load_bool K)))) (dc_Load_bool := ((DH.oFd (K.lookup (ad_f_Load_bool K))).doc)) (pm_Load_bool := ((DH.oFd (K.lookup (ad_f_Load_bool K))).pyModule)) (cd_Load_bool := ((DH.oFd (K.lookup (ad_f_Load_bool K))).code)) (ct_Load_bool := ((DH.oFd (K.lookup (ad_f_Load_bool K))).closureTuple)) (kV_Load_bool := ((DH.oFd (K.lookup (ad_f_Load_bool K))).kwdefaults)) (f_Load_eq := (ad_f_Load_eq K)) (od_Load_eq := (DH.oDct (K.lookup (ad_f_Load_eq K)))) (an_Load_eq := ((DH.oFd (K.lookup (ad_f_Load_eq K))).annotations)) (sl_Load_eq := (DH.oSlt (K.lookup (ad_f_Load_eq K)))) (oc_Load_eq := (DH.oCls (K.lookup (ad_f_Load_eq K)))) (dc_Load_eq := ((DH.oFd (K.lookup (ad_f_Load_eq K))).doc)) (pm_Load_eq := ((DH.oFd (K.lookup (ad_f_Load_eq K))).pyModule)) (cd_Load_eq := ((DH.oFd (K.lookup (ad_f_Load_eq K))).code)) (ct_Load_eq := ((DH.oFd (K.lookup (ad_f_Load_eq K))).closureTuple)) (kV_Load_eq := ((DH.oFd (K.lookup (ad_f_Load_eq K))).kwdefaults)) (f_InvalidLoad_init := (ad_f_InvalidLoad_init K)) (od_InvalidLoad_init := (DH.oDct (K.lookup (ad_f_InvalidLoad_init K)))) (an_InvalidLoad_init := ((DH.oFd (K.lookup (ad_f_InvalidLoad_init K))).annotations)) (sl_InvalidLoad_init := (DH.oSlt (K.lookup (ad_f_InvalidLoad_init K)))) (oc_InvalidLoad_init := (DH.oCls (K.lookup (ad_f_InvalidLoad_init K)))) (dc_InvalidLoad_init := ((DH.oFd (K.lookup (ad_f_InvalidLoad_init K))).doc)) (pm_InvalidLoad_init := ((DH.oFd (K.lookup (ad_f_InvalidLoad_init K))).pyModule)) (cd_InvalidLoad_init := ((DH.oFd (K.lookup (ad_f_InvalidLoad_init K))).code)) (ct_InvalidLoad_init := ((DH.oFd (K.lookup (ad_f_InvalidLoad_init K))).closureTuple)) (kV_InvalidLoad_init := ((DH.oFd (K.lookup (ad_f_InvalidLoad_init K))).kwdefaults)) (f_is_integer := (ad_f_is_integer K)) (od_is_integer := (DH.oDct (K.lookup (ad_f_is_integer K)))) (an_is_integer := ((DH.oFd (K.lookup (ad_f_is_integer K))).annotations)) (sl_is_integer := (DH.oSlt (K.lookup (ad_f_is_integer K)))) (oc_is_integer := (DH.oCls (K.lookup (ad_f_is_integer K)))) (dc_is_integer := ((DH.oFd (K.lookup (ad_f_is_integer K))).doc)) (pm_is_integer := ((DH.oFd (K.lookup (ad_f_is_integer K))).pyModule)) (cd_is_integer := ((DH.oFd (K.lookup (ad_f_is_integer K))).code)) (ct_is_integer := ((DH.oFd (K.lookup (ad_f_is_integer K))).closureTuple)) (kV_is_integer := ((DH.oFd (K.lookup (ad_f_is_integer K))).kwdefaults)) (f_is_integer_within := (ad_f_is_integer_within K)) (od_is_integer_within := (DH.oDct (K.lookup (ad_f_is_integer_within K)))) (an_is_integer_within := ((DH.oFd (K.lookup (ad_f_is_integer_within K))).annotations)) (sl_is_integer_within := (DH.oSlt (K.lookup (ad_f_is_integer_within K)))) (oc_is_integer_within := (DH.oCls (K.lookup (ad_f_is_integer_within K)))) (dc_is_integer_within := ((DH.oFd (K.lookup (ad_f_is_integer_within K))).doc)) (pm_is_integer_within := ((DH.oFd (K.lookup (ad_f_is_integer_within K))).pyModule)) (cd_is_integer_within := ((DH.oFd (K.lookup (ad_f_is_integer_within K))).code)) (ct_is_integer_within := ((DH.oFd (K.lookup (ad_f_is_integer_within K))).closureTuple)) (kV_is_integer_within := ((DH.oFd (K.lookup (ad_f_is_integer_within K))).kwdefaults)) (f_Load_init := (ad_f_Load_init K)) (od_Load_init := (DH.oDct (K.lookup (ad_f_Load_init K)))) (an_Load_init := ((DH.oFd (K.lookup (ad_f_Load_init K))).annotations)) (sl_Load_init := (DH.oSlt (K.lookup (ad_f_Load_init K)))) (oc_Load_init := (DH.oCls (K.lookup (ad_f_Load_init K)))) (dc_Load_init := ((DH.oFd (K.lookup (ad_f_Load_init K))).doc)) (pm_Load_init := ((DH.oFd (K.lookup (ad_f_Load_init K))).pyModule)) (cd_Load_init := ((DH.oFd (K.lookup (ad_f_Load_init K))).code)) (ct_Load_init := ((DH.oFd (K.lookup (ad_f_Load_init K))).closureTuple)) (kV_Load_init := ((DH.oFd (K.lookup (ad_f_Load_init K))).kwdefaults)) (f_LimitExceeded_init := (ad_f_LimitExceeded_init K)) (od_LimitExceeded_init := (DH.oDct (K.lookup (ad_f_LimitExceeded_init K)))) (an_LimitExceeded_init := ((DH.oFd (K.lookup (ad_f_LimitExceeded_init K))).annotations)) (sl_LimitExceeded_init := (DH.oSlt (K.lookup (ad_f_LimitExceeded_init K)))) (oc_LimitExceeded_init := (DH.oCls (K.lookup (ad_f_LimitExceeded_init K)))) (dc_LimitExceeded_init := ((DH.oFd (K.lookup (ad_f_LimitExceeded_init K))).doc)) (pm_LimitExceeded_init := ((DH.oFd (K.lookup (ad_f_LimitExceeded_init K))).pyModule)) (cd_LimitExceeded_init := ((DH.oFd (K.lookup (ad_f_LimitExceeded_init K))).code)) (ct_LimitExceeded_init := ((DH.oFd (K.lookup (ad_f_LimitExceeded_init K))).closureTuple)) (kV_LimitExceeded_init := ((DH.oFd (K.lookup (ad_f_LimitExceeded_init K))).kwdefaults)) (f_load_within_limit := (ad_f_load_within_limit K)) (od_load_within_limit := (DH.oDct (K.lookup (ad_f_load_within_limit K)))) (an_load_within_limit := ((DH.oFd (K.lookup (ad_f_load_within_limit K))).annotations)) (sl_load_within_limit := (DH.oSlt (K.lookup (ad_f_load_within_limit K)))) (oc_load_within_limit := (DH.oCls (K.lookup (ad_f_load_within_limit K)))) (dc_load_within_limit := ((DH.oFd (K.lookup (ad_f_load_within_limit K))).doc)) (pm_load_within_limit := ((DH.oFd (K.lookup (ad_f_load_within_limit K))).pyModule)) (cd_load_within_limit := ((DH.oFd (K.lookup (ad_f_load_within_limit K))).code)) (ct_load_within_limit := ((DH.oFd (K.lookup (ad_f_load_within_limit K))).closureTuple)) (kV_load_within_limit := ((DH.oFd (K.lookup (ad_f_load_within_limit K))).kwdefaults)) (f_Load_mul := (ad_f_Load_mul K)) (od_Load_mul := (DH.oDct (K.lookup (ad_f_Load_mul K)))) (an_Load_mul := ((DH.oFd (K.lookup (ad_f_Load_mul K))).annotations)) (sl_Load_mul := (DH.oSlt (K.lookup (ad_f_Load_mul K)))) (oc_Load_mul := (DH.oCls (K.lookup (ad_f_Load_mul K)))) (dc_Load_mul := ((DH.oFd (K.lookup (ad_f_Load_mul K))).doc)) (pm_Load_mul := ((DH.oFd (K.lookup (ad_f_Load_mul K))).pyModule)) (cd_Load_mul := ((DH.oFd (K.lookup (ad_f_Load_mul K))).code)) (ct_Load_mul := ((DH.oFd (K.lookup (ad_f_Load_mul K))).closureTuple)) (kV_Load_mul := ((DH.oFd (K.lookup (ad_f_Load_mul K))).kwdefaults)) (f_Load_neg := (ad_f_Load_neg K)) (od_Load_neg := (DH.oDct (K.lookup (ad_f_Load_neg K)))) (an_Load_neg := ((DH.oFd (K.lookup (ad_f_Load_neg K))).annotations)) (sl_Load_neg := (DH.oSlt (K.lookup (ad_f_Load_neg K)))) (oc_Load_neg := (DH.oCls (K.lookup (ad_f_Load_neg K)))) (dc_Load_neg := ((DH.oFd (K.lookup (ad_f_Load_neg K))).doc)) (pm_Load_neg := ((DH.oFd (K.lookup (ad_f_Load_neg K))).pyModule)) (cd_Load_neg := ((DH.oFd (K.lookup (ad_f_Load_neg K))).code)) (ct_Load_neg := ((DH.oFd (K.lookup (ad_f_Load_neg K))).closureTuple)) (kV_Load_neg := ((DH.oFd (K.lookup (ad_f_Load_neg K))).kwdefaults)) (f_Load_rmul := (ad_f_Load_rmul K)) (od_Load_rmul := (DH.oDct (K.lookup (ad_f_Load_rmul K)))) (an_Load_rmul := ((DH.oFd (K.lookup (ad_f_Load_rmul K))).annotations)) (sl_Load_rmul := (DH.oSlt (K.lookup (ad_f_Load_rmul K)))) (oc_Load_rmul := (DH.oCls (K.lookup (ad_f_Load_rmul K)))) (dc_Load_rmul := ((DH.oFd (K.lookup (ad_f_Load_rmul K))).doc)) (pm_Load_rmul := ((DH.oFd (K.lookup (ad_f_Load_rmul K))).pyModule)) (cd_Load_rmul := ((DH.oFd (K.lookup (ad_f_Load_rmul K))).code)) (ct_Load_rmul := ((DH.oFd (K.lookup (ad_f_Load_rmul K))).closureTuple)) (kV_Load_rmul := ((DH.oFd (K.lookup (ad_f_Load_rmul K))).kwdefaults)) (f__law_due := (ad_f__law_due K)) (od__law_due := (DH.oDct (K.lookup (ad_f__law_due K)))) (an__law_due := ((DH.oFd (K.lookup (ad_f__law_due K))).annotations)) (sl__law_due := (DH.oSlt (K.lookup (ad_f__law_due K)))) (oc__law_due := (DH.oCls (K.lookup (ad_f__law_due K)))) (dc__law_due := ((DH.oFd (K.lookup (ad_f__law_due K))).doc)) (pm__law_due := ((DH.oFd (K.lookup (ad_f__law_due K))).pyModule)) (cd__law_due := ((DH.oFd (K.lookup (ad_f__law_due K))).code)) (ct__law_due := ((DH.oFd (K.lookup (ad_f__law_due K))).closureTuple)) (kV__law_due := ((DH.oFd (K.lookup (ad_f__law_due K))).kwdefaults)) (f_Load_backward := (ad_f_Load_backward K)) (od_Load_backward := (DH.oDct (K.lookup (ad_f_Load_backward K)))) (an_Load_backward := ((DH.oFd (K.lookup (ad_f_Load_backward K))).annotations)) (sl_Load_backward := (DH.oSlt (K.lookup (ad_f_Load_backward K)))) (oc_Load_backward := (DH.oCls (K.lookup (ad_f_Load_backward K)))) (dc_Load_backward := ((DH.oFd (K.lookup (ad_f_Load_backward K))).doc)) (pm_Load_backward := ((DH.oFd (K.lookup (ad_f_Load_backward K))).pyModule)) (cd_Load_backward := ((DH.oFd (K.lookup (ad_f_Load_backward K))).code)) (ct_Load_backward := ((DH.oFd (K.lookup (ad_f_Load_backward K))).closureTuple)) (kV_Load_backward := ((DH.oFd (K.lookup (ad_f_Load_backward K))).kwdefaults)) (p_Load_backward := (ad_p_Load_backward K)) (r_Load_backward := (DH.tlR (PySem.W.recIn K (ad_p_Load_backward K) "property"))) (f_Load_forward := (ad_f_Load_forward K)) (od_Load_forward := (DH.oDct (K.lookup (ad_f_Load_forward K)))) (an_Load_forward := ((DH.oFd (K.lookup (ad_f_Load_forward K))).annotations)) (sl_Load_forward := (DH.oSlt (K.lookup (ad_f_Load_forward K)))) (oc_Load_forward := (DH.oCls (K.lookup (ad_f_Load_forward K)))) (dc_Load_forward := ((DH.oFd (K.lookup (ad_f_Load_forward K))).doc)) (pm_Load_forward := ((DH.oFd (K.lookup (ad_f_Load_forward K))).pyModule)) (cd_Load_forward := ((DH.oFd (K.lookup (ad_f_Load_forward K))).code)) (ct_Load_forward := ((DH.oFd (K.lookup (ad_f_Load_forward K))).closureTuple)) (kV_Load_forward := ((DH.oFd (K.lookup (ad_f_Load_forward K))).kwdefaults)) (p_Load_forward := (ad_p_Load_forward K)) (r_Load_forward := (DH.tlR (PySem.W.recIn K (ad_p_Load_forward K) "property"))) (f__law_told := (ad_f__law_told K)) (od__law_told := (DH.oDct (K.lookup (ad_f__law_told K)))) (an__law_told := ((DH.oFd (K.lookup (ad_f__law_told K))).annotations)) (sl__law_told := (DH.oSlt (K.lookup (ad_f__law_told K)))) (oc__law_told := (DH.oCls (K.lookup (ad_f__law_told K)))) (dc__law_told := ((DH.oFd (K.lookup (ad_f__law_told K))).doc)) (pm__law_told := ((DH.oFd (K.lookup (ad_f__law_told K))).pyModule)) (cd__law_told := ((DH.oFd (K.lookup (ad_f__law_told K))).code)) (ct__law_told := ((DH.oFd (K.lookup (ad_f__law_told K))).closureTuple)) (kV__law_told := ((DH.oFd (K.lookup (ad_f__law_told K))).kwdefaults)) (f__law_one_right := (ad_f__law_one_right K)) (od__law_one_right := (DH.oDct (K.lookup (ad_f__law_one_right K)))) (an__law_one_right := ((DH.oFd (K.lookup (ad_f__law_one_right K))).annotations)) (sl__law_one_right := (DH.oSlt (K.lookup (ad_f__law_one_right K)))) (oc__law_one_right := (DH.oCls (K.lookup (ad_f__law_one_right K)))) (dc__law_one_right := ((DH.oFd (K.lookup (ad_f__law_one_right K))).doc)) (pm__law_one_right := ((DH.oFd (K.lookup (ad_f__law_one_right K))).pyModule)) (cd__law_one_right := ((DH.oFd (K.lookup (ad_f__law_one_right K))).code)) (ct__law_one_right := ((DH.oFd (K.lookup (ad_f__law_one_right K))).closureTuple)) (kV__law_one_right := ((DH.oFd (K.lookup (ad_f__law_one_right K))).kwdefaults)) (cL__law_one_right := (ad_cL__law_one_right K)) (P__law_one_right := (254 : Addr)) (f__require_load := (ad_f__require_load K)) (od__require_load := (DH.oDct (K.lookup (ad_f__require_load K)))) (an__require_load := ((DH.oFd (K.lookup (ad_f__require_load K))).annotations)) (sl__require_load := (DH.oSlt (K.lookup (ad_f__require_load K)))) (oc__require_load := (DH.oCls (K.lookup (ad_f__require_load K)))) (dc__require_load := ((DH.oFd (K.lookup (ad_f__require_load K))).doc)) (pm__require_load := ((DH.oFd (K.lookup (ad_f__require_load K))).pyModule)) (cd__require_load := ((DH.oFd (K.lookup (ad_f__require_load K))).code)) (ct__require_load := ((DH.oFd (K.lookup (ad_f__require_load K))).closureTuple)) (kV__require_load := ((DH.oFd (K.lookup (ad_f__require_load K))).kwdefaults)) (f_Load_add := (ad_f_Load_add K)) (od_Load_add := (DH.oDct (K.lookup (ad_f_Load_add K)))) (an_Load_add := ((DH.oFd (K.lookup (ad_f_Load_add K))).annotations)) (sl_Load_add := (DH.oSlt (K.lookup (ad_f_Load_add K)))) (oc_Load_add := (DH.oCls (K.lookup (ad_f_Load_add K)))) (dc_Load_add := ((DH.oFd (K.lookup (ad_f_Load_add K))).doc)) (pm_Load_add := ((DH.oFd (K.lookup (ad_f_Load_add K))).pyModule)) (cd_Load_add := ((DH.oFd (K.lookup (ad_f_Load_add K))).code)) (ct_Load_add := ((DH.oFd (K.lookup (ad_f_Load_add K))).closureTuple)) (kV_Load_add := ((DH.oFd (K.lookup (ad_f_Load_add K))).kwdefaults)) (f_Load_and := (ad_f_Load_and K)) (od_Load_and := (DH.oDct (K.lookup (ad_f_Load_and K)))) (an_Load_and := ((DH.oFd (K.lookup (ad_f_Load_and K))).annotations)) (sl_Load_and := (DH.oSlt (K.lookup (ad_f_Load_and K)))) (oc_Load_and := (DH.oCls (K.lookup (ad_f_Load_and K)))) (dc_Load_and := ((DH.oFd (K.lookup (ad_f_Load_and K))).doc)) (pm_Load_and := ((DH.oFd (K.lookup (ad_f_Load_and K))).pyModule)) (cd_Load_and := ((DH.oFd (K.lookup (ad_f_Load_and K))).code)) (ct_Load_and := ((DH.oFd (K.lookup (ad_f_Load_and K))).closureTuple)) (kV_Load_and := ((DH.oFd (K.lookup (ad_f_Load_and K))).kwdefaults)) (f_Load_covers := (ad_f_Load_covers K)) (od_Load_covers := (DH.oDct (K.lookup (ad_f_Load_covers K)))) (an_Load_covers := ((DH.oFd (K.lookup (ad_f_Load_covers K))).annotations)) (sl_Load_covers := (DH.oSlt (K.lookup (ad_f_Load_covers K)))) (oc_Load_covers := (DH.oCls (K.lookup (ad_f_Load_covers K)))) (dc_Load_covers := ((DH.oFd (K.lookup (ad_f_Load_covers K))).doc)) (pm_Load_covers := ((DH.oFd (K.lookup (ad_f_Load_covers K))).pyModule)) (cd_Load_covers := ((DH.oFd (K.lookup (ad_f_Load_covers K))).code)) (ct_Load_covers := ((DH.oFd (K.lookup (ad_f_Load_covers K))).closureTuple)) (kV_Load_covers := ((DH.oFd (K.lookup (ad_f_Load_covers K))).kwdefaults)) (f_Load_or := (ad_f_Load_or K)) (od_Load_or := (DH.oDct (K.lookup (ad_f_Load_or K)))) (an_Load_or := ((DH.oFd (K.lookup (ad_f_Load_or K))).annotations)) (sl_Load_or := (DH.oSlt (K.lookup (ad_f_Load_or K)))) (oc_Load_or := (DH.oCls (K.lookup (ad_f_Load_or K)))) (dc_Load_or := ((DH.oFd (K.lookup (ad_f_Load_or K))).doc)) (pm_Load_or := ((DH.oFd (K.lookup (ad_f_Load_or K))).pyModule)) (cd_Load_or := ((DH.oFd (K.lookup (ad_f_Load_or K))).code)) (ct_Load_or := ((DH.oFd (K.lookup (ad_f_Load_or K))).closureTuple)) (kV_Load_or := ((DH.oFd (K.lookup (ad_f_Load_or K))).kwdefaults)) (f__law_two_right := (ad_f__law_two_right K)) (od__law_two_right := (DH.oDct (K.lookup (ad_f__law_two_right K)))) (an__law_two_right := ((DH.oFd (K.lookup (ad_f__law_two_right K))).annotations)) (sl__law_two_right := (DH.oSlt (K.lookup (ad_f__law_two_right K)))) (oc__law_two_right := (DH.oCls (K.lookup (ad_f__law_two_right K)))) (dc__law_two_right := ((DH.oFd (K.lookup (ad_f__law_two_right K))).doc)) (pm__law_two_right := ((DH.oFd (K.lookup (ad_f__law_two_right K))).pyModule)) (cd__law_two_right := ((DH.oFd (K.lookup (ad_f__law_two_right K))).code)) (ct__law_two_right := ((DH.oFd (K.lookup (ad_f__law_two_right K))).closureTuple)) (kV__law_two_right := ((DH.oFd (K.lookup (ad_f__law_two_right K))).kwdefaults)) (cL__law_two_right := (ad_cL__law_two_right K)) (P__law_two_right := (247 : Addr)) (f_law := (ad_f_law K)) (od_law := (DH.oDct (K.lookup (ad_f_law K)))) (an_law := ((DH.oFd (K.lookup (ad_f_law K))).annotations)) (sl_law := (DH.oSlt (K.lookup (ad_f_law K)))) (oc_law := (DH.oCls (K.lookup (ad_f_law K)))) (dc_law := ((DH.oFd (K.lookup (ad_f_law K))).doc)) (pm_law := ((DH.oFd (K.lookup (ad_f_law K))).pyModule)) (cd_law := ((DH.oFd (K.lookup (ad_f_law K))).code)) (ct_law := ((DH.oFd (K.lookup (ad_f_law K))).closureTuple)) (kV_law := ((DH.oFd (K.lookup (ad_f_law K))).kwdefaults)) X N
    (DH.isRef_ok (DH.at_ c 0 0 rfl rfl))
    (DH.isRef_ok (DH.at_ c 0 1 rfl rfl))
    (DH.at_ c 1 17 rfl rfl)
    (DH.eqO_ok (DH.at_ c 1 18 rfl rfl))
    (DH.eqB_ok (DH.at_ c 1 19 rfl rfl))
    (DH.eqT_ok (DH.at_ c 2 0 rfl rfl))
    (DH.at_ c 2 1 rfl rfl)
    (DH.at_ c 2 2 rfl rfl)
    (DH.at_ c 2 3 rfl rfl)
    (DH.eqO_ok (DH.at_ c 2 4 rfl rfl))
    (DH.eqB_ok (DH.at_ c 2 5 rfl rfl))
    (DH.eqB_ok (DH.at_ c 2 6 rfl rfl))
    (DH.eqB_ok (DH.at_ c 2 7 rfl rfl))
    (DH.isRef_ok (DH.at_ c 0 2 rfl rfl))
    (DH.at_ c 2 8 rfl rfl)
    (DH.eqO_ok (DH.at_ c 2 9 rfl rfl))
    (DH.eqB_ok (DH.at_ c 2 10 rfl rfl))
    (DH.eqT_ok (DH.at_ c 2 11 rfl rfl))
    (DH.at_ c 2 12 rfl rfl)
    (DH.at_ c 2 13 rfl rfl)
    (DH.at_ c 2 14 rfl rfl)
    (DH.eqO_ok (DH.at_ c 2 15 rfl rfl))
    (DH.eqB_ok (DH.at_ c 2 16 rfl rfl))
    (DH.eqO_ok (DH.at_ c 2 17 rfl rfl))
    (DH.eqB_ok (DH.at_ c 2 18 rfl rfl))
    (DH.eqB_ok (DH.at_ c 2 19 rfl rfl))
    (DH.isRef_ok (DH.at_ c 0 3 rfl rfl))
    (DH.at_ c 3 0 rfl rfl)
    (DH.at_ c 3 1 rfl rfl)
    (DH.at_ c 3 2 rfl rfl)
    (DH.eqO_ok (DH.at_ c 3 3 rfl rfl))
    (DH.eqO_ok (DH.at_ c 3 4 rfl rfl))
    (DH.eqO_ok (DH.at_ c 3 5 rfl rfl))
    (DH.at_ c 3 6 rfl rfl)
    (DH.eqO_ok (DH.at_ c 3 7 rfl rfl))
    (DH.eqB_ok (DH.at_ c 3 8 rfl rfl))
    (DH.at_ c 3 9 rfl rfl)
    (DH.eqO_ok (DH.at_ c 3 10 rfl rfl))
    (DH.at_ c 3 11 rfl rfl)
    (DH.eqB_ok (DH.at_ c 3 12 rfl rfl))
    (DH.eqB_ok (DH.at_ c 3 13 rfl rfl))
    (DH.eqB_ok (DH.at_ c 3 14 rfl rfl))
    (DH.at_ c 3 15 rfl rfl)
    (DH.eqO_ok (DH.at_ c 3 16 rfl rfl))
    (DH.isCInt_ok (DH.at_ c 3 17 rfl rfl))
    (DH.eqO_ok (DH.at_ c 3 18 rfl rfl))
    (DH.eqO_ok (DH.at_ c 3 19 rfl rfl))
    (DH.eqO_ok (DH.at_ c 4 0 rfl rfl))
    (DH.eqO_ok (DH.at_ c 4 1 rfl rfl))
    (DH.eqO_ok (DH.at_ c 4 2 rfl rfl))
    (DH.eqO_ok (DH.at_ c 4 3 rfl rfl))
    (DH.eqO_ok (DH.at_ c 4 4 rfl rfl))
    (DH.eqO_ok (DH.at_ c 4 5 rfl rfl))
    (DH.eqO_ok (DH.at_ c 4 6 rfl rfl))
    (DH.eqO_ok (DH.at_ c 4 7 rfl rfl))
    (DH.eqO_ok (DH.at_ c 4 8 rfl rfl))
    (DH.eqO_ok (DH.at_ c 4 9 rfl rfl))
    (DH.eqB_ok (DH.at_ c 4 10 rfl rfl))
    (DH.eqB_ok (DH.at_ c 4 11 rfl rfl))
    (DH.eqO_ok (DH.at_ c 4 12 rfl rfl))
    (DH.eqB_ok (DH.at_ c 4 13 rfl rfl))
    (DH.isRef_ok (DH.at_ c 0 4 rfl rfl))
    (DH.fnV_ok (DH.fat_ d 0 0 rfl rfl rfl rfl))
    (DH.at_ c 4 14 rfl rfl)
    (DH.at_ c 4 15 rfl rfl)
    (DH.isRef_ok (DH.at_ c 0 5 rfl rfl))
    (DH.fnV_ok (DH.fat_ d 0 1 rfl rfl rfl rfl))
    (DH.at_ c 4 16 rfl rfl)
    (DH.at_ c 4 17 rfl rfl)
    (DH.isRef_ok (DH.at_ c 0 6 rfl rfl))
    (DH.fnV_ok (DH.fat_ d 0 2 rfl rfl rfl rfl))
    (DH.at_ c 4 18 rfl rfl)
    (DH.at_ c 4 19 rfl rfl)
    (DH.isRef_ok (DH.at_ c 0 7 rfl rfl))
    (DH.fnV_ok (DH.fat_ d 0 3 rfl rfl rfl rfl))
    (DH.at_ c 5 0 rfl rfl)
    (DH.at_ c 5 1 rfl rfl)
    (DH.isRef_ok (DH.at_ c 0 8 rfl rfl))
    (DH.fnV_ok (DH.fat_ d 0 4 rfl rfl rfl rfl))
    (DH.at_ c 5 2 rfl rfl)
    (DH.at_ c 5 3 rfl rfl)
    (DH.isRef_ok (DH.at_ c 0 9 rfl rfl))
    (DH.fnV_ok (DH.fat_ d 0 5 rfl rfl rfl rfl))
    (DH.at_ c 5 4 rfl rfl)
    (DH.at_ c 5 5 rfl rfl)
    (DH.isRef_ok (DH.at_ c 0 10 rfl rfl))
    (DH.at_ c 5 6 rfl rfl)
    (DH.fnV_ok (DH.fat_ d 0 6 rfl rfl rfl rfl))
    (DH.at_ c 5 7 rfl rfl)
    (DH.at_ c 5 8 rfl rfl)
    (DH.isRef_ok (DH.at_ c 0 11 rfl rfl))
    (DH.at_ c 5 9 rfl rfl)
    (DH.fnV_ok (DH.fat_ d 0 7 rfl rfl rfl rfl))
    (DH.at_ c 5 10 rfl rfl)
    (DH.at_ c 5 11 rfl rfl)
    (DH.isRef_ok (DH.at_ c 0 12 rfl rfl))
    (DH.at_ c 5 12 rfl rfl)
    (DH.fnV_ok (DH.fat_ d 0 8 rfl rfl rfl rfl))
    (DH.at_ c 5 13 rfl rfl)
    (DH.at_ c 5 14 rfl rfl)
    (DH.eqT_ok (DH.at_ c 5 15 rfl rfl))
    (DH.eqO_ok (DH.at_ c 5 16 rfl rfl))
    (DH.isRef_ok (DH.at_ c 0 13 rfl rfl))
    (DH.fnV_ok (DH.fat_ d 0 9 rfl rfl rfl rfl))
    (DH.at_ c 5 17 rfl rfl)
    (DH.at_ c 5 18 rfl rfl)
    (DH.isRef_ok (DH.at_ c 0 14 rfl rfl))
    (DH.fnV_ok (DH.fat_ d 0 10 rfl rfl rfl rfl))
    (DH.at_ c 5 19 rfl rfl)
    (DH.at_ c 6 0 rfl rfl)
    (DH.isRef_ok (DH.at_ c 0 15 rfl rfl))
    (DH.at_ c 6 1 rfl rfl)
    (DH.fnV_ok (DH.fat_ d 0 11 rfl rfl rfl rfl))
    (DH.at_ c 6 2 rfl rfl)
    (DH.at_ c 6 3 rfl rfl)
    (DH.at_ c 6 4 rfl rfl)
    (DH.at_ c 6 5 rfl rfl)
    (DH.isRef_ok (DH.at_ c 0 16 rfl rfl))
    (DH.at_ c 6 6 rfl rfl)
    (DH.fnV_ok (DH.fat_ d 0 12 rfl rfl rfl rfl))
    (DH.at_ c 6 7 rfl rfl)
    (DH.at_ c 6 8 rfl rfl)
    (DH.eqT_ok (DH.at_ c 6 9 rfl rfl))
    (DH.isRef_ok (DH.at_ c 0 17 rfl rfl))
    (DH.fnV_ok (DH.fat_ d 0 13 rfl rfl rfl rfl))
    (DH.at_ c 6 10 rfl rfl)
    (DH.at_ c 6 11 rfl rfl)
    (DH.isRef_ok (DH.at_ c 0 18 rfl rfl))
    (DH.at_ c 6 12 rfl rfl)
    (DH.fnV_ok (DH.fat_ d 0 14 rfl rfl rfl rfl))
    (DH.at_ c 6 13 rfl rfl)
    (DH.at_ c 6 14 rfl rfl)
    (DH.isRef_ok (DH.at_ c 0 19 rfl rfl))
    (DH.at_ c 6 15 rfl rfl)
    (DH.fnV_ok (DH.fat_ d 0 15 rfl rfl rfl rfl))
    (DH.at_ c 6 16 rfl rfl)
    (DH.at_ c 6 17 rfl rfl)
    (DH.isRef_ok (DH.at_ c 1 0 rfl rfl))
    (DH.at_ c 6 18 rfl rfl)
    (DH.fnV_ok (DH.fat_ d 0 16 rfl rfl rfl rfl))
    (DH.at_ c 6 19 rfl rfl)
    (DH.at_ c 7 0 rfl rfl)
    (DH.isRef_ok (DH.at_ c 1 1 rfl rfl))
    (DH.fnV_ok (DH.fat_ d 0 17 rfl rfl rfl rfl))
    (DH.at_ c 7 1 rfl rfl)
    (DH.at_ c 7 2 rfl rfl)
    (DH.isRef_ok (DH.at_ c 1 2 rfl rfl))
    (DH.eqO_ok (DH.at_ c 7 3 rfl rfl))
    (DH.eqB_ok (DH.at_ c 7 4 rfl rfl))
    (DH.isRec_ok (DH.at_ c 1 13 rfl rfl))
    (DH.fnV_ok (DH.fat_ d 0 18 rfl rfl rfl rfl))
    (DH.at_ c 7 5 rfl rfl)
    (DH.at_ c 7 6 rfl rfl)
    (DH.isRef_ok (DH.at_ c 1 3 rfl rfl))
    (DH.eqO_ok (DH.at_ c 7 7 rfl rfl))
    (DH.eqB_ok (DH.at_ c 7 8 rfl rfl))
    (DH.isRec_ok (DH.at_ c 1 14 rfl rfl))
    (DH.fnV_ok (DH.fat_ d 0 19 rfl rfl rfl rfl))
    (DH.at_ c 7 9 rfl rfl)
    (DH.at_ c 7 10 rfl rfl)
    (DH.isRef_ok (DH.at_ c 1 4 rfl rfl))
    (DH.fnV_ok (DH.fat_ d 1 0 rfl rfl rfl rfl))
    (DH.at_ c 7 11 rfl rfl)
    (DH.at_ c 7 12 rfl rfl)
    (DH.isRef_ok (DH.at_ c 1 5 rfl rfl))
    (DH.fnV_ok (DH.fat_ d 1 1 rfl rfl rfl rfl))
    (DH.at_ c 7 13 rfl rfl)
    (DH.at_ c 7 14 rfl rfl)
    (DH.isVRef_ok (DH.at_ c 1 15 rfl rfl))
    (DH.isRef_ok (DH.at_ c 1 6 rfl rfl))
    (DH.fnV_ok (DH.fat_ d 1 2 rfl rfl rfl rfl))
    (DH.at_ c 7 15 rfl rfl)
    (DH.at_ c 7 16 rfl rfl)
    (DH.isRef_ok (DH.at_ c 1 7 rfl rfl))
    (DH.at_ c 7 17 rfl rfl)
    (DH.fnV_ok (DH.fat_ d 1 3 rfl rfl rfl rfl))
    (DH.at_ c 7 18 rfl rfl)
    (DH.at_ c 7 19 rfl rfl)
    (DH.isRef_ok (DH.at_ c 1 8 rfl rfl))
    (DH.at_ c 8 0 rfl rfl)
    (DH.fnV_ok (DH.fat_ d 1 4 rfl rfl rfl rfl))
    (DH.at_ c 8 1 rfl rfl)
    (DH.at_ c 8 2 rfl rfl)
    (DH.isRef_ok (DH.at_ c 1 9 rfl rfl))
    (DH.at_ c 8 3 rfl rfl)
    (DH.fnV_ok (DH.fat_ d 1 5 rfl rfl rfl rfl))
    (DH.at_ c 8 4 rfl rfl)
    (DH.at_ c 8 5 rfl rfl)
    (DH.isRef_ok (DH.at_ c 1 10 rfl rfl))
    (DH.at_ c 8 6 rfl rfl)
    (DH.fnV_ok (DH.fat_ d 1 6 rfl rfl rfl rfl))
    (DH.at_ c 8 7 rfl rfl)
    (DH.at_ c 8 8 rfl rfl)
    (DH.isRef_ok (DH.at_ c 1 11 rfl rfl))
    (DH.fnV_ok (DH.fat_ d 1 7 rfl rfl rfl rfl))
    (DH.at_ c 8 9 rfl rfl)
    (DH.at_ c 8 10 rfl rfl)
    (DH.isVRef_ok (DH.at_ c 1 16 rfl rfl))
    (DH.isRef_ok (DH.at_ c 1 12 rfl rfl))
    (DH.fnV_ok (DH.fat_ d 1 8 rfl rfl rfl rfl))
    (DH.at_ c 8 11 rfl rfl)
    (DH.at_ c 8 12 rfl rfl)
    (of_decide_eq_true (DH.at_ c 8 13 rfl rfl))
def adrs : List Addr := [2, 3, 15, 17, 18, 20, 21, 22, 24, 25, 27, 28, 29, 36, 37, 38, 39, 42, 49, 51, 52, 54, 55, 56, 57, 58, 61, 68, 70, 71, 73, 74, 75, 76, 77, 87, 89, 90, 92, 93, 94, 96, 97, 99, 100, 101, 102, 104, 105, 107, 108, 109, 110, 112, 113, 115, 116, 117, 119, 120, 122, 123, 124, 126, 127, 129, 130, 131, 133, 134, 136, 137, 138, 140, 141, 143, 144, 145, 147, 148, 150, 151, 152, 154, 155, 157, 158, 159, 161, 162, 164, 165, 166, 168, 169, 171, 172, 173, 174, 175, 176, 177, 180, 182, 183, 185, 186, 187, 189, 190, 192, 193, 194, 196, 197, 199, 200, 201, 204, 205, 206, 208, 209, 211, 212, 213, 216, 217, 218, 220, 221, 223, 224, 225, 227, 228, 230, 231, 232, 234, 235, 237, 238, 239, 241, 242, 244, 245, 246, 248, 249, 251, 252, 253, 255, 256, 258, 259, 260, 262, 263, 265, 266]
def loose0 : List Str := ["is_integer", "is_integer_within", "SweepError", "InvalidLoad", "LimitExceeded", "Load", "load_within_limit", "_require_load", "_law_mixed", "_law_folded", "_law_draw", "_law_begun", "_law_pick", "_law_near", "_law_told", "_law_due", "_law_two_right", "_law_one_right"]
def loose : List Str := loose0
abbrev hk : PySem.W.Hook := DH.hookT adrs ts fcts fns fvs
def ob (s : PySem.W.SharedT) : DH.Al := DH.obsT adrs ts fcts fns (HandSHeadRun.getT s)
abbrev RW : PySem.W.OpenRow := PySem.W.OpenLaw.row PySem.Challenge.rw_handsweeps_k08_loads_reckoned
set_option maxHeartbeats 0 in
theorem run (w : World) : HandSHeadRun.RunEq RW (PySem.W.view RW.prog [22]) hk ob 2089 loose w := by
  intro os
  kernel_rfl
end My

open PySem PySem.W PySem.Calls PyProof.Rows in
set_option maxRecDepth 100000 in
set_option maxHeartbeats 0 in
theorem PySem.Challenge.cw_handsweeps_k08_loads_reckoned_holds : PySem.Challenge.rw_handsweeps_k08_loads_reckoned.Holds := by
  w_on; o_law
  refine HandSHeadRun.head_any (r := OpenLaw.row PySem.Challenge.rw_handsweeps_k08_loads_reckoned) (q := view (OpenLaw.row PySem.Challenge.rw_handsweeps_k08_loads_reckoned).prog [22]) (H := My.hk) (ob := My.ob) (M := 2089) (loose := My.loose) (d := HandSHeadRun.topDef (OpenLaw.row PySem.Challenge.rw_handsweeps_k08_loads_reckoned).prog 22) (kwd := []) DH.obsT_eq
    (by kernel_rfl) (fun s => by kernel_rfl) My.run (by kernel_rfl) (by kernel_rfl) (by kernel_rfl) (by rfl) (by first | assumption | decide +kernel) (by decide +kernel) ⟨rfl, rfl, rfl, rfl, rfl, by decide +kernel⟩ ?hw ?hc
  case hw => w_witness2
  case hc =>
    refine DH.walkDT (l := PySem.Challenge.rw_handsweeps_k08_loads_reckoned) (n := 63) (k := 11) (gd := true) (sp := My.slaw) (x := "_law_script") rfl (by decide) (by kernel_rfl) ⟨rfl, by decide, by decide⟩ rfl ?F (fun ns hl => My.law_spec ns hl)
    intro w mg h Y N
    obtain ⟨K, K2, KX, K2X, c0, d⟩ := Y
    obtain ⟨c, c2⟩ := Bool.and_eq_true_iff.mp c0
    have e : (HandSHeadRun.topDef (OpenLaw.row PySem.Challenge.rw_handsweeps_k08_loads_reckoned).prog 22).name = ("law" : PySem.Str) := by kernel_rfl
    rw [e]
    obtain ⟨t1, t2, t3⟩ := My.tab_of KX c
    obtain ⟨G, hG, hF⟩ := My.all_of KX N c d
    exact ⟨K, My.cs K, G, KX, fun p hp => K2X _ _ (DH.isTab_ok (List.all_eq_true.mp c2 p.2 (t3 p hp))), t1, t2, hG, hF⟩
#print axioms PySem.Challenge.cw_handsweeps_k08_loads_reckoned_holds

