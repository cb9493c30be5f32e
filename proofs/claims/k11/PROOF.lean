import PyProof.Rows.All
import Wide.All
import OpenK.AllK
import Wide.FinOn
import HandS.ForMost
import HandS.Exc
import HandS.TryOnly
import HandS.ExcOwn
import HandS.WordsExc
import HandS.CallSlots
import HandS.Lambda
import HandS.ExcInit
import HandS.SortInts
import HandS.TupAny
import HandS.SetFor
import HandS.More
import HandS.Property
import HandS.IsInst
import HandS.RaiseMore
import HandS.Conv
import HandS.ClsMeth
import HandS.Iter
import HandS.TupMul
import HandS.Wide
import HandS.Defaults
import HandS.Style
import HandS.GenList
import HandS.GenYield
import HandS.Star
import HandS.MakeKwOnly
import HandS.Ends
import HandS.SlotsOwn
import KE.KOpsOwn
import KE.KStar
import HandS.Strs
import HandS.Zip
import HandS.Head0
import HandS.Head1
import HandS.Head2
import HandS.HeadHook1
import PySem.Challenge.RW_handsweeps_k11_whole_only_the_load_count
import KE.KStateDown
import KE.GoesMore
import HandS.NestedK
import KE.KSuper
import HandS.SortKw
import HandS.SortRule
import HandS.Flow
import HandS.OwnEq
import HandS.Sort
set_option Elab.async false
set_option linter.all false
set_option maxRecDepth 100000
/-! The layer DL: values as trees (D), what is made once and never changed (F) apart from what is changed (M). -/
namespace DL
open PySem PySem.Spec L2
open PyProof.Rows hiding St

inductive D where
  | non | bl (b : Bool) | int (i : Int) | str (x : Str)
  | tup (ds : List D) | lst (ds : List D) | frl (ds : List D) | dct (kvs : List (Key × D))
  | ins (c : Nat) (fs : List D)
  | exc (c : Nat) (fs : List D)
  | fn (f c : Addr) (q : Str) (vs : List V) (ds : List D)
  | cls (c : Nat)
  | raw (v : V)

/-- a thing that changes -/
inductive MO where
  | lst (ds : List D) | dct (kvs : List (Key × D)) | ins (c : Nat) (fs : List D) | dcT (kvs : List (List Key × D))

/-- the classes of the text: where they stand, their attributes in the order in which __init__ makes them -/
structure Cfg where
  cl : Nat → Addr
  nm : Nat → List Str
  /-- the tables of code objects, with the names that they tell -/
  tabs : List (Addr × Str) := []

/-- an exception object that flies no more -/
def ExV (cls : Value) (d : Option Addr) (a : Addr) : HO := .ext fun h => ∃ (oe : Obj) (vs : Array Value), h.get? a = some oe ∧ Zc cls d oe ∧ oe.data = .fields vs
theorem exV_ok {P : Program} {w : World} {H : Hp} {h : Heap} {a : Addr} {cls : Value} {d : Option Addr} {oe : Obj} {vs : Array Value} (e : h.get? a = some oe) (z : Zc cls d oe) (q : oe.data = .fields vs) : ObjOk P w H h a (ExV cls d a) :=
  ⟨⟨oe, vs, e, z, q⟩, ⟨oe, e⟩, fun _ _ ⟨o, v, q, r⟩ k => ⟨o, v, k o q, r⟩⟩
mutual
inductive Rep (G : Cfg) (K : PySem.W.Frag) (F : Hp) : V → D → Prop
  | non : Rep G K F .non .non
  | bl (b : Bool) : Rep G K F (.bl b) (.bl b)
  | int (i : Int) : Rep G K F (.int i) (.int i)
  | str (x : Str) : Rep G K F (.str x) (.str x)
  | cls (c : Nat) : Rep G K F (.ref (G.cl c)) (.cls c)
  | raw (v : V) : Rep G K F v (.raw v)
  | tup {a : Addr} {vs : List V} {ds : List D} : F a = some (.tup vs) → RepL G K F vs ds → Rep G K F (.ref a) (.tup ds)
  | lst {a : Addr} {vs : List V} {ds : List D} : F a = some (.lst vs) → RepL G K F vs ds → Rep G K F (.ref a) (.lst ds)
  | frl {a : Addr} {vs : List V} {ds : List D} : SqL K F a vs → RepL G K F vs ds → Rep G K F (.ref a) (.frl ds)
  | dct {a : Addr} {kvs : List (Key × V)} {ds : List (Key × D)} : F a = some (.dK kvs) → RepK G K F kvs ds → Rep G K F (.ref a) (.dct ds)
  | ins {a dx : Addr} {c : Nat} {vs : List V} {ds : List D} : F a = some (.ins (G.cl c) dx ((G.nm c).zip vs)) → vs.length = (G.nm c).length → RepL G K F vs ds → Rep G K F (.ref a) (.ins c ds)
  | exc {a d : Addr} {c : Nat} {vs : List V} {ds : List D} : F a = some (ExV (.ref (G.cl c)) (some d) a) → F d = some (.xd ((G.nm c).zip vs)) → vs.length = (G.nm c).length → RepL G K F vs ds → Rep G K F (.ref a) (.exc c ds)
  | exc0 {a : Addr} {c : Nat} : F a = some (ExV (.ref (G.cl c)) none a) → Rep G K F (.ref a) (.exc c [])
  | fn {f c : Addr} {q : Str} {vs : List V} {ds : List D} : F c = some (LamX.CodeO c q) → RepL G K F vs ds → Rep G K F (.ref f) (.fn f c q vs ds)
inductive RepL (G : Cfg) (K : PySem.W.Frag) (F : Hp) : List V → List D → Prop
  | nil : RepL G K F [] []
  | cons {v : V} {d : D} {vs : List V} {ds : List D} : Rep G K F v d → RepL G K F vs ds → RepL G K F (v :: vs) (d :: ds)
inductive RepK (G : Cfg) (K : PySem.W.Frag) (F : Hp) : List (Key × V) → List (Key × D) → Prop
  | nil : RepK G K F [] []
  | cons {k : Key} {v : V} {d : D} {vs : List (Key × V)} {ds : List (Key × D)} : Rep G K F v d → RepK G K F vs ds → RepK G K F ((k, v) :: vs) ((k, d) :: ds)
end

/-- a dict whose keys are tuples -/
inductive RepT (G : Cfg) (K : PySem.W.Frag) (F : Hp) : List (List Key × V) → List (List Key × D) → Prop
  | nil : RepT G K F [] []
  | cons {k : List Key} {v : V} {d : D} {vs : List (List Key × V)} {ds : List (List Key × D)} : Rep G K F v d → RepT G K F vs ds → RepT G K F ((k, v) :: vs) ((k, d) :: ds)
abbrev MM := Addr → Option MO
def updM (M : MM) (a : Addr) (o : MO) : MM := fun b => if b = a then some o else M b
theorem updM_same {M : MM} {a : Addr} {o : MO} : updM M a o a = some o := by unfold updM; rw [if_pos rfl]
theorem updM_ne {M : MM} {a b : Addr} {o : MO} (h : b ≠ a) : updM M a o b = M b := by unfold updM; rw [if_neg h]
def delM (M : MM) (a : Addr) : MM := fun b => if b = a then none else M b

section
variable {G : Cfg} {K : PySem.W.Frag} {F F' F1 F2 : Hp} {M M' M1 M2 : MM} {H H' H1 H2 : Hp}
theorem sqT_up {a : Addr} {xs : List V} (e : Same F F') (h : SqT K F a xs) : SqT K F' a xs := by
  rcases h with (h | ⟨o, h⟩) | h
  · exact .inl (.inl (e _ _ h))
  · exact .inl (.inr ⟨o, e _ _ h⟩)
  · exact .inr h
theorem sqT_mono {a : Addr} {xs : List V} (e : Same F F') (h : F a = some (.tup xs)) : SqT K F' a xs := SqT.of (e _ _ h)
mutual
theorem Rep.mono (e : Same F F') : ∀ {v : V} {d : D}, Rep G K F v d → Rep G K F' v d
  | _, _, .non => .non
  | _, _, .bl b => .bl b
  | _, _, .int i => .int i
  | _, _, .str x => .str x
  | _, _, .cls c => .cls c
  | _, _, .raw v => .raw v
  | _, _, .tup h r => .tup (e _ _ h) (RepL.mono e r)
  | _, _, .lst h r => .lst (e _ _ h) (RepL.mono e r)
  | _, _, .frl h r => .frl (e.seq h) (RepL.mono e r)
  | _, _, .dct h r => .dct (e _ _ h) (RepK.mono e r)
  | _, _, .ins h l r => .ins (e _ _ h) l (RepL.mono e r)
  | _, _, .exc h h2 l r => .exc (e _ _ h) (e _ _ h2) l (RepL.mono e r)
  | _, _, .exc0 h => .exc0 (e _ _ h)
  | _, _, .fn h r => .fn (e _ _ h) (RepL.mono e r)
theorem RepL.mono (e : Same F F') : ∀ {vs : List V} {ds : List D}, RepL G K F vs ds → RepL G K F' vs ds
  | _, _, .nil => .nil
  | _, _, .cons h t => .cons (Rep.mono e h) (RepL.mono e t)
theorem RepK.mono (e : Same F F') : ∀ {vs : List (Key × V)} {ds : List (Key × D)}, RepK G K F vs ds → RepK G K F' vs ds
  | _, _, .nil => .nil
  | _, _, .cons h t => .cons (Rep.mono e h) (RepK.mono e t)
end
theorem RepL.len : ∀ {vs : List V} {ds : List D}, RepL G K F vs ds → vs.length = ds.length
  | _, _, .nil => rfl
  | _, _, .cons _ t => congrArg Nat.succ (RepL.len t)
theorem RepL.app : ∀ {vs ws : List V} {ds es : List D}, RepL G K F vs ds → RepL G K F ws es → RepL G K F (vs ++ ws) (ds ++ es)
  | _, _, _, _, .nil, s => s
  | _, _, _, _, .cons h t, s => .cons h (RepL.app t s)
theorem RepL.get : ∀ {vs : List V} {ds : List D} {i : Nat} {d : D}, RepL G K F vs ds → ds[i]? = some d → ∃ v, vs[i]? = some v ∧ Rep G K F v d
  | _, _, _, _, .nil, e => by simp at e
  | _, _, 0, _, .cons h _, e => by simp at e; subst e; exact ⟨_, rfl, h⟩
  | _, _, i + 1, d, .cons _ t, e => by
    obtain ⟨v, e1, r⟩ := RepL.get (i := i) (d := d) t (by simpa using e)
    exact ⟨v, by simpa using e1, r⟩
theorem RepL.get' : ∀ {vs : List V} {ds : List D} {i : Nat} {v : V}, RepL G K F vs ds → vs[i]? = some v → ∃ d, ds[i]? = some d ∧ Rep G K F v d
  | _, _, _, _, .nil, e => by simp at e
  | _, _, 0, _, .cons h _, e => by simp at e; subst e; exact ⟨_, rfl, h⟩
  | _, _, i + 1, v, .cons _ t, e => by
    obtain ⟨d, e1, r⟩ := RepL.get' (i := i) (v := v) t (by simpa using e)
    exact ⟨d, by simpa using e1, r⟩
theorem RepL.set {v : V} {d : D} (r : Rep G K F v d) : ∀ {vs : List V} {ds : List D} (i : Nat), RepL G K F vs ds → RepL G K F (vs.set i v) (ds.set i d)
  | _, _, _, .nil => .nil
  | _, _, 0, .cons _ t => .cons r t
  | _, _, i + 1, .cons q t => .cons q (RepL.set r i t)
theorem RepL.take : ∀ {vs : List V} {ds : List D} (n : Nat), RepL G K F vs ds → RepL G K F (vs.take n) (ds.take n)
  | _, _, 0, _ => .nil
  | _, _, _ + 1, .nil => .nil
  | _, _, n + 1, .cons r t => .cons r (RepL.take n t)
theorem RepL.drop : ∀ {vs : List V} {ds : List D} (n : Nat), RepL G K F vs ds → RepL G K F (vs.drop n) (ds.drop n)
  | _, _, 0, r => r
  | _, _, _ + 1, .nil => .nil
  | _, _, n + 1, .cons _ t => RepL.drop n t
theorem RepL.rev : ∀ {vs : List V} {ds : List D}, RepL G K F vs ds → RepL G K F vs.reverse ds.reverse
  | _, _, .nil => .nil
  | _, _, .cons r t => by rw [List.reverse_cons, List.reverse_cons]; exact (RepL.rev t).app (.cons r .nil)
/-- ints alone -/
theorem RepL.ints : ∀ {vs : List V} {ns : List Int}, RepL G K F vs (ns.map D.int) → vs = ns.map V.int
  | _, [], .nil => rfl
  | _, n :: ns, .cons h t => by
    cases h
    rw [RepL.ints t]
    rfl
theorem RepL.of_ints : ∀ (ns : List Int), RepL G K F (ns.map V.int) (ns.map D.int)
  | [] => .nil
  | n :: ns => .cons (.int n) (RepL.of_ints ns)

theorem RepT.mono (e : Same F F') : ∀ {vs : List (List Key × V)} {ds : List (List Key × D)}, RepT G K F vs ds → RepT G K F' vs ds
  | _, _, .nil => .nil
  | _, _, .cons h t => .cons (Rep.mono e h) (RepT.mono e t)
/-- what a changing thing looks like -/
def RepM (G : Cfg) (K : PySem.W.Frag) (F H : Hp) (b : Addr) : MO → Prop
  | .lst ds => ∃ vs, H b = some (.lst vs) ∧ RepL G K F vs ds
  | .dct ds => ∃ vs, H b = some (.dK vs) ∧ RepK G K F vs ds
  | .ins c fs => ∃ dx vs, H b = some (.ins (G.cl c) dx ((G.nm c).zip vs)) ∧ vs.length ≤ (G.nm c).length ∧ RepL G K F vs fs
  | .dcT ds => ∃ vs, H b = some (.dT vs) ∧ RepT G K F vs ds
theorem RepM.mono {b : Addr} {m : MO} (e : Same F F') (eb : H' b = H b) (h : RepM G K F H b m) : RepM G K F' H' b m := by
  cases m with
  | lst ds => obtain ⟨vs, h1, r⟩ := h; exact ⟨vs, eb.trans h1, r.mono e⟩
  | dct ds => obtain ⟨vs, h1, r⟩ := h; exact ⟨vs, eb.trans h1, r.mono e⟩
  | ins c fs => obtain ⟨dx, vs, h1, l, r⟩ := h; exact ⟨dx, vs, eb.trans h1, l, r.mono e⟩
  | dcT ds => obtain ⟨vs, h1, r⟩ := h; exact ⟨vs, eb.trans h1, r.mono e⟩
theorem RepM.some {b : Addr} {m : MO} (h : RepM G K F H b m) : ∃ o, H b = some o := by
  cases m with
  | lst ds => obtain ⟨vs, h1, _⟩ := h; exact ⟨_, h1⟩
  | dct ds => obtain ⟨vs, h1, _⟩ := h; exact ⟨_, h1⟩
  | ins c fs => obtain ⟨dx, vs, h1, _⟩ := h; exact ⟨_, h1⟩
  | dcT ds => obtain ⟨vs, h1, _⟩ := h; exact ⟨_, h1⟩
/-- a table of code objects: what it tells bears the name -/
def TabR (F H : Hp) (p : Addr × Str) : Prop := ∃ ps : Array Value, H p.1 = some (.tbl ps) ∧ TriplesOk ps.toList ∧ ∀ (pos : Pos) (cv : Value), codeAmong pos ps.toList = some cv → ∃ c, cv = .ref c ∧ F c = some (LamX.CodeO c p.2)
theorem TabR.mono {p : Addr × Str} (e : Same F F') (eb : H' p.1 = H p.1) (h : TabR F H p) : TabR F' H' p := by
  obtain ⟨ps, h1, h2, h3⟩ := h
  refine ⟨ps, eb.trans h1, h2, fun pos cv z => ?_⟩
  obtain ⟨c, e1, e2⟩ := h3 pos cv z
  exact ⟨c, e1, e _ _ e2⟩
theorem TabR.there {p : Addr × Str} (h : TabR F H p) : ∃ ps : Array Value, H p.1 = some (.tbl ps) := let ⟨ps, e, _⟩ := h; ⟨ps, e⟩
structure HM (G : Cfg) (K : PySem.W.Frag) (F : Hp) (M : MM) (H : Hp) : Prop where
  sub : Same F H
  dis : ∀ b m, M b = some m → F b = none
  mo : ∀ b m, M b = some m → RepM G K F H b m
  tb : ∀ p ∈ G.tabs, F p.1 = none ∧ M p.1 = none ∧ TabR F H p
theorem HM.ntab {b : Addr} {u : HO} (h : HM G K F M H) (e : H b = some u) (nb : ∀ ps, u ≠ .tbl ps) : ∀ p ∈ G.tabs, p.1 ≠ b := fun p hp z => by
  obtain ⟨ps, q⟩ := (h.tb p hp).2.2.there
  rw [z, e] at q
  exact nb ps (Option.some.inj q)
theorem HM.ntab0 {b : Addr} (h : HM G K F M H) (e : H b = none) : ∀ p ∈ G.tabs, p.1 ≠ b := fun p hp z => by
  obtain ⟨ps, q⟩ := (h.tb p hp).2.2.there
  rw [z, e] at q
  cases q
theorem repM_nt {b : Addr} {m : MO} {u : HO} (h : RepM G K F H b m) (e : H b = some u) : ∀ ps, u ≠ .tbl ps := fun ps z => by
  subst z
  cases m with
  | lst ds => obtain ⟨vs, h1, _⟩ := h; rw [e] at h1; cases h1
  | dct ds => obtain ⟨vs, h1, _⟩ := h; rw [e] at h1; cases h1
  | ins c fs => obtain ⟨dx, vs, h1, _⟩ := h; rw [e] at h1; cases h1
  | dcT ds => obtain ⟨vs, h1, _⟩ := h; rw [e] at h1; cases h1
theorem HM.ntabM {b : Addr} {m : MO} (h : HM G K F M H) (e : M b = some m) : ∀ p ∈ G.tabs, p.1 ≠ b := fun p hp z => by
  have q := (h.tb p hp).2.1
  rw [z, e] at q
  cases q
theorem HM.tbU {p : Addr} {o : HO} (h : HM G K F M H) (s : Same F F') (n : ∀ q ∈ G.tabs, q.1 ≠ p) (f : ∀ b, b ≠ p → F b = none → F' b = none) (m : ∀ b, b ≠ p → M b = none → M' b = none) : ∀ q ∈ G.tabs, F' q.1 = none ∧ M' q.1 = none ∧ TabR F' (upd H p o) q := fun q hq =>
  let ⟨h1, h2, h3⟩ := h.tb q hq
  ⟨f _ (n q hq) h1, m _ (n q hq) h2, h3.mono s (upd_ne (n q hq))⟩
theorem HM.tbS {p : Addr} (h : HM G K F M H) (s : Same F F') (n : ∀ q ∈ G.tabs, q.1 ≠ p) (f : ∀ b, b ≠ p → F b = none → F' b = none) (m : ∀ b, b ≠ p → M b = none → M' b = none) : ∀ q ∈ G.tabs, F' q.1 = none ∧ M' q.1 = none ∧ TabR F' H q := fun q hq =>
  let ⟨h1, h2, h3⟩ := h.tb q hq
  ⟨f _ (n q hq) h1, m _ (n q hq) h2, h3.mono s rfl⟩
theorem updF_ne {p : Addr} {o : HO} (b : Addr) (n : b ≠ p) (f : F b = none) : upd F p o b = none := by rw [upd_ne n]; exact f
theorem updM_nn {p : Addr} {o : MO} (b : Addr) (n : b ≠ p) (f : M b = none) : updM M p o b = none := by rw [updM_ne n]; exact f
theorem delM_nn {p : Addr} (b : Addr) (n : b ≠ p) (f : M b = none) : delM M p b = none := by unfold delM; rw [if_neg n]; exact f
/-- a tuple: it never changes -/
def TupO (o : HO) : Prop := ∃ vs, o = .tup vs
structure Grow (G : Cfg) (K : PySem.W.Frag) (F : Hp) (M : MM) (H : Hp) (F' : Hp) (M' : MM) (H' : Hp) : Prop where
  hm : HM G K F' M' H'
  ext : Same F F'
  kept : ∀ b o, H b = some o → F b = none → M b = none → ((∃ p ∈ G.tabs, p.1 = b) ∧ ∃ ps, H' b = some (.tbl ps) ∧ F' b = none ∧ M' b = none) ∨ (H' b = some o ∧ (F' b = none ∨ (F' b = some o ∧ TupO o)) ∧ M' b = none)
  tab0 : ∀ p ∈ G.tabs, ∃ ps : Array Value, H p.1 = some (.tbl ps)
theorem HM.tab0 (h : HM G K F M H) : ∀ p ∈ G.tabs, ∃ ps : Array Value, H p.1 = some (.tbl ps) := fun p hp => (h.tb p hp).2.2.there
theorem HM.noM {b : Addr} {o : HO} (h : HM G K F M H) (f : F b = some o) : M b = none := by
  cases q : M b with
  | none => rfl
  | some m => rw [h.dis b m q] at f; cases f
theorem Grow.refl (h : HM G K F M H) : Grow G K F M H F M H := ⟨h, Same.refl _, fun _ _ a b c => .inr ⟨a, .inl b, c⟩, h.tab0⟩
theorem Grow.trans (a : Grow G K F M H F1 M1 H1) (b : Grow G K F1 M1 H1 F2 M2 H2) : Grow G K F M H F2 M2 H2 :=
  ⟨b.hm, a.ext.trans b.ext, fun c o h f m => by
    rcases a.kept c o h f m with ⟨hp, ps, h1, f1, m1⟩ | ⟨h1, f1, m1⟩
    · rcases b.kept c _ h1 f1 m1 with t | ⟨h2, f2, m2⟩
      · exact .inl t
      · rcases f2 with f2 | ⟨_, _, z⟩
        · exact .inl ⟨hp, ps, h2, f2, m2⟩
        · cases z
    rcases f1 with f1 | ⟨f1, t⟩
    · exact b.kept c o h1 f1 m1
    · have f2 := b.ext _ _ f1
      exact .inr ⟨b.hm.sub _ _ f2, .inr ⟨f2, t⟩, b.hm.noM f2⟩, a.tab0⟩
/-- what is no tuple stays unclaimed -/
theorem Grow.keep (g : Grow G K F M H F' M' H') (b : Addr) (o : HO) (e : H b = some o) (f : F b = none) (m : M b = none) (nt : ¬ TupO o := by exact fun ⟨_, z⟩ => by cases z) (nb : ∀ ps, o ≠ .tbl ps := by exact fun _ z => by cases z) : H' b = some o ∧ F' b = none ∧ M' b = none := by
  rcases g.kept b o e f m with ⟨⟨p, hp, rfl⟩, _⟩ | ⟨h1, f1, m1⟩
  · obtain ⟨ps, z⟩ := g.tab0 p hp
    exact (nb ps (Option.some.inj (e.symm.trans z))).elim
  rcases f1 with f1 | ⟨_, t⟩
  · exact ⟨h1, f1, m1⟩
  · exact (nt t).elim
theorem HM.free {b : Addr} (h : HM G K F M H) (n : H b = none) : F b = none ∧ M b = none := by
  constructor
  · cases q : F b with
    | none => rfl
    | some o => rw [h.sub b o q] at n; cases n
  · cases q : M b with
    | none => rfl
    | some m =>
      obtain ⟨o, e⟩ := (h.mo b m q).some
      rw [e] at n; cases n
/-- a new object that never changes -/
theorem HM.new {p : Addr} {o : HO} (h : HM G K F M H) (n : H p = none) : Grow G K F M H (upd F p o) M (upd H p o) := by
  have ne : ∀ b o, F b = some o → b ≠ p := fun b o e q => by subst q; rw [(h.free n).1] at e; cases e
  have ne2 : ∀ b m, M b = some m → b ≠ p := fun b o e q => by subst q; rw [(h.free n).2] at e; cases e
  have s1 : Same F (upd F p o) := fun b u e => by rw [upd_ne (ne b u e)]; exact e
  refine ⟨⟨fun b u e => ?_, fun b m e => ?_, fun b m e => ?_, h.tbU s1 (h.ntab0 n) (fun b => updF_ne b) (fun _ _ z => z)⟩, s1, fun b u e f m => .inr ?_, h.tab0⟩
  · by_cases q : b = p
    · subst q; rw [upd_same] at e ⊢; exact e
    · rw [upd_ne q] at e ⊢; exact h.sub b u e
  · rw [upd_ne (ne2 b m e)]; exact h.dis b m e
  · exact (h.mo b m e).mono s1 (upd_ne (ne2 b m e))
  · have q : b ≠ p := fun q => by subst q; rw [n] at e; cases e
    exact ⟨by rw [upd_ne q]; exact e, .inl (by rw [upd_ne q]; exact f), m⟩
/-- a new object that may change -/
theorem HM.newM {p : Addr} {o : HO} {m : MO} (h : HM G K F M H) (n : H p = none) (r : RepM G K F (upd H p o) p m) : Grow G K F M H F (updM M p m) (upd H p o) := by
  have ne2 : ∀ b m, M b = some m → b ≠ p := fun b o e q => by subst q; rw [(h.free n).2] at e; cases e
  refine ⟨⟨fun b u e => ?_, fun b u e => ?_, fun b u e => ?_, h.tbU (Same.refl _) (h.ntab0 n) (fun _ _ z => z) (fun b => updM_nn b)⟩, Same.refl _, fun b u e f g => .inr ?_, h.tab0⟩
  · have q : b ≠ p := fun q => by subst q; rw [(h.free n).1] at e; cases e
    rw [upd_ne q]; exact h.sub b u e
  · by_cases q : b = p
    · subst q; exact (h.free n).1
    · rw [updM_ne q] at e; exact h.dis b u e
  · by_cases q : b = p
    · subst q; rw [updM_same] at e; cases e; exact r
    · rw [updM_ne q] at e; exact (h.mo b u e).mono (Same.refl _) (upd_ne q)
  · have q : b ≠ p := fun q => by subst q; rw [n] at e; cases e
    exact ⟨by rw [upd_ne q]; exact e, .inl f, by rw [updM_ne q]; exact g⟩
/-- a changing object is changed -/
theorem HM.put {p : Addr} {o : HO} {m m' : MO} (h : HM G K F M H) (e : M p = some m) (r : RepM G K F (upd H p o) p m') : Grow G K F M H F (updM M p m') (upd H p o) := by
  have fp : F p = none := h.dis p m e
  refine ⟨⟨fun b u q => ?_, fun b u q => ?_, fun b u q => ?_, h.tbU (Same.refl _) (h.ntabM e) (fun _ _ z => z) (fun b => updM_nn b)⟩, Same.refl _, fun b u q f g => .inr ?_, h.tab0⟩
  · have z : b ≠ p := fun z => by subst z; rw [fp] at q; cases q
    rw [upd_ne z]; exact h.sub b u q
  · by_cases z : b = p
    · subst z; exact fp
    · rw [updM_ne z] at q; exact h.dis b u q
  · by_cases z : b = p
    · subst z; rw [updM_same] at q; cases q; exact r
    · rw [updM_ne z] at q; exact (h.mo b u q).mono (Same.refl _) (upd_ne z)
  · have z : b ≠ p := fun z => by subst z; rw [e] at g; cases g
    exact ⟨by rw [upd_ne z]; exact q, .inl f, by rw [updM_ne z]; exact g⟩
/-- what changed is settled: it changes no more -/
def frzD : MO → D
  | .lst ds => .lst ds
  | .dct ds => .dct ds
  | .ins c fs => .ins c fs
  | .dcT _ => .non
theorem HM.settle {p : Addr} {m : MO} (h : HM G K F M H) (e : M p = some m) (hl : ∀ c fs, m = .ins c fs → fs.length = (G.nm c).length) (nt : ∀ ds, m ≠ .dcT ds := by intro _ z; cases z) : ∃ F', Grow G K F M H F' (delM M p) H ∧ Rep G K F' (.ref p) (frzD m) := by
  have fp : F p = none := h.dis p m e
  have r := h.mo p m e
  obtain ⟨o, ho⟩ := r.some
  have s1 : Same F (upd F p o) := fun b u q => by
    have z : b ≠ p := fun z => by subst z; rw [fp] at q; cases q
    rw [upd_ne z]; exact q
  refine ⟨upd F p o, ⟨⟨fun b u q => ?_, fun b u q => ?_, fun b u q => ?_, h.tbS s1 (h.ntabM e) (fun b => updF_ne b) (fun b => delM_nn b)⟩, s1, fun b u q f g => .inr ?_, h.tab0⟩, ?_⟩
  · by_cases z : b = p
    · subst z; rw [upd_same] at q; cases q; exact ho
    · rw [upd_ne z] at q; exact h.sub b u q
  · unfold delM at q
    by_cases z : b = p
    · rw [if_pos z] at q; cases q
    · rw [if_neg z] at q; rw [upd_ne z]; exact h.dis b u q
  · unfold delM at q
    by_cases z : b = p
    · rw [if_pos z] at q; cases q
    · rw [if_neg z] at q; exact (h.mo b u q).mono s1 rfl
  · have z : b ≠ p := fun z => by subst z; rw [e] at g; cases g
    exact ⟨q, .inl (by rw [upd_ne z]; exact f), by unfold delM; rw [if_neg z]; exact g⟩
  · cases m with
    | lst ds =>
      obtain ⟨vs, h1, r⟩ := r
      rw [ho] at h1; cases h1
      exact .lst upd_same (r.mono s1)
    | dct ds =>
      obtain ⟨vs, h1, r⟩ := r
      rw [ho] at h1; cases h1
      exact .dct upd_same (r.mono s1)
    | ins c fs =>
      obtain ⟨dx, vs, h1, l, r⟩ := r
      rw [ho] at h1; cases h1
      exact .ins (dx := dx) upd_same (by rw [r.len]; exact hl c fs rfl) (r.mono s1)
    | dcT ds => exact (nt ds rfl).elim
end
end DL

set_option Elab.async false
set_option linter.all false
set_option maxRecDepth 100000
namespace DL
open PySem PySem.Spec L2
open PyProof.Rows hiding St

/-- an exception: of a class of the text, with its fields; of a built-in class -/
inductive XD where
  | own (c : Nat) (fs : List D) | blt (n : String)
abbrev DS := List (Option D)
abbrev XK' := XD → DS → MM → Prop
abbrev WE := DS → MM → (D → MM → Prop) → XK' → Prop
abbrev WT := DS → MM → (Bool → MM → Prop) → XK' → Prop
abbrev WA := DS → MM → (List D → MM → Prop) → XK' → Prop
structure ED where
  nx : DS → MM → Prop
  rt : D → MM → Prop
  bk : DS → MM → Prop := fun _ _ => False
  ct : DS → MM → Prop := fun _ _ => False
abbrev WS := ED → XK' → DS → MM → Prop
abbrev SpD := List D → MM → (D → MM → Prop) → (XD → MM → Prop) → Prop

section
variable {G : Cfg} {K : PySem.W.Frag}
def RS (G : Cfg) (K : PySem.W.Frag) (F : Hp) (σ : St) (δ : DS) : Prop := σ.length = δ.length ∧ ∀ (i : Nat) (d : D), δ[i]? = some (some d) → ∃ v, σ[i]? = some (some v) ∧ Rep G K F v d
theorem RS.mono {F F' : Hp} {σ : St} {δ : DS} (e : Same F F') (h : RS G K F σ δ) : RS G K F' σ δ := ⟨h.1, fun i d q => let ⟨v, a, r⟩ := h.2 i d q; ⟨v, a, r.mono e⟩⟩
theorem RS.set {F : Hp} {σ : St} {δ : DS} {v : V} {d : D} (i : Nat) (h : RS G K F σ δ) (r : Rep G K F v d) : RS G K F (σ.set i (some v)) (δ.set i (some d)) := by
  refine ⟨by rw [List.length_set, List.length_set]; exact h.1, fun j e q => ?_⟩
  by_cases z : i = j
  · subst z
    by_cases l : i < δ.length
    · rw [List.getElem?_set_self l] at q
      cases q
      exact ⟨v, List.getElem?_set_self (by rw [h.1]; exact l), r⟩
    · rw [List.getElem?_eq_none_iff.mpr (by rw [List.length_set]; omega)] at q; cases q
  · rw [List.getElem?_set_ne z] at q ⊢
    exact h.2 j e q
def RX (G : Cfg) (K : PySem.W.Frag) (F H : Hp) (cls : Value) (dop : Option Addr) : XD → Prop
  | .own c fs => cls = .ref (G.cl c) ∧ ((fs = [] ∧ dop = none) ∨ ∃ d vs, dop = some d ∧ F d = some (.xd ((G.nm c).zip vs)) ∧ vs.length = (G.nm c).length ∧ RepL G K F vs fs)
  | .blt n => cls = .type n ∧ dop = none
def wX (G : Cfg) (K : PySem.W.Frag) (F : Hp) (M : MM) (H : Hp) (EX : XK') : WX := fun cls dop σ H' =>
  ∃ xd δ F' M', Grow G K F M H F' M' H' ∧ RS G K F' σ δ ∧ RX G K F' H' cls dop xd ∧ EX xd δ M'
theorem wX_mono {F F1 : Hp} {M M1 : MM} {H H1 : Hp} {EX : XK'} (g : Grow G K F M H F1 M1 H1) (c : Value) (d : Option Addr) (σ : St) (H' : Hp) (h : wX G K F1 M1 H1 EX c d σ H') : wX G K F M H EX c d σ H' := by
  obtain ⟨xd, δ, F', M', g', a, b, e⟩ := h
  exact ⟨xd, δ, F', M', g.trans g', a, b, e⟩
/-- what is wanted, lifted -/
def Fin (G : Cfg) (K : PySem.W.Frag) (F : Hp) (M : MM) (H : Hp) (Q : D → MM → Prop) (P : VK) : Prop := ∀ v d F' M' H', Grow G K F M H F' M' H' → Rep G K F' v d → Q d M' → P v H'
end

section
variable (G : Cfg) (X : Cx)
def up (w : WE) : TE := fun σ H P => ∃ F M δ Q EX, HM G X.K F M H ∧ RS G X.K F σ δ ∧ w δ M Q EX ∧ Takes X (wX G X.K F M H EX) ∧ Fin G X.K F M H Q P
def upT (w : WT) : TT := fun σ H P => ∃ F M δ Q EX, HM G X.K F M H ∧ RS G X.K F σ δ ∧ w δ M Q EX ∧ Takes X (wX G X.K F M H EX) ∧ ∀ b F' M' H', Grow G X.K F M H F' M' H' → Q b M' → P b H'
def upA (w : WA) : TA := fun σ H P => ∃ F M δ Q EX, HM G X.K F M H ∧ RS G X.K F σ δ ∧ w δ M Q EX ∧ Takes X (wX G X.K F M H EX) ∧ ∀ vs ds F' M' H', Grow G X.K F M H F' M' H' → RepL G X.K F' vs ds → Q ds M' → P vs H'
def upS (w : WS) : TS := fun D σ H => ∃ F M δ E EX, HM G X.K F M H ∧ RS G X.K F σ δ ∧ w E EX δ M ∧ Takes X (wX G X.K F M H EX) ∧
  (∀ σ' δ' F' M' H', Grow G X.K F M H F' M' H' → RS G X.K F' σ' δ' → E.nx δ' M' → D.nx σ' H') ∧
  (∀ v d F' M' H', Grow G X.K F M H F' M' H' → Rep G X.K F' v d → E.rt d M' → D.rt v H') ∧
  (∀ σ' δ' F' M' H', Grow G X.K F M H F' M' H' → RS G X.K F' σ' δ' → E.bk δ' M' → D.bk σ' H') ∧
  (∀ σ' δ' F' M' H', Grow G X.K F M H F' M' H' → RS G X.K F' σ' δ' → E.ct δ' M' → D.ct σ' H')
abbrev DE (e : Expr) (w : WE) : Prop := PE X e (up G X w)
abbrev DT (e : Expr) (w : WT) : Prop := PT X e (upT G X w)
abbrev DW (e : Expr) (w : WT) : Prop := PW X e (upT G X w)
abbrev DA (es : List Expr) (w : WA) : Prop := PA X es (upA G X w)
abbrev DSt (st : Stmt) (w : WS) : Prop := PS X st (upS G X w)
abbrev DSs (st : List Stmt) (w : WS) : Prop := PSs X st (upS G X w)
end

section
variable {G : Cfg} {X : Cx} {e a b : Expr}
theorem pe_imp {t t' : TE} (h : PE X e t) (i : ∀ σ H P, t' σ H P → t σ H P) : PE X e t' := ⟨fun pins s σ H Q I q => h.run pins s σ H Q I (i σ H Q q)⟩
theorem pt_imp {t t' : TT} (h : PT X e t) (i : ∀ σ H P, t' σ H P → t σ H P) : PT X e t' := ⟨fun pins s σ H Q I q => h.run pins s σ H Q I (i σ H Q q)⟩
theorem pw_imp {t t' : TT} (h : PW X e t) (i : ∀ σ H P, t' σ H P → t σ H P) : PW X e t' := ⟨fun wh pins s σ H Q I q => h.run wh pins s σ H Q I (i σ H Q q)⟩
theorem pa_imp {es : List Expr} {t t' : TA} (h : PA X es t) (i : ∀ σ H P, t' σ H P → t σ H P) : PA X es t' := ⟨fun pos pins s σ H Q I q => h.run pos pins s σ H Q I (i σ H Q q)⟩
theorem ps_imp {st : Stmt} {t t' : TS} (h : PS X st t) (i : ∀ D σ H, t' D σ H → t D σ H) : PS X st t' := ⟨fun pins s σ H D I q => h.run pins s σ H D I (i D σ H q)⟩
theorem pss_imp {st : List Stmt} {t t' : TS} (h : PSs X st t) (i : ∀ D σ H, t' D σ H → t D σ H) : PSs X st t' := ⟨fun pins s σ H D I q => h.run pins s σ H D I (i D σ H q)⟩

/-! ### names, constants -/
def wV (i : Nat) : WE := fun δ M Q _ => match δ[i]? with
  | some (some d) => Q d M
  | _ => False
theorem wV_elim {i : Nat} {δ : DS} {M : MM} {Q : D → MM → Prop} {EX : XK'} (h : wV i δ M Q EX) : ∃ d, δ[i]? = some (some d) ∧ Q d M := by
  unfold wV at h
  split at h
  · exact ⟨_, by assumption, h⟩
  · exact h.elim
theorem de_v (i : Nat) {x : Str} {pos : Pos} (hN : X.N[i]? = some x := by rfl) (hv : Vis X.env.scope x := by first | exact Or.inl rfl | exact Or.inr (Or.inl rfl) | exact Or.inr (Or.inr rfl)) (hd : (x == ("__debug__" : Str)) = false := by decide)
    (hcd : (x == ("__classdict__" : Str)) = false := by decide) : DE G X (.Name x pos) (wV i) := by
  refine pe_imp (pe_var (i := i) hN hv hd hcd) fun σ H P ⟨F, M, δ, Q, EX, hm, rs, w, tk, f⟩ => ?_
  obtain ⟨d, e, q⟩ := wV_elim w
  obtain ⟨v, e', r⟩ := rs.2 i d e
  exact ⟨v, e', f v d F M H (.refl hm) r q⟩
def wC (d : D) : WE := fun _ M Q _ => Q d M
theorem up_c {v : V} {d : D} (r : ∀ K F, Rep G K F v d) (σ : St) (H : Hp) (P : VK) (h : up G X (wC d) σ H P) : tC v σ H P := by
  obtain ⟨F, M, δ, Q, EX, hm, rs, w, tk, f⟩ := h
  exact f v d F M H (.refl hm) (r _ _) w
theorem de_int {i j pos} : DE G X (.Constant (.int i) j pos) (wC (.int i)) := pe_imp pe_int (up_c fun _ _ => .int i)
theorem de_bl {b j pos} : DE G X (.Constant (.bool b) j pos) (wC (.bl b)) := pe_imp pe_bl (up_c fun _ _ => .bl b)
theorem de_non {j pos} : DE G X (.Constant .none j pos) (wC .non) := pe_imp pe_non (up_c fun _ _ => .non)
theorem de_str {x j pos} : DE G X (.Constant (.str x) j pos) (wC (.str x)) := pe_imp pe_str (up_c fun _ _ => .str x)

/-! ### two in a row, operators -/
abbrev WR2 := D → D → MM → (D → MM → Prop) → Prop
/-- an operator's reading by trees -/
def Sim2 (G : Cfg) (K : PySem.W.Frag) (r : R2) (w : WR2) : Prop := ∀ F M H x y dx dy Q P, HM G K F M H → Rep G K F x dx → Rep G K F y dy → w dx dy M Q → Fin G K F M H Q P → r x y H P
def wOp (w : WR2) (wa wb : WE) : WE := fun δ M Q EX => wa δ M (fun x M1 => wb δ M1 (fun y M2 => w x y M2 Q) EX) EX
theorem up_op {r : R2} {w : WR2} {wa wb : WE} (s : Sim2 G X.K r w) (σ : St) (H : Hp) (P : VK) (h : up G X (wOp w wa wb) σ H P) : tOp r (up G X wa) (up G X wb) σ H P := by
  obtain ⟨F, M, δ, Q, EX, hm, rs, h, tk, f⟩ := h
  refine ⟨F, M, δ, _, EX, hm, rs, h, tk, fun x dx F1 M1 H1 g1 r1 h1 => ?_⟩
  refine ⟨F1, M1, δ, _, EX, g1.hm, rs.mono g1.ext, h1, tk.imp (wX_mono g1), fun y dy F2 M2 H2 g2 r2 h2 => ?_⟩
  exact s F2 M2 H2 x y dx dy Q P g2.hm (r1.mono g2.ext) r2 h2 fun v d F3 M3 H3 g3 r3 q => f v d F3 M3 H3 ((g1.trans g2).trans g3) r3 q
theorem de_op {op : Operator} {r : R2} {w : WR2} {wa wb : WE} {pos : Pos} (ho : OpR X (binaryOp op) r) (s : Sim2 G X.K r w) (ha : DE G X a wa) (hb : DE G X b wb) : DE G X (.BinOp a op b pos) (wOp w wa wb) := pe_imp (pe_op ho ha hb) (up_op s)
theorem de_cmp {op : CmpOp} {r : R2} {w : WR2} {wa wb : WE} {pos : Pos} (ho : OpR X (compareOp op) r) (s : Sim2 G X.K r w) (ha : DE G X a wa) (hb : DE G X b wb) (hm : behindInMarks op b = false) : DE G X (.Compare a [op] [b] pos) (wOp w wa wb) := pe_imp (pe_cmpR ho ha hb hm) (up_op s)
theorem de_ix {r : R2} {w : WR2} {wa wb : WE} {pos : Pos} (hr : IxR X r) (s : Sim2 G X.K r w) (ha : DE G X a wa) (hb : DE G X b wb) (hs : PlainIx b) : DE G X (.Subscript a b pos) (wOp w wa wb) := pe_imp (pe_ix hr ha hb hs) (up_op s)

/-- a bool's value as a test -/
def wTst (w : WE) : WT := fun δ M Q EX => w δ M (fun d M1 => ∃ c, d = .bl c ∧ Q c M1) EX
theorem dt_val {w : WE} (h : DE G X e w) (he : ∀ whole, isTrue e X.env whole = (do let v ← whole; standAt e.pos; holding [v] (truthy v)) := by intro _; rfl) : DT G X e (wTst w) := by
  refine pt_imp (pt_val h he) fun σ H P ⟨F, M, δ, Q, EX, hm, rs, h, tk, f⟩ => ?_
  refine ⟨F, M, δ, _, EX, hm, rs, h, tk, fun v d F' M' H' g r ⟨c, e, q⟩ => ?_⟩
  subst e
  cases r
  exact ⟨c, rfl, f c F' M' H' g q⟩
theorem dt_cmp {op : CmpOp} {r : R2} {w : WR2} {wa wb : WE} {pos : Pos} (ho : OpR X (compareOp op) r) (s : Sim2 G X.K r w) (ha : DE G X a wa) (hb : DE G X b wb) (hm : behindInMarks op b = false) : DT G X (.Compare a [op] [b] pos) (wTst (wOp w wa wb)) := by
  refine pt_imp (pt_cmpR ho ha hb hm) fun σ H P ⟨F, M, δ, Q, EX, hm, rs, h, tk, f⟩ => ?_
  refine up_op s σ H _ ⟨F, M, δ, _, EX, hm, rs, h, tk, fun v d F' M' H' g r ⟨c, e, q⟩ => ?_⟩
  subst e
  cases r
  exact ⟨c, rfl, f c F' M' H' g q⟩
/-! ### and, or, not -/
def wAndT (p q : WT) : WT := fun δ M Q EX => p δ M (fun c M1 => if c = true then q δ M1 Q EX else Q false M1) EX
def wOrT (p q : WT) : WT := fun δ M Q EX => p δ M (fun c M1 => if c = true then Q true M1 else q δ M1 Q EX) EX
def wNotT (p : WT) : WT := fun δ M Q EX => p δ M (fun c M1 => Q (!c) M1) EX
theorem dw_and1 {w : WT} {pos} (h : DT G X a w) : DW G X (.BoolOp .And [a] pos) w := pw_and1 h
theorem dw_or1 {w : WT} {pos} (h : DT G X a w) : DW G X (.BoolOp .Or [a] pos) w := pw_or1 h
theorem up_and {p q : WT} (σ : St) (H : Hp) (P : Bool → Hp → Prop) (h : upT G X (wAndT p q) σ H P) : tAnd (upT G X p) (upT G X q) σ H P := by
  obtain ⟨F, M, δ, Q, EX, hm, rs, h, tk, f⟩ := h
  refine ⟨F, M, δ, _, EX, hm, rs, h, tk, fun c F1 M1 H1 g1 h1 => ?_⟩
  cases c with
  | true => exact ⟨F1, M1, δ, Q, EX, g1.hm, rs.mono g1.ext, h1, tk.imp (wX_mono g1), fun b F2 M2 H2 g2 q => f b F2 M2 H2 (g1.trans g2) q⟩
  | false => exact f false F1 M1 H1 g1 h1
theorem up_or {p q : WT} (σ : St) (H : Hp) (P : Bool → Hp → Prop) (h : upT G X (wOrT p q) σ H P) : tOr (upT G X p) (upT G X q) σ H P := by
  obtain ⟨F, M, δ, Q, EX, hm, rs, h, tk, f⟩ := h
  refine ⟨F, M, δ, _, EX, hm, rs, h, tk, fun c F1 M1 H1 g1 h1 => ?_⟩
  cases c with
  | true => exact f true F1 M1 H1 g1 h1
  | false => exact ⟨F1, M1, δ, Q, EX, g1.hm, rs.mono g1.ext, h1, tk.imp (wX_mono g1), fun b F2 M2 H2 g2 q => f b F2 M2 H2 (g1.trans g2) q⟩
theorem dw_and {p q : WT} {rest : List Expr} {pos} (ha : DT G X a p) (hb : DW G X (.BoolOp .And (b :: rest) pos) q) : DW G X (.BoolOp .And (a :: b :: rest) pos) (wAndT p q) := pw_imp (pw_and ha hb) up_and
theorem dw_or {p q : WT} {rest : List Expr} {pos} (ha : DT G X a p) (hb : DW G X (.BoolOp .Or (b :: rest) pos) q) : DW G X (.BoolOp .Or (a :: b :: rest) pos) (wOrT p q) := pw_imp (pw_or ha hb) up_or
theorem dt_w {w : WT} (h : DW G X e w) : DT G X e w := h.pt
theorem dt_not {p : WT} {pos} (h : DT G X a p) : DT G X (.UnaryOp .Not a pos) (wNotT p) := by
  refine pt_imp (pt_not h) fun σ H P ⟨F, M, δ, Q, EX, hm, rs, h, tk, f⟩ => ?_
  exact ⟨F, M, δ, _, EX, hm, rs, h, tk, fun c F1 M1 H1 g1 q => f (!c) F1 M1 H1 g1 q⟩
/-- .. as values, bools all -/
def wAndV (wa wb : WE) : WE := fun δ M Q EX => wa δ M (fun x M1 => ∃ c, x = .bl c ∧ if c = true then wb δ M1 Q EX else Q (.bl false) M1) EX
def wOrV (wa wb : WE) : WE := fun δ M Q EX => wa δ M (fun x M1 => ∃ c, x = .bl c ∧ if c = true then Q (.bl true) M1 else wb δ M1 Q EX) EX
def wNotV (wa : WE) : WE := fun δ M Q EX => wa δ M (fun x M1 => ∃ c, x = .bl c ∧ Q (.bl (!c)) M1) EX
theorem de_one {op} {w : WE} {pos} (h : DE G X a w) : DE G X (.BoolOp op [a] pos) w := pe_one h
theorem de_and {wa wb : WE} {rest : List Expr} {pos} (ha : DE G X a wa) (hb : DE G X (.BoolOp .And (b :: rest) pos) wb) : DE G X (.BoolOp .And (a :: b :: rest) pos) (wAndV wa wb) := by
  refine pe_imp (pe_and ha hb) fun σ H P ⟨F, M, δ, Q, EX, hm, rs, h, tk, f⟩ => ?_
  refine ⟨F, M, δ, _, EX, hm, rs, h, tk, fun v d F1 M1 H1 g1 r1 ⟨c, e, h1⟩ => ?_⟩
  subst e
  cases r1
  refine ⟨c, rfl, ?_⟩
  cases c with
  | true => exact ⟨F1, M1, δ, Q, EX, g1.hm, rs.mono g1.ext, h1, tk.imp (wX_mono g1), fun v b F2 M2 H2 g2 r q => f v b F2 M2 H2 (g1.trans g2) r q⟩
  | false => exact f _ _ F1 M1 H1 g1 (.bl false) h1
theorem de_or {wa wb : WE} {rest : List Expr} {pos} (ha : DE G X a wa) (hb : DE G X (.BoolOp .Or (b :: rest) pos) wb) : DE G X (.BoolOp .Or (a :: b :: rest) pos) (wOrV wa wb) := by
  refine pe_imp (pe_or ha hb) fun σ H P ⟨F, M, δ, Q, EX, hm, rs, h, tk, f⟩ => ?_
  refine ⟨F, M, δ, _, EX, hm, rs, h, tk, fun v d F1 M1 H1 g1 r1 ⟨c, e, h1⟩ => ?_⟩
  subst e
  cases r1
  refine ⟨c, rfl, ?_⟩
  cases c with
  | true => exact f _ _ F1 M1 H1 g1 (.bl true) h1
  | false => exact ⟨F1, M1, δ, Q, EX, g1.hm, rs.mono g1.ext, h1, tk.imp (wX_mono g1), fun v b F2 M2 H2 g2 r q => f v b F2 M2 H2 (g1.trans g2) r q⟩
theorem de_not {wa : WE} {pos} (h : DE G X a wa) : DE G X (.UnaryOp .Not a pos) (wNotV wa) := by
  refine pe_imp (pe_not h) fun σ H P ⟨F, M, δ, Q, EX, hm, rs, h, tk, f⟩ => ?_
  refine ⟨F, M, δ, _, EX, hm, rs, h, tk, fun v d F1 M1 H1 g1 r1 ⟨c, e, q⟩ => ?_⟩
  subst e
  cases r1
  exact ⟨c, rfl, f _ _ F1 M1 H1 g1 (.bl _) q⟩
def wIf (p : WT) (wa wb : WE) : WE := fun δ M Q EX => p δ M (fun c M1 => if c = true then wa δ M1 Q EX else wb δ M1 Q EX) EX
theorem de_if {c : Expr} {p : WT} {wa wb : WE} {pos} (hc : DT G X c p) (ha : DE G X a wa) (hb : DE G X b wb) : DE G X (.IfExp c a b pos) (wIf p wa wb) := by
  refine pe_imp (pe_ifExp hc ha hb) fun σ H P ⟨F, M, δ, Q, EX, hm, rs, h, tk, f⟩ => ?_
  refine ⟨F, M, δ, _, EX, hm, rs, h, tk, fun c F1 M1 H1 g1 h1 => ?_⟩
  cases c <;> exact ⟨F1, M1, δ, Q, EX, g1.hm, rs.mono g1.ext, h1, tk.imp (wX_mono g1), fun v b F2 M2 H2 g2 r q => f v b F2 M2 H2 (g1.trans g2) r q⟩

/-! ### arguments -/
def wNil : WA := fun _ M Q _ => Q [] M
def wCons (we : WE) (wr : WA) : WA := fun δ M Q EX => we δ M (fun d M1 => wr δ M1 (fun ds M2 => Q (d :: ds) M2) EX) EX
theorem da_nil : DA G X [] wNil := pa_imp pa_nil fun σ H P ⟨F, M, δ, Q, EX, hm, rs, h, tk, f⟩ => f [] [] F M H (.refl hm) .nil h
theorem da_cons {es : List Expr} {we : WE} {wr : WA} (he : DE G X e we) (hr : DA G X es wr) (hst : starEach (e :: es) X.env = (false, eval e X.env) :: starEach es X.env := by rfl) : DA G X (e :: es) (wCons we wr) := by
  refine pa_imp (pa_cons he hr hst) fun σ H P ⟨F, M, δ, Q, EX, hm, rs, h, tk, f⟩ => ?_
  refine ⟨F, M, δ, _, EX, hm, rs, h, tk, fun v d F1 M1 H1 g1 r1 h1 => ?_⟩
  exact ⟨F1, M1, δ, _, EX, g1.hm, rs.mono g1.ext, h1, tk.imp (wX_mono g1), fun vs ds F2 M2 H2 g2 r2 q => f (v :: vs) (d :: ds) F2 M2 H2 (g1.trans g2) (.cons (r1.mono g2.ext) r2) q⟩
end
end DL

set_option Elab.async false
set_option linter.all false
set_option maxRecDepth 100000
namespace DL
open PySem PySem.Spec L2
open PyProof.Rows hiding St

section
variable {G : Cfg} {K : PySem.W.Frag}
/-! ### ints -/
def wI0 (g : Int → Int → D) : WR2 := fun x y M Q => match x, y with
  | .int i, .int j => Q (g i j) M
  | _, _ => False
def wI (C : Int → Int → Prop) (g : Int → Int → D) : WR2 := fun x y M Q => match x, y with
  | .int i, .int j => C i j ∧ Q (g i j) M
  | _, _ => False
theorem sim_I0 {gv : Int → Int → V} {g : Int → Int → D} (hg : ∀ F i j, Rep G K F (gv i j) (g i j)) : Sim2 G K (rI0 gv) (wI0 g) := by
  intro F M H x y dx dy Q P hm rx ry w f
  unfold wI0 at w
  split at w
  · cases rx; cases ry
    exact ⟨_, _, rfl, rfl, f _ _ F M H (.refl hm) (hg _ _ _) w⟩
  · exact w.elim
theorem sim_I {C : Int → Int → Prop} {gv : Int → Int → V} {g : Int → Int → D} (hg : ∀ F i j, Rep G K F (gv i j) (g i j)) : Sim2 G K (rI C gv) (wI C g) := by
  intro F M H x y dx dy Q P hm rx ry w f
  unfold wI at w
  split at w
  · cases rx; cases ry
    exact ⟨_, _, rfl, rfl, w.1, f _ _ F M H (.refl hm) (hg _ _ _) w.2⟩
  · exact w.elim
abbrev wAdd : WR2 := wI0 fun i j => .int (i + j)
abbrev wSub : WR2 := wI0 fun i j => .int (i - j)
abbrev wMul : WR2 := wI CMul fun i j => .int (i * j)
abbrev wDiv : WR2 := wI CDiv fun i j => .int (i / j)
abbrev wMod : WR2 := wI (fun _ j => 0 < j) fun i j => .int (i % j)
abbrev wPow : WR2 := wI CPow fun i j => .int (i ^ j.toNat)
abbrev wLt : WR2 := wI0 fun i j => .bl (decide (i < j))
abbrev wLe : WR2 := wI0 fun i j => .bl (decide (i ≤ j))
abbrev wGt : WR2 := wI0 fun i j => .bl (decide (j < i))
abbrev wGe : WR2 := wI0 fun i j => .bl (decide (j ≤ i))
theorem int_rep {g : Int → Int → Int} : ∀ F i j, Rep G K F (.int (g i j)) (.int (g i j)) := fun _ _ _ => .int _
theorem bl_rep {g : Int → Int → Bool} : ∀ F i j, Rep G K F (.bl (g i j)) (.bl (g i j)) := fun _ _ _ => .bl _

/-! ### data -/
mutual
def toPy : D → Option PyData
  | .non => some .none
  | .bl b => some (.bool b)
  | .int i => some (.int i)
  | .str x => some (.str x)
  | .tup ds => (toPys ds).map .tuple
  | .lst ds => (toPys ds).map .list
  | .frl ds => (toPys ds).map .list
  | _ => none
def toPys : List D → Option (List PyData)
  | [] => some []
  | d :: ds => match toPy d, toPys ds with
    | some p, some ps => some (p :: ps)
    | _, _ => none
end
mutual
theorem toPy_dp {F : Hp} : ∀ {v : V} {d : D} {p : PyData}, Rep G K F v d → toPy d = some p → Dp K F v p
  | _, _, _, .non, e => by simp only [toPy, Option.some.injEq] at e; subst e; exact .non
  | _, _, _, .bl b, e => by simp only [toPy, Option.some.injEq] at e; subst e; exact .bl b
  | _, _, _, .int i, e => by simp only [toPy, Option.some.injEq] at e; subst e; exact .int i
  | _, _, _, .str x, e => by simp only [toPy, Option.some.injEq] at e; subst e; exact .str x
  | _, _, _, .raw v, e => by simp only [toPy] at e; cases e
  | _, _, _, .dct _ _, e => by simp only [toPy] at e; cases e
  | _, _, _, .ins _ _ _, e => by simp only [toPy] at e; cases e
  | _, .tup ds, _, .tup h r, e => by
    simp only [toPy] at e
    cases q : toPys ds with
    | none => rw [q] at e; cases e
    | some ps => rw [q] at e; cases e; exact .tup (SqT.of h) (toPys_dp r q)
  | _, .lst ds, _, .lst h r, e => by
    simp only [toPy] at e
    cases q : toPys ds with
    | none => rw [q] at e; cases e
    | some ps => rw [q] at e; cases e; exact .lst (SqL.of h) (toPys_dp r q)
  | _, .frl ds, _, .frl h r, e => by
    simp only [toPy] at e
    cases q : toPys ds with
    | none => rw [q] at e; cases e
    | some ps => rw [q] at e; cases e; exact .lst h (toPys_dp r q)
theorem toPys_dp {F : Hp} : ∀ {vs : List V} {ds : List D} {ps : List PyData}, RepL G K F vs ds → toPys ds = some ps → DpAll K F vs ps
  | _, _, _, .nil, e => by simp only [toPys, Option.some.injEq] at e; subst e; exact .nil
  | _, d :: ds, _, .cons r t, e => by
    simp only [toPys] at e
    split at e
    · rename_i p ps q1 q2
      cases e
      exact .cons (toPy_dp r q1) (toPys_dp t q2)
    · cases e
end
mutual
theorem Dp.up {F H : Hp} (e : Same F H) : ∀ {v : V} {p : PyData}, Dp K F v p → Dp K H v p
  | _, _, .non => .non
  | _, _, .bl b => .bl b
  | _, _, .int i => .int i
  | _, _, .str x => .str x
  | _, _, .lst h r => .lst (e.seq h) (DpAll.up e r)
  | _, _, .tup h r => .tup (sqT_up e h) (DpAll.up e r)
theorem DpAll.up {F H : Hp} (e : Same F H) : ∀ {vs : List V} {ps : List PyData}, DpAll K F vs ps → DpAll K H vs ps
  | _, _, .nil => .nil
  | _, _, .cons r t => .cons (Dp.up e r) (DpAll.up e t)
end
/-- data as it now is, a changing list too -/
def py (M : MM) : D → Option PyData
  | .raw (.ref a) => match M a with
    | some (.lst ds) => toPy (.lst ds)
    | _ => none
  | d => toPy d
theorem py_dp {F : Hp} {M : MM} {H : Hp} {v : V} {d : D} {p : PyData} (hm : HM G K F M H) (r : Rep G K F v d) (e : py M d = some p) : Dp K H v p := by
  unfold py at e
  split at e
  · rename_i a
    cases r
    split at e
    · rename_i ds q
      obtain ⟨vs, h1, r1⟩ := hm.mo a _ q
      simp only [toPy] at e
      cases q2 : toPys ds with
      | none => rw [q2] at e; cases e
      | some ps => rw [q2] at e; cases e; exact .lst (SqL.of h1) (DpAll.up hm.sub (toPys_dp r1 q2))
    · cases e
  · exact Dp.up hm.sub (toPy_dp r e)
@[irreducible] def wEq : WR2 := fun x y M Q => ∃ p q, py M x = some p ∧ py M y = some q ∧ SeqAt.shaped p = true ∧ SeqAt.shaped q = true ∧ Q (.bl (PyData.eqv p q)) M
@[irreducible] def wNe : WR2 := fun x y M Q => ∃ p q, py M x = some p ∧ py M y = some q ∧ SeqAt.shaped p = true ∧ SeqAt.shaped q = true ∧ Q (.bl (!PyData.eqv p q)) M
theorem sim_eq : Sim2 G K (rEqD K) wEq := fun F M H x y dx dy Q P hm rx ry hw f => by
  unfold wEq at hw
  obtain ⟨p, q, h1, h2, h3, h4, h⟩ := hw
  exact ⟨p, q, py_dp hm rx h1, py_dp hm ry h2, h3, h4, f _ _ F M H (.refl hm) (.bl _) h⟩
theorem sim_ne : Sim2 G K (rNeD K) wNe := fun F M H x y dx dy Q P hm rx ry hw f => by
  unfold wNe at hw
  obtain ⟨p, q, h1, h2, h3, h4, h⟩ := hw
  exact ⟨p, q, py_dp hm rx h1, py_dp hm ry h2, h3, h4, f _ _ F M H (.refl hm) (.bl _) h⟩
/-- is None, is not None -/
def isN : D → Option Bool
  | .non => some true
  | .raw _ => none
  | _ => some false
def wIsN : WR2 := fun x y M Q => match y, isN x with
  | .non, some b => Q (.bl b) M
  | _, _ => False
def wNotN : WR2 := fun x y M Q => match y, isN x with
  | .non, some b => Q (.bl (!b)) M
  | _, _ => False
theorem isN_rep {F : Hp} {v : V} {d : D} {b : Bool} (r : Rep G K F v d) (e : isN d = some b) : decide (v = .non) = b := by
  cases r <;> simp only [isN, Option.some.injEq, reduceCtorEq] at e <;> subst e <;> simp
theorem sim_isN : Sim2 G K (fun x y H Q => y = .non ∧ Q (.bl (decide (x = .non))) H) wIsN := by
  intro F M H x y dx dy Q P hm rx ry w f
  unfold wIsN at w
  split at w
  · rename_i b e
    cases ry
    exact ⟨rfl, by rw [isN_rep rx e]; exact f _ _ F M H (.refl hm) (.bl _) w⟩
  · exact w.elim
theorem sim_notN : Sim2 G K (fun x y H Q => y = .non ∧ Q (.bl (!decide (x = .non))) H) wNotN := by
  intro F M H x y dx dy Q P hm rx ry w f
  unfold wNotN at w
  split at w
  · rename_i b e
    cases ry
    exact ⟨rfl, by rw [isN_rep rx e]; exact f _ _ F M H (.refl hm) (.bl _) w⟩
  · exact w.elim

/-! ### lists as they are now -/
def lstOf (M : MM) : D → Option (List D)
  | .lst ds => some ds
  | .raw (.ref a) => match M a with
    | some (.lst ds) => some ds
    | _ => none
  | _ => none
theorem lstOf_rep {F : Hp} {M : MM} {H : Hp} {v : V} {d : D} {ds : List D} (hm : HM G K F M H) (r : Rep G K F v d) (e : lstOf M d = some ds) : ∃ a vs, v = .ref a ∧ H a = some (.lst vs) ∧ RepL G K F vs ds := by
  unfold lstOf at e
  split at e
  · cases e
    cases r with
    | lst h r => exact ⟨_, _, rfl, hm.sub _ _ h, r⟩
  · rename_i a
    split at e
    · rename_i q
      cases e
      cases r
      obtain ⟨vs, h1, r1⟩ := hm.mo a _ q
      exact ⟨a, vs, rfl, h1, r1⟩
    · cases e
  · cases e
/-- a list or a tuple, as it is now -/
def seqOf (M : MM) : D → Option (List D)
  | .tup ds => some ds
  | .frl ds => some ds
  | d => lstOf M d
theorem seqOf_rep {F : Hp} {M : MM} {H : Hp} {v : V} {d : D} {ds : List D} (hm : HM G K F M H) (r : Rep G K F v d) (e : seqOf M d = some ds) : ∃ a vs, v = .ref a ∧ (SqL K H a vs ∨ SqT K H a vs) ∧ RepL G K F vs ds := by
  unfold seqOf at e
  split at e
  · cases e
    cases r with
    | tup h r => exact ⟨_, _, rfl, .inr (sqT_mono hm.sub h), r⟩
  · cases e
    cases r with
    | frl h r => exact ⟨_, _, rfl, .inl (hm.sub.seq h), r⟩
  · obtain ⟨a, vs, e1, h1, r1⟩ := lstOf_rep hm r e
    exact ⟨a, vs, e1, .inl (SqL.of h1), r1⟩
/-- xs + ys, a new list -/
@[irreducible] def wCat : WR2 := fun x y M Q => match lstOf M x, lstOf M y with
  | some xs, some ys => xs.length + ys.length ≤ sizeLine ∧ Q (.lst (xs ++ ys)) M
  | _, _ => False
theorem sim_cat : Sim2 G K rCat wCat := by
  intro F M H x y dx dy Q P hm rx ry w f
  unfold wCat at w
  split at w
  · rename_i xs ys e1 e2
    obtain ⟨a, vs, rfl, h1, r1⟩ := lstOf_rep hm rx e1
    obtain ⟨b, ws, rfl, h2, r2⟩ := lstOf_rep hm ry e2
    refine ⟨a, b, vs, ws, rfl, rfl, h1, h2, by rw [r1.len, r2.len]; exact w.1, fun p hp => ?_⟩
    have g := hm.new (o := .lst (vs ++ ws)) hp
    exact f _ _ _ _ _ g (.lst upd_same ((r1.app r2).mono g.ext)) w.2
  · exact w.elim
def repL {α : Type} (k : Int) (xs : List α) : List α := (List.replicate k.toNat xs).flatten
theorem RepL.repL {F : Hp} {vs : List V} {ds : List D} (r : RepL G K F vs ds) (k : Int) : RepL G K F (repL k vs) (repL k ds) := by
  unfold DL.repL
  generalize k.toNat = n
  induction n with
  | zero => exact .nil
  | succ n ih => rw [List.replicate_succ, List.replicate_succ, List.flatten_cons, List.flatten_cons]; exact r.app ih
def wRep : WR2 := fun x y M Q => match lstOf M x, y with
  | some xs, .int k => (-(2 ^ 63) ≤ k ∧ k < 2 ^ 63) ∧ xs.length * k.toNat ≤ sizeLine ∧ Q (.lst (repL k xs)) M
  | _, _ => False
theorem sim_rep : Sim2 G K rRep wRep := by
  intro F M H x y dx dy Q P hm rx ry w f
  unfold wRep at w
  split at w
  · rename_i xs k e1
    obtain ⟨a, vs, rfl, h1, r1⟩ := lstOf_rep hm rx e1
    cases ry
    refine ⟨a, k, vs, rfl, rfl, h1, w.1.1, w.1.2, by rw [r1.len]; exact w.2.1, fun p hp => ?_⟩
    have g := hm.new (o := .lst (List.replicate k.toNat vs).flatten) hp
    exact f _ _ _ _ _ g (.lst upd_same ((r1.repL k).mono g.ext)) w.2.2
  · exact w.elim
/-- t + u -/
def wCatT : WR2 := fun x y M Q => match x, y with
  | .tup xs, .tup ys => xs.length + ys.length ≤ sizeLine ∧ Q (.tup (xs ++ ys)) M
  | _, _ => False
theorem RepL.nil_iff {F : Hp} {vs : List V} {ds : List D} (r : RepL G K F vs ds) : vs = [] ↔ ds = [] := by
  cases r with
  | nil => simp
  | cons _ _ => simp
theorem sim_catT : Sim2 G K (rCatA K) wCatT := by
  intro F M H x y dx dy Q P hm rx ry w f
  unfold wCatT at w
  split at w
  · rename_i xs ys
    cases rx with
    | tup h1 r1 =>
      cases ry with
      | tup h2 r2 =>
        rename_i a vs b ws
        refine ⟨a, b, vs, ws, rfl, rfl, sqT_mono hm.sub h1, sqT_mono hm.sub h2, by rw [r1.len, r2.len]; exact w.1, fun e => ?_, fun _ e => ?_, fun _ _ p hp => ?_⟩
        · have e' := r1.nil_iff.mp e
          subst e'
          exact f _ _ F M H (.refl hm) (.tup h2 r2) w.2
        · have e' := r2.nil_iff.mp e
          subst e'
          exact f _ _ F M H (.refl hm) (.tup h1 r1) (by have z := w.2; rw [List.append_nil] at z; exact z)
        · have g := hm.new (o := .tup (vs ++ ws)) hp
          exact f _ _ _ _ _ g (.tup upd_same ((r1.app r2).mono g.ext)) w.2
  · exact w.elim
/-! ### items -/
def atD (xs : List D) (i : Int) : Option D := (ixN xs.length i).bind fun j => xs[j]?
theorem atD_rep {F : Hp} {vs : List V} {ds : List D} {i : Int} {d : D} (r : RepL G K F vs ds) (e : atD ds i = some d) : ∃ v, atI vs i = some v ∧ Rep G K F v d := by
  unfold atD at e
  unfold atI
  rw [r.len]
  cases q : ixN ds.length i with
  | none => rw [q] at e; cases e
  | some j =>
    rw [q] at e
    exact r.get e
@[irreducible] def wIxL : WR2 := fun x y M Q => match lstOf M x, y with
  | some xs, .int i => match atD xs i with
    | some d => Q d M
    | none => False
  | _, _ => False
theorem sim_ixL : Sim2 G K (rIxL K) wIxL := by
  intro F M H x y dx dy Q P hm rx ry w f
  unfold wIxL at w
  split at w
  · rename_i xs i e1
    split at w
    · rename_i d e2
      obtain ⟨a, vs, rfl, h1, r1⟩ := lstOf_rep hm rx e1
      cases ry
      obtain ⟨v, e3, r3⟩ := atD_rep r1 e2
      exact ⟨a, vs, i, v, rfl, rfl, SqL.of h1, e3, f _ _ F M H (.refl hm) r3 w⟩
    · exact w.elim
  · exact w.elim
@[irreducible] def wIxT : WR2 := fun x y M Q => match x, y with
  | .tup xs, .int i => match atD xs i with
    | some d => Q d M
    | none => False
  | _, _ => False
theorem sim_ixT : Sim2 G K (rIxT K) wIxT := by
  intro F M H x y dx dy Q P hm rx ry w f
  unfold wIxT at w
  split at w
  · rename_i xs i
    split at w
    · rename_i d e2
      cases rx with
      | tup h1 r1 =>
        cases ry
        obtain ⟨v, e3, r3⟩ := atD_rep r1 e2
        exact ⟨_, _, i, v, rfl, rfl, sqT_mono hm.sub h1, e3, f _ _ F M H (.refl hm) r3 w⟩
    · exact w.elim
  · exact w.elim
/-- an item of a list or a tuple -/
@[irreducible] def wIx : WR2 := fun x y M Q => match seqOf M x, y with
  | some xs, .int i => match atD xs i with
    | some d => Q d M
    | none => False
  | _, _ => False
end

section
variable {G : Cfg} {X : Cx} {e o : Expr} {es : List Expr}
/-! ### what is made -/
def wTup (wa : WA) : WE := fun δ M Q EX => wa δ M (fun ds M1 => ds.length ≤ sizeLine ∧ Q (.tup ds) M1) EX
def wLst (wa : WA) : WE := fun δ M Q EX => wa δ M (fun ds M1 => ds.length ≤ sizeLine ∧ Q (.lst ds) M1) EX
/-- a list that will change -/
def wLstM (wa : WA) : WE := fun δ M Q EX => wa δ M (fun ds M1 => ds.length ≤ sizeLine ∧ ∀ p, M1 p = none → Q (.raw (.ref p)) (updM M1 p (.lst ds))) EX
theorem de_tup {wa : WA} {x1} {pos} (h : DA G X es wa) : DE G X (.Tuple es x1 pos) (wTup wa) := by
  refine pe_imp (pe_tup h) fun σ H P ⟨F, M, δ, Q, EX, hm, rs, h, tk, f⟩ => ?_
  refine ⟨F, M, δ, _, EX, hm, rs, h, tk, fun vs ds F1 M1 H1 g1 r1 h1 => ⟨by rw [r1.len]; exact h1.1, fun p hp => ?_⟩⟩
  have g := g1.hm.new (o := .tup vs) hp
  exact f _ _ _ _ _ (g1.trans g) (.tup upd_same (r1.mono g.ext)) h1.2
theorem de_lst {wa : WA} {pos} (h : DA G X es wa) : DE G X (.List es pos) (wLst wa) := by
  refine pe_imp (pe_lst h) fun σ H P ⟨F, M, δ, Q, EX, hm, rs, h, tk, f⟩ => ?_
  refine ⟨F, M, δ, _, EX, hm, rs, h, tk, fun vs ds F1 M1 H1 g1 r1 h1 => ⟨by rw [r1.len]; exact h1.1, fun p hp => ?_⟩⟩
  have g := g1.hm.new (o := .lst vs) hp
  exact f _ _ _ _ _ (g1.trans g) (.lst upd_same (r1.mono g.ext)) h1.2
theorem de_lstM {wa : WA} {pos} (h : DA G X es wa) : DE G X (.List es pos) (wLstM wa) := by
  refine pe_imp (pe_lst h) fun σ H P ⟨F, M, δ, Q, EX, hm, rs, h, tk, f⟩ => ?_
  refine ⟨F, M, δ, _, EX, hm, rs, h, tk, fun vs ds F1 M1 H1 g1 r1 h1 => ⟨by rw [r1.len]; exact h1.1, fun p hp => ?_⟩⟩
  have g := g1.hm.newM (o := .lst vs) (m := .lst ds) hp ⟨vs, upd_same, r1⟩
  exact f _ _ _ _ _ (g1.trans g) (.raw _) (h1.2 p (g1.hm.free hp).2)
/-- from now on it changes no more -/
@[irreducible] def kFrz (Q : D → MM → Prop) (d : D) (M1 : MM) : Prop := match d with
  | .raw (.ref p) => match M1 p with
    | some (.lst ds) => Q (.lst ds) (delM M1 p)
    | some (.dct ds) => Q (.dct ds) (delM M1 p)
    | some (.ins _ _) => False
    | some (.dcT _) => False
    | none => False
  | d => Q d M1
def wFrz (we : WE) : WE := fun δ M Q EX => we δ M (kFrz Q) EX
theorem de_frz {we : WE} (h : DE G X e we) : DE G X e (wFrz we) := by
  refine pe_imp h fun σ H P ⟨F, M, δ, Q, EX, hm, rs, h, tk, f⟩ => ?_
  refine ⟨F, M, δ, _, EX, hm, rs, h, tk, fun v d F1 M1 H1 g1 r1 h1 => ?_⟩
  unfold kFrz at h1
  split at h1
  · rename_i p
    cases r1
    split at h1
    · rename_i ds q
      obtain ⟨F2, g2, r2⟩ := g1.hm.settle q (fun _ _ z => nomatch z)
      exact f _ _ _ _ _ (g1.trans g2) r2 h1
    · rename_i ds q
      obtain ⟨F2, g2, r2⟩ := g1.hm.settle q (fun _ _ z => nomatch z)
      exact f _ _ _ _ _ (g1.trans g2) r2 h1
    · exact h1.elim
    · exact h1.elim
    · exact h1.elim
  · exact f _ _ _ _ _ g1 r1 h1

/-! ### built-in calls -/
abbrev WR1 := List D → MM → (D → MM → Prop) → Prop
def SimC (G : Cfg) (K : PySem.W.Frag) (r : List V → Hp → VK → Prop) (w : WR1) : Prop := ∀ F M H vs ds Q P, HM G K F M H → RepL G K F vs ds → w ds M Q → Fin G K F M H Q P → r vs H P
def wB (w : WR1) (wa : WA) : WE := fun δ M Q EX => wa δ M (fun ds M1 => w ds M1 Q) EX
theorem up_b {r : List V → Hp → VK → Prop} {w : WR1} {wa : WA} (s : SimC G X.K r w) (σ : St) (H : Hp) (P : VK) (h : up G X (wB w wa) σ H P) : tCB r (upA G X wa) σ H P := by
  obtain ⟨F, M, δ, Q, EX, hm, rs, h, tk, f⟩ := h
  refine ⟨F, M, δ, _, EX, hm, rs, h, tk, fun vs ds F1 M1 H1 g1 r1 h1 => ?_⟩
  exact s F1 M1 H1 vs ds Q P g1.hm r1 h1 fun v d F2 M2 H2 g2 r2 q => f v d F2 M2 H2 (g1.trans g2) r2 q
theorem de_callB {r : List V → Hp → VK → Prop} {w : WR1} {wa : WA} {x : Str} {id : String} {p pos : Pos} (s : SimC G X.K r w) (hc : CallR X (.builtin id) r) (hm : X.mg x = none) (hv : bootBuiltins x = some (.builtin id)) (ha : DA G X (e :: es) wa) (hg : Gl X x := by rfl) (hn : x ≠ "__name__" := by decide) (hdb : (x == ("__debug__" : Str)) = false := by decide)
    (he : starEach (e :: es) X.env = (false, eval e X.env) :: starEach es X.env := by rfl) (hpl : (backTo pos (starEach es X.env)).any (·.1) = false := by rfl) : DE G X (.Call (.Name x p) (e :: es) [] pos) (wB w wa) := pe_imp (pe_callB hc hg hm hv ha hn hdb he hpl) (up_b s)
theorem de_callT {r : List V → Hp → VK → Prop} {w : WR1} {wa : WA} {x : Str} {T : String} {p pos : Pos} (s : SimC G X.K r w) (hc : CallR X (.type T) r) (hm : X.mg x = none) (hv : bootBuiltins x = some (.type T)) (ha : DA G X (e :: es) wa) (hg : Gl X x := by rfl) (hn : x ≠ "__name__" := by decide) (hdb : (x == ("__debug__" : Str)) = false := by decide)
    (he : starEach (e :: es) X.env = (false, eval e X.env) :: starEach es X.env := by rfl) (hpl : (backTo pos (starEach es X.env)).any (·.1) = false := by rfl) : DE G X (.Call (.Name x p) (e :: es) [] pos) (wB w wa) := pe_imp (pe_callTy hc hg hm hv ha hn hdb he hpl) (up_b s)
@[irreducible] def wLen : WR1 := fun ds M Q => match ds with
  | [d] => match seqOf M d with
    | some xs => Q (.int xs.length) M
    | none => False
  | _ => False
theorem one_rep {F : Hp} {K : PySem.W.Frag} {vs : List V} {d : D} (r : RepL G K F vs [d]) : ∃ v, vs = [v] ∧ Rep G K F v d := by
  cases r with
  | cons r t => cases t; exact ⟨_, rfl, r⟩
theorem sim_len : SimC G X.K (fun xs H Q => ∃ p ys, xs = [.ref p] ∧ (SqL X.K H p ys ∨ SqT X.K H p ys) ∧ Q (.int ys.length) H) wLen := by
  intro F M H vs ds Q P hm r w f
  unfold wLen at w
  split at w
  · split at w
    · rename_i d xs e
      obtain ⟨v, rfl, r1⟩ := one_rep r
      obtain ⟨a, ws, rfl, h1, r2⟩ := seqOf_rep hm r1 e
      exact ⟨a, ws, rfl, h1, by rw [r2.len]; exact f _ _ F M H (.refl hm) (.int _) w⟩
    · exact w.elim
  · exact w.elim
/-- list(xs): a new list, frozen, or a changing one -/
@[irreducible] def wListOf : WR1 := fun ds M Q => match ds with
  | [d] => match seqOf M d with
    | some xs => Q (.lst xs) M
    | none => False
  | _ => False
@[irreducible] def wListOfM : WR1 := fun ds M Q => match ds with
  | [d] => match seqOf M d with
    | some xs => ∀ p, M p = none → Q (.raw (.ref p)) (updM M p (.lst xs))
    | none => False
  | _ => False
abbrev rListOf (K : PySem.W.Frag) : List V → Hp → VK → Prop := fun xs H Q => ∃ p ys, xs = [.ref p] ∧ (SqL K H p ys ∨ SqT K H p ys) ∧ ∀ l, H l = none → Q (.ref l) (upd H l (.lst ys))
theorem sim_listOf {K : PySem.W.Frag} : SimC G K (rListOf K) wListOf := by
  intro F M H vs ds Q P hm r w f
  unfold wListOf at w
  split at w
  · split at w
    · rename_i d xs e
      obtain ⟨v, rfl, r1⟩ := one_rep r
      obtain ⟨a, ws, rfl, h1, r2⟩ := seqOf_rep hm r1 e
      refine ⟨a, ws, rfl, h1, fun l hl => ?_⟩
      have g := hm.new (o := .lst ws) hl
      exact f _ _ _ _ _ g (.lst upd_same (r2.mono g.ext)) w
    · exact w.elim
  · exact w.elim
theorem sim_listOfM {K : PySem.W.Frag} : SimC G K (rListOf K) wListOfM := by
  intro F M H vs ds Q P hm r w f
  unfold wListOfM at w
  split at w
  · split at w
    · rename_i d xs e
      obtain ⟨v, rfl, r1⟩ := one_rep r
      obtain ⟨a, ws, rfl, h1, r2⟩ := seqOf_rep hm r1 e
      refine ⟨a, ws, rfl, h1, fun l hl => ?_⟩
      have g := hm.newM (o := .lst ws) (m := .lst xs) hl ⟨ws, upd_same, r2⟩
      exact f _ _ _ _ _ g (.raw _) (w l (hm.free hl).2)
    · exact w.elim
  · exact w.elim
@[irreducible] def wTupOf : WR1 := fun ds M Q => match ds with
  | [d] => match seqOf M d with
    | some xs => Q (.tup xs) M
    | none => False
  | _ => False
theorem sim_tupOf {K : PySem.W.Frag} : SimC G K (fun xs H Q => ∃ p ys, xs = [.ref p] ∧ ((SqL K H p ys ∧ ∀ l, H l = none → Q (.ref l) (upd H l (.tup ys))) ∨ (SqT K H p ys ∧ Q (.ref p) H))) wTupOf := by
  intro F M H vs ds Q P hm r w f
  unfold wTupOf at w
  split at w
  · split at w
    · rename_i d xs e
      obtain ⟨v, rfl, r1⟩ := one_rep r
      unfold seqOf at e
      split at e
      · cases e
        cases r1 with
        | tup h r => exact ⟨_, _, rfl, .inr ⟨sqT_mono hm.sub h, f _ _ F M H (.refl hm) (.tup h r) w⟩⟩
      · cases e
        cases r1 with
        | @frl a ws _ h r =>
          refine ⟨_, _, rfl, .inl ⟨hm.sub.seq h, fun l hl => ?_⟩⟩
          have g := hm.new (o := .tup ws) hl
          exact f _ _ _ _ _ g (.tup upd_same (r.mono g.ext)) w
      · obtain ⟨a, ws, rfl, h1, r2⟩ := lstOf_rep hm r1 e
        refine ⟨a, ws, rfl, .inl ⟨SqL.of h1, fun l hl => ?_⟩⟩
        have g := hm.new (o := .tup ws) hl
        exact f _ _ _ _ _ g (.tup upd_same (r2.mono g.ext)) w
    · exact w.elim
  · exact w.elim
/-- ints of a list -/
def intsOf : List D → Option (List Int)
  | [] => some []
  | .int i :: r => (intsOf r).map (i :: ·)
  | _ :: _ => none
theorem intsOf_map : ∀ {ds : List D} {ns : List Int}, intsOf ds = some ns → ds = ns.map D.int
  | [], _, e => by cases e; rfl
  | .int i :: r, _, e => by
    simp only [intsOf] at e
    cases q : intsOf r with
    | none => rw [q] at e; cases e
    | some ns => rw [q] at e; cases e; rw [intsOf_map q]; rfl
  | .non :: r, _, e => by simp [intsOf] at e
  | .bl _ :: r, _, e => by simp [intsOf] at e
  | .str _ :: r, _, e => by simp [intsOf] at e
  | .tup _ :: r, _, e => by simp [intsOf] at e
  | .lst _ :: r, _, e => by simp [intsOf] at e
  | .frl _ :: r, _, e => by simp [intsOf] at e
  | .dct _ :: r, _, e => by simp [intsOf] at e
  | .ins _ _ :: r, _, e => by simp [intsOf] at e
  | .raw _ :: r, _, e => by simp [intsOf] at e
theorem intsOf_ints : ∀ (ns : List Int), intsOf (ns.map D.int) = some ns
  | [] => rfl
  | n :: ns => by simp [intsOf, intsOf_ints ns]
def lintsOf (M : MM) (d : D) : Option (List Int) := (lstOf M d).bind intsOf
theorem lints_rep {F : Hp} {K : PySem.W.Frag} {M : MM} {H : Hp} {v : V} {d : D} {ns : List Int} (hm : HM G K F M H) (r : Rep G K F v d) (e : lintsOf M d = some ns) : ∃ a, v = .ref a ∧ H a = some (.lst (ns.map V.int)) := by
  unfold lintsOf at e
  cases q : lstOf M d with
  | none => rw [q] at e; cases e
  | some ds =>
    rw [q] at e
    have e2 : ds = ns.map D.int := intsOf_map e
    subst e2
    obtain ⟨a, vs, rfl, h1, r1⟩ := lstOf_rep hm r q
    rw [r1.ints] at h1
    exact ⟨a, rfl, h1⟩
/-- sorted(xs) of ints: some list in order with the same items -/
@[irreducible] def wSorted : WR1 := fun ds M Q => match ds with
  | [d] => match lintsOf M d with
    | some ns => ∀ ns' : List Int, ns'.Perm ns → ns'.Pairwise (· ≤ ·) → Q (.lst (ns'.map D.int)) M
    | none => False
  | _ => False
@[irreducible] def wSortedM : WR1 := fun ds M Q => match ds with
  | [d] => match lintsOf M d with
    | some ns => ∀ ns' : List Int, ns'.Perm ns → ns'.Pairwise (· ≤ ·) → ∀ p, M p = none → Q (.raw (.ref p)) (updM M p (.lst (ns'.map D.int)))
    | none => False
  | _ => False
theorem sim_sorted {K : PySem.W.Frag} : SimC G K (rSortedI K) wSorted := by
  intro F M H vs ds Q P hm r w f
  unfold wSorted at w
  split at w
  · split at w
    · rename_i d ns e
      obtain ⟨v, rfl, r1⟩ := one_rep r
      obtain ⟨a, rfl, h1⟩ := lints_rep hm r1 e
      refine ⟨a, ns, rfl, SqL.of h1, fun ns' p h2 h3 hp => ?_⟩
      have g := hm.new (o := .lst (ns'.map V.int)) hp
      exact f _ _ _ _ _ g (.lst upd_same (.of_ints _)) (w ns' h2 h3)
    · exact w.elim
  · exact w.elim
theorem sim_sortedM {K : PySem.W.Frag} : SimC G K (rSortedI K) wSortedM := by
  intro F M H vs ds Q P hm r w f
  unfold wSortedM at w
  split at w
  · split at w
    · rename_i d ns e
      obtain ⟨v, rfl, r1⟩ := one_rep r
      obtain ⟨a, rfl, h1⟩ := lints_rep hm r1 e
      refine ⟨a, ns, rfl, SqL.of h1, fun ns' p h2 h3 hp => ?_⟩
      have g := hm.newM (o := .lst (ns'.map V.int)) (m := .lst (ns'.map D.int)) hp ⟨_, upd_same, .of_ints _⟩
      exact f _ _ _ _ _ g (.raw _) (w ns' h2 h3 p (hm.free hp).2)
    · exact w.elim
  · exact w.elim
@[irreducible] def wMax : WR1 := fun ds M Q => match ds with
  | [d] => match lintsOf M d with
    | some ns => 0 < ns.length ∧ ∀ m, m ∈ ns → (∀ y, y ∈ ns → y ≤ m) → Q (.int m) M
    | none => False
  | _ => False
@[irreducible] def wMin : WR1 := fun ds M Q => match ds with
  | [d] => match lintsOf M d with
    | some ns => 0 < ns.length ∧ ∀ m, m ∈ ns → (∀ y, y ∈ ns → m ≤ y) → Q (.int m) M
    | none => False
  | _ => False
@[irreducible] def wSum : WR1 := fun ds M Q => match ds with
  | [d] => match lintsOf M d with
    | some ns => Q (.int ns.sum) M
    | none => False
  | _ => False
theorem sim_max {K : PySem.W.Frag} : SimC G K (rMax K) wMax := by
  intro F M H vs ds Q P hm r w f
  unfold wMax at w
  split at w
  · split at w
    · rename_i d ns e
      obtain ⟨v, rfl, r1⟩ := one_rep r
      obtain ⟨a, rfl, h1⟩ := lints_rep hm r1 e
      exact ⟨a, ns, rfl, SqL.of h1, w.1, fun m h2 h3 => f _ _ F M H (.refl hm) (.int _) (w.2 m h2 h3)⟩
    · exact w.elim
  · exact w.elim
theorem sim_min {K : PySem.W.Frag} : SimC G K (rMin K) wMin := by
  intro F M H vs ds Q P hm r w f
  unfold wMin at w
  split at w
  · split at w
    · rename_i d ns e
      obtain ⟨v, rfl, r1⟩ := one_rep r
      obtain ⟨a, rfl, h1⟩ := lints_rep hm r1 e
      exact ⟨a, ns, rfl, SqL.of h1, w.1, fun m h2 h3 => f _ _ F M H (.refl hm) (.int _) (w.2 m h2 h3)⟩
    · exact w.elim
  · exact w.elim
theorem sim_sum {K : PySem.W.Frag} : SimC G K (rSum K) wSum := by
  intro F M H vs ds Q P hm r w f
  unfold wSum at w
  split at w
  · split at w
    · rename_i d ns e
      obtain ⟨v, rfl, r1⟩ := one_rep r
      obtain ⟨a, rfl, h1⟩ := lints_rep hm r1 e
      exact ⟨a, ns, rfl, SqL.of h1, f _ _ F M H (.refl hm) (.int _) w⟩
    · exact w.elim
  · exact w.elim
def wInt1 : WR1 := fun ds M Q => match ds with
  | [.int i] => Q (.int i) M
  | [.bl k] => Q (.int (if k then 1 else 0)) M
  | _ => False
theorem sim_int1 {K : PySem.W.Frag} : SimC G K (fun xs H Q => (∃ i, xs = [.int i] ∧ Q (.int i) H) ∨ ∃ k, xs = [.bl k] ∧ Q (.int (if k then 1 else 0)) H) wInt1 := by
  intro F M H vs ds Q P hm r w f
  unfold wInt1 at w
  split at w
  · obtain ⟨v, rfl, r1⟩ := one_rep r
    cases r1
    exact .inl ⟨_, rfl, f _ _ F M H (.refl hm) (.int _) w⟩
  · obtain ⟨v, rfl, r1⟩ := one_rep r
    cases r1
    exact .inr ⟨_, rfl, f _ _ F M H (.refl hm) (.int _) w⟩
  · exact w.elim

/-! ### methods of changing lists -/
abbrev WRm := D → List D → MM → (D → MM → Prop) → Prop
/-- by a changing list's address -/
@[irreducible] def onL (w : Addr → List D → List D → MM → (D → MM → Prop) → Prop) : WRm := fun x ds M Q => match x with
  | .raw (.ref a) => match M a with
    | some (.lst xs) => w a xs ds M Q
    | _ => False
  | _ => False
def SimL (G : Cfg) (K : PySem.W.Frag) (r : V → List V → Hp → VK → Prop) (w : Addr → List D → List D → MM → (D → MM → Prop) → Prop) : Prop :=
  ∀ F M H a xs zs vs ds Q P, HM G K F M H → M a = some (.lst xs) → H a = some (.lst zs) → RepL G K F zs xs → RepL G K F vs ds → w a xs ds M Q → Fin G K F M H Q P → r (.ref a) vs H P
def wM (w : Addr → List D → List D → MM → (D → MM → Prop) → Prop) (wo : WE) (wa : WA) : WE := fun δ M Q EX => wo δ M (fun x M1 => (∃ a xs, x = .raw (.ref a) ∧ M1 a = some (.lst xs)) ∧ wa δ M1 (fun ds M2 => onL w x ds M2 Q) EX) EX
theorem Grow.lst {K : PySem.W.Frag} {F F' : Hp} {M M' : MM} {H H' : Hp} {a : Addr} {xs : List D} (g : Grow G K F M H F' M' H') (e : M' a = some (.lst xs)) : ∃ zs, H' a = some (.lst zs) ∧ RepL G K F' zs xs := g.hm.mo a _ e
theorem up_m {r : V → List V → Hp → VK → Prop} {w : Addr → List D → List D → MM → (D → MM → Prop) → Prop} {wo : WE} {wa : WA} (s : SimL G X.K r w) (σ : St) (H : Hp) (P : VK) (h : up G X (wM w wo wa) σ H P) : tBM X.K "list" r (up G X wo) (upA G X wa) σ H P := by
  obtain ⟨F, M, δ, Q, EX, hm, rs, h, tk, f⟩ := h
  refine ⟨F, M, δ, _, EX, hm, rs, h, tk, fun v d F1 M1 H1 g1 r1 h1 => ?_⟩
  obtain ⟨⟨a, xs, e, ea⟩, h1⟩ := h1
  subst e
  cases r1
  obtain ⟨zs, hz, rz⟩ := g1.hm.mo a _ ea
  refine ⟨.inl ⟨rfl, zs, SqL.of hz⟩, ?_⟩
  refine ⟨F1, M1, δ, _, EX, g1.hm, rs.mono g1.ext, h1, tk.imp (wX_mono g1), fun vs ds F2 M2 H2 g2 r2 h2 => ?_⟩
  unfold onL at h2
  dsimp only at h2
  split at h2
  · rename_i xs' e2
    obtain ⟨zs2, hz2, rz2⟩ := g2.hm.mo a _ e2
    exact s F2 M2 H2 a xs' zs2 vs ds Q P g2.hm e2 hz2 rz2 r2 h2 fun v d F3 M3 H3 g3 r3 q => f v d F3 M3 H3 ((g1.trans g2).trans g3) r3 q
  · exact h2.elim
theorem de_m {r : V → List V → Hp → VK → Prop} {w : Addr → List D → List D → MM → (D → MM → Prop) → Prop} {wo : WE} {wa : WA} {name : Str} {id : String} {apos cpos : Pos} (s : SimL G X.K r w) (pa : PlainAttrs "list") (slot : Slot "list" name id) (hty : typeOf (.builtin id) = pure (.type "method_descriptor")) (hm : MtR X id r) (ho : DE G X o wo) (ha : DA G X (e :: es) wa)
    (hbase : attributeBase o name X.env (eval o X.env) = eval o X.env := by rfl)
    (hfew : ((backTo cpos (starEach (e :: es) X.env)).all (fun x => !x.1) && (backToKw cpos (keywordEach [] X.env)).all (fun x => x.1.isSome)
      && decide ((e :: es).length + ([] : List Keyword).length + (if ([] : List Keyword).isEmpty then 0 else 1) < 30)) = true := by rfl)
    (hline : (apos.endLine == cpos.line) = true := by rfl) (hs : starEach (e :: es) X.env = (false, eval e X.env) :: starEach es X.env := by rfl) (hplain : (backTo cpos (starEach es X.env)).any (·.1) = false := by rfl) :
    DE G X (.Call (.Attribute o name apos) (e :: es) [] cpos) (wM w wo wa) := pe_imp (pe_bm pa slot hty hm ho ha hbase hfew hline hs hplain) (up_m s)
theorem de_m0 {r : V → List V → Hp → VK → Prop} {w : Addr → List D → List D → MM → (D → MM → Prop) → Prop} {wo : WE} {name : Str} {id : String} {apos cpos : Pos} (s : SimL G X.K r w) (pa : PlainAttrs "list") (slot : Slot "list" name id) (hty : typeOf (.builtin id) = pure (.type "method_descriptor")) (hm : MtR X id r) (ho : DE G X o wo)
    (hbase : attributeBase o name X.env (eval o X.env) = eval o X.env := by rfl) (hline : (apos.endLine == cpos.line) = true := by rfl) :
    DE G X (.Call (.Attribute o name apos) [] [] cpos) (wM w wo wNil) := by
  refine pe_imp (pe_bm0 pa slot hty hm ho hbase hline) fun σ H P h => ?_
  obtain ⟨F, M, δ, Q, EX, hm, rs, h, tk, f⟩ := h
  refine ⟨F, M, δ, _, EX, hm, rs, h, tk, fun v d F1 M1 H1 g1 r1 h1 => ?_⟩
  obtain ⟨⟨a, xs, e, ea⟩, h1⟩ := h1
  subst e
  cases r1
  obtain ⟨zs, hz, rz⟩ := g1.hm.mo a _ ea
  refine ⟨.inl ⟨rfl, zs, SqL.of hz⟩, ?_⟩
  unfold wNil onL at h1
  dsimp only at h1
  rw [ea] at h1
  exact s F1 M1 H1 a xs zs [] [] Q P g1.hm ea hz rz .nil h1 fun v d F3 M3 H3 g3 r3 q => f v d F3 M3 H3 (g1.trans g3) r3 q
def wAppend : Addr → List D → List D → MM → (D → MM → Prop) → Prop := fun a xs ds M Q => match ds with
  | [d] => xs.length < sizeLine ∧ Q .non (updM M a (.lst (xs ++ [d])))
  | _ => False
theorem sim_append {K : PySem.W.Frag} : SimL G K rAppend wAppend := by
  intro F M H a xs zs vs ds Q P hm ea ha rz r w f
  unfold wAppend at w
  split at w
  · obtain ⟨v, rfl, r1⟩ := one_rep r
    refine ⟨a, zs, v, rfl, rfl, ha, by rw [rz.len]; exact w.1, ?_⟩
    exact f _ _ _ _ _ (hm.put (o := .lst (zs ++ [v])) (m' := .lst (xs ++ [_])) ea ⟨_, upd_same, rz.app (.cons r1 .nil)⟩) .non w.2
  · exact w.elim
theorem RepL.dropLast {K : PySem.W.Frag} {F : Hp} {vs : List V} {ds : List D} (r : RepL G K F vs ds) : RepL G K F vs.dropLast ds.dropLast := by
  rw [List.dropLast_eq_take, List.dropLast_eq_take, r.len]
  exact r.take _
theorem RepL.eraseIdx {K : PySem.W.Frag} {F : Hp} : ∀ {vs : List V} {ds : List D} (k : Nat), RepL G K F vs ds → RepL G K F (vs.eraseIdx k) (ds.eraseIdx k)
  | _, _, _, .nil => .nil
  | _, _, 0, .cons _ t => t
  | _, _, k + 1, .cons r t => .cons r (RepL.eraseIdx k t)
def wPop : Addr → List D → List D → MM → (D → MM → Prop) → Prop := fun a xs ds M Q => match ds with
  | [] => match xs[xs.length - 1]? with
    | some d => Q d (updM M a (.lst xs.dropLast))
    | none => False
  | _ => False
theorem sim_pop {K : PySem.W.Frag} : SimL G K rPop wPop := by
  intro F M H a xs zs vs ds Q P hm ea ha rz r w f
  unfold wPop at w
  split at w
  · split at w
    · rename_i d e
      cases r
      obtain ⟨v, e2, r2⟩ := rz.get e
      refine ⟨a, zs, v, rfl, rfl, ha, by rw [rz.len]; exact e2, ?_⟩
      exact f _ _ _ _ _ (hm.put (o := .lst zs.dropLast) (m' := .lst xs.dropLast) ea ⟨_, upd_same, rz.dropLast⟩) r2 w
    · exact w.elim
  · exact w.elim
def wPopAt : Addr → List D → List D → MM → (D → MM → Prop) → Prop := fun a xs ds M Q => match ds with
  | [.int i] => (-(2 ^ 63) ≤ i ∧ i < 2 ^ 63) ∧ match seqIndex? i xs.length with
    | some k => match xs[k]? with
      | some d => Q d (updM M a (.lst (xs.eraseIdx k)))
      | none => False
    | none => False
  | _ => False
theorem sim_popAt {K : PySem.W.Frag} : SimL G K rPopAt wPopAt := by
  intro F M H a xs zs vs ds Q P hm ea ha rz r w f
  unfold wPopAt at w
  split at w
  · obtain ⟨⟨b1, b2⟩, w⟩ := w
    split at w
    · rename_i k ek
      split at w
      · rename_i d e
        obtain ⟨v, rfl, r1⟩ := one_rep r
        cases r1
        obtain ⟨v, e2, r2⟩ := rz.get e
        refine ⟨a, zs, _, k, v, rfl, rfl, ha, b1, b2, by rw [rz.len]; exact ek, e2, ?_⟩
        exact f _ _ _ _ _ (hm.put (o := .lst (zs.eraseIdx k)) (m' := .lst (xs.eraseIdx k)) ea ⟨_, upd_same, rz.eraseIdx k⟩) r2 w
      · exact w.elim
    · exact w.elim
  · exact w.elim
def wInsert : Addr → List D → List D → MM → (D → MM → Prop) → Prop := fun a xs ds M Q => match ds with
  | [.int i, d] => xs.length < sizeLine ∧ (0 ≤ i ∧ i < 2 ^ 63) ∧ Q .non (updM M a (.lst (xs.take i.toNat ++ [d] ++ xs.drop i.toNat)))
  | _ => False
abbrev rInsert : V → List V → Hp → VK → Prop := fun x vs H Q => ∃ (l : Addr) (xs : List V) (i : Int) (y : V), x = .ref l ∧ vs = [.int i, y] ∧ H l = some (.lst xs) ∧ xs.length < sizeLine ∧ 0 ≤ i ∧ i < 2 ^ 63 ∧ Q .non (upd H l (.lst (xs.take i.toNat ++ [y] ++ xs.drop i.toNat)))
theorem sim_insert {K : PySem.W.Frag} : SimL G K rInsert wInsert := by
  intro F M H a xs zs vs ds Q P hm ea ha rz r w f
  unfold wInsert at w
  split at w
  · cases r with
    | cons r1 t =>
      obtain ⟨v, rfl, r2⟩ := one_rep t
      cases r1
      refine ⟨a, zs, _, v, rfl, rfl, ha, by rw [rz.len]; exact w.1, w.2.1.1, w.2.1.2, ?_⟩
      exact f _ _ _ _ _ (hm.put (o := .lst _) (m' := .lst _) ea ⟨_, upd_same, ((rz.take _).app (.cons r2 .nil)).app (rz.drop _)⟩) .non w.2.2
  · exact w.elim
/-- the first one that is equal goes -/
def wRemove : Addr → List D → List D → MM → (D → MM → Prop) → Prop := fun a xs ds M Q => match ds with
  | [.int k] => ∃ (ns : List Int) (j : Nat), xs = ns.map D.int ∧ ns[j]? = some k ∧ (∀ m : Nat, m < j → ns[m]? ≠ some k) ∧ Q .non (updM M a (.lst ((ns.eraseIdx j).map D.int)))
  | _ => False
theorem sim_remove {K : PySem.W.Frag} : SimL G K rRemI wRemove := by
  intro F M H a xs zs vs ds Q P hm ea ha rz r w f
  unfold wRemove at w
  split at w
  · obtain ⟨ns, j, rfl, h1, h2, w⟩ := w
    obtain ⟨v, rfl, r1⟩ := one_rep r
    cases r1
    refine ⟨a, ns, _, j, rfl, rfl, by rw [rz.ints] at ha; exact ha, h1, h2, ?_⟩
    exact f _ _ _ _ _ (hm.put (o := .lst _) (m' := .lst _) ea ⟨_, upd_same, .of_ints _⟩) .non w
  · exact w.elim
end
end DL

set_option Elab.async false
set_option linter.all false
set_option maxRecDepth 100000
namespace DL
open PySem PySem.Spec L2
open PyProof.Rows hiding St

section
variable {G : Cfg} {X : Cx} {e : Expr}
/-! ### statements -/
def wNext : WS := fun E _ δ M => E.nx δ M
def wSeq (w u : WS) : WS := fun E EX δ M => w { E with nx := fun δ' M' => u E EX δ' M' } EX δ M
theorem dss_nil : DSs G X [] wNext := pss_imp pss_nil fun D σ H ⟨F, M, δ, E, EX, hm, rs, h, tk, n, r, b, c⟩ => n σ δ F M H (.refl hm) rs h
theorem up_seq {w u : WS} (D : Ends) (σ : St) (H : Hp) (h : upS G X (wSeq w u) D σ H) : tSeq (upS G X w) (upS G X u) D σ H := by
  obtain ⟨F, M, δ, E, EX, hm, rs, h, tk, n, r, b, c⟩ := h
  refine ⟨F, M, δ, _, EX, hm, rs, h, tk, fun σ' δ' F' M' H' g rs' h' => ?_, r, b, c⟩
  exact ⟨F', M', δ', E, EX, g.hm, rs', h', tk.imp (wX_mono g), fun s2 d2 F2 M2 H2 g2 r2 q => n s2 d2 F2 M2 H2 (g.trans g2) r2 q, fun v d F2 M2 H2 g2 r2 q => r v d F2 M2 H2 (g.trans g2) r2 q,
    fun s2 d2 F2 M2 H2 g2 r2 q => b s2 d2 F2 M2 H2 (g.trans g2) r2 q, fun s2 d2 F2 M2 H2 g2 r2 q => c s2 d2 F2 M2 H2 (g.trans g2) r2 q⟩
theorem dss_cons {st : Stmt} {rest : List Stmt} {w u : WS} (h1 : DSt G X st w) (h2 : DSs G X rest u) : DSs G X (st :: rest) (wSeq w u) := pss_imp (pss_cons h1 h2) up_seq
theorem dss_one {st : Stmt} {w : WS} (h1 : DSt G X st w) : DSs G X [st] w := pss_one h1
theorem ds_pass {pos} : DSt G X (.Pass pos) wNext := ps_imp ps_pass fun D σ H ⟨F, M, δ, E, EX, hm, rs, h, tk, n, r, b, c⟩ => n σ δ F M H (.refl hm) rs h
def wBreak : WS := fun E _ δ M => E.bk δ M
def wCont : WS := fun E _ δ M => E.ct δ M
theorem ds_break {pos} : DSt G X (.Break pos) wBreak := ps_imp ps_break fun D σ H ⟨F, M, δ, E, EX, hm, rs, h, tk, n, r, b, c⟩ => b σ δ F M H (.refl hm) rs h
theorem ds_cont {pos} : DSt G X (.Continue pos) wCont := ps_imp ps_continue fun D σ H ⟨F, M, δ, E, EX, hm, rs, h, tk, n, r, b, c⟩ => c σ δ F M H (.refl hm) rs h
def wNever : WS := fun _ _ _ _ => False
theorem ds_never {st : Stmt} : DSt G X st wNever := ps_imp ps_never fun D σ H ⟨F, M, δ, E, EX, hm, rs, h, tk, n, r, b, c⟩ => h
theorem de_never : DE G X e (fun _ _ _ _ => False) := ⟨fun pins s σ H Q I ⟨F, M, δ, Q', EX, hm, rs, h, _⟩ => h.elim⟩
/-- an expression, then a statement's end: helper -/
theorem up_then {we : WE} {k : D → ED → XK' → DS → MM → Prop} {σ : St} {H : Hp} {P : VK} {F : Hp} {M : MM} {δ : DS} {E : ED} {EX : XK'} (hm : HM G X.K F M H) (rs : RS G X.K F σ δ) (h : we δ M (fun d M1 => k d E EX δ M1) EX) (tk : Takes X (wX G X.K F M H EX))
    (f : ∀ v d F1 M1 H1, Grow G X.K F M H F1 M1 H1 → Rep G X.K F1 v d → k d E EX δ M1 → P v H1) : up G X we σ H P := ⟨F, M, δ, _, EX, hm, rs, h, tk, f⟩
def wDrop (we : WE) : WS := fun E EX δ M => we δ M (fun _ M1 => E.nx δ M1) EX
theorem ds_expr {we : WE} {pos} (h : DE G X e we) (hs : swapsWith e none pos.line X.env = pure false := by rfl) : DSt G X (.Expr e pos) (wDrop we) := by
  refine ps_imp (ps_expr h hs) fun D σ H ⟨F, M, δ, E, EX, hm, rs, h, tk, n, r, b, c⟩ => ?_
  exact ⟨F, M, δ, _, EX, hm, rs, h, tk, fun v d F1 M1 H1 g1 r1 q => n σ δ F1 M1 H1 g1 (rs.mono g1.ext) q⟩
theorem ds_doc {x j pos pos'} : DSt G X (.Expr (.Constant (.str x) j pos) pos') wNext := ps_imp ps_doc fun D σ H ⟨F, M, δ, E, EX, hm, rs, h, tk, n, r, b, c⟩ => n σ δ F M H (.refl hm) rs h
def wRet (we : WE) : WS := fun E EX δ M => we δ M (fun d M1 => E.rt d M1) EX
theorem ds_ret {we : WE} {pos} (h : DE G X e we) : DSt G X (.Return (some e) pos) (wRet we) := by
  refine ps_imp (ps_ret h) fun D σ H ⟨F, M, δ, E, EX, hm, rs, h, tk, n, r, b, c⟩ => ?_
  exact ⟨F, M, δ, _, EX, hm, rs, h, tk, fun v d F1 M1 H1 g1 r1 q => r v d F1 M1 H1 g1 r1 q⟩
def wRetN : WS := fun E _ _ M => E.rt .non M
theorem ds_retN {pos} : DSt G X (.Return none pos) wRetN := ps_imp ps_retN fun D σ H ⟨F, M, δ, E, EX, hm, rs, h, tk, n, r, b, c⟩ => r .non .non F M H (.refl hm) .non h
def wIfS (p : WT) (w u : WS) : WS := fun E EX δ M => p δ M (fun c M1 => if c = true then w E EX δ M1 else u E EX δ M1) EX
theorem ds_if {c : Expr} {a b : List Stmt} {p : WT} {w u : WS} {pos} (hc : DT G X c p) (ha : DSs G X a w) (hb : DSs G X b u) : DSt G X (.If c a b pos) (wIfS p w u) := by
  refine ps_imp (ps_if hc ha hb) fun D σ H ⟨F, M, δ, E, EX, hm, rs, h, tk, n, r, b, c⟩ => ?_
  refine ⟨F, M, δ, _, EX, hm, rs, h, tk, fun k F1 M1 H1 g h' => ?_⟩
  cases k <;> exact ⟨F1, M1, δ, E, EX, g.hm, rs.mono g.ext, h', tk.imp (wX_mono g), fun s2 d2 F2 M2 H2 g2 r2 q => n s2 d2 F2 M2 H2 (g.trans g2) r2 q, fun v d F2 M2 H2 g2 r2 q => r v d F2 M2 H2 (g.trans g2) r2 q,
    fun s2 d2 F2 M2 H2 g2 r2 q => b s2 d2 F2 M2 H2 (g.trans g2) r2 q, fun s2 d2 F2 M2 H2 g2 r2 q => c s2 d2 F2 M2 H2 (g.trans g2) r2 q⟩

/-! ### targets -/
abbrev BD := D → DS → Option DS
def SimG (G : Cfg) (K : PySem.W.Frag) (g : TG) (b : BD) : Prop := ∀ F M H σ δ δ' v d (Q : St → Hp → Prop), HM G K F M H → RS G K F σ δ → Rep G K F v d → b d δ = some δ' → (∀ σ', RS G K F σ' δ' → Q σ' H) → g v σ H Q
def bNm (i : Nat) : BD := fun d δ => some (δ.set i (some d))
theorem simG_nm {K : PySem.W.Frag} (i : Nat) : SimG G K (gName i) (bNm i) := by
  intro F M H σ δ δ' v d Q hm rs r e q
  unfold bNm at e
  cases e
  exact q _ (rs.set i r)
def bSets : List Nat → List D → DS → Option DS
  | [], [], δ => some δ
  | i :: is, d :: ds, δ => bSets is ds (δ.set i (some d))
  | _, _, _ => none
def bTup (is : List Nat) : BD := fun d δ => match d with
  | .tup ds => bSets is ds δ
  | _ => none
def gsOf : List Nat → TGs
  | [] => gNil
  | i :: is => gCons (gName i) (gsOf is)
theorem simG_sets {K : PySem.W.Frag} {F : Hp} {H : Hp} {Q : St → Hp → Prop} : ∀ (is : List Nat) (vs : List V) (ds : List D) (σ : St) (δ δ' : DS), RS G K F σ δ → RepL G K F vs ds → bSets is ds δ = some δ' → (∀ σ', RS G K F σ' δ' → Q σ' H) → gsOf is vs σ H Q
  | [], _, _, σ, δ, δ', rs, .nil, e, q => by
    unfold bSets at e
    cases e
    exact ⟨rfl, q _ rs⟩
  | [], _, _, σ, δ, δ', rs, .cons _ _, e, q => by unfold bSets at e; cases e
  | i :: is, _, _, σ, δ, δ', rs, .nil, e, q => by unfold bSets at e; cases e
  | i :: is, _, _, σ, δ, δ', rs, .cons r t, e, q => by
    unfold bSets at e
    exact ⟨_, _, rfl, simG_sets is _ _ _ _ _ (rs.set i r) t e q⟩
theorem bSets_len : ∀ (is : List Nat) (ds : List D) (δ δ' : DS), bSets is ds δ = some δ' → ds.length = is.length
  | [], [], _, _, _ => rfl
  | [], _ :: _, _, _, e => by unfold bSets at e; cases e
  | _ :: _, [], _, _, e => by unfold bSets at e; cases e
  | i :: is, d :: ds, δ, δ', e => by
    unfold bSets at e
    rw [List.length_cons, List.length_cons, bSets_len is ds _ _ e]
theorem simG_tup {K : PySem.W.Frag} (is : List Nat) : SimG G K (gTup K is.length (gsOf is)) (bTup is) := by
  intro F M H σ δ δ' v d Q hm rs r e q
  unfold bTup at e
  split at e
  · cases r with
    | tup h r => exact ⟨_, _, rfl, sqT_mono hm.sub h, by rw [r.len]; exact bSets_len _ _ _ _ e, simG_sets is _ _ _ _ _ rs r e q⟩
  · cases e
/-- x = e, a, b = e -/
def kAsg (b : BD) (nx : DS → MM → Prop) (δ : DS) (d : D) (M1 : MM) : Prop := match b d δ with
  | some δ' => nx δ' M1
  | none => False
def wAsg (b : BD) (we : WE) : WS := fun E EX δ M => we δ M (kAsg b E.nx δ) EX
theorem ds_asg {tg : Expr} {we : WE} {g : TG} {b : BD} {pos} (he : DE G X e we) (hg : PG X tg g) (sg : SimG G X.K g b) (hs : swapsWithSole [tg] e pos.line X.env = pure false := by rfl) (hw : swappedStores [tg] e X.env = pure none := by rfl) (h1 : List.map (fun x => x.snd) (assignEach [tg] X.env) = [assign tg X.env] := by rfl) :
    DSt G X (.Assign [tg] e pos) (wAsg b we) := by
  refine ps_imp (ps_asg he hg hs hw h1) fun D σ H ⟨F, M, δ, E, EX, hm, rs, h, tk, n, r, b, c⟩ => ?_
  refine ⟨F, M, δ, _, EX, hm, rs, h, tk, fun v d F1 M1 H1 g1 r1 q => ?_⟩
  unfold kAsg at q
  split at q
  · rename_i δ' e
    exact sg F1 M1 H1 σ δ δ' v d D.nx g1.hm (rs.mono g1.ext) r1 e fun σ' rs' => n σ' δ' F1 M1 H1 g1 rs' q
  · exact q.elim
def wSet (i : Nat) (we : WE) : WS := fun E EX δ M => we δ M (fun d M1 => E.nx (δ.set i (some d)) M1) EX
theorem ds_set (i : Nat) {x : Str} {we : WE} {pos pos' : Pos} (hN : X.N.Nodup) (he : DE G X e we) (hi : X.N[i]? = some x := by rfl) (hx : Loc X.env.scope x := by first | exact Or.inl rfl | exact Or.inr rfl) (hs : swapsWith e (some (.Name x pos')) pos.line X.env = pure false := by rfl)
    (hf : X.fn x = true ∨ X.env.scope.names.lookup x = some .local := by first | exact .inl rfl | exact .inr rfl) : DSt G X (.Assign [.Name x pos'] e pos) (wSet i we) := by
  refine ps_imp (ps_set hN hi hx he hs hf) fun D σ H ⟨F, M, δ, E, EX, hm, rs, h, tk, n, r, b, c⟩ => ?_
  exact ⟨F, M, δ, _, EX, hm, rs, h, tk, fun v d F1 M1 H1 g1 r1 q => n _ _ F1 M1 H1 g1 ((rs.mono g1.ext).set i r1) q⟩
def kPar (i j : Nat) (nx : DS → MM → Prop) (δ : DS) (ds : List D) (M1 : MM) : Prop := match ds with
  | [a, b] => nx ((δ.set i (some a)).set j (some b)) M1
  | _ => False
def wPar (i j : Nat) (wa : WA) : WS := fun E EX δ M => wa δ M (kPar i j E.nx δ) EX
theorem up_par {i j : Nat} {wa : WA} (D : Ends) (σ : St) (H : Hp) (h : upS G X (wPar i j wa) D σ H) : tPar i j (upA G X wa) D σ H := by
  obtain ⟨F, M, δ, E, EX, hm, rs, h, tk, n, r, b, c⟩ := h
  refine ⟨F, M, δ, _, EX, hm, rs, h, tk, fun vs ds F1 M1 H1 g1 r1 q => ?_⟩
  unfold kPar at q
  split at q
  · cases r1 with
    | cons ra t =>
      obtain ⟨v, rfl, rb⟩ := one_rep t
      exact ⟨_, _, rfl, n _ _ F1 M1 H1 g1 (((rs.mono g1.ext).set i ra).set j rb) q⟩
  · exact q.elim

/-! ### what a for walks -/
structure IT where
  items : List D
  src : Option (Addr × List D) := none
def stay (src : Option (Addr × List D)) (M : MM) : Prop := match src with
  | none => True
  | some (a, all) => M a = some (.lst all)
abbrev WI := DS → MM → (IT → MM → Prop) → XK' → Prop
structure Walks (G : Cfg) (K : PySem.W.Frag) (F : Hp) (M : MM) (H : Hp) (J : It) (it : IT) : Prop where
  step : ∀ F' M' H' i d, Grow G K F M H F' M' H' → stay it.src M' → it.items[i]? = some d → J.go i H' ∧ ∀ x H'', J.yld i H' x H'' → ∃ F'', Grow G K F' M' H' F'' M' H'' ∧ Rep G K F'' x d
  stop : ∀ F' M' H', Grow G K F M H F' M' H' → stay it.src M' → J.stop it.items.length H'
def upI (G : Cfg) (X : Cx) (w : WI) : TI := fun σ H R => ∃ F M δ Q EX, HM G X.K F M H ∧ RS G X.K F σ δ ∧ w δ M Q EX ∧ Takes X (wX G X.K F M H EX) ∧
  ∀ J it F' M' H', Grow G X.K F M H F' M' H' → Walks G X.K F' M' H' J it → Q it M' → R J H'
abbrev DI (G : Cfg) (X : Cx) (tg iter : Expr) (w : WI) : Prop := PI X tg iter (upI G X w)
theorem pi_imp {tg : Expr} {t t' : TI} (h : PI X tg e t) (i : ∀ σ H R, t' σ H R → t σ H R) : PI X tg e t' := ⟨fun pins s σ H R I q => h.run pins s σ H R I (i σ H R q)⟩
/-- a list, or a changing list that stays -/
@[irreducible] def kiL (Q : IT → MM → Prop) (d : D) (M1 : MM) : Prop := match d with
  | .lst ds => Q { items := ds } M1
  | .frl ds => Q { items := ds } M1
  | .raw (.ref a) => match M1 a with
    | some (.lst ds) => Q { items := ds, src := some (a, ds) } M1
    | _ => False
  | _ => False
def wiL (we : WE) : WI := fun δ M Q EX => we δ M (kiL Q) EX
theorem SqL.uniq {K : PySem.W.Frag} {H : Hp} {a : Addr} {xs : List V} (h : H a = some (.lst xs)) : SqL K H a xs := SqL.of h
theorem walks_frz {K : PySem.W.Frag} {F : Hp} {M : MM} {H : Hp} {a : Addr} {vs : List V} {ds : List D} (hm : HM G K F M H) (h : SqL K F a vs) (r : RepL G K F vs ds) : Walks G K F M H (Itl K a) { items := ds } := by
  refine ⟨fun F' M' H' i d g st e => ?_, fun F' M' H' g st => ?_⟩
  · obtain ⟨v, e1, r1⟩ := r.get e
    have hs : SqL K H' a vs := g.hm.sub.seq (g.ext.seq h)
    refine ⟨⟨vs, v, hs, e1⟩, fun x H'' y => ?_⟩
    obtain ⟨e2, y⟩ := y
    subst e2
    have e3 := y vs hs
    rw [e1] at e3
    cases e3
    exact ⟨F', .refl g.hm, r1.mono g.ext⟩
  · exact ⟨vs, g.hm.sub.seq (g.ext.seq h), by rw [r.len]; exact Nat.le_refl _⟩
theorem walks_mut {K : PySem.W.Frag} {F : Hp} {M : MM} {H : Hp} {a : Addr} {ds : List D} : Walks G K F M H (Itl K a) { items := ds, src := some (a, ds) } := by
  refine ⟨fun F' M' H' i d g st e => ?_, fun F' M' H' g st => ?_⟩
  · obtain ⟨vs, h1, r⟩ := g.hm.mo a _ st
    obtain ⟨v, e1, r1⟩ := r.get e
    refine ⟨⟨vs, v, SqL.of h1, e1⟩, fun x H'' y => ?_⟩
    obtain ⟨e2, y⟩ := y
    subst e2
    have e3 := y vs (SqL.of h1)
    rw [e1] at e3
    cases e3
    exact ⟨F', .refl g.hm, r1⟩
  · obtain ⟨vs, h1, r⟩ := g.hm.mo a _ st
    exact ⟨vs, SqL.of h1, by rw [r.len]; exact Nat.le_refl _⟩
theorem di_list {tg : Expr} {we : WE} (h : DE G X e we) : DI G X tg e (wiL we) := by
  refine pi_imp (pi_list h) fun σ H R ⟨F, M, δ, Q, EX, hm, rs, h, tk, f⟩ => ?_
  refine ⟨F, M, δ, _, EX, hm, rs, h, tk, fun v d F1 M1 H1 g1 r1 q => ?_⟩
  unfold kiL at q
  split at q
  · cases r1 with
    | lst h r => exact ⟨_, rfl, ⟨_, SqL.of (g1.hm.sub _ _ h)⟩, f _ _ F1 M1 H1 g1 (walks_frz g1.hm (SqL.of h) r) q⟩
  · cases r1 with
    | frl h r => exact ⟨_, rfl, ⟨_, g1.hm.sub.seq h⟩, f _ _ F1 M1 H1 g1 (walks_frz g1.hm h r) q⟩
  · cases r1
    split at q
    · rename_i ds e
      obtain ⟨vs, h1, r⟩ := g1.hm.mo _ _ e
      exact ⟨_, rfl, ⟨_, SqL.of h1⟩, f _ _ F1 M1 H1 g1 walks_mut q⟩
    · exact q.elim
  · exact q.elim
def wiT (we : WE) : WI := fun δ M Q EX => we δ M (fun d M1 => match d with
  | .tup ds => Q { items := ds } M1
  | _ => False) EX
theorem walks_tup {K : PySem.W.Frag} {F : Hp} {M : MM} {H : Hp} {a : Addr} {vs : List V} {ds : List D} (hm : HM G K F M H) (h : SqT K F a vs) (r : RepL G K F vs ds) : Walks G K F M H (Itt K a) { items := ds } := by
  refine ⟨fun F' M' H' i d g st e => ?_, fun F' M' H' g st => ?_⟩
  · obtain ⟨v, e1, r1⟩ := r.get e
    have hs : SqT K H' a vs := sqT_up g.hm.sub (sqT_up g.ext h)
    refine ⟨⟨vs, v, hs, e1⟩, fun x H'' y => ?_⟩
    obtain ⟨e2, y⟩ := y
    subst e2
    have e3 := y vs hs
    rw [e1] at e3
    cases e3
    exact ⟨F', .refl g.hm, r1.mono g.ext⟩
  · exact ⟨vs, sqT_up g.hm.sub (sqT_up g.ext h), by rw [r.len]; exact Nat.le_refl _⟩
theorem di_tup {tg : Expr} {we : WE} (h : DE G X e we) : DI G X tg e (wiT we) := by
  refine pi_imp (pi_tup h) fun σ H R ⟨F, M, δ, Q, EX, hm, rs, h, tk, f⟩ => ?_
  refine ⟨F, M, δ, _, EX, hm, rs, h, tk, fun v d F1 M1 H1 g1 r1 q => ?_⟩
  dsimp only at q
  split at q
  · cases r1 with
    | tup h r => exact ⟨_, rfl, ⟨_, sqT_mono g1.hm.sub h⟩, f _ _ F1 M1 H1 g1 (walks_tup g1.hm (SqT.of h) r) q⟩
  · exact q.elim
def rngL (lo : Int) (n : Nat) : List D := (List.range n).map fun k => D.int (lo + (k : Nat))
theorem rngL_len (lo : Int) (n : Nat) : (rngL lo n).length = n := by unfold rngL; rw [List.length_map, List.length_range]
theorem walks_rng {K : PySem.W.Frag} {F : Hp} {M : MM} {H : Hp} (lo : Int) (n : Nat) : Walks G K F M H (Itr lo n) { items := rngL lo n } := by
  refine ⟨fun F' M' H' i d g st e => ?_, fun F' M' H' g st => ?_⟩
  · have l : i < n := by
      have z := (List.getElem?_eq_some_iff.mp e).1
      rw [show ({ items := rngL lo n } : IT).items.length = n from rngL_len lo n] at z
      exact z
    have ed : d = .int (lo + (i : Nat)) := by
      have z : (rngL lo n)[i]? = some d := e
      unfold rngL at z
      rw [List.getElem?_map, List.getElem?_range l] at z
      exact (Option.some.inj z).symm
    subst ed
    refine ⟨l, fun x H'' y => ?_⟩
    obtain ⟨e2, y⟩ := y
    subst e2 y
    exact ⟨F', .refl g.hm, .int _⟩
  · show n ≤ (rngL lo n).length
    rw [rngL_len]
    exact Nat.le_refl _
def kiR1 (Q : IT → MM → Prop) (ds : List D) (M1 : MM) : Prop := match ds with
  | [.int j] => (-(2 ^ 62) ≤ j ∧ j < 2 ^ 62) ∧ Q { items := rngL 0 j.toNat } M1
  | _ => False
def wiR1 (wa : WA) : WI := fun δ M Q EX => wa δ M (kiR1 Q) EX
def kiR2 (Q : IT → MM → Prop) (ds : List D) (M1 : MM) : Prop := match ds with
  | [.int i, .int j] => (-(2 ^ 62) ≤ i ∧ i < 2 ^ 62 ∧ -(2 ^ 62) ≤ j ∧ j < 2 ^ 62) ∧ Q { items := rngL i (j - i).toNat } M1
  | _ => False
def wiR2 (wa : WA) : WI := fun δ M Q EX => wa δ M (kiR2 Q) EX
theorem di_range1 {tg a : Expr} {wa : WA} {p pos : Pos} (hm : X.mg "range" = none) (ha : DA G X [a] wa) (hg : Gl X "range" := by rfl) (hs : starEach [a] X.env = [(false, eval a X.env)] := by rfl) : DI G X tg (.Call (.Name "range" p) [a] [] pos) (wiR1 wa) := by
  refine pi_imp (pi_range1 hg hm ha hs) fun σ H R ⟨F, M, δ, Q, EX, hm, rs, h, tk, f⟩ => ?_
  refine ⟨F, M, δ, _, EX, hm, rs, h, tk, fun vs ds F1 M1 H1 g1 r1 q => ?_⟩
  unfold kiR1 at q
  split at q
  · obtain ⟨v, rfl, r2⟩ := one_rep r1
    cases r2
    exact ⟨_, rfl, q.1.1, q.1.2, f _ _ F1 M1 H1 g1 (walks_rng _ _) q.2⟩
  · exact q.elim
theorem di_range2 {tg a b : Expr} {wa : WA} {p pos : Pos} (hm : X.mg "range" = none) (ha : DA G X [a, b] wa) (hg : Gl X "range" := by rfl) (hs : starEach [a, b] X.env = [(false, eval a X.env), (false, eval b X.env)] := by rfl) (hs2 : starEach [b] X.env = [(false, eval b X.env)] := by rfl) :
    DI G X tg (.Call (.Name "range" p) [a, b] [] pos) (wiR2 wa) := by
  refine pi_imp (pi_range2 hg hm ha hs hs2) fun σ H R ⟨F, M, δ, Q, EX, hm, rs, h, tk, f⟩ => ?_
  refine ⟨F, M, δ, _, EX, hm, rs, h, tk, fun vs ds F1 M1 H1 g1 r1 q => ?_⟩
  unfold kiR2 at q
  split at q
  · cases r1 with
    | cons ra t =>
      obtain ⟨v, rfl, r2⟩ := one_rep t
      cases ra
      cases r2
      exact ⟨_, _, rfl, q.1, f _ _ F1 M1 H1 g1 (walks_rng _ _) q.2⟩
  · exact q.elim

/-! ### for -/
def wLoop (src : Option (Addr × List D)) (b : BD) (wb : WS) : List D → ED → XK' → DS → MM → Prop
  | [], E, _, δ, M => stay src M ∧ E.nx δ M
  | d :: ds, E, EX, δ, M => stay src M ∧ match b d δ with
    | some δ' => wb { nx := wLoop src b wb ds E EX, rt := E.rt, bk := E.nx, ct := wLoop src b wb ds E EX } EX δ' M
    | none => False
def wFor (wi : WI) (b : BD) (wb : WS) : WS := fun E EX δ M => wi δ M (fun it M1 => wLoop it.src b wb it.items E EX δ M1) EX
theorem ds_for {tg iter : Expr} {body : List Stmt} {wi : WI} {g : TG} {b : BD} {wb : WS} {pos} (hp : PassesOwn (model X.prog X.w) X.A X.env X.xe) (hc : X.calm = true) (hi : DI G X tg iter wi) (hg : PG X tg g) (sg : SimG G X.K g b) (hb : DSs G X body wb)
    (hs : ∀ x, foldedSetIterable iter X.env x = pure x := by intro _; rfl) : DSt G X (.For tg iter body [] pos) (wFor wi b wb) := by
  refine ps_imp (ps_for hp hc hi hg hb hs) fun D σ H ⟨F, M, δ, E, EX, hm, rs, h, tk, n, r, bk, c⟩ => ?_
  refine ⟨F, M, δ, _, EX, hm, rs, h, tk, fun J it F1 M1 H1 g1 wk h1 => ?_⟩
  refine ⟨fun i m σ' H' => m = it.items.length - i ∧ i ≤ it.items.length ∧ ∃ F' M' δ', Grow G X.K F1 M1 H1 F' M' H' ∧ RS G X.K F' σ' δ' ∧ wLoop it.src b wb (it.items.drop i) E EX δ' M',
    ⟨it.items.length, by simp, Nat.zero_le _, F1, M1, δ, .refl g1.hm, rs.mono g1.ext, h1⟩, ?_⟩
  rintro i m σ' H' ⟨em, hi, F', M', δ', g', rs', h'⟩
  subst em
  by_cases hlt : i < it.items.length
  · rw [List.drop_eq_getElem_cons hlt] at h'
    unfold wLoop at h'
    obtain ⟨st, h'⟩ := h'
    split at h'
    · rename_i δ2 eb
      obtain ⟨go, yl⟩ := wk.step F' M' H' i it.items[i] g' st (List.getElem?_eq_getElem hlt)
      refine .inr ⟨go, fun σ2 H2 => ∃ F2 M2 δ2, Grow G X.K F1 M1 H1 F2 M2 H2 ∧ RS G X.K F2 σ2 δ2 ∧ wLoop it.src b wb (it.items.drop (i + 1)) E EX δ2 M2, fun σ2 H2 w2 => ⟨it.items.length - (i + 1), by omega, rfl, hlt, w2⟩, fun x H'' y => ?_⟩
      obtain ⟨F3, g3, r3⟩ := yl x H'' y
      refine sg F3 M' H'' σ' δ' δ2 x _ _ g3.hm (rs'.mono g3.ext) r3 eb fun σ4 rs4 => ?_
      have gt := (g1.trans g').trans g3
      refine ⟨F3, M', δ2, _, EX, g3.hm, rs4, h', tk.imp (wX_mono gt), fun s2 d2 F2 M2 H2 g2 r2 q => ⟨F2, M2, d2, (g'.trans g3).trans g2, r2, q⟩, fun v d F2 M2 H2 g2 r2 q => r v d F2 M2 H2 (gt.trans g2) r2 q,
        fun s2 d2 F2 M2 H2 g2 r2 q => n s2 d2 F2 M2 H2 (gt.trans g2) r2 q, fun s2 d2 F2 M2 H2 g2 r2 q => ⟨F2, M2, d2, (g'.trans g3).trans g2, r2, q⟩⟩
    · exact h'.elim
  · have e : i = it.items.length := by omega
    subst e
    rw [List.drop_length] at h'
    unfold wLoop at h'
    exact .inl ⟨wk.stop F' M' H' g' h'.1, n σ' δ' F' M' H' (g1.trans g') rs' h'.2⟩
/-! ### while -/
def wWh (p : WT) (wb : WS) : Nat → ED → XK' → DS → MM → Prop
  | 0, _, _, _, _ => False
  | n + 1, E, EX, δ, M => p δ M (fun k M1 => if k = true then wb { nx := wWh p wb n E EX, rt := E.rt, bk := E.nx, ct := wWh p wb n E EX } EX δ M1 else E.nx δ M1) EX
def wWhile (p : WT) (wb : WS) : WS := fun E EX δ M => ∃ n, wWh p wb n E EX δ M
theorem ds_while {c : Expr} {body : List Stmt} {p : WT} {wb : WS} {pos} (hp : PassesOwn (model X.prog X.w) X.A X.env X.xe) (hc : DT G X c p) (hb : DSs G X body wb) : DSt G X (.While c body [] pos) (wWhile p wb) := by
  refine ps_imp (ps_while hp hc hb) fun D σ H ⟨F, M, δ, E, EX, hm, rs, ⟨n0, h⟩, tk, n, r, bk, c⟩ => ?_
  refine ⟨fun m σ' H' => ∃ F' M' δ', Grow G X.K F M H F' M' H' ∧ RS G X.K F' σ' δ' ∧ wWh p wb m E EX δ' M', ⟨n0, F, M, δ, .refl hm, rs, h⟩, ?_⟩
  rintro m σ' H' ⟨F', M', δ', g', rs', h'⟩
  cases m with
  | zero => exact h'.elim
  | succ m =>
    unfold wWh at h'
    refine ⟨F', M', δ', _, EX, g'.hm, rs', h', tk.imp (wX_mono g'), fun k F2 M2 H2 g2 q => ?_⟩
    have gt := g'.trans g2
    cases k with
    | true =>
      refine ⟨fun σ3 H3 => ∃ F3 M3 δ3, Grow G X.K F M H F3 M3 H3 ∧ RS G X.K F3 σ3 δ3 ∧ wWh p wb m E EX δ3 M3, fun σ3 H3 w3 => ⟨m, Nat.lt_succ_self _, w3⟩, ?_⟩
      exact ⟨F2, M2, δ', _, EX, g2.hm, rs'.mono g2.ext, q, tk.imp (wX_mono gt), fun s2 d2 F3 M3 H3 g3 r2 q => ⟨F3, M3, d2, gt.trans g3, r2, q⟩, fun v d F3 M3 H3 g3 r2 q => r v d F3 M3 H3 (gt.trans g3) r2 q,
        fun s2 d2 F3 M3 H3 g3 r2 q => n s2 d2 F3 M3 H3 (gt.trans g3) r2 q, fun s2 d2 F3 M3 H3 g3 r2 q => ⟨F3, M3, d2, gt.trans g3, r2, q⟩⟩
    | false => exact n σ' δ' F2 M2 H2 gt (rs'.mono g2.ext) q

/-! ### xs[i] = e -/
/-- of a changing list -/
@[irreducible] def kPutL (nx : MM → Prop) (v o i : D) (M3 : MM) : Prop := match o, i with
  | .raw (.ref a), .int j => match M3 a with
    | some (.lst xs) => match ixN xs.length j with
      | some k => nx (updM M3 a (.lst (xs.set k v)))
      | none => False
    | _ => False
  | _, _ => False
def wPutL (wv wo wi : WE) : WS := fun E EX δ M => wv δ M (fun v M1 => wo δ M1 (fun o M2 => wi δ M2 (fun i M3 => kPutL (E.nx δ) v o i M3) EX) EX) EX
end
end DL

set_option Elab.async false
set_option linter.all false
set_option maxRecDepth 100000
namespace DL
open PySem PySem.Spec L2
open PyProof.Rows hiding St

section
variable {G : Cfg} {X : Cx} {e o i value : Expr}
/-! ### stores into lists and dicts -/
theorem ds_putL {wv wo wi : WE} {pos spos} (he : DE G X value wv) (ho : DE G X o wo) (hi : DE G X i wi) (hs : swapsWithSole [.Subscript o i spos] value pos.line X.env = pure false := by rfl) (hw : swappedStores [.Subscript o i spos] value X.env = pure none := by rfl)
    (h1 : List.map (fun x => x.snd) (assignEach [.Subscript o i spos] X.env) = [assign (.Subscript o i spos) X.env] := by rfl)
    (h2 : ∀ v, assign (.Subscript o i spos) X.env v = (do
      let ov ← holding [v] (eval o X.env)
      let iv ← holding [v, ov] (eval i X.env)
      standAt spos
      holding [v, ov, iv] (setItem ov iv v)
      release [v, ov, iv] []) := by intro _; rfl) : DSt G X (.Assign [.Subscript o i spos] value pos) (wPutL wv wo wi) := by
  refine ps_imp (ps_asg he (pg_sub ho hi set_list h2) hs hw h1) fun D σ H ⟨F, M, δ, E, EX, hm, rs, h, tk, n, r, b, c⟩ => ?_
  refine ⟨F, M, δ, _, EX, hm, rs, h, tk, fun v d F1 M1 H1 g1 r1 h1 => ?_⟩
  refine ⟨F1, M1, δ, _, EX, g1.hm, rs.mono g1.ext, h1, tk.imp (wX_mono g1), fun v2 d2 F2 M2 H2 g2 r2 h2 => ?_⟩
  have g12 := g1.trans g2
  refine ⟨F2, M2, δ, _, EX, g2.hm, rs.mono g12.ext, h2, tk.imp (wX_mono g12), fun v3 d3 F3 M3 H3 g3 r3 h3 => ?_⟩
  have g123 := g12.trans g3
  try dsimp only at h3
  unfold kPutL at h3
  split at h3
  · rename_i a j
    cases r2
    cases r3
    split at h3
    · rename_i xs ea
      split at h3
      · rename_i k ek
        obtain ⟨zs, hz, rz⟩ := g3.hm.mo a _ ea
        refine ⟨a, zs, j, k, rfl, rfl, hz, by rw [rz.len]; exact ek, ?_⟩
        have g4 := g3.hm.put (o := .lst (zs.set k v)) (m' := .lst (xs.set k d)) ea ⟨_, upd_same, rz.set (r1.mono ((g2.trans g3).ext)) k⟩
        exact n σ δ _ _ _ (g123.trans g4) (rs.mono g123.ext) h3
      · exact h3.elim
    · exact h3.elim
  · exact h3.elim
/-- keys -/
def keyD : D → Option Key
  | .int i => some (.inl i)
  | .str x => some (.inr x)
  | _ => none
theorem keyD_rep {K : PySem.W.Frag} {F : Hp} {v : V} {d : D} {k : Key} (r : Rep G K F v d) (e : keyD d = some k) : v = kV k := by
  cases r <;> simp only [keyD, Option.some.injEq, reduceCtorEq] at e <;> subst e <;> rfl
def valD (kvs : List (Key × D)) (k : Key) : Option D := (kvs.find? fun kv => decide (kv.1 = k)).map (·.2)
def putD (kvs : List (Key × D)) (k : Key) (v : D) : List (Key × D) := if (kvs.any fun kv => decide (kv.1 = k)) = true then kvs.map (fun kv => if kv.1 = k then (kv.1, v) else kv) else kvs ++ [(k, v)]
theorem RepK.val {K : PySem.W.Frag} {F : Hp} {k : Key} : ∀ {vs : List (Key × V)} {ds : List (Key × D)} {d : D}, RepK G K F vs ds → valD ds k = some d → ∃ v, valV vs k = some v ∧ Rep G K F v d
  | _, _, _, .nil, e => by cases e
  | (k', v) :: vs, (_, d') :: ds, d, .cons r t, e => by
    unfold valD at e
    unfold valV
    by_cases h : k' = k
    · rw [List.find?_cons_of_pos (by simpa using h)] at e ⊢
      cases e
      exact ⟨v, rfl, r⟩
    · rw [List.find?_cons_of_neg (by simpa using h)] at e ⊢
      exact RepK.val t e
theorem RepK.none {K : PySem.W.Frag} {F : Hp} {k : Key} : ∀ {vs : List (Key × V)} {ds : List (Key × D)}, RepK G K F vs ds → valD ds k = none → valV vs k = none
  | _, _, .nil, e => rfl
  | (k', v) :: vs, (_, d') :: ds, .cons r t, e => by
    unfold valD at e
    unfold valV
    by_cases h : k' = k
    · rw [List.find?_cons_of_pos (by simpa using h)] at e; cases e
    · rw [List.find?_cons_of_neg (by simpa using h)] at e ⊢
      exact RepK.none t e
theorem RepK.len {K : PySem.W.Frag} {F : Hp} : ∀ {vs : List (Key × V)} {ds : List (Key × D)}, RepK G K F vs ds → vs.length = ds.length
  | _, _, .nil => rfl
  | _, _, .cons _ t => congrArg Nat.succ (RepK.len t)
theorem RepK.app {K : PySem.W.Frag} {F : Hp} : ∀ {vs ws : List (Key × V)} {ds es : List (Key × D)}, RepK G K F vs ds → RepK G K F ws es → RepK G K F (vs ++ ws) (ds ++ es)
  | _, _, _, _, .nil, s => s
  | _, _, _, _, .cons r t, s => .cons r (RepK.app t s)
theorem RepK.any {K : PySem.W.Frag} {F : Hp} {k : Key} : ∀ {vs : List (Key × V)} {ds : List (Key × D)}, RepK G K F vs ds → (vs.any fun kv => decide (kv.1 = k)) = ds.any fun kv => decide (kv.1 = k)
  | _, _, .nil => rfl
  | _, _, .cons _ t => by rw [List.any_cons, List.any_cons, RepK.any t]
theorem RepK.map {K : PySem.W.Frag} {F : Hp} {k : Key} {v : V} {d : D} (rv : Rep G K F v d) : ∀ {vs : List (Key × V)} {ds : List (Key × D)}, RepK G K F vs ds → RepK G K F (vs.map fun kv => if kv.1 = k then (kv.1, v) else kv) (ds.map fun kv => if kv.1 = k then (kv.1, d) else kv)
  | _, _, .nil => .nil
  | (k', v') :: vs, (_, d') :: ds, .cons r t => by
    rw [List.map_cons, List.map_cons]
    by_cases h : k' = k
    · rw [if_pos h, if_pos h]; exact .cons rv (RepK.map rv t)
    · rw [if_neg h, if_neg h]; exact .cons r (RepK.map rv t)
theorem RepK.put {K : PySem.W.Frag} {F : Hp} {k : Key} {v : V} {d : D} {vs : List (Key × V)} {ds : List (Key × D)} (r : RepK G K F vs ds) (rv : Rep G K F v d) : RepK G K F (putK vs k v) (putD ds k d) := by
  unfold putK putD
  rw [r.any]
  split
  · exact r.map rv
  · exact r.app (.cons rv .nil)
def dctOf (M : MM) : D → Option (List (Key × D))
  | .dct kvs => some kvs
  | .raw (.ref a) => match M a with
    | some (.dct kvs) => some kvs
    | _ => none
  | _ => none
theorem dctOf_rep {K : PySem.W.Frag} {F : Hp} {M : MM} {H : Hp} {v : V} {d : D} {ds : List (Key × D)} (hm : HM G K F M H) (r : Rep G K F v d) (e : dctOf M d = some ds) : ∃ a vs, v = .ref a ∧ H a = some (.dK vs) ∧ RepK G K F vs ds := by
  unfold dctOf at e
  split at e
  · cases e
    cases r with
    | dct h r => exact ⟨_, _, rfl, hm.sub _ _ h, r⟩
  · rename_i a
    split at e
    · rename_i q
      cases e
      cases r
      obtain ⟨vs, h1, r1⟩ := hm.mo a _ q
      exact ⟨a, vs, rfl, h1, r1⟩
    · cases e
  · cases e
@[irreducible] def kDGet (Q : D → MM → Prop) (o i : D) (M2 : MM) : Prop := match dctOf M2 o, keyD i with
  | some kvs, some k => match valD kvs k with
    | some d => Q d M2
    | none => False
  | _, _ => False
def wDGet (wo wi : WE) : WE := fun δ M Q EX => wo δ M (fun o M1 => wi δ M1 (fun i M2 => kDGet Q o i M2) EX) EX
theorem de_dget {wo wi : WE} {pos} (hu : X.A.units + 1 < cLine) (ho : DE G X o wo) (hi : DE G X i wi) (hs : NoSl i) : DE G X (.Subscript o i pos) (wDGet wo wi) := by
  refine pe_imp (pe_dget hu ho hi hs) fun σ H P ⟨F, M, δ, Q, EX, hm, rs, h, tk, f⟩ => ?_
  refine ⟨F, M, δ, _, EX, hm, rs, h, tk, fun v d F1 M1 H1 g1 r1 h1 => ?_⟩
  refine ⟨F1, M1, δ, _, EX, g1.hm, rs.mono g1.ext, h1, tk.imp (wX_mono g1), fun v2 d2 F2 M2 H2 g2 r2 h2 => ?_⟩
  try dsimp only at h2
  unfold kDGet at h2
  split at h2
  · rename_i kvs k e1 e2
    split at h2
    · rename_i d3 e3
      obtain ⟨a, vs, rfl, hz, rk⟩ := dctOf_rep g2.hm (r1.mono g2.ext) e1
      have e4 := keyD_rep r2 e2
      subst e4
      obtain ⟨v3, e5, r3⟩ := rk.val e3
      refine ⟨a, v3, rfl, ?_, f _ _ _ _ _ (g1.trans g2) r3 h2⟩
      rw [← e5]
      exact DGet.k hz
    · exact h2.elim
  · exact h2.elim
@[irreducible] def kDPut (nx : MM → Prop) (v o i : D) (M3 : MM) : Prop := match o, keyD i with
  | .raw (.ref a), some k => match M3 a with
    | some (.dct kvs) => kvs.length < sizeLine ∧ nx (updM M3 a (.dct (putD kvs k v)))
    | _ => False
  | _, _ => False
def wDPut (wv wo wi : WE) : WS := fun E EX δ M => wv δ M (fun v M1 => wo δ M1 (fun o M2 => wi δ M2 (fun i M3 => kDPut (E.nx δ) v o i M3) EX) EX) EX
theorem ds_dput {wv wo wi : WE} {pos pos'} (hu : X.A.units + 1 < cLine) (he : DE G X value wv) (ho : DE G X o wo) (hi : DE G X i wi) (hs : swapsWith value (some (.Subscript o i pos')) pos.line X.env = pure false := by rfl) : DSt G X (.Assign [.Subscript o i pos'] value pos) (wDPut wv wo wi) := by
  refine ps_imp (ps_dput hu ho hi he hs) fun D σ H ⟨F, M, δ, E, EX, hm, rs, h, tk, n, r, b, c⟩ => ?_
  refine ⟨F, M, δ, _, EX, hm, rs, h, tk, fun v d F1 M1 H1 g1 r1 h1 => ?_⟩
  refine ⟨F1, M1, δ, _, EX, g1.hm, rs.mono g1.ext, h1, tk.imp (wX_mono g1), fun v2 d2 F2 M2 H2 g2 r2 h2 => ?_⟩
  have g12 := g1.trans g2
  refine ⟨F2, M2, δ, _, EX, g2.hm, rs.mono g12.ext, h2, tk.imp (wX_mono g12), fun v3 d3 F3 M3 H3 g3 r3 h3 => ?_⟩
  have g123 := g12.trans g3
  try dsimp only at h3
  unfold kDPut at h3
  split at h3
  · rename_i a k ek
    cases r2
    split at h3
    · rename_i kvs ea
      have e4 := keyD_rep r3 ek
      subst e4
      obtain ⟨zs, hz, rz⟩ := g3.hm.mo a _ ea
      refine ⟨a, _, rfl, .inl ⟨zs, k, hz, rfl, by rw [rz.len]; exact h3.1, rfl⟩, ?_⟩
      have g4 := g3.hm.put (o := .dK (putK zs k v)) (m' := .dct (putD kvs k d)) ea ⟨_, upd_same, rz.put (r1.mono ((g2.trans g3).ext))⟩
      exact n σ δ _ _ _ (g123.trans g4) (rs.mono g123.ext) h3.2
    · exact h3.elim
  · exact h3.elim

/-! ### instances and their attributes -/
def insOf (M : MM) : D → Option (Nat × List D)
  | .ins c fs => some (c, fs)
  | .raw (.ref a) => match M a with
    | some (.ins c fs) => some (c, fs)
    | _ => none
  | _ => none
theorem insOf_rep {K : PySem.W.Frag} {F : Hp} {M : MM} {H : Hp} {v : V} {d : D} {c : Nat} {fs : List D} (hm : HM G K F M H) (r : Rep G K F v d) (e : insOf M d = some (c, fs)) :
    ∃ a dx vs, v = .ref a ∧ H a = some (.ins (G.cl c) dx ((G.nm c).zip vs)) ∧ vs.length ≤ (G.nm c).length ∧ RepL G K F vs fs := by
  unfold insOf at e
  split at e
  · cases e
    cases r with
    | ins h l r => exact ⟨_, _, _, rfl, hm.sub _ _ h, by rw [l]; exact Nat.le_refl _, r⟩
  · rename_i a
    split at e
    · rename_i q
      cases e
      cases r
      obtain ⟨dx, vs, h1, l, r1⟩ := hm.mo a _ q
      exact ⟨a, dx, vs, rfl, h1, l, r1⟩
    · cases e
  · cases e
/-- the class c has the attribute f as its i-th -/
structure FldAt (G : Cfg) (K : PySem.W.Frag) (c i : Nat) (f : Str) : Prop where
  cls : Cls K (G.cl c)
  no : NoAttr K (G.cl c) f
  nd : (G.nm c).Nodup
  at_ : (G.nm c)[i]? = some f
theorem zip_lookup : ∀ {ns : List Str} {vs : List V} {i : Nat} {f : Str} {v : V}, ns.Nodup → ns[i]? = some f → vs[i]? = some v → (ns.zip vs).lookup f = some v
  | [], _, _, _, _, _, h, _ => by simp at h
  | n :: ns, [], _, _, _, _, _, h => by simp at h
  | n :: ns, w :: vs, 0, f, v, nd, h1, h2 => by
    simp only [List.getElem?_cons_zero, Option.some.injEq] at h1 h2
    subst h1 h2
    simp [List.zip_cons_cons, List.lookup]
  | n :: ns, w :: vs, i + 1, f, v, nd, h1, h2 => by
    rw [List.getElem?_cons_succ] at h1 h2
    obtain ⟨h3, h4⟩ := List.nodup_cons.mp nd
    have ne : (f == n) = false := by
      have z : f ≠ n := fun q => h3 (by rw [← q]; exact List.mem_of_getElem? h1)
      simpa using z
    rw [List.zip_cons_cons, List.lookup_cons, ne]
    exact zip_lookup h4 h1 h2
theorem zip_lookup_none : ∀ {ns : List Str} {vs : List V} {f : Str}, f ∉ ns → (ns.zip vs).lookup f = none
  | [], _, _, _ => rfl
  | n :: ns, [], _, _ => rfl
  | n :: ns, w :: vs, f, h => by
    have ne : (f == n) = false := by
      have z : f ≠ n := fun q => h (by rw [q]; exact List.mem_cons_self)
      simpa using z
    rw [List.zip_cons_cons, List.lookup_cons, ne]
    exact zip_lookup_none (fun q => h (List.mem_cons_of_mem _ q))
theorem zip_put : ∀ {ns : List Str} {vs : List V} {i : Nat} {f : Str} {v : V}, ns.Nodup → ns[i]? = some f → i < vs.length → putF f v (ns.zip vs) = ns.zip (vs.set i v)
  | [], _, _, _, _, _, h, _ => by simp at h
  | n :: ns, [], _, _, _, _, _, h => absurd h (Nat.not_lt_zero _)
  | n :: ns, w :: vs, 0, f, v, nd, h1, h2 => by
    simp only [List.getElem?_cons_zero, Option.some.injEq] at h1
    subst h1
    simp [List.zip_cons_cons, putF]
  | n :: ns, w :: vs, i + 1, f, v, nd, h1, h2 => by
    rw [List.getElem?_cons_succ] at h1
    obtain ⟨h3, h4⟩ := List.nodup_cons.mp nd
    have z : ¬ n = f := fun q => h3 (by rw [q]; exact List.mem_of_getElem? h1)
    rw [List.zip_cons_cons, List.set_cons_succ, List.zip_cons_cons]
    show (if n = f then _ else _) = _
    rw [if_neg z, zip_put h4 h1 (Nat.lt_of_succ_lt_succ h2)]
theorem zip_push : ∀ {ns : List Str} {vs : List V} {f : Str} {v : V}, ns.Nodup → ns[vs.length]? = some f → putF f v (ns.zip vs) = ns.zip (vs ++ [v])
  | [], _, _, _, _, h => by simp at h
  | n :: ns, [], f, v, nd, h1 => by
    simp only [List.length_nil, List.getElem?_cons_zero, Option.some.injEq] at h1
    subst h1
    simp [putF]
  | n :: ns, w :: vs, f, v, nd, h1 => by
    rw [List.length_cons, List.getElem?_cons_succ] at h1
    obtain ⟨h3, h4⟩ := List.nodup_cons.mp nd
    have z : ¬ n = f := fun q => h3 (by rw [q]; exact List.mem_of_getElem? h1)
    rw [List.cons_append, List.zip_cons_cons, List.zip_cons_cons]
    show (if n = f then _ else _) = _
    rw [if_neg z, zip_push h4 h1]
/-- e.f: cs tells for each class at which place the attribute stands -/
@[irreducible] def kFld (cs : List (Nat × Nat)) (Q : D → MM → Prop) (d : D) (M1 : MM) : Prop := match insOf M1 d with
  | some (c, fs) => match cs.lookup c with
    | some i => match fs[i]? with
      | some x => Q x M1
      | none => False
    | none => False
  | none => False
def wFld (cs : List (Nat × Nat)) (we : WE) : WE := fun δ M Q EX => we δ M (kFld cs Q) EX
theorem lookup_mem {α : Type} : ∀ {cs : List (Nat × α)} {c : Nat} {i : α}, cs.lookup c = some i → (c, i) ∈ cs
  | [], _, _, e => by cases e
  | (k, j) :: cs, c, i, e => by
    rw [List.lookup_cons] at e
    cases h : c == k with
    | true => rw [h] at e; cases e; rw [eq_of_beq h]; exact List.mem_cons_self
    | false => rw [h] at e; exact List.mem_cons_of_mem _ (lookup_mem e)
theorem de_fld {we : WE} {f : Str} {pos} (cs : List (Nat × Nat)) (hc : ∀ p ∈ cs, FldAt G X.K p.1 p.2 f) (h : DE G X e we) (hb : attributeBase e f X.env (eval e X.env) = eval e X.env := by rfl) : DE G X (.Attribute e f pos) (wFld cs we) := by
  refine pe_imp (pe_fld h hb) fun σ H P ⟨F, M, δ, Q, EX, hm, rs, h, tk, fi⟩ => ?_
  refine ⟨F, M, δ, _, EX, hm, rs, h, tk, fun v d F1 M1 H1 g1 r1 h1 => ?_⟩
  try dsimp only at h1
  unfold kFld at h1
  split at h1
  · rename_i c fs e1
    split at h1
    · rename_i i e2
      split at h1
      · rename_i x e3
        obtain ⟨a, dx, vs, rfl, hz, l, r⟩ := insOf_rep g1.hm r1 e1
        have fa := hc _ (lookup_mem e2)
        obtain ⟨w, e4, r4⟩ := r.get e3
        exact ⟨a, _, dx, _, w, rfl, hz, fa.cls, fa.no, zip_lookup fa.nd fa.at_ e4, fi _ _ _ _ _ g1 r4 h1⟩
      · exact h1.elim
    · exact h1.elim
  · exact h1.elim
/-- e.f = v, e a changing instance: set, or made as the next one -/
@[irreducible] def kFldPut (cs : List (Nat × Nat)) (nx : MM → Prop) (v o : D) (M2 : MM) : Prop := match o with
  | .raw (.ref a) => match M2 a with
    | some (.ins c fs) => match cs.lookup c with
      | some i => (i < fs.length ∧ nx (updM M2 a (.ins c (fs.set i v)))) ∨ (i = fs.length ∧ nx (updM M2 a (.ins c (fs ++ [v]))))
      | none => False
    | _ => False
  | _ => False
def wFldPut (cs : List (Nat × Nat)) (wo wv : WE) : WS := fun E EX δ M => wv δ M (fun v M1 => wo δ M1 (fun o M2 => kFldPut cs (E.nx δ) v o M2) EX) EX
theorem ds_fld {wo wv : WE} {f : Str} {pos pos'} (cs : List (Nat × Nat)) (hc : ∀ p ∈ cs, FldAt G X.K p.1 p.2 f ∧ (G.nm p.1).length < 1000) (ho : DE G X o wo) (hv : DE G X value wv) (hs : swapsWith value (some (.Attribute o f pos')) pos.line X.env = pure false := by rfl) :
    DSt G X (.Assign [.Attribute o f pos'] value pos) (wFldPut cs wo wv) := by
  refine ps_imp (ps_fld ho hv hs) fun D σ H ⟨F, M, δ, E, EX, hm, rs, h, tk, n, r, b, c⟩ => ?_
  refine ⟨F, M, δ, _, EX, hm, rs, h, tk, fun v d F1 M1 H1 g1 r1 h1 => ?_⟩
  refine ⟨F1, M1, δ, _, EX, g1.hm, rs.mono g1.ext, h1, tk.imp (wX_mono g1), fun v2 d2 F2 M2 H2 g2 r2 h2 => ?_⟩
  have g12 := g1.trans g2
  try dsimp only at h2
  unfold kFldPut at h2
  split at h2
  · rename_i a
    cases r2
    split at h2
    · rename_i c fs ea
      split at h2
      · rename_i i e2
        obtain ⟨fa, fl⟩ := hc _ (lookup_mem e2)
        obtain ⟨dx, vs, hz, l, rz⟩ := g2.hm.mo a _ ea
        have lz : ((G.nm c).zip vs).length < 1000 := by
          rw [List.length_zip]
          exact Nat.lt_of_le_of_lt (Nat.min_le_left _ _) fl
        refine ⟨a, _, dx, _, rfl, hz, fa.cls, fa.no, lz, ?_⟩
        have il : i < (G.nm c).length := (List.getElem?_eq_some_iff.mp fa.at_).1
        rcases h2 with ⟨hi, h2⟩ | ⟨hi, h2⟩
        · rw [zip_put fa.nd fa.at_ (by rw [rz.len]; exact hi)]
          have g4 := g2.hm.put (o := .ins (G.cl c) dx ((G.nm c).zip (vs.set i v))) (m' := .ins c (fs.set i d)) ea ⟨dx, vs.set i v, upd_same, by rw [List.length_set]; exact l, rz.set (r1.mono g2.ext) i⟩
          exact n σ δ _ _ _ (g12.trans g4) (rs.mono g12.ext) h2
        · rw [zip_push fa.nd (by rw [rz.len, ← hi]; exact fa.at_)]
          have g4 := g2.hm.put (o := .ins (G.cl c) dx ((G.nm c).zip (vs ++ [v]))) (m' := .ins c (fs ++ [d])) ea ⟨dx, vs ++ [v], upd_same, by rw [List.length_append, List.length_singleton, rz.len, ← hi]; exact il, rz.app (.cons (r1.mono g2.ext) .nil)⟩
          exact n σ δ _ _ _ (g12.trans g4) (rs.mono g12.ext) h2
      · exact h2.elim
    · exact h2.elim
  · exact h2.elim

/-! ### a chain a op b op c -/
def wChain (w w' : WR2) (wa wb wc : WE) : WE := fun δ M Q EX => wa δ M (fun x M1 => wb δ M1 (fun y M2 => w x y M2 (fun z M3 => ∃ k, z = .bl k ∧ if k = true then wc δ M3 (fun u M4 => w' y u M4 Q) EX else Q (.bl false) M3)) EX) EX
theorem up_chain {r r' : R2} {w w' : WR2} {wa wb wc : WE} (s : Sim2 G X.K r w) (s' : Sim2 G X.K r' w') (σ : St) (H : Hp) (P : VK) (h : up G X (wChain w w' wa wb wc) σ H P) : tChain r r' (up G X wa) (up G X wb) (up G X wc) σ H P := by
  obtain ⟨F, M, δ, Q, EX, hm, rs, h, tk, f⟩ := h
  refine ⟨F, M, δ, _, EX, hm, rs, h, tk, fun x dx F1 M1 H1 g1 r1 h1 => ?_⟩
  refine ⟨F1, M1, δ, _, EX, g1.hm, rs.mono g1.ext, h1, tk.imp (wX_mono g1), fun y dy F2 M2 H2 g2 r2 h2 => ?_⟩
  have g12 := g1.trans g2
  refine s F2 M2 H2 x y dx dy _ _ g2.hm (r1.mono g2.ext) r2 h2 fun v d F3 M3 H3 g3 r3 ⟨k, e, h3⟩ => ?_
  subst e
  cases r3
  refine ⟨k, rfl, ?_⟩
  have g123 := g12.trans g3
  cases k with
  | true =>
    refine ⟨F3, M3, δ, _, EX, g3.hm, rs.mono g123.ext, h3, tk.imp (wX_mono g123), fun u du F4 M4 H4 g4 r4 h4 => ?_⟩
    exact s' F4 M4 H4 y u dy du Q P g4.hm (r2.mono (g3.trans g4).ext) r4 h4 fun v d F5 M5 H5 g5 r5 q => f v d F5 M5 H5 ((g123.trans g4).trans g5) r5 q
  | false => exact f _ _ F3 M3 H3 g123 (.bl false) h3
theorem de_chain {a b c : Expr} {op op' : CmpOp} {r r' : R2} {w w' : WR2} {wa wb wc : WE} {pos} (ho : OpR X (compareOp op) r) (s : Sim2 G X.K r w) (ho' : OpR X (compareOp op') r') (s' : Sim2 G X.K r' w') (ha : DE G X a wa) (hb : DE G X b wb) (hc : DE G X c wc)
    (hm : lastMarks [op, op'] [b, c] = false := by with_unfolding_all rfl) : DE G X (.Compare a [op, op'] [b, c] pos) (wChain w w' wa wb wc) := pe_imp (pe_chain ho ho' ha hb hc hm) (up_chain s s')
theorem dt_chain {a b c : Expr} {op op' : CmpOp} {r r' : R2} {w w' : WR2} {wa wb wc : WE} {pos} (ho : OpR X (compareOp op) r) (s : Sim2 G X.K r w) (ho' : OpR X (compareOp op') r') (s' : Sim2 G X.K r' w') (ha : DE G X a wa) (hb : DE G X b wb) (hc : DE G X c wc)
    (hm : lastMarks [op, op'] [b, c] = false := by with_unfolding_all rfl) : DT G X (.Compare a [op, op'] [b, c] pos) (wTst (wChain w w' wa wb wc)) := by
  refine pt_imp (pt_chain ho ho' ha hb hc hm) fun σ H P ⟨F, M, δ, Q, EX, hm, rs, h, tk, f⟩ => ?_
  refine up_chain s s' σ H _ ⟨F, M, δ, _, EX, hm, rs, h, tk, fun v d F' M' H' g r ⟨c, e, q⟩ => ?_⟩
  subst e
  cases r
  exact ⟨c, rfl, f c F' M' H' g q⟩

/-! ### a def's promise by trees -/
def lift (G : Cfg) (K : PySem.W.Frag) (sp : SpD) : Sp := fun vs H P E => ∃ F M ds Q EX, HM G K F M H ∧ RepL G K F vs ds ∧ sp ds M Q EX ∧ Fin G K F M H Q P ∧
  ∀ cls dop xd F' M' H', Grow G K F M H F' M' H' → RX G K F' H' cls dop xd → EX xd M' → E cls dop H'
def startD (n : Nat) (ds : List D) : DS := ds.map some ++ List.replicate (n - ds.length) none
/-- the promise that a body is: n parameters, m names in all -/
def spOf (n m : Nat) (w : WS) : SpD := fun ds M Q EX => ds.length = n ∧ w { nx := fun _ M' => Q .non M', rt := Q } (fun xd _ M' => EX xd M') (startD m ds) M
theorem rs_start {K : PySem.W.Frag} {F : Hp} {N : List Str} {vs : List V} {ds : List D} (r : RepL G K F vs ds) : RS G K F (L2.start N vs) (startD N.length ds) := by
  unfold L2.start startD
  refine ⟨by simp [r.len], fun i d e => ?_⟩
  by_cases h : i < ds.length
  · rw [List.getElem?_append_left (by simpa using h), List.getElem?_map] at e
    cases q : ds[i]? with
    | none => rw [q] at e; cases e
    | some d' =>
      rw [q] at e
      cases e
      obtain ⟨v, e1, r1⟩ := r.get q
      refine ⟨v, ?_, r1⟩
      rw [List.getElem?_append_left (by simp [r.len]; exact h), List.getElem?_map, e1]
      rfl
  · rw [List.getElem?_append_right (by simpa using h), List.getElem?_replicate] at e
    split at e <;> cases e
/-- a def keeps its promise where no repr is under way around it -/
structure FnG (P : Program) (w : World) (K : PySem.W.Frag) (mg : Str → Option Value) (base : Heap) (gd : Bool) (k : Nat) (f : Addr) (fd : FuncData) (ps : List Str) (sp : Sp) : Prop where
  len : ∀ vs H Q E, sp vs H Q E → vs.length = ps.length
  run : ∀ (A : Around) (out : List Env) (s : Shared) (H : Hp) (args : Args) (us : List Value) (vs : List V) (Q : VK) (E : XK), Room k A → (gd = true → A.guards = some []) → Env0 P w K mg base A out s H → BindsTo s fd args (ps.zip us) → Vals vs us → sp vs H Q E →
    codeAny (PySem.model P w) A (.call (.ref f) args) (CR (L2.CX P w) out P w H s Q E) s
theorem FnG.up {P : Program} {w : World} {K : PySem.W.Frag} {mg : Str → Option Value} {base : Heap} {gd : Bool} {j k : Nat} {f : Addr} {fd : FuncData} {ps : List Str} {sp : Sp} (F : FnG P w K mg base gd j f fd ps sp) (h : j ≤ k) : FnG P w K mg base gd k f fd ps sp :=
  ⟨F.len, fun A out s H args us vs Q E hr => F.run A out s H args us vs Q E (hr.mono h)⟩
theorem guards_deeper {A : Around} {env : Env} (h : A.guards = some []) : (A.deeper env).guards = some [] := by
  first | exact h | (show (Around.deeper A env).guards = some []; simp [Around.deeper, h])
theorem ce_of {Y : Cx} {out : List Env} {P : Program} {w : World} {H H' : Hp} {s s' : Shared} {Q : VK} {σ : St} {v : V} {u : Value} (eo : Y.s_0 = s) (eh : Y.H_0 = H) (ep : Y.prog = P) (ew : Y.w = w) (ef : Y.fs = frs out) (ex : Y.ex = []) (J : Inv Y [] σ H' s') (rv : RelV v u) (q : Q v H') : CE out P w H s Q u s' := by
  subst eo eh ep ew
  refine ⟨v, H', J.os, J.bare, ?_, J.hok, rv, q⟩
  have z := J.base
  rw [ef, ex] at z
  exact z
theorem fn_g {P : Program} {w : World} {K : PySem.W.Frag} {mg : Str → Option Value} {base : Heap} {gd : Bool} {x qual : Str} {st : Stmt} {f : Addr} {fd : FuncData} {N ps : List Str} {k : Nat} {sp : Sp} (F : Fun K x qual st f fd) (S : FnScope N ps (defScope st)) (len : ∀ vs H Q E, sp vs H Q E → vs.length = ps.length)
    (hb : ∀ (cdv : Value) (A : Around) (out : List Env) (s : Shared) (H : Hp) (vs : List V) (Q : VK) (E : XK), Room k (A.deeper (envOfC qual (defScope st) s.heap.objs.size f cdv)) → (gd = true → A.guards = some []) → sp vs H Q E →
      ∃ t, PSs (cxOf (L2.CX P w) P w K mg base N qual (defScope st) f cdv A out s H E) (defBody st) t ∧ t { nx := fun _ H' => Q .non H', rt := Q } (L2.start N vs) H) : FnG P w K mg base gd (k + 1) f fd ps sp := by
  obtain ⟨oc, od, kV, doc, pm, an, cdv, ct, osl, efd, lk, hcd⟩ := F.ex
  rw [efd] at lk
  subst efd
  refine ⟨len, fun A out s H args us vs Q E hr hg e0 hbi rv hsp => ?_⟩
  have hl := len _ _ _ _ hsp
  have inK : K.In s.heap := e0.mod.kin.keeps (fun b o z => (e0.bs b o z).left)
  have nolim : s.heap.NoLimit := e0.mod.nolimit.keeps (fun b o z => (e0.bs b o z).left)
  have kinds : ∀ y ∈ ps.zip us, (defScope st).names.lookup y.1 = some .local ∨ ((defScope st).names.lookup y.1 = some .cell ∧ ((cellsFrom (s.heap.objs.size + 1) (defScope st).names []).lookup y.1).isSome = true) := by
    intro y hy
    cases S.par y.1 (List.of_mem_zip (a := y.1) (b := y.2) hy).1 with
    | inl z => exact Or.inl z
    | inr z => exact Or.inr ⟨z, PySem.W.cellsFrom_some _ _ _ (Or.inl z)⟩
  refine codeAny_call_function hr.depth (inK _ _ lk) rfl S.co S.gen rfl (PySem.W.codeRec_of inK hcd) (hbi _ _ _ _ ?_)
  refine wpAny_newFunctionEnv_cells S.kind kinds (fun env heq s1 ic => ?_)
  subst heq
  refine ⟨nolim.keeps ic.toInCall.keep, codeAny_func ?_⟩
  obtain ⟨t, ht, hq⟩ := hb cdv A out s H vs Q E (hr.deeper _) hg hsp
  refine wpAny_mono (ht.run [] s1 (L2.start N vs) H _ (inv_start S hr.hd e0 hl rv ic) hq) (fun fl s' hs => ?_) (fun _ _ hs => hs)
  cases fl with
  | ret u =>
    obtain ⟨v, σ', H', J, r1, q⟩ := hs
    exact ce_of rfl rfl rfl rfl rfl rfl J r1 q
  | next =>
    obtain ⟨σ', H', J, q⟩ := hs
    exact ce_of (v := V.non) (u := Value.none) rfl rfl rfl rfl rfl rfl J rfl q
  | brk => exact hs.elim fun _ z => z.elim fun _ z => z.2.elim
  | cont => exact hs.elim fun _ z => z.elim fun _ z => z.2.elim
theorem okD {P : Program} {w : World} {K : PySem.W.Frag} {mg : Str → Option Value} {base : Heap} {gd : Bool} {x qual : Str} {st : Stmt} {f : Addr} {fd : FuncData} {N ps : List Str} {k : Nat} {wb : WS} (F : Fun K x qual st f fd) (S : FnScope N ps (defScope st))
    (hb : ∀ (cdv : Value) (A : Around) (out : List Env) (s : Shared) (H : Hp) (E : XK), Room k (A.deeper (envOfC qual (defScope st) s.heap.objs.size f cdv)) → (gd = true → (A.deeper (envOfC qual (defScope st) s.heap.objs.size f cdv)).guards = some []) → DSs G (cxOf (L2.CX P w) P w K mg base N qual (defScope st) f cdv A out s H E) (defBody st) wb) :
    FnG P w K mg base gd (k + 1) f fd ps (lift G K (spOf ps.length N.length wb)) := by
  refine fn_g F S (fun vs H Q E h => ?_) (fun cdv A out s H vs Q E hr hg h => ⟨_, hb cdv A out s H E hr (fun z => guards_deeper (hg z)), ?_⟩)
  · obtain ⟨F', M, ds, Q', EX, hm, r, ⟨h1, _⟩, _⟩ := h
    rw [r.len]; exact h1
  · obtain ⟨F', M, ds, Q', EX, hm, r, ⟨h1, h2⟩, fin, hx⟩ := h
    refine ⟨F', M, _, _, _, hm, rs_start r, h2, ?_, fun σ' δ' F1 M1 H1 g1 r1 q => fin _ _ F1 M1 H1 g1 .non q, fun v d F1 M1 H1 g1 r1 q => fin v d F1 M1 H1 g1 r1 q, fun _ _ _ _ _ _ _ q => q.elim, fun _ _ _ _ _ _ _ q => q.elim⟩
    have t : Takes (cxOf (L2.CX P w) P w K mg base N qual (defScope st) f cdv A out s H E) (fun cls d _ H => E cls d H) := takes_of rfl rfl rfl rfl
    exact t.imp fun c d σ' H' ⟨xd, δ', F1, M1, g1, r1, rx, q⟩ => hx c d xd F1 M1 H' g1 rx q

/-! ### calls of defs -/
theorem lift_at {sp : SpD} {σ : St} {H : Hp} {P : VK} {F : Hp} {M : MM} {δ : DS} {vs : List V} {ds : List D} {Q : D → MM → Prop} {EX : XK'} (hm : HM G X.K F M H) (rs : RS G X.K F σ δ) (r : RepL G X.K F vs ds) (h : sp ds M Q (fun xd M' => EX xd δ M')) (f : Fin G X.K F M H Q P) :
    lift G X.K sp vs H P (L2.WE (wX G X.K F M H EX) σ) :=
  ⟨F, M, ds, Q, _, hm, r, h, f, fun cls dop xd F' M' H' g rx q => ⟨xd, δ, F', M', g, rs.mono g.ext, rx, q⟩⟩
def wCall (sp : SpD) (dds : List D) (wa : WA) : WE := fun δ M Q EX => wa δ M (fun ds M1 => sp (ds ++ dds) M1 Q (fun xd M2 => EX xd δ M2)) EX
/-- values that stand for their trees in any heap: defaults -/
def Flat (G : Cfg) (K : PySem.W.Frag) (vs : List V) (ds : List D) : Prop := ∀ F, RepL G K F vs ds
theorem Flat.nil {K : PySem.W.Frag} : Flat G K [] [] := fun _ => .nil
variable {gd : Bool} {k : Nat} {f : Addr} {fd : FuncData} {ps : List Str} {sp : SpD} {dvs : List V} {dus : List Value} {dds : List D} {x m : Str} {p pos apos : Pos} {es : List Expr} {wa : WA} {wo : WE}
theorem da_run {F1 : Hp} {M1 : MM} {δ : DS} {QA : List D → MM → Prop} {EX : XK'} {pins : List (Addr × Obj)} {s : Shared} {σ : St} {H : Hp} (ha : DA G X es wa) (pos : Pos) (I : Inv X pins σ H s) (hm : HM G X.K F1 M1 H) (rs : RS G X.K F1 σ δ) (h : wa δ M1 QA EX) (tk : Takes X (wX G X.K F1 M1 H EX)) :
    wpAny (model X.prog X.w) X.A (spliced (backTo pos (starEach es X.env))) (AP X pins σ (fun vs H2 => ∃ ds F2 M2, Grow G X.K F1 M1 H F2 M2 H2 ∧ RepL G X.K F2 vs ds ∧ QA ds M2)) X.xe s :=
  ha.run pos pins s σ H _ I ⟨F1, M1, δ, QA, EX, hm, rs, h, tk, fun vs ds F2 M2 H2 g r q => ⟨ds, F2, M2, g, r, q⟩⟩
theorem de_run {we : WE} {F1 : Hp} {M1 : MM} {δ : DS} {Q : D → MM → Prop} {EX : XK'} {pins : List (Addr × Obj)} {s : Shared} {σ : St} {H : Hp} (ha : DE G X e we) (I : Inv X pins σ H s) (hm : HM G X.K F1 M1 H) (rs : RS G X.K F1 σ δ) (h : we δ M1 Q EX) (tk : Takes X (wX G X.K F1 M1 H EX)) :
    wpAny (model X.prog X.w) X.A (eval e X.env) (EP X pins σ (fun v H2 => ∃ d F2 M2, Grow G X.K F1 M1 H F2 M2 H2 ∧ Rep G X.K F2 v d ∧ Q d M2)) X.xe s :=
  ha.run pins s σ H _ I ⟨F1, M1, δ, Q, EX, hm, rs, h, tk, fun v d F2 M2 H2 g r q => ⟨d, F2, M2, g, r, q⟩⟩
theorem run_at (F : FnG X.prog X.w X.K X.mg X.base gd k f fd ps (lift G X.K sp)) (hr : Room k X.A) (hgd : gd = true → X.A.guards = some []) (hb : Binds X.K fd ps dus) (hd : Vals dvs dus) (hf : Flat G X.K dvs dds) {pins : List (Addr × Obj)} {σ : St} {H : Hp} {s : Shared} {us : List Value} {vs : List V} {ds : List D} {F1 : Hp} {M1 : MM} {δ : DS} {Q : D → MM → Prop} {EX : XK'} {P : VK}
    (I : Inv X pins σ H s) (r : Vals vs us) (hm : HM G X.K F1 M1 H) (rs : RS G X.K F1 σ δ) (rl : RepL G X.K F1 vs ds) (h : sp (ds ++ dds) M1 Q (fun xd M' => EX xd δ M')) (tk : Takes X (wX G X.K F1 M1 H EX)) (f' : Fin G X.K F1 M1 H Q P) :
    wpAny (model X.prog X.w) X.A (call (.ref f) us) (EP X pins σ P) X.xe s := by
  have hl' := lift_at (P := P) hm rs (rl.app (hf F1)) h f'
  have r2 : Vals (vs ++ dvs) (us ++ dus) := r.append hd
  have hn : (us ++ dus).length = ps.length := r2.length.symm.trans (F.len _ _ _ _ hl')
  refine wpAny_call (codeAny_mono (F.run X.A X.stack s H ⟨us, []⟩ _ _ P _ hr hgd I.env0 (hb s us I.kIn hn) r2 hl') (fun res s' hq => ?_))
  match res, hq with
  | .error z, hq => exact passAt tk σ pins H s z s' I hq
  | .ok (.ret u), hq => exact I.after hq
theorem de_call (F : FnG X.prog X.w X.K X.mg X.base gd k f fd ps (lift G X.K sp)) (hr : Room k X.A) (hgd : gd = true → X.A.guards = some []) (hm : X.mg x = some (.ref f)) (hk : PySem.W.keepIn X.K (.ref f) = true) (hb : Binds X.K fd ps dus) (hd : Vals dvs dus) (hf : Flat G X.K dvs dds)
    (ha : DA G X (e :: es) wa) (hg : Gl X x := by rfl) (hdb : (x == ("__debug__" : Str)) = false := by decide) (he : starEach (e :: es) X.env = (false, eval e X.env) :: starEach es X.env := by rfl) (hpl : (backTo pos (starEach es X.env)).any (·.1) = false := by rfl) :
    DE G X (.Call (.Name x p) (e :: es) [] pos) (wCall sp dds wa) := by
  refine ⟨fun pins s σ H Q I ⟨F1, M1, δ, Q', EX, hm1, rs, h, tk, fin⟩ => ?_⟩
  refine wpAny_Call_Name_kw (ld_glob I hg hm ?_ hdb)
  refine PySem.W.callWith_K (h₀ := X.base) I.ok.mod.kin hk (thn (da_run ha pos I hm1 rs h tk) fun us s1 ⟨vs, H2, I2, r, ds, F2, M2, g, rl, q⟩ => ⟨I2.kIn, ?_⟩) he hpl
  exact run_at F hr hgd hb hd hf I2 r g.hm (rs.mono g.ext) rl q (tk.imp (wX_mono g)) fun v d F3 M3 H3 g3 r3 q3 => fin v d F3 M3 H3 (g.trans g3) r3 q3
theorem de_call0 (F : FnG X.prog X.w X.K X.mg X.base gd k f fd ps (lift G X.K sp)) (hr : Room k X.A) (hgd : gd = true → X.A.guards = some []) (hm : X.mg x = some (.ref f)) (hk : PySem.W.keepIn X.K (.ref f) = true) (hb : Binds X.K fd ps dus) (hd : Vals dvs dus) (hf : Flat G X.K dvs dds)
    (hg : Gl X x := by rfl) (hdb : (x == ("__debug__" : Str)) = false := by decide) : DE G X (.Call (.Name x p) [] [] pos) (wCall sp dds wNil) := by
  refine ⟨fun pins s σ H Q I ⟨F1, M1, δ, Q', EX, hm1, rs, h, tk, fin⟩ => ?_⟩
  refine wpAny_Call_Name_kw (ld_glob I hg hm ?_ hdb)
  exact PySem.W.callWith_K0 I.kIn hk (run_at (us := []) (ds := []) F hr hgd hb hd hf I .nil hm1 rs .nil h tk fin)
/-- how a def is called as the method m of an instance of c -/
structure MethD (G : Cfg) (X : Cx) (c : Nat) (m : Str) (dds : List D) (sp : SpD) : Prop where
  cls : Cls X.K (G.cl c)
  noat : m ∉ G.nm c
  ex : ∃ (gd : Bool) (k : Nat) (f : Addr) (fd : FuncData) (ps : List Str) (dvs : List V) (dus : List Value), Meth X.K (G.cl c) m f ∧ FnG X.prog X.w X.K X.mg X.base gd k f fd ps (lift G X.K sp) ∧ Room k X.A ∧ (gd = true → X.A.guards = some []) ∧ Binds X.K fd ps dus ∧ Vals dvs dus ∧ Flat G X.K dvs dds
def wMeth (tb : List (Nat × SpD)) (dds : List D) (wo : WE) (wa : WA) : WE := fun δ M Q EX => wo δ M (fun d M1 => ∃ c fs sp, insOf M1 d = some (c, fs) ∧ tb.lookup c = some sp ∧ wa δ M1 (fun ds M2 => sp (d :: (ds ++ dds)) M2 Q (fun xd M3 => EX xd δ M3)) EX) EX
theorem de_meth {pl : Sem Bool} (tb : List (Nat × SpD)) (ht : ∀ q ∈ tb, MethD G X q.1 m dds q.2) (ho : DE G X o wo) (ha : DA G X (e :: es) wa)
    (hst : starEach (e :: es) X.env = (false, eval e X.env) :: starEach es X.env := by rfl) (hpl : (backTo pos (starEach es X.env)).any (·.1) = false := by rfl)
    (hv : eval (.Call (.Attribute o m apos) (e :: es) [] pos) X.env = (do
      let ov ← eval o X.env
      standAt apos.atName
      let (f, first) ← holding [ov] (getMethod ov m pl)
      callWith pos f first (backTo pos (starEach (e :: es) X.env)) (backToKw pos (keywordEach [] X.env))) := by rfl) :
    DE G X (.Call (.Attribute o m apos) (e :: es) [] pos) (wMeth tb dds wo wa) := by
  refine ⟨fun pins s σ H Q I ⟨F1, M1, δ, Q', EX, hm1, rs, h, tk, fin⟩ => ?_⟩
  refine PySem.W.methodCall_KW (pl := pl) (thn (de_run ho I hm1 rs h tk) fun u s1 ⟨v, H2, I2, rv, d, F2, M2, g, rd, c, fs, sp, e1, e2, q⟩ => ?_) hv
  obtain ⟨a, dx, ws, rfl, hz, l, rz⟩ := insOf_rep g.hm rd e1
  obtain ⟨cls, noat, gd, k, f, fd, ps, dvs, dus, hmt, F, hr, hgd, hb, hd, hf⟩ := ht _ (lookup_mem e2)
  obtain rfl : u = Value.ref a := rv
  refine getmeth_ok I2 hz cls hmt (zip_lookup_none noat) ?_
  refine PySem.W.callWith_K (first := [.ref a]) (h₀ := X.base) I.ok.mod.kin hmt.kp (thn (da_run ha pos I2 g.hm (rs.mono g.ext) q (tk.imp (wX_mono g))) fun us s2 ⟨vs, H3, I3, r, ds, F3, M3, g3, rl, q3⟩ => ⟨I3.kIn, ?_⟩) hst hpl
  have gt := g.trans g3
  exact run_at (us := .ref a :: us) (vs := .ref a :: vs) (ds := d :: ds) F hr hgd hb hd hf I3 (.cons rfl r) g3.hm (rs.mono gt.ext) (.cons (rd.mono g3.ext) rl) q3 (tk.imp (wX_mono gt)) fun v d F4 M4 H4 g4 r4 q4 => fin v d F4 M4 H4 (gt.trans g4) r4 q4
theorem de_meth0 {pl : Sem Bool} (tb : List (Nat × SpD)) (ht : ∀ q ∈ tb, MethD G X q.1 m dds q.2) (ho : DE G X o wo)
    (hv : eval (.Call (.Attribute o m apos) [] [] pos) X.env = (do
      let ov ← eval o X.env
      standAt apos.atName
      let (f, first) ← holding [ov] (getMethod ov m pl)
      callWith pos f first (backTo pos (starEach [] X.env)) (backToKw pos (keywordEach [] X.env))) := by rfl) :
    DE G X (.Call (.Attribute o m apos) [] [] pos) (wMeth tb dds wo wNil) := by
  refine ⟨fun pins s σ H Q I ⟨F1, M1, δ, Q', EX, hm1, rs, h, tk, fin⟩ => ?_⟩
  refine PySem.W.methodCall_KW (pl := pl) (thn (de_run ho I hm1 rs h tk) fun u s1 ⟨v, H2, I2, rv, d, F2, M2, g, rd, c, fs, sp, e1, e2, q⟩ => ?_) hv
  obtain ⟨a, dx, ws, rfl, hz, l, rz⟩ := insOf_rep g.hm rd e1
  obtain ⟨cls, noat, gd, k, f, fd, ps, dvs, dus, hmt, F, hr, hgd, hb, hd, hf⟩ := ht _ (lookup_mem e2)
  obtain rfl : u = Value.ref a := rv
  refine getmeth_ok I2 hz cls hmt (zip_lookup_none noat) ?_
  exact PySem.W.callWith_K0 (first := [.ref a]) I2.kIn hmt.kp (run_at (us := [.ref a]) (vs := [.ref a]) (ds := [d]) F hr hgd hb hd hf I2 (.cons rfl .nil) g.hm (rs.mono g.ext) (.cons rd .nil) q (tk.imp (wX_mono g)) fun v d F4 M4 H4 g4 r4 q4 => fin v d F4 M4 H4 (g.trans g4) r4 q4)
/-! ### C(..): a new instance, its __init__ -/
theorem HM.own {K : PySem.W.Frag} {F : Hp} {M : MM} {H : Hp} {dx : Addr} {u : HO} (h : HM G K F M H) (n : H dx = none) : Grow G K F M H F M (upd H dx u) := by
  have ne : ∀ b o, H b = some o → b ≠ dx := fun b o e q => by subst q; rw [n] at e; cases e
  refine ⟨⟨fun b o e => ?_, h.dis, fun b m e => ?_, h.tbU (Same.refl _) (h.ntab0 n) (fun _ _ z => z) (fun _ _ z => z)⟩, Same.refl _, fun b o e f m => .inr ⟨by rw [upd_ne (ne b o e)]; exact e, .inl f, m⟩, h.tab0⟩
  · have z := h.sub b o e
    rw [upd_ne (ne b o z)]; exact z
  · obtain ⟨o, z⟩ := (h.mo b m e).some
    exact (h.mo b m e).mono (Same.refl _) (upd_ne (ne b o z))
/-- the new instance may change -/
def wMake (c : Nat) (sp : SpD) (dds : List D) (wa : WA) : WE := fun δ M Q EX => wa δ M (fun ds M1 => ∀ p, M1 p = none → sp (.raw (.ref p) :: (ds ++ dds)) (updM M1 p (.ins c [])) (fun d M2 => d = .non ∧ Q (.raw (.ref p)) M2) (fun xd M2 => EX xd δ M2)) EX
theorem guards_make {A : Around} {C : Addr} {us : List Value} {kw : List (Str × Value)} (h : A.guards = some []) : (A.under (.builtin "type.__call__" ⟨.ref C :: us, kw⟩)).guards = some [] := by
  simp [Around.under, h, Code.guards, Code.isGuard, guardIds, pushGuards]
theorem run_makeD {C : Nat} (Mk' : Mk X.K (G.cl C) f) (F : FnG X.prog X.w X.K X.mg X.base gd k f fd ps (lift G X.K sp)) (hr : Room (k + 1) X.A) (hgd : gd = true → X.A.guards = some []) (hb : Binds X.K fd ps dus) (hd : Vals dvs dus) (hf : Flat G X.K dvs dds) {pins : List (Addr × Obj)} {σ : St} {H : Hp} {s : Shared} {us : List Value} {vs : List V} {ds : List D} {F1 : Hp} {M1 : MM} {δ : DS} {Q : D → MM → Prop} {EX : XK'} {P : VK}
    (I : Inv X pins σ H s) (r : Vals vs us) (hm : HM G X.K F1 M1 H) (rs : RS G X.K F1 σ δ) (rl : RepL G X.K F1 vs ds)
    (h : ∀ p, M1 p = none → sp (.raw (.ref p) :: (ds ++ dds)) (updM M1 p (.ins C [])) (fun d M2 => d = .non ∧ Q (.raw (.ref p)) M2) (fun xd M2 => EX xd δ M2)) (tk : Takes X (wX G X.K F1 M1 H EX)) (f' : Fin G X.K F1 M1 H Q P) :
    wpAny (model X.prog X.w) X.A (call (.ref (G.cl C)) us) (EP X pins σ P) X.xe s := by
  have n1 : H s.heap.objs.size = none := I.hok.fresh (Nat.le_refl _)
  have n2 : H (s.heap.objs.size + 1) = none := I.hok.fresh (Nat.le_succ _)
  have ne : s.heap.objs.size + 1 ≠ s.heap.objs.size := Nat.succ_ne_self _
  have I2 := Inv.made (C := G.cl C) I
  have g1 : Grow G X.K F1 M1 H F1 M1 (upd H s.heap.objs.size (.own (s.heap.objs.size + 1))) := hm.own n1
  have n3 : upd H s.heap.objs.size (.own (s.heap.objs.size + 1)) (s.heap.objs.size + 1) = none := by rw [upd_ne ne]; exact n2
  have g2 := g1.hm.newM (p := s.heap.objs.size + 1) (o := .ins (G.cl C) s.heap.objs.size []) (m := .ins C []) n3 ⟨s.heap.objs.size, [], by rw [upd_same]; simp, by simp, .nil⟩
  have g := g1.trans g2
  have hq := h (s.heap.objs.size + 1) (hm.free n2).2
  have r2 : Vals (V.ref (s.heap.objs.size + 1) :: (vs ++ dvs)) (Value.ref (s.heap.objs.size + 1) :: (us ++ dus)) := .cons rfl (r.append hd)
  have rl2 : RepL G X.K F1 (V.ref (s.heap.objs.size + 1) :: (vs ++ dvs)) (D.raw (.ref (s.heap.objs.size + 1)) :: (ds ++ dds)) := .cons (.raw _) (rl.app (hf F1))
  have hl' := lift_at (P := fun v H' => v = .non ∧ P (.ref (s.heap.objs.size + 1)) H') g.hm rs rl2 hq (fun v d F3 M3 H3 g3 r3 q3 => by
    obtain ⟨e, q3⟩ := q3
    subst e
    cases r3
    exact ⟨rfl, f' _ _ F3 M3 H3 (g.trans g3) (.raw _) q3⟩)
  have hl : (Value.ref (s.heap.objs.size + 1) :: us ++ dus).length = ps.length := by
    have e := r2.length
    rw [F.len _ _ _ _ hl'] at e
    exact e.symm
  have tk2 : Takes X (wX G X.K F1 (updM M1 (s.heap.objs.size + 1) (.ins C [])) (upd (upd H s.heap.objs.size (.own (s.heap.objs.size + 1))) (s.heap.objs.size + 1) (.ins (G.cl C) s.heap.objs.size [])) EX) := tk.imp (wX_mono g)
  refine wpAny_call (make_map (f := f) I.kIn Mk'.makes Mk'.init (beq_iff_eq.mp Mk'.fn) (codeAny_mono (F.run _ X.stack _ _ ⟨Value.ref (s.heap.objs.size + 1) :: us, []⟩ (Value.ref (s.heap.objs.size + 1) :: (us ++ dus)) _ _ _ (hr.make _ us []) (fun z => guards_make (hgd z))
    (I2.env0.make _ us []) (hb _ (Value.ref (s.heap.objs.size + 1) :: us) I2.kIn hl) r2 hl') fun r s' hq' => ?_))
  cases r with
  | error e => exact passAt tk2 σ pins _ _ e s' I2 hq'
  | ok fl =>
    cases fl with
    | ret u =>
      obtain ⟨v, H', I3, rv, ev, q3⟩ := I2.after hq'
      subst ev
      exact ⟨rv, ⟨V.ref (s.heap.objs.size + 1), H', I3, rfl, q3⟩⟩
    | next => exact False.elim hq'
    | brk => exact False.elim hq'
    | cont => exact False.elim hq'
theorem de_make {C : Nat} (Mk' : Mk X.K (G.cl C) f) (F : FnG X.prog X.w X.K X.mg X.base gd k f fd ps (lift G X.K sp)) (hr : Room (k + 1) X.A) (hgd : gd = true → X.A.guards = some []) (hm : X.mg x = some (.ref (G.cl C))) (hb : Binds X.K fd ps dus) (hd : Vals dvs dus) (hf : Flat G X.K dvs dds)
    (ha : DA G X (e :: es) wa) (hg : Gl X x := by rfl) (hdb : (x == ("__debug__" : Str)) = false := by decide) (he : starEach (e :: es) X.env = (false, eval e X.env) :: starEach es X.env := by rfl) (hpl : (backTo pos (starEach es X.env)).any (·.1) = false := by rfl) :
    DE G X (.Call (.Name x p) (e :: es) [] pos) (wMake C sp dds wa) := by
  refine ⟨fun pins s σ H Q I ⟨F1, M1, δ, Q', EX, hm1, rs, h, tk, fin⟩ => ?_⟩
  refine wpAny_Call_Name_kw (ld_glob I hg hm ?_ hdb)
  refine PySem.W.callWith_K (h₀ := X.base) I.ok.mod.kin Mk'.kp (thn (da_run ha pos I hm1 rs h tk) fun us s1 ⟨vs, H2, I2, r, ds, F2, M2, g, rl, q⟩ => ⟨I2.kIn, ?_⟩) he hpl
  exact run_makeD Mk' F hr hgd hb hd hf I2 r g.hm (rs.mono g.ext) rl q (tk.imp (wX_mono g)) fun v d F3 M3 H3 g3 r3 q3 => fin v d F3 M3 H3 (g.trans g3) r3 q3
theorem de_make0 {C : Nat} (Mk' : Mk X.K (G.cl C) f) (F : FnG X.prog X.w X.K X.mg X.base gd k f fd ps (lift G X.K sp)) (hr : Room (k + 1) X.A) (hgd : gd = true → X.A.guards = some []) (hm : X.mg x = some (.ref (G.cl C))) (hb : Binds X.K fd ps dus) (hd : Vals dvs dus) (hf : Flat G X.K dvs dds)
    (hg : Gl X x := by rfl) (hdb : (x == ("__debug__" : Str)) = false := by decide) : DE G X (.Call (.Name x p) [] [] pos) (wMake C sp dds wNil) := by
  refine ⟨fun pins s σ H Q I ⟨F1, M1, δ, Q', EX, hm1, rs, h, tk, fin⟩ => ?_⟩
  refine wpAny_Call_Name_kw (ld_glob I hg hm ?_ hdb)
  exact PySem.W.callWith_K0 I.kIn Mk'.kp (run_makeD (us := []) (ds := []) Mk' F hr hgd hb hd hf I .nil hm1 rs .nil h tk fin)
/-- the instance changes no more -/
def wFrzI (c n : Nat) (we : WE) : WE := fun δ M Q EX => we δ M (fun d M1 => ∃ p fs, d = .raw (.ref p) ∧ M1 p = some (.ins c fs) ∧ fs.length = n ∧ Q (.ins c fs) (delM M1 p)) EX
theorem de_frzI {c n : Nat} {we : WE} (hn : (G.nm c).length = n) (h : DE G X e we) : DE G X e (wFrzI c n we) := by
  refine pe_imp h fun σ H P ⟨F, M, δ, Q, EX, hm, rs, h, tk, f⟩ => ?_
  refine ⟨F, M, δ, _, EX, hm, rs, h, tk, fun v d F1 M1 H1 g1 r1 h1 => ?_⟩
  obtain ⟨p, fs, rfl, ep, hl, q⟩ := h1
  cases r1
  obtain ⟨F2, g2, r2⟩ := g1.hm.settle ep (fun c' fs' z => by cases z; rw [hl, hn])
  exact f _ _ _ _ _ (g1.trans g2) r2 q
end
end DL

set_option Elab.async false
set_option linter.all false
set_option maxRecDepth 100000
namespace DL
open PySem PySem.Spec L2
open PyProof.Rows hiding St

section
variable {G : Cfg} {X : Cx} {e o i value : Expr}
theorem HM.other {K : PySem.W.Frag} {F : Hp} {M : MM} {H : Hp} {p : Addr} {u : HO} (h : HM G K F M H) (nf : F p = none) (nm : M p = none) (np : ∀ q ∈ G.tabs, q.1 ≠ p) : HM G K F M (upd H p u) := by
  refine ⟨fun b o e => ?_, h.dis, fun b m e => ?_, h.tbU (Same.refl _) np (fun _ _ z => z) (fun _ _ z => z)⟩
  · have z : b ≠ p := fun z => by subst z; rw [nf] at e; cases e
    rw [upd_ne z]; exact h.sub b o e
  · have z : b ≠ p := fun z => by subst z; rw [nm] at e; cases e
    exact (h.mo b m e).mono (Same.refl _) (upd_ne z)
theorem Grow.side {K : PySem.W.Frag} {F F' : Hp} {M M' : MM} {H H' : Hp} {p : Addr} {u : HO} (g : Grow G K F M H F' M' H') (n : H p = none) (nf : F' p = none) (nm : M' p = none) : Grow G K F M H F' M' (upd H' p u) :=
  ⟨g.hm.other nf nm (fun q hq z => by obtain ⟨ps, y⟩ := g.tab0 q hq; rw [z, n] at y; cases y), g.ext, fun b o e f m => by
    have z : b ≠ p := fun z => by subst z; rw [n] at e; cases e
    rcases g.kept b o e f m with ⟨t, ps, h1, h2, h3⟩ | ⟨h1, h2, h3⟩
    · exact .inl ⟨t, ps, by rw [upd_ne z]; exact h1, h2, h3⟩
    · exact .inr ⟨by rw [upd_ne z]; exact h1, h2, h3⟩, g.tab0⟩
theorem HM.adopt {K : PySem.W.Frag} {F : Hp} {M : MM} {H : Hp} {p : Addr} {u : HO} (h : HM G K F M H) (e : H p = some u) (nf : F p = none) (nm : M p = none) (nb : ∀ ps, u ≠ .tbl ps := by exact fun _ z => by cases z) : HM G K (upd F p u) M H ∧ Same F (upd F p u) := by
  have s1 : Same F (upd F p u) := fun b o q => by
    have z : b ≠ p := fun z => by subst z; rw [nf] at q; cases q
    rw [upd_ne z]; exact q
  refine ⟨⟨fun b o q => ?_, fun b m q => ?_, fun b m q => (h.mo b m q).mono s1 rfl, h.tbS s1 (h.ntab e nb) (fun b => updF_ne b) (fun _ _ z => z)⟩, s1⟩
  · by_cases z : b = p
    · subst z; rw [upd_same] at q; cases q; exact e
    · rw [upd_ne z] at q; exact h.sub b o q
  · have z : b ≠ p := fun z => by subst z; rw [nm] at q; cases q
    rw [upd_ne z]; exact h.dis b m q
theorem HM.adoptM {K : PySem.W.Frag} {F : Hp} {M : MM} {H : Hp} {p : Addr} {m : MO} (h : HM G K F M H) (r : RepM G K F H p m) (nf : F p = none) (nm : M p = none) : HM G K F (updM M p m) H := by
  obtain ⟨u, hu⟩ := r.some
  refine ⟨h.sub, fun b m' q => ?_, fun b m' q => ?_, h.tbS (Same.refl _) (h.ntab hu (repM_nt r hu)) (fun _ _ z => z) (fun b => updM_nn b)⟩
  · by_cases z : b = p
    · subst z; exact nf
    · rw [updM_ne z] at q; exact h.dis b m' q
  · by_cases z : b = p
    · subst z; rw [updM_same] at q; cases q; exact r
    · rw [updM_ne z] at q; exact h.mo b m' q
/-! ### comprehensions -/
def wipeD (δ : DS) : List Nat → DS
  | [] => δ
  | v :: vs => (wipeD δ vs).set v none
theorem rs_wipe {K : PySem.W.Frag} {F : Hp} {σ : St} {δ : DS} (h : RS G K F σ δ) : ∀ vs, RS G K F (wipe σ vs) (wipeD δ vs)
  | [] => h
  | v :: vs => by
    have ih := rs_wipe h vs
    unfold wipe wipeD
    refine ⟨by rw [List.length_set, List.length_set]; exact ih.1, fun j d q => ?_⟩
    by_cases z : v = j
    · subst z
      by_cases l : v < (wipeD δ vs).length
      · rw [List.getElem?_set_self l] at q; cases q
      · rw [List.getElem?_eq_none_iff.mpr (by rw [List.length_set]; omega)] at q; cases q
    · rw [List.getElem?_set_ne z] at q ⊢
      exact ih.2 j d q
def wYes : WT := fun _ M Q _ => Q true M
abbrev noX : XK' := fun _ _ _ => False
def wLcL (src : Option (Addr × List D)) (b : BD) (wt : WT) (we : WE) (δ : DS) (fin : List D → MM → Prop) : List D → List D → MM → Prop
  | [], acc, M => stay src M ∧ fin acc M
  | d :: ds, acc, M => stay src M ∧ match b d δ with
    | some δ' => wt δ' M (fun c M1 => if c = true then we δ' M1 (fun y M2 => acc.length < sizeLine ∧ wLcL src b wt we δ fin ds (acc ++ [y]) M2) noX else wLcL src b wt we δ fin ds acc M1) noX
    | none => False
def wLc (wi : WI) (b : BD) (wt : WT) (we : WE) (vs : List Nat) : WE := fun δ M Q EX => wi δ M (fun it M1 => wLcL it.src b wt we (wipeD δ vs) (fun acc M2 => Q (.lst acc) M2) it.items [] M1) EX
def wLcM (wi : WI) (b : BD) (wt : WT) (we : WE) (vs : List Nat) : WE := fun δ M Q EX => wi δ M (fun it M1 => wLcL it.src b wt we (wipeD δ vs) (fun acc M2 => ∀ p, M2 p = none → Q (.raw (.ref p)) (updM M2 p (.lst acc))) it.items [] M1) EX
/-- the target's places are the block's own -/
def InOwn (b : BD) (vs : List Nat) : Prop := ∀ d δ δ', b d δ = some δ' → ∀ σ : St, ∀ (x : DS → St → Prop), True
def SimGw (G : Cfg) (K : PySem.W.Frag) (g : TG) (b : BD) (vs : List Nat) : Prop := ∀ F M H σ δ δ' v d (Q : St → Hp → Prop), HM G K F M H → RS G K F σ δ → Rep G K F v d → b d δ = some δ' → (∀ σ', RS G K F σ' δ' → wipe σ' vs = wipe σ vs → Q σ' H) → g v σ H Q
theorem set_set_none {σ : St} : ∀ {vs : List Nat} {i : Nat} {x : Option V}, i ∈ vs → wipe (σ.set i x) vs = wipe σ vs
  | [], _, _, h => by simp at h
  | v :: vs, i, x, h => by
    unfold wipe
    by_cases hi : i ∈ vs
    · rw [set_set_none hi]
    · have e : i = v := by
        rcases List.mem_cons.mp h with z | z
        · exact z
        · exact absurd z hi
      subst e
      have z : ∀ (ws : List Nat), i ∉ ws → wipe (σ.set i x) ws = (wipe σ ws).set i x := by
        intro ws
        induction ws with
        | nil => intro _; rfl
        | cons w ws ih =>
          intro hw
          simp only [List.mem_cons, not_or] at hw
          unfold wipe
          rw [ih hw.2, List.set_comm _ _ hw.1]
      rw [z vs hi, List.set_set]
theorem simGw_nm {K : PySem.W.Frag} {i : Nat} {vs : List Nat} (h : i ∈ vs) : SimGw G K (gName i) (bNm i) vs := by
  intro F M H σ δ δ' v d Q hm rs r e q
  unfold bNm at e
  cases e
  exact q _ (rs.set i r) (set_set_none h)
theorem simGw_sets {K : PySem.W.Frag} {F : Hp} {H : Hp} {vs : List Nat} {Q : St → Hp → Prop} : ∀ (is : List Nat) (ws : List V) (ds : List D) (σ : St) (δ δ' : DS), (∀ i ∈ is, i ∈ vs) → RS G K F σ δ → RepL G K F ws ds → bSets is ds δ = some δ' → (∀ σ', RS G K F σ' δ' → wipe σ' vs = wipe σ vs → Q σ' H) → gsOf is ws σ H Q
  | [], _, _, σ, δ, δ', hi, rs, .nil, e, q => by
    unfold bSets at e
    cases e
    exact ⟨rfl, q _ rs rfl⟩
  | [], _, _, σ, δ, δ', hi, rs, .cons _ _, e, q => by unfold bSets at e; cases e
  | i :: is, _, _, σ, δ, δ', hi, rs, .nil, e, q => by unfold bSets at e; cases e
  | i :: is, _, _, σ, δ, δ', hi, rs, .cons r t, e, q => by
    unfold bSets at e
    exact ⟨_, _, rfl, simGw_sets is _ _ _ _ _ (fun j hj => hi j (List.mem_cons_of_mem _ hj)) (rs.set i r) t e fun σ' h1 h2 => q σ' h1 (h2.trans (set_set_none (hi i List.mem_cons_self)))⟩
theorem simGw_tup {K : PySem.W.Frag} {vs : List Nat} (is : List Nat) (hi : ∀ i ∈ is, i ∈ vs) : SimGw G K (gTup K is.length (gsOf is)) (bTup is) vs := by
  intro F M H σ δ δ' v d Q hm rs r e q
  unfold bTup at e
  split at e
  · cases r with
    | tup h r => exact ⟨_, _, rfl, sqT_mono hm.sub h, by rw [r.len]; exact bSets_len _ _ _ _ e, simGw_sets is _ _ _ _ _ hi rs r e q⟩
  · cases e
abbrev DPTs (G : Cfg) (X : Cx) (ifs : List Expr) (w : WT) : Prop := PTs X ifs (upT G X w)
theorem pts_imp {ifs : List Expr} {t t' : TT} (h : PTs X ifs t) (i : ∀ σ H P, t' σ H P → t σ H P) : PTs X ifs t' := ⟨fun pins s σ H Q I q => h.run pins s σ H Q I (i σ H Q q)⟩
theorem dpts_nil : DPTs G X [] wYes := pts_imp pts_nil fun σ H P ⟨F, M, δ, Q, EX, hm, rs, h, tk, f⟩ => f true F M H (.refl hm) h
theorem dpts_one {c : Expr} {w : WT} (h : DT G X c w) : DPTs G X [c] w := pts_one h
theorem takes_no {Y : Cx} {F : Hp} {M : MM} {H : Hp} : Takes Y (wX G Y.K F M H noX) := takes0.imp fun c d σ H ⟨xd, δ, F', M', g, a, b, z⟩ => z.elim
/-- where nothing is raised -/
def upN (G : Cfg) (K : PySem.W.Frag) (w : WE) : TE := fun σ H P => ∃ F M δ Q, HM G K F M H ∧ RS G K F σ δ ∧ w δ M Q noX ∧ Fin G K F M H Q P
def upTN (G : Cfg) (K : PySem.W.Frag) (w : WT) : TT := fun σ H P => ∃ F M δ Q, HM G K F M H ∧ RS G K F σ δ ∧ w δ M Q noX ∧ ∀ b F' M' H', Grow G K F M H F' M' H' → Q b M' → P b H'
theorem upN_up (Y : Cx) {K : PySem.W.Frag} (hY : Y.K = K) {w : WE} (σ : St) (H : Hp) (P : VK) (h : upN G K w σ H P) : up G Y w σ H P := by
  subst hY
  obtain ⟨F, M, δ, Q, hm, rs, h, f⟩ := h
  exact ⟨F, M, δ, Q, noX, hm, rs, h, takes_no, f⟩
theorem upTN_up (Y : Cx) {K : PySem.W.Frag} (hY : Y.K = K) {w : WT} (σ : St) (H : Hp) (P : Bool → Hp → Prop) (h : upTN G K w σ H P) : upT G Y w σ H P := by
  subst hY
  obtain ⟨F, M, δ, Q, hm, rs, h, f⟩ := h
  exact ⟨F, M, δ, Q, noX, hm, rs, h, takes_no, f⟩
theorem lc_up {wi : WI} {g : TG} {b : BD} {wt : WT} {we : WE} {vs : List Nat} {fin : (D → MM → Prop) → List D → MM → Prop} (sg : SimGw G X.K g b vs)
    (hfin : ∀ {F M H Q P F2 M2 H2 Dn acc ws}, Fin G X.K F M H Q P → Grow G X.K F M H F2 M2 H2 → (∀ o, H Dn = some o → F Dn = none → M Dn = none → False) → H2 Dn = some (.lst ws) → F2 Dn = none → M2 Dn = none → RepL G X.K F2 ws acc → fin Q acc M2 → P (.ref Dn) H2)
    (σ : St) (H : Hp) (P : VK) (h : up G X (fun δ M Q EX => wi δ M (fun it M1 => wLcL it.src b wt we (wipeD δ vs) (fin Q) it.items [] M1) EX) σ H P) : tLc (upI G X wi) g (upTN G X.K wt) (upN G X.K we) vs σ H P := by
  obtain ⟨F, M, δ, Q, EX, hm, rs, h, tk, f⟩ := h
  refine ⟨F, M, δ, _, EX, hm, rs, h, tk, fun J it F1 M1 H1 g1 wk h1 => ?_⟩
  intro Dn hDn
  refine ⟨fun i m H' => m = it.items.length - i ∧ i ≤ it.items.length ∧ ∃ F' M' acc ws, Grow G X.K F1 M1 H1 F' M' H' ∧ H' Dn = some (.lst ws) ∧ F' Dn = none ∧ M' Dn = none ∧ RepL G X.K F' ws acc ∧ wLcL it.src b wt we (wipeD δ vs) (fin Q) (it.items.drop i) acc M',
    ⟨it.items.length, by simp, Nat.zero_le _, F1, M1, [], [], (Grow.refl g1.hm).side hDn (g1.hm.free hDn).1 (g1.hm.free hDn).2, upd_same, (g1.hm.free hDn).1, (g1.hm.free hDn).2, .nil, h1⟩, ?_⟩
  rintro i m H' ⟨em, hi, F', M', acc, ws, g', hD, fD, mD, ra, h'⟩
  subst em
  by_cases hlt : i < it.items.length
  · rw [List.drop_eq_getElem_cons hlt] at h'
    unfold wLcL at h'
    obtain ⟨st, h'⟩ := h'
    split at h'
    · rename_i δ2 eb
      obtain ⟨go, yl⟩ := wk.step F' M' H' i it.items[i] g' st (List.getElem?_eq_getElem hlt)
      refine .inr ⟨go, fun H2 => ∃ F2 M2 acc2 ws2, Grow G X.K F1 M1 H1 F2 M2 H2 ∧ H2 Dn = some (.lst ws2) ∧ F2 Dn = none ∧ M2 Dn = none ∧ RepL G X.K F2 ws2 acc2 ∧ wLcL it.src b wt we (wipeD δ vs) (fin Q) (it.items.drop (i + 1)) acc2 M2, fun H2 w2 => ⟨it.items.length - (i + 1), by omega, rfl, hlt, w2⟩, fun x H'' y => ?_⟩
      obtain ⟨F3, g3, r3⟩ := yl x H'' y
      obtain ⟨hD3, fD3, mD3⟩ := g3.keep Dn _ hD fD mD
      have gt := g1.trans (g'.trans g3)
      refine sg F3 M' H'' (wipe σ vs) (wipeD δ vs) δ2 x _ _ g3.hm (rs_wipe (rs.mono gt.ext) vs) r3 eb fun σ4 rs4 ew => ⟨?_, ?_⟩
      · exact ew.trans (by
          have z : ∀ (ws : List Nat), (∀ w ∈ ws, w ∈ vs) → wipe (wipe σ vs) ws = wipe σ vs := by
            intro ws
            induction ws with
            | nil => intro _; rfl
            | cons w ws ih =>
              intro hw
              show (wipe (wipe σ vs) ws).set w none = wipe σ vs
              rw [ih fun v hv => hw v (List.mem_cons_of_mem _ hv)]
              have e1 : wipe (σ.set w none) vs = wipe σ vs := set_set_none (hw w List.mem_cons_self)
              have e2 : ∀ (us : List Nat), w ∈ us → (wipe σ us).set w none = wipe σ us := by
                intro us
                induction us with
                | nil => intro h; simp at h
                | cons u us ih2 =>
                  intro h
                  unfold wipe
                  by_cases q : w = u
                  · subst q; rw [List.set_set]
                  · have h' : w ∈ us := by
                      rcases List.mem_cons.mp h with z | z
                      · exact absurd z q
                      · exact z
                    rw [List.set_comm _ _ (fun z => q z.symm), ih2 h']
              exact e2 vs (hw w List.mem_cons_self)
          exact z vs fun _ h => h)
      · refine ⟨F3, M', δ2, _, g3.hm, rs4, h', fun k F4 M4 H4 g4 q4 => ?_⟩
        obtain ⟨hD4, fD4, mD4⟩ := g4.keep Dn _ hD3 fD3 mD3
        cases k with
        | true =>
          refine ⟨F4, M4, δ2, _, g4.hm, rs4.mono g4.ext, q4, fun v d F5 M5 H5 g5 r5 q5 => ?_⟩
          obtain ⟨hD5, fD5, mD5⟩ := g5.keep Dn _ hD4 fD4 mD4
          have g345 := (g3.trans g4).trans g5
          refine ⟨ws, hD5, by rw [ra.len]; exact q5.1, F5, M5, acc ++ [d], ws ++ [v], (g'.trans g345).side hDn fD5 mD5, upd_same, fD5, mD5, (ra.mono g345.ext).app (.cons r5 .nil), q5.2⟩
        | false => exact ⟨F4, M4, acc, ws, g'.trans (g3.trans g4), hD4, fD4, mD4, ra.mono (g3.trans g4).ext, q4⟩
    · exact h'.elim
  · have e : i = it.items.length := by omega
    subst e
    rw [List.drop_length] at h'
    unfold wLcL at h'
    have hH : ∀ o, H Dn = some o → F Dn = none → M Dn = none → False := fun o q qf qm => by
      rcases g1.kept Dn o q qf qm with ⟨_, _, z, _⟩ | ⟨z, _⟩ <;> (rw [hDn] at z; cases z)
    exact .inl ⟨wk.stop F' M' H' g' h'.1, hfin f (g1.trans g') hH hD fD mD ra h'.2⟩
theorem fin_frz {F : Hp} {M : MM} {H : Hp} {Q : D → MM → Prop} {P : VK} {F2 : Hp} {M2 : MM} {H2 : Hp} {Dn : Addr} {acc : List D} {ws : List V} {K : PySem.W.Frag} (f : Fin G K F M H Q P) (g : Grow G K F M H F2 M2 H2) (hH : ∀ o, H Dn = some o → F Dn = none → M Dn = none → False)
    (hD : H2 Dn = some (.lst ws)) (fD : F2 Dn = none) (mD : M2 Dn = none) (ra : RepL G K F2 ws acc) (q : Q (.lst acc) M2) : P (.ref Dn) H2 := by
  obtain ⟨hm, s1⟩ := g.hm.adopt hD fD mD
  refine f _ _ (upd F2 Dn (.lst ws)) M2 H2 ⟨hm, g.ext.trans s1, fun b o e fb mb => ?_, g.tab0⟩ (.lst upd_same (ra.mono s1)) q
  have z : b ≠ Dn := fun z => by subst z; exact hH o e fb mb
  rcases g.kept b o e fb mb with ⟨t, ps, h1, h2, h3⟩ | ⟨h1, h2, h3⟩
  · exact .inl ⟨t, ps, h1, by rw [upd_ne z]; exact h2, h3⟩
  exact .inr ⟨h1, by rw [upd_ne z]; exact h2, h3⟩
theorem fin_mut {F : Hp} {M : MM} {H : Hp} {Q : D → MM → Prop} {P : VK} {F2 : Hp} {M2 : MM} {H2 : Hp} {Dn : Addr} {acc : List D} {ws : List V} {K : PySem.W.Frag} (f : Fin G K F M H Q P) (g : Grow G K F M H F2 M2 H2) (hH : ∀ o, H Dn = some o → F Dn = none → M Dn = none → False)
    (hD : H2 Dn = some (.lst ws)) (fD : F2 Dn = none) (mD : M2 Dn = none) (ra : RepL G K F2 ws acc) (q : ∀ p, M2 p = none → Q (.raw (.ref p)) (updM M2 p (.lst acc))) : P (.ref Dn) H2 := by
  have hm := g.hm.adoptM (m := .lst acc) ⟨ws, hD, ra⟩ fD mD
  refine f _ _ F2 (updM M2 Dn (.lst acc)) H2 ⟨hm, g.ext, fun b o e fb mb => ?_, g.tab0⟩ (.raw _) (q Dn mD)
  have z : b ≠ Dn := fun z => by subst z; exact hH o e fb mb
  rcases g.kept b o e fb mb with ⟨t, ps, h1, h2, h3⟩ | ⟨h1, h2, h3⟩
  · exact .inl ⟨t, ps, h1, h2, by rw [updM_ne z]; exact h3⟩
  exact .inr ⟨h1, h2, by rw [updM_ne z]; exact h3⟩
abbrev Blk (X : Cx) (scope : Scope) (P : Cx → Prop) : Prop := ∀ (s : Shared) (H : Hp) (C : Addr) (cl : List (Str × Addr)) (fp : List Addr), P (X.blk s H scope (compEnvC scope cl C X.env) fp)
theorem de_lc {elt tg iter : Expr} {ifs : List Expr} {scope : Scope} {pos : Pos} {wi : WI} {g : TG} {b : BD} {wt : WT} {we : WE} (own : List (Str × Nat)) (hc : X.calm = true) (hN : X.N.Nodup) (ok : BlkOk X.N X.env.scope scope own) (hi : DI G X tg iter wi) (sg : SimGw G X.K g b (own.map (·.2)))
    (hg : Blk X scope fun Y => PG Y tg g) (ht : Blk X scope fun Y => DPTs G Y ifs wt) (he : Blk X scope fun Y => DE G Y elt we) (hs : ∀ x, foldedSetIterable iter X.env x = pure x := by intro _; rfl) :
    DE G X (.ListComp elt [⟨tg, iter, ifs, 0⟩] scope pos) (wLc wi b wt we (own.map (·.2))) := by
  refine pe_imp (pe_lc (te := upN G X.K we) (tt := upTN G X.K wt) hc hN hi ok hg (fun s H C cl fp => pts_imp (ht s H C cl fp) (upTN_up (X.blk s H scope (compEnvC scope cl C X.env) fp) rfl)) (fun s H C cl fp => pe_imp (he s H C cl fp) (upN_up (X.blk s H scope (compEnvC scope cl C X.env) fp) rfl)) hs) fun σ H P h => ?_
  exact lc_up (fin := fun Q acc M2 => Q (.lst acc) M2) sg (fun f g hH hD fD mD ra q => fin_frz f g hH hD fD mD ra q) σ H P h
theorem de_lcM {elt tg iter : Expr} {ifs : List Expr} {scope : Scope} {pos : Pos} {wi : WI} {g : TG} {b : BD} {wt : WT} {we : WE} (own : List (Str × Nat)) (hc : X.calm = true) (hN : X.N.Nodup) (ok : BlkOk X.N X.env.scope scope own) (hi : DI G X tg iter wi) (sg : SimGw G X.K g b (own.map (·.2)))
    (hg : Blk X scope fun Y => PG Y tg g) (ht : Blk X scope fun Y => DPTs G Y ifs wt) (he : Blk X scope fun Y => DE G Y elt we) (hs : ∀ x, foldedSetIterable iter X.env x = pure x := by intro _; rfl) :
    DE G X (.ListComp elt [⟨tg, iter, ifs, 0⟩] scope pos) (wLcM wi b wt we (own.map (·.2))) := by
  refine pe_imp (pe_lc (te := upN G X.K we) (tt := upTN G X.K wt) hc hN hi ok hg (fun s H C cl fp => pts_imp (ht s H C cl fp) (upTN_up (X.blk s H scope (compEnvC scope cl C X.env) fp) rfl)) (fun s H C cl fp => pe_imp (he s H C cl fp) (upN_up (X.blk s H scope (compEnvC scope cl C X.env) fp) rfl)) hs) fun σ H P h => ?_
  exact lc_up (fin := fun Q acc M2 => ∀ p, M2 p = none → Q (.raw (.ref p)) (updM M2 p (.lst acc))) sg (fun f g hH hD fD mD ra q => fin_mut f g hH hD fD mD ra q) σ H P h
/-- name = [..] on one line -/
theorem ds_setLc {elt tg iter : Expr} {ifs : List Expr} {scope : Scope} {pos spos py : Pos} {wi : WI} {g : TG} {b : BD} {wt : WT} {we : WE} (i : Nat) {y : Str} (own : List (Str × Nat)) (hc : X.calm = true) (hN : X.N.Nodup) (ok : BlkOk X.N X.env.scope scope own) (hi : DI G X tg iter wi) (sg : SimGw G X.K g b (own.map (·.2)))
    (hg : Blk X scope fun Y => PG Y tg g) (ht : Blk X scope fun Y => DPTs G Y ifs wt) (he : Blk X scope fun Y => DE G Y elt we) (hsw : swapsWith (.ListComp elt [⟨tg, iter, ifs, 0⟩] scope pos) (some (.Name y py)) spos.line X.env = pure true)
    (hy : X.N[i]? = some y := by rfl) (hyl : X.env.scope.names.lookup y = some .local := by rfl) (hs : ∀ x, foldedSetIterable iter X.env x = pure x := by intro _; rfl) :
    DSt G X (.Assign [.Name y py] (.ListComp elt [⟨tg, iter, ifs, 0⟩] scope pos) spos) (wSet i (wLc wi b wt we (own.map (·.2)))) := by
  refine ps_imp (ps_setLc (te := upN G X.K we) (tt := upTN G X.K wt) hc hN hy hyl hsw hi ok hg (fun s H C cl fp => pts_imp (ht s H C cl fp) (upTN_up (X.blk s H scope (compEnvC scope cl C X.env) fp) rfl)) (fun s H C cl fp => pe_imp (he s H C cl fp) (upN_up (X.blk s H scope (compEnvC scope cl C X.env) fp) rfl)) hs) fun D σ H ⟨F, M, δ, E, EX, hm, rs, h, tk, n, r, bk, c⟩ => ?_
  refine lc_up (fin := fun Q acc M2 => Q (.lst acc) M2) sg (fun f g hH hD fD mD ra q => fin_frz f g hH hD fD mD ra q) σ H _ ⟨F, M, δ, fun d M1 => E.nx (δ.set i (some d)) M1, EX, hm, rs, h, tk, fun v d F1 M1 H1 g1 r1 q => ?_⟩
  exact n _ _ F1 M1 H1 g1 ((rs.mono g1.ext).set i r1) q
theorem ds_setLcM {elt tg iter : Expr} {ifs : List Expr} {scope : Scope} {pos spos py : Pos} {wi : WI} {g : TG} {b : BD} {wt : WT} {we : WE} (i : Nat) {y : Str} (own : List (Str × Nat)) (hc : X.calm = true) (hN : X.N.Nodup) (ok : BlkOk X.N X.env.scope scope own) (hi : DI G X tg iter wi) (sg : SimGw G X.K g b (own.map (·.2)))
    (hg : Blk X scope fun Y => PG Y tg g) (ht : Blk X scope fun Y => DPTs G Y ifs wt) (he : Blk X scope fun Y => DE G Y elt we) (hsw : swapsWith (.ListComp elt [⟨tg, iter, ifs, 0⟩] scope pos) (some (.Name y py)) spos.line X.env = pure true)
    (hy : X.N[i]? = some y := by rfl) (hyl : X.env.scope.names.lookup y = some .local := by rfl) (hs : ∀ x, foldedSetIterable iter X.env x = pure x := by intro _; rfl) :
    DSt G X (.Assign [.Name y py] (.ListComp elt [⟨tg, iter, ifs, 0⟩] scope pos) spos) (wSet i (wLcM wi b wt we (own.map (·.2)))) := by
  refine ps_imp (ps_setLc (te := upN G X.K we) (tt := upTN G X.K wt) hc hN hy hyl hsw hi ok hg (fun s H C cl fp => pts_imp (ht s H C cl fp) (upTN_up (X.blk s H scope (compEnvC scope cl C X.env) fp) rfl)) (fun s H C cl fp => pe_imp (he s H C cl fp) (upN_up (X.blk s H scope (compEnvC scope cl C X.env) fp) rfl)) hs) fun D σ H ⟨F, M, δ, E, EX, hm, rs, h, tk, n, r, bk, c⟩ => ?_
  refine lc_up (fin := fun Q acc M2 => ∀ p, M2 p = none → Q (.raw (.ref p)) (updM M2 p (.lst acc))) sg (fun f g hH hD fD mD ra q => fin_mut f g hH hD fD mD ra q) σ H _ ⟨F, M, δ, fun d M1 => E.nx (δ.set i (some d)) M1, EX, hm, rs, h, tk, fun v d F1 M1 H1 g1 r1 q => ?_⟩
  exact n _ _ F1 M1 H1 g1 ((rs.mono g1.ext).set i r1) q

/-! ### properties -/
structure PropD (G : Cfg) (X : Cx) (c : Nat) (f : Str) (sp : SpD) : Prop where
  cls : Cls X.K (G.cl c)
  ex : ∃ (gd : Bool) (p g k : Nat) (fd : FuncData) (ps : List Str), PropOf X.K (G.cl c) f p g ∧ FnG X.prog X.w X.K X.mg X.base gd k g fd ps (lift G X.K sp) ∧ Room (k + 1) X.A ∧ (gd = true → X.A.guards = some []) ∧ Binds X.K fd ps []
/-- e.f, a property whose def raises nothing -/
def wProp (tb : List (Nat × SpD)) (wo : WE) : WE := fun δ M Q EX => wo δ M (fun d M1 => ∃ c fs sp, insOf M1 d = some (c, fs) ∧ tb.lookup c = some sp ∧ sp [d] M1 Q (fun _ _ => False)) EX
theorem de_prop {f : Str} {wo : WE} {pos} (tb : List (Nat × SpD)) (ht : ∀ q ∈ tb, PropD G X q.1 f q.2) (ho : DE G X e wo) (hab : attributeBase e f X.env (eval e X.env) = eval e X.env := by rfl) : DE G X (.Attribute e f pos) (wProp tb wo) := by
  refine ⟨fun pins s σ H Q I ⟨F1, M1, δ, Q', EX, hm1, rs, h, tk, fin⟩ => ?_⟩
  refine attr_of hab (thn (de_run ho I hm1 rs h tk) fun u s1 ⟨v, H2, I2, rv, d, F2, M2, g, rd, c, fs, sp, e1, e2, q⟩ => ?_)
  obtain ⟨a, dx, ws, rfl, hz, l, rz⟩ := insOf_rep g.hm rd e1
  obtain ⟨cls, gd, p, ga, k, fd, ps, hp, F, hr, hgd, hb⟩ := ht _ (lookup_mem e2)
  obtain rfl : u = Value.ref a := rv
  obtain ⟨mA, O, _, _, _, _⟩ := ins_get I2.hok hz
  obtain ⟨od, J, _⟩ := O.look
  obtain ⟨more, hrec⟩ := hp.rec_
  have It := I2.tok (s1.toks + 1)
  have hl' : lift G X.K sp [V.ref a] H2 Q E0 := ⟨F2, M2, [d], Q', _, g.hm, .cons rd .nil, q, fun v d F3 M3 H3 g3 r3 q3 => fin v d F3 M3 H3 (g.trans g3) r3 q3, fun _ _ _ _ _ _ _ _ z => z⟩
  have isC : (PySem.W.clsIn X.K (G.cl c)).isSome = true := by
    obtain ⟨cd, ec, _⟩ := PySem.W.any_some cls.hd
    rw [ec]; rfl
  refine PySem.W.get_bind I2.kIn J (PySem.W.plainGet_of (cls.get f)).1 (PySem.W.findObj_data isC hp.at_ hp.get hp.tak) (PySem.W.plainGet_of (cls.get f)).2 (wpAny_call (PySem.W.prop_get (s := { s1 with toks := s1.toks + 1 }) I2.kIn hrec ?_))
  refine codeAny_mono (F.run X.A.in1 X.stack { s1 with toks := s1.toks + 1 } H2 ⟨[.ref a], []⟩ [.ref a] [.ref a] Q E0 hr.in1 hgd It.env0.in1 (hb _ [.ref a] It.kIn (F.len _ _ _ _ hl')) (.cons rfl .nil) hl') (fun res s' hq => ?_)
  match res, hq with
  | .error er, hq => exact False.elim (passL (X := X.nox) pins σ H2 { s1 with toks := s1.toks + 1 } er s' (It.wish _) hq)
  | .ok (.ret u), hq =>
    obtain ⟨v, H', I3, rv, q3⟩ := It.after hq
    show wpAny _ _ (handedOut u) _ _ _
    rw [PySem.W.handedOut_of (handed_of rv)]
    exact wpAny_pure ⟨v, H', I3, rv, q3⟩
end
end DL

set_option Elab.async false
set_option linter.all false
set_option maxRecDepth 100000
namespace DL
open PySem PySem.Spec L2
open PyProof.Rows hiding St

section
variable {G : Cfg} {X : Cx} {e o i value : Expr}
/-! ### repr -/
def rRepr (K : PySem.W.Frag) : List V → Hp → VK → Prop := fun xs H Q => ∃ x p, xs = [x] ∧ Dp K H x p ∧ p.showable = true ∧ p.hasDict = false ∧ p.depth ≤ 64 ∧ p.shown.length ≤ sizeLine ∧ Q (.str p.shown) H
theorem call_reprD (hg : X.A.guards = some []) (hu : X.A.units + 66 < cLine) : CallR X (.builtin "repr") (rRepr X.K) := by
  intro pins s σ H xs us Q I r h
  obtain ⟨x, p, rfl, hd, h1, h2, h3, h4, q⟩ := h
  cases r with
  | cons r t =>
    cases t
    rename_i u
    have big : ∀ {a : Addr}, u = .ref a → wpAny (PySem.model X.prog X.w) X.A (call (.builtin "repr") [u]) (EP X pins σ Q) X.xe s := fun {a} e => by
      subst e
      obtain ⟨as, rd⟩ := Dp.reads I p x (.ref a) hd r
      exact repr_of_reads' rd h1 (PyData.noDict_hsm h2) hg (by omega) (fun _ _ e => e) (fun h' u tk hk => ⟨.str p.shown, H, I.kept (t' := tk) hk, ⟨_, rfl⟩, q⟩) h4
    cases hd with
    | non =>
      cases (show u = Value.none from r)
      have e : (PyData.none).shown = ("None" : Str) := PyData.shown_none
      rw [e] at q
      exact PySem.P.repr_of_none ⟨.str _, H, I.tok _, ⟨_, rfl⟩, q⟩
    | bl b =>
      cases (show u = Value.bool b from r)
      rw [PyData.shown_bool] at q
      exact PySem.P.repr_of_bool ⟨.str _, H, I.tok _, ⟨_, rfl⟩, q⟩
    | int i =>
      obtain ⟨t, rfl⟩ := (show ∃ t, u = Value.int i t from r)
      rw [PyData.shown_int] at q
      have h5 : i.natAbs.log2 < 1920 := by simpa [PyData.showable] using h1
      exact PySem.P.repr_of_int h5 ⟨.str _, H, I.tok _, ⟨_, rfl⟩, q⟩
    | str z =>
      obtain ⟨t, rfl⟩ := (show ∃ t, u = Value.str z t from r)
      rw [PyData.shown_str] at q h4
      exact PySem.P.repr_of_str ⟨.str _, H, I.tok _, ⟨_, rfl⟩, q⟩ h4
    | lst hs ha => exact big (show u = Value.ref _ from r)
    | tup hs ha => exact big (show u = Value.ref _ from r)
@[irreducible] def wRepr : WR1 := fun ds M Q => match ds with
  | [d] => ∃ p, py M d = some p ∧ p.showable = true ∧ p.hasDict = false ∧ p.depth ≤ 64 ∧ p.shown.length ≤ sizeLine ∧ Q (.str p.shown) M
  | _ => False
theorem sim_repr {K : PySem.W.Frag} : SimC G K (rRepr K) wRepr := by
  intro F M H vs ds Q P hm r w f
  unfold wRepr at w
  split at w
  · obtain ⟨p, h1, h2, h3, h4, h5, w⟩ := w
    obtain ⟨v, rfl, r1⟩ := one_rep r
    exact ⟨v, p, rfl, py_dp hm r1 h1, h2, h3, h4, h5, f _ _ F M H (.refl hm) (.str _) w⟩
  · exact w.elim

/-! ### what is walked: a list or a tuple; enumerate -/
def iSeq (K : PySem.W.Frag) (tl : TE) : TI := fun σ H R => tl σ H fun x H1 => ∃ a, x = .ref a ∧ (((∃ xs, SqL K H1 a xs) ∧ R (Itl K a) H1) ∨ ((∃ xs, SqT K H1 a xs) ∧ R (Itt K a) H1))
theorem pi_seq {tg : Expr} {tl : TE} (hl : PE X e tl) : PI X tg e (iSeq X.K tl) := by
  refine ⟨fun pins s σ H R I h => ?_⟩
  have key : ∀ (v : Value) (s1 : Shared) (x : V) (H1 : Hp), Inv X pins σ H1 s1 → RelV x v → (∃ a, x = .ref a ∧ (((∃ xs, SqL X.K H1 a xs) ∧ R (Itl X.K a) H1) ∨ ((∃ xs, SqT X.K H1 a xs) ∧ R (Itt X.K a) H1))) →
      wpAny (PySem.model X.prog X.w) X.A (pyIter v) (PIE X pins σ tg R) X.xe s1 := by
    rintro v s1 x H1 I1 r1 ⟨a, rfl, q⟩
    cases r1
    have new : ∀ b ∈ [s1.heap.objs.size], FpOk X pins H1 b := fun b hb => by
      have eb : b = s1.heap.objs.size := by simpa using hb
      subst eb
      exact I1.fpOk (Nat.le_refl _) (I1.hok.fresh (Nat.le_refl _))
    rcases q with ⟨⟨xs, hq⟩, q⟩ | ⟨⟨xs, hq⟩, q⟩
    · obtain ⟨its, rv, p, hz⟩ := I1.list hq
      exact wpAny_pyIter_list p.isList ⟨_, _, _, _, H1, rfl, I1.kept (t' := s1.toks) (fun b o z => Heap.get?_push_of_some _ z), turn_list a _, ⟨_, Heap.get?_push_size _ rfl, rfl, rfl⟩, new, q⟩
    · obtain ⟨its, rv, p, hz⟩ := I1.tuple hq
      exact wpAny_pyIter_tuple (show s1.heap.IsTuple a its.toArray from p) ⟨_, _, _, _, H1, rfl, I1.kept (t' := s1.toks) (fun b o z => Heap.get?_push_of_some _ z), turn_tuple a _, ⟨_, Heap.get?_push_size _ rfl, rfl, rfl⟩, new, q⟩
  exact thn (hl.run pins s σ H _ I h) fun v s1 ⟨x, H1, I1, r1, q1⟩ => key v s1 x H1 I1 r1 q1
@[irreducible] def kiS (Q : IT → MM → Prop) (d : D) (M1 : MM) : Prop := match d with
  | .tup ds => Q { items := ds } M1
  | .lst ds => Q { items := ds } M1
  | .frl ds => Q { items := ds } M1
  | .raw (.ref a) => match M1 a with
    | some (.lst ds) => Q { items := ds, src := some (a, ds) } M1
    | _ => False
  | _ => False
def wiS (we : WE) : WI := fun δ M Q EX => we δ M (kiS Q) EX
theorem di_seq {tg : Expr} {we : WE} (h : DE G X e we) : DI G X tg e (wiS we) := by
  refine pi_imp (pi_seq h) fun σ H R ⟨F, M, δ, Q, EX, hm, rs, h, tk, f⟩ => ?_
  refine ⟨F, M, δ, _, EX, hm, rs, h, tk, fun v d F1 M1 H1 g1 r1 q => ?_⟩
  unfold kiS at q
  split at q
  · cases r1 with
    | tup h r => exact ⟨_, rfl, .inr ⟨⟨_, sqT_mono g1.hm.sub h⟩, f _ _ F1 M1 H1 g1 (walks_tup g1.hm (SqT.of h) r) q⟩⟩
  · cases r1 with
    | lst h r => exact ⟨_, rfl, .inl ⟨⟨_, SqL.of (g1.hm.sub _ _ h)⟩, f _ _ F1 M1 H1 g1 (walks_frz g1.hm (SqL.of h) r) q⟩⟩
  · cases r1 with
    | frl h r => exact ⟨_, rfl, .inl ⟨⟨_, g1.hm.sub.seq h⟩, f _ _ F1 M1 H1 g1 (walks_frz g1.hm h r) q⟩⟩
  · cases r1
    split at q
    · rename_i ds e
      obtain ⟨vs, h1, r⟩ := g1.hm.mo _ _ e
      exact ⟨_, rfl, .inl ⟨⟨_, SqL.of h1⟩, f _ _ F1 M1 H1 g1 walks_mut q⟩⟩
    · exact q.elim
  · exact q.elim
def enumL : Nat → List D → List D
  | _, [] => []
  | n, d :: ds => .tup [.int (n : Nat), d] :: enumL (n + 1) ds
theorem enumL_get : ∀ {ds : List D} {n i : Nat} {x : D}, (enumL n ds)[i]? = some x → ∃ d, ds[i]? = some d ∧ x = .tup [.int ((n + i : Nat)), d]
  | [], _, _, _, h => by simp [enumL] at h
  | d :: ds, n, 0, x, h => by
    simp only [enumL, List.getElem?_cons_zero, Option.some.injEq] at h
    exact ⟨d, rfl, h.symm⟩
  | d :: ds, n, i + 1, x, h => by
    simp only [enumL, List.getElem?_cons_succ] at h
    obtain ⟨d', e1, e2⟩ := enumL_get h
    exact ⟨d', by simpa using e1, by rw [e2]; congr 4; omega⟩
theorem enumL_len : ∀ (ds : List D) (n : Nat), (enumL n ds).length = ds.length
  | [], _ => rfl
  | d :: ds, n => congrArg Nat.succ (enumL_len ds (n + 1))
@[irreducible] def kiE (Q : IT → MM → Prop) (as : List D) (M1 : MM) : Prop := match as with
  | [.lst ds] => Q { items := enumL 0 ds } M1
  | [.frl ds] => Q { items := enumL 0 ds } M1
  | [.raw (.ref a)] => match M1 a with
    | some (.lst ds) => Q { items := enumL 0 ds, src := some (a, ds) } M1
    | _ => False
  | _ => False
def wiE (wa : WA) : WI := fun δ M Q EX => wa δ M (kiE Q) EX
theorem enum_step {K : PySem.W.Frag} {F' : Hp} {M' : MM} {H' : Hp} {a : Addr} {vs : List V} {ds : List D} {i : Nat} {d : D} (hm : HM G K F' M' H') (hs : SqL K H' a vs) (r : RepL G K F' vs ds) (e : (enumL 0 ds)[i]? = some d) :
    (Ite K a).go i H' ∧ ∀ x H'', (Ite K a).yld i H' x H'' → ∃ F'', Grow G K F' M' H' F'' M' H'' ∧ Rep G K F'' x d := by
  obtain ⟨d1, e1, rfl⟩ := enumL_get e
  obtain ⟨v, e2, r1⟩ := r.get e1
  refine ⟨⟨vs, v, hs, e2⟩, fun x H'' ⟨T, y, ex, nT, eH, yy⟩ => ?_⟩
  subst ex eH
  have e3 := yy vs hs
  rw [e2] at e3
  cases e3
  have g := hm.new (o := .tup [.int (i : Nat), v]) nT
  exact ⟨_, g, .tup upd_same (.cons (by rw [Nat.zero_add]; exact .int _) (.cons (r1.mono g.ext) .nil))⟩
theorem walksE_frz {K : PySem.W.Frag} {F : Hp} {M : MM} {H : Hp} {a : Addr} {vs : List V} {ds : List D} (hm : HM G K F M H) (h : SqL K F a vs) (r : RepL G K F vs ds) : Walks G K F M H (Ite K a) { items := enumL 0 ds } :=
  ⟨fun F' M' H' i d g st e => enum_step g.hm (g.hm.sub.seq (g.ext.seq h)) (r.mono g.ext) e, fun F' M' H' g st => ⟨vs, g.hm.sub.seq (g.ext.seq h), by show _ ≤ (enumL 0 ds).length; rw [enumL_len, r.len]; exact Nat.le_refl _⟩⟩
theorem walksE_mut {K : PySem.W.Frag} {F : Hp} {M : MM} {H : Hp} {a : Addr} {ds : List D} : Walks G K F M H (Ite K a) { items := enumL 0 ds, src := some (a, ds) } := by
  refine ⟨fun F' M' H' i d g st e => ?_, fun F' M' H' g st => ?_⟩
  · obtain ⟨vs, h1, r⟩ := g.hm.mo a _ st
    exact enum_step g.hm (SqL.of h1) r e
  · obtain ⟨vs, h1, r⟩ := g.hm.mo a _ st
    exact ⟨vs, SqL.of h1, by show _ ≤ (enumL 0 ds).length; rw [enumL_len, r.len]; exact Nat.le_refl _⟩
theorem di_enum {wa : WA} {p pos tpos : Pos} {elts : List Expr} {kk : Nat} (hm : X.mg "enumerate" = none) (ha : DA G X [e] wa) (hg : Gl X "enumerate" := by rfl) (hs : starEach [e] X.env = [(false, eval e X.env)] := by rfl) :
    DI G X (.Tuple elts kk tpos) (.Call (.Name "enumerate" p) [e] [] pos) (wiE wa) := by
  refine pi_imp (pi_enum hg hm ha hs) fun σ H R ⟨F, M, δ, Q, EX, hm, rs, h, tk, f⟩ => ?_
  refine ⟨F, M, δ, _, EX, hm, rs, h, tk, fun vs ds F1 M1 H1 g1 r1 q => ?_⟩
  unfold kiE at q
  split at q
  · obtain ⟨v, rfl, r2⟩ := one_rep r1
    cases r2 with
    | lst h r => exact ⟨_, _, rfl, SqL.of (g1.hm.sub _ _ h), f _ _ F1 M1 H1 g1 (walksE_frz g1.hm (SqL.of h) r) q⟩
  · obtain ⟨v, rfl, r2⟩ := one_rep r1
    cases r2 with
    | frl h r => exact ⟨_, _, rfl, g1.hm.sub.seq h, f _ _ F1 M1 H1 g1 (walksE_frz g1.hm h r) q⟩
  · obtain ⟨v, rfl, r2⟩ := one_rep r1
    cases r2
    split at q
    · rename_i ds e
      obtain ⟨vs, h1, r⟩ := g1.hm.mo _ _ e
      exact ⟨_, _, rfl, SqL.of h1, f _ _ F1 M1 H1 g1 walksE_mut q⟩
    · exact q.elim
  · exact q.elim

/-! ### operators that look at what they are given -/
def orR (r r' : R2) : R2 := fun x y H Q => r x y H Q ∨ r' x y H Q
theorem op_or {f : Value → Value → Sem Value} {r r' : R2} (a : OpR X f r) (b : OpR X f r') : OpR X f (orR r r') := fun pins s σ H x y v u Q I rx ry h => h.elim (a pins s σ H x y v u Q I rx ry) (b pins s σ H x y v u Q I rx ry)
theorem ix_or {r r' : R2} (a : IxR X r) (b : IxR X r') : IxR X (orR r r') := by
  intro va sl pins s σ H x y v u Q I rx ry h hs
  rcases h with h | h
  · exact a va sl pins s σ H x y v u Q I rx ry h hs
  · exact b va sl pins s σ H x y v u Q I rx ry h hs
def orW (w w' : WR2) : WR2 := fun x y M Q => w x y M Q ∨ w' x y M Q
/-- + of ints, of texts, of tuples, of lists -/
def wStrCat : WR2 := fun x y M Q => match x, y with
  | .str a, .str b => a.length + b.length ≤ sizeLine ∧ Q (.str (a ++ b)) M
  | _, _ => False
def wPlus : WR2 := fun x y M Q => match x, y with
  | .int i, .int j => Q (.int (i + j)) M
  | .str a, .str b => a.length + b.length ≤ sizeLine ∧ Q (.str (a ++ b)) M
  | .tup xs, .tup ys => xs.length + ys.length ≤ sizeLine ∧ Q (.tup (xs ++ ys)) M
  | x, y => wCat x y M Q
theorem sim_plus {K : PySem.W.Frag} : Sim2 G K (orR (rI0 fun i j => .int (i + j)) (orR (fun x y H Q => ∃ a b, x = .str a ∧ y = .str b ∧ a.length + b.length ≤ sizeLine ∧ Q (.str (a ++ b)) H) (orR (rCatA K) rCat))) wPlus := by
  intro F M H x y dx dy Q P hm rx ry w f
  unfold wPlus at w
  split at w
  · exact .inl (sim_I0 (g := fun i j => D.int (i + j)) int_rep F M H x y _ _ Q P hm rx ry w f)
  · cases rx; cases ry
    exact .inr (.inl ⟨_, _, rfl, rfl, w.1, f _ _ F M H (.refl hm) (.str _) w.2⟩)
  · exact .inr (.inr (.inl (sim_catT F M H x y _ _ Q P hm rx ry w f)))
  · exact .inr (.inr (.inr (sim_cat F M H x y _ _ Q P hm rx ry w f)))
/-- * of ints, of a list and an int -/
def wTimes : WR2 := fun x y M Q => match x, y with
  | .int i, .int j => (CMul i j ∨ i.natAbs.log2 + j.natAbs.log2 < 1000000) ∧ Q (.int (i * j)) M
  | .tup xs, .int k => (xs ≠ [] ∧ (2 ≤ k ∧ k ≤ 1000) ∧ xs.length ≤ 1000) ∧ Q (.tup (repL k xs)) M
  | x, y => wRep x y M Q
theorem sim_times {K : PySem.W.Frag} : Sim2 G K (orR (orR (rI CMul fun i j => .int (i * j)) (rI CMulW fun i j => .int (i * j))) (orR (rRepT K) rRep)) wTimes := by
  intro F M H x y dx dy Q P hm rx ry w f
  unfold wTimes at w
  split at w
  · cases rx; cases ry
    rcases w with ⟨w1 | w1, w⟩
    · exact .inl (.inl ⟨_, _, rfl, rfl, w1, f _ _ F M H (.refl hm) (.int _) w⟩)
    · exact .inl (.inr ⟨_, _, rfl, rfl, w1, f _ _ F M H (.refl hm) (.int _) w⟩)
  · rename_i xs k
    cases rx with
    | tup h r =>
      rename_i a vs
      cases ry
      refine .inr (.inl ⟨a, k, vs, rfl, rfl, sqT_mono hm.sub h, fun e => w.1.1 (r.nil_iff.mp e), w.1.2.1.1, w.1.2.1.2, by rw [r.len]; exact w.1.2.2, fun p hp => ?_⟩)
      have g := hm.new (o := .tup (List.replicate k.toNat vs).flatten) hp
      exact f _ _ _ _ _ g (.tup upd_same ((r.repL k).mono g.ext)) w.2
  · exact .inr (.inr (sim_rep F M H x y _ _ Q P hm rx ry w f))
/-- an item of a list or of a tuple -/
theorem sim_ix {K : PySem.W.Frag} : Sim2 G K (orR (rIxL K) (rIxT K)) wIx := by
  intro F M H x y dx dy Q P hm rx ry w f
  unfold wIx at w
  split at w
  · rename_i xs i e1
    split at w
    · rename_i d e2
      obtain ⟨a, vs, rfl, h1, r1⟩ := seqOf_rep hm rx e1
      cases ry
      obtain ⟨v, e3, r3⟩ := atD_rep r1 e2
      rcases h1 with h1 | h1
      · exact .inl ⟨a, vs, i, v, rfl, rfl, h1, e3, f _ _ F M H (.refl hm) r3 w⟩
      · exact .inr ⟨a, vs, i, v, rfl, rfl, h1, e3, f _ _ F M H (.refl hm) r3 w⟩
    · exact w.elim
  · exact w.elim
/-! ### slices -/
abbrev WO := DS → MM → (Option Int → MM → Prop) → XK' → Prop
def upO (G : Cfg) (X : Cx) (w : WO) : TO := fun σ H P => ∃ F M δ Q EX, HM G X.K F M H ∧ RS G X.K F σ δ ∧ w δ M Q EX ∧ Takes X (wX G X.K F M H EX) ∧ ∀ o F' M' H', Grow G X.K F M H F' M' H' → Q o M' → P o H'
abbrev DO (G : Cfg) (X : Cx) (e : Option Expr) (w : WO) : Prop := PO X e (upO G X w)
theorem po_imp {e : Option Expr} {t t' : TO} (h : PO X e t) (i : ∀ σ H P, t' σ H P → t σ H P) : PO X e t' := ⟨fun pins s σ H Q I q => h.run pins s σ H Q I (i σ H Q q)⟩
def woN : WO := fun _ M Q _ => Q none M
def woS (we : WE) : WO := fun δ M Q EX => we δ M (fun d M1 => match d with
  | .int i => Q (some i) M1
  | _ => False) EX
theorem do_none : DO G X none woN := po_imp po_none fun σ H P ⟨F, M, δ, Q, EX, hm, rs, h, tk, f⟩ => f none F M H (.refl hm) h
theorem do_some {we : WE} (h : DE G X e we) : DO G X (some e) (woS we) := by
  refine po_imp (po_some h) fun σ H P ⟨F, M, δ, Q, EX, hm, rs, h, tk, f⟩ => ?_
  refine ⟨F, M, δ, _, EX, hm, rs, h, tk, fun v d F1 M1 H1 g r q => ?_⟩
  try dsimp only at q
  split at q
  · cases r; exact ⟨_, rfl, f _ F1 M1 H1 g q⟩
  · exact q.elim
def cutD (xs : List D) (lo hi : Option Int) : List D := (xs.drop (HT.sIx xs.length 0 lo)).take (HT.sIx xs.length xs.length hi - HT.sIx xs.length 0 lo)
theorem cut_rep {K : PySem.W.Frag} {F : Hp} {vs : List V} {ds : List D} (r : RepL G K F vs ds) (lo hi : Option Int) : RepL G K F (cutV vs lo hi) (cutD ds lo hi) := by
  unfold cutV cutD
  rw [r.len]
  exact (r.drop _).take _
@[irreducible] def kCut (Q : D → MM → Prop) (d : D) (lo hi : Option Int) (M3 : MM) : Prop := match d with
  | .tup xs => Q (.tup (cutD xs lo hi)) M3
  | d => match lstOf M3 d with
    | some xs => Q (.lst (cutD xs lo hi)) M3
    | none => False
def wCut (wo : WE) (wl wh : WO) : WE := fun δ M Q EX => wo δ M (fun d M1 => wl δ M1 (fun lo M2 => wh δ M2 (fun hi M3 => kCut Q d lo hi M3) EX) EX) EX
abbrev rSlX (K : PySem.W.Frag) : V → Option Int → Option Int → Hp → VK → Prop := fun x lo hi H Q => rSlL K x lo hi H Q ∨ rSlA K x lo hi H Q
theorem sl_X : SlR X (rSlX X.K) := SlR.or sl_list sl_tupA
theorem de_cut {wo : WE} {wl wh : WO} {lo hi : Option Expr} {pos p2 : Pos} (he : DE G X e wo) (hl : DO G X lo wl) (hu : DO G X hi wh) : DE G X (.Subscript e (.Slice lo hi none p2) pos) (wCut wo wl wh) := by
  refine pe_imp (pe_slice sl_X he hl hu) fun σ H P ⟨F, M, δ, Q, EX, hm, rs, h, tk, f⟩ => ?_
  refine ⟨F, M, δ, _, EX, hm, rs, h, tk, fun v d F1 M1 H1 g1 r1 h1 => ?_⟩
  refine ⟨F1, M1, δ, _, EX, g1.hm, rs.mono g1.ext, h1, tk.imp (wX_mono g1), fun l F2 M2 H2 g2 h2 => ?_⟩
  have g12 := g1.trans g2
  refine ⟨F2, M2, δ, _, EX, g2.hm, rs.mono g12.ext, h2, tk.imp (wX_mono g12), fun u F3 M3 H3 g3 h3 => ?_⟩
  have g123 := g12.trans g3
  have r3 := r1.mono (g2.trans g3).ext
  try dsimp only at h3
  unfold kCut at h3
  split at h3
  · rename_i xs
    cases r3 with
    | tup ht r =>
      rename_i a vs
      refine .inr ⟨a, vs, rfl, sqT_mono g3.hm.sub ht, fun hw => ?_, fun _ p hp => ?_⟩
      · have e : cutD xs l u = xs := by
          unfold cutD
          rw [← r.len, hw.1, hw.2, List.drop_zero, Nat.sub_zero, r.len, List.take_length]
        rw [e] at h3
        exact f _ _ F3 M3 H3 g123 (.tup ht r) h3
      · have g := g3.hm.new (o := .tup (cutV vs l u)) hp
        exact f _ _ _ _ _ (g123.trans g) (.tup upd_same ((cut_rep r l u).mono g.ext)) h3
  · rename_i d' _
    split at h3
    · rename_i xs ex
      obtain ⟨a, vs, rfl, hz, r⟩ := lstOf_rep g3.hm r3 ex
      refine .inl ⟨a, vs, rfl, SqL.of hz, fun p hp => ?_⟩
      have g := g3.hm.new (o := .lst (cutV vs l u)) hp
      exact f _ _ _ _ _ (g123.trans g) (.lst upd_same ((cut_rep r l u).mono g.ext)) h3
    · exact h3.elim
/-! ### constants of the module, of a class -/
theorem de_glob {x : Str} {i : Int} {pos} (hm : ∃ t, X.mg x = some (.int i t)) (hg : Gl X x := by rfl) (hd : (x == ("__debug__" : Str)) = false := by decide) : DE G X (.Name x pos) (wC (.int i)) := by
  obtain ⟨t, hm⟩ := hm
  exact pe_imp (pe_glob (v := .int i) hg hm ⟨t, rfl⟩ hd) (up_c fun _ _ => .int i)
def wNeg (we : WE) : WE := fun δ M Q EX => we δ M (fun d M1 => match d with
  | .int i => Q (.int (-i)) M1
  | _ => False) EX
theorem de_neg {we : WE} {pos} (h : DE G X e we) : DE G X (.UnaryOp .USub e pos) (wNeg we) := by
  refine pe_imp (pe_un un_neg h) fun σ H P ⟨F, M, δ, Q, EX, hm, rs, h, tk, f⟩ => ?_
  refine ⟨F, M, δ, _, EX, hm, rs, h, tk, fun v d F1 M1 H1 g r q => ?_⟩
  try dsimp only at q
  split at q
  · cases r; exact ⟨_, rfl, f _ _ F1 M1 H1 g (.int _) q⟩
  · exact q.elim
end
end DL

set_option Elab.async false
set_option linter.all false
set_option maxRecDepth 100000
namespace DL
open PySem PySem.Spec L2
open PyProof.Rows hiding St

section
variable {G : Cfg} {X : Cx} {e o i value : Expr}
/-! ### {k: v, ..}, the keys written -/
def wDct (ks : List Key) (wa : WA) : WE := fun δ M Q EX => wa δ M (fun ds M1 => ds.length = ks.length ∧ ds.length ≤ 15 ∧ Q (.dct (ks.zip ds)) M1) EX
def wDctM (ks : List Key) (wa : WA) : WE := fun δ M Q EX => wa δ M (fun ds M1 => ds.length = ks.length ∧ ds.length ≤ 15 ∧ ∀ p, M1 p = none → Q (.raw (.ref p)) (updM M1 p (.dct (ks.zip ds)))) EX
/-- the values of a display, its written keys beside them -/
structure DP (G : Cfg) (X : Cx) (pos : Pos) (keys : List (Option Expr)) (values : List Expr) (ks : List Key) (wa : WA) : Prop where
  ex : ∃ trs, PPs X pos keys values trs ∧ ∀ (σ : St) (H : Hp) (F : Hp) (M : MM) (δ : DS) (Q : List D → MM → Prop) (EX : XK') (P : List (V × V) → Hp → Prop), HM G X.K F M H → RS G X.K F σ δ → wa δ M Q EX → Takes X (wX G X.K F M H EX) →
    (∀ vs ds F' M' H', Grow G X.K F M H F' M' H' → vs.length = ks.length → RepL G X.K F' vs ds → Q ds M' → P ((ks.zip vs).map fun q => (kV q.1, q.2)) H') → tPairs trs σ H P
theorem dp_nil {pos : Pos} : DP G X pos [] [] [] wNil := ⟨[], pps_nil, fun σ H F M δ Q EX P hm rs h tk f => f [] [] F M H (.refl hm) rfl .nil h⟩
theorem dp_cons {pos kp : Pos} {v : Expr} {keys : List (Option Expr)} {values : List Expr} {ks : List Key} {wv : WE} {wr : WA} {k : Key} {c : Const} {j : Nat} (hk : PE X (.Constant c j kp) (tC (kV k))) (hv : DE G X v wv) (hr : DP G X pos keys values ks wr) :
    DP G X pos (some (.Constant c j kp) :: keys) (v :: values) (k :: ks) (wCons wv wr) := by
  obtain ⟨trs, hp, hs⟩ := hr
  refine ⟨_, pps_cons hk hv hp, fun σ H F M δ Q EX P hm rs h tk f => ?_⟩
  show up G X wv σ H _
  refine ⟨F, M, δ, _, EX, hm, rs, h, tk, fun x d F1 M1 H1 g1 r1 h1 => ?_⟩
  refine hs σ H1 F1 M1 δ _ EX _ g1.hm (rs.mono g1.ext) h1 (tk.imp (wX_mono g1)) fun vs ds F2 M2 H2 g2 l2 r2 q => ?_
  exact f (x :: vs) (d :: ds) F2 M2 H2 (g1.trans g2) (congrArg Nat.succ l2) (.cons (r1.mono g2.ext) r2) q
theorem zip_repK {K : PySem.W.Frag} {F : Hp} : ∀ {ks : List Key} {vs : List V} {ds : List D}, RepL G K F vs ds → RepK G K F (ks.zip vs) (ks.zip ds)
  | [], _, _, _ => .nil
  | k :: ks, _, _, .nil => .nil
  | k :: ks, _, _, .cons r t => .cons r (zip_repK t)
theorem putK_end {kvs : List (Key × V)} {k : Key} {v : V} (h : k ∉ kvs.map (·.1)) : putK kvs k v = kvs ++ [(k, v)] := by
  unfold putK
  rw [if_neg]
  intro h2
  obtain ⟨q, hq, e⟩ := List.any_eq_true.mp h2
  have e' : q.1 = k := by simpa using e
  exact h (by rw [← e']; exact List.mem_map_of_mem hq)
theorem merge_end : ∀ {more kvs : List (Key × V)}, (kvs.map (·.1) ++ more.map (·.1)).Nodup → mergeK kvs more = kvs ++ more
  | [], kvs, _ => by unfold mergeK; simp
  | (k, v) :: more, kvs, h => by
    have nk : k ∉ kvs.map (·.1) := by
      intro hm
      rw [List.map_cons, List.nodup_append] at h
      exact h.2.2 k hm k List.mem_cons_self rfl
    have ih := merge_end (more := more) (kvs := kvs ++ [(k, v)]) (by
      rw [List.map_append, List.append_assoc]
      exact h)
    unfold mergeK at ih ⊢
    rw [List.foldl_cons, putK_end nk, ih, List.append_assoc]
    rfl
theorem map_zip_fst : ∀ {ks : List Key} {vs : List V}, ks.length = vs.length → (ks.zip vs).map (·.1) = ks
  | [], [], _ => rfl
  | k :: ks, v :: vs, h => by
    rw [List.zip_cons_cons, List.map_cons, map_zip_fst (Nat.succ.inj h)]
  | [], _ :: _, h => by cases h
  | _ :: _, [], h => by cases h
theorem disp_up {ks : List Key} {wa : WA} {trs : List (TE × TE)} {fin : (D → MM → Prop) → List D → MM → Prop} (hnd : ks.Nodup)
    (hs : ∀ (σ : St) (H : Hp) (F : Hp) (M : MM) (δ : DS) (Q : List D → MM → Prop) (EX : XK') (P : List (V × V) → Hp → Prop), HM G X.K F M H → RS G X.K F σ δ → wa δ M Q EX → Takes X (wX G X.K F M H EX) →
      (∀ vs ds F' M' H', Grow G X.K F M H F' M' H' → vs.length = ks.length → RepL G X.K F' vs ds → Q ds M' → P ((ks.zip vs).map fun q => (kV q.1, q.2)) H') → tPairs trs σ H P)
    (hfin : ∀ {F M H Q P F2 M2 H2 p ds vs}, Fin G X.K F M H Q P → Grow G X.K F M H F2 M2 H2 → H p = none → F2 p = none → M2 p = none → RepK G X.K F2 (ks.zip vs) (ks.zip ds) → fin Q ds M2 → P (.ref p) (upd H2 p (.dK (ks.zip vs))))
    (σ : St) (H : Hp) (P : VK) (h : up G X (fun δ M Q EX => wa δ M (fun ds M1 => ds.length = ks.length ∧ ds.length ≤ 15 ∧ fin Q ds M1) EX) σ H P) : tDisp trs σ H P := by
  obtain ⟨F, M, δ, Q, EX, hm, rs, h, tk, f⟩ := h
  intro p hp
  have nf := (hm.free hp).1
  have nm := (hm.free hp).2
  have g0 : Grow G X.K F M H F M (upd H p (.dK [])) := (Grow.refl hm).side hp nf nm
  refine hs σ _ F M δ _ EX _ g0.hm rs h (tk.imp (wX_mono g0)) fun vs ds F2 M2 H2 g2 lv r2 q => ?_
  obtain ⟨l1, l2, q⟩ := q
  obtain ⟨hp2, nf2, nm2⟩ := g2.keep p _ upd_same nf nm
  refine ⟨hp2, ks.zip vs, rfl, ?_, ?_⟩
  · rw [List.length_zip, lv, Nat.min_self]
    omega
  · have e : mergeK [] (ks.zip vs) = ks.zip vs := by
      rw [merge_end (kvs := []) (by rw [List.map_nil, List.nil_append, map_zip_fst lv.symm]; exact hnd)]
      rfl
    rw [e]
    exact hfin f (g0.trans g2) hp nf2 nm2 (zip_repK r2) q
theorem de_dct {pos : Pos} {keys : List (Option Expr)} {values : List Expr} {ks : List Key} {wa : WA} (h : DP G X pos keys values ks wa) (hnd : ks.Nodup := by decide) (hall : keys.all (·.isSome) = true := by rfl) (hl : keys.length = values.length := by rfl) (h0 : keys ≠ [] := by (intro z; cases z)) (h15 : keys.length ≤ 15 := by decide) :
    DE G X (.Dict keys values pos) (wDct ks wa) := by
  obtain ⟨trs, hp, hs⟩ := h
  refine pe_imp (pe_disp hp hall hl h0 h15) (disp_up (fin := fun Q ds M1 => Q (.dct (ks.zip ds)) M1) hnd hs ?_)
  intro F M H Q P F2 M2 H2 p ds vs f g np nf nm r q
  have g2 := g.side (u := .dK (ks.zip vs)) np nf nm
  obtain ⟨hm, s1⟩ := g2.hm.adopt upd_same nf nm
  refine f _ _ (upd F2 p (.dK (ks.zip vs))) M2 _ ⟨hm, g2.ext.trans s1, fun b u e fb mb => ?_, g2.tab0⟩ (.dct upd_same (r.mono s1)) q
  have z : b ≠ p := fun z => by subst z; rw [np] at e; cases e
  rcases g2.kept b u e fb mb with ⟨t, ps, h1, h2, h3⟩ | ⟨h1, h2, h3⟩
  · exact .inl ⟨t, ps, h1, by rw [upd_ne z]; exact h2, h3⟩
  exact .inr ⟨h1, by rw [upd_ne z]; exact h2, h3⟩
theorem de_dctM {pos : Pos} {keys : List (Option Expr)} {values : List Expr} {ks : List Key} {wa : WA} (h : DP G X pos keys values ks wa) (hnd : ks.Nodup := by decide) (hall : keys.all (·.isSome) = true := by rfl) (hl : keys.length = values.length := by rfl) (h0 : keys ≠ [] := by (intro z; cases z)) (h15 : keys.length ≤ 15 := by decide) :
    DE G X (.Dict keys values pos) (wDctM ks wa) := by
  obtain ⟨trs, hp, hs⟩ := h
  refine pe_imp (pe_disp hp hall hl h0 h15) (disp_up (fin := fun Q ds M1 => ∀ p, M1 p = none → Q (.raw (.ref p)) (updM M1 p (.dct (ks.zip ds)))) hnd hs ?_)
  intro F M H Q P F2 M2 H2 p ds vs f g np nf nm r q
  have g2 := g.side (u := .dK (ks.zip vs)) np nf nm
  have hm := g2.hm.adoptM (p := p) (m := .dct (ks.zip ds)) ⟨_, upd_same, r⟩ nf nm
  refine f _ _ F2 (updM M2 p (.dct (ks.zip ds))) _ ⟨hm, g2.ext, fun b u e fb mb => ?_, g2.tab0⟩ (.raw _) (q p nm)
  have z : b ≠ p := fun z => by subst z; rw [np] at e; cases e
  rcases g2.kept b u e fb mb with ⟨t, ps, h1, h2, h3⟩ | ⟨h1, h2, h3⟩
  · exact .inl ⟨t, ps, h1, h2, by rw [updM_ne z]; exact h3⟩
  exact .inr ⟨h1, h2, by rw [updM_ne z]; exact h3⟩

/-! ### a def of the text, called by its name -/
/-- what the text has of the def x -/
structure Gd (K : PySem.W.Frag) (mg : Str → Option Value) (x : Str) (st : Stmt) (f : Addr) (ps : List Str) : Prop where
  gl : mg x = some (.ref f)
  ex : ∃ fd, Fun K x x st f fd ∧ Binds K fd ps []
/-- it keeps its promise -/
structure OkG (P : Program) (w : World) (K : PySem.W.Frag) (mg : Str → Option Value) (base : Heap) (gd : Bool) (k : Nat) (x : Str) (ps : List Str) (sp : Sp) : Prop where
  ex : ∃ f fd, mg x = some (.ref f) ∧ PySem.W.keepIn K (.ref f) = true ∧ Binds K fd ps [] ∧ FnG P w K mg base gd k f fd ps sp
theorem okG {P : Program} {w : World} {K : PySem.W.Frag} {mg : Str → Option Value} {base : Heap} {gd : Bool} {x : Str} {st : Stmt} {f : Addr} {N ps : List Str} {k : Nat} {wb : WS} (g : Gd K mg x st f ps) (S : FnScope N ps (defScope st))
    (hb : ∀ (cdv : Value) (A : Around) (out : List Env) (s : Shared) (H : Hp) (E : XK), Room k (A.deeper (envOfC x (defScope st) s.heap.objs.size f cdv)) → (gd = true → (A.deeper (envOfC x (defScope st) s.heap.objs.size f cdv)).guards = some []) → DSs G (cxOf (L2.CX P w) P w K mg base N x (defScope st) f cdv A out s H E) (defBody st) wb) :
    OkG P w K mg base gd (k + 1) x ps (lift G K (spOf ps.length N.length wb)) := by
  obtain ⟨gl, fd, F, b⟩ := g
  exact ⟨f, fd, gl, F.kp, b, okD F S hb⟩
theorem nog {p : Prop} (h : false = true) : p := nomatch h
variable {gd : Bool} {k : Nat} {sp : SpD} {x : Str} {p pos apos : Pos} {es : List Expr} {wa : WA} {ps : List Str}
theorem de_f (g : OkG X.prog X.w X.K X.mg X.base gd k x ps (lift G X.K sp)) (hr : Room k X.A) (hgd : gd = true → X.A.guards = some []) (ha : DA G X (e :: es) wa) (hg : Gl X x := by rfl) (hdb : (x == ("__debug__" : Str)) = false := by decide) (he : starEach (e :: es) X.env = (false, eval e X.env) :: starEach es X.env := by rfl) (hpl : (backTo pos (starEach es X.env)).any (·.1) = false := by rfl) :
    DE G X (.Call (.Name x p) (e :: es) [] pos) (wCall sp [] wa) := by
  obtain ⟨f, fd, gl, kp, b, F⟩ := g
  exact de_call F hr hgd gl kp b .nil Flat.nil ha hg hdb he hpl
theorem de_f0 (g : OkG X.prog X.w X.K X.mg X.base gd k x ps (lift G X.K sp)) (hr : Room k X.A) (hgd : gd = true → X.A.guards = some []) (hg : Gl X x := by rfl) (hdb : (x == ("__debug__" : Str)) = false := by decide) : DE G X (.Call (.Name x p) [] [] pos) (wCall sp [] wNil) := by
  obtain ⟨f, fd, gl, kp, b, F⟩ := g
  exact de_call0 F hr hgd gl kp b .nil Flat.nil hg hdb
end
end DL

set_option Elab.async false
set_option linter.all false
set_option maxRecDepth 100000
/-! t[::-1] of a tuple -/
namespace DLR
open PySem PySem.Spec PyProof.Rows L2 PySem.Builtin
section
variable {prog : Program} {w : World} {A : Around} {E : Value → Shared → Prop} {s : Shared}
theorem places_rev (n : Nat) : Builtin.Slice.slicePlaces ((n : Int) - 1) (-1) (-1) = n := by
  unfold Builtin.Slice.slicePlaces
  have h1 : ¬ ((-1 : Int) > 0) := by omega
  simp only [h1, if_false]
  by_cases h : n = 0
  · subst h; rfl
  · have h2 : (n : Int) - 1 > -1 := by omega
    simp only [h2, if_true]
    have e : (-(-1) : Int) = 1 := rfl
    rw [e, Int.ediv_one]
    omega
theorem sliceApplied_rev {sl : Addr} {vl vu vs : Value} {n : Nat} {Q : Int × Int × Nat → Shared → Prop} (hs : s.heap.IsSliceOf sl vl vu vs) (pl : IsPart vl none) (pu : IsPart vu none) (ps : IsPart vs (some (-1)))
    (h : Q ((n : Int) - 1, -1, n) s) : wpAny (model prog w) A (Builtin.Slice.sliceApplied (.ref sl) (pure (n : Int))) Q E s := by
  obtain ⟨os, hos, hcs, hds⟩ := id hs
  unfold Builtin.Slice.sliceApplied Builtin.Slice.sliceFields
  refine wpAny_bind (wpAny_bind (wpAny_field hos hds (x := vl) rfl (wpAny_bind (wpAny_field hos hds (x := vu) rfl (wpAny_bind (wpAny_field hos hds (x := vs) rfl (wpAny_pure ?_)))))))
  refine wpAny_bind (HT.slicePart_ ps ?_)
  show wpAny _ _ (if ((-1 : Int) == 0) = true then _ else _) _ _ s
  rw [if_neg (by decide)]
  refine wpAny_bind (HT.slicePart_ pl (wpAny_bind (HT.slicePart_ pu (wpAny_bind (wpAny_pure ?_)))))
  have e : Builtin.Slice.sliceAdjust none none (-1) (n : Int) = ((n : Int) - 1, -1) := by
    unfold Builtin.Slice.sliceAdjust
    rfl
  show wpAny _ _ (match Builtin.Slice.sliceAdjust none none (-1) (n : Int) with | (lo, hi) => pure (lo, (-1 : Int), Builtin.Slice.slicePlaces lo hi (-1))) _ _ s
  rw [e]
  show wpAny _ _ (pure ((n : Int) - 1, (-1 : Int), Builtin.Slice.slicePlaces ((n : Int) - 1) (-1) (-1))) _ _ s
  rw [places_rev]
  exact wpAny_pure h
theorem pick_rev (xs : Array Value) : ((List.range xs.size).filterMap fun (m : Nat) => xs[(((xs.size : Int) - 1) + (m : Int) * (-1)).toNat]?).toArray = xs.toList.reverse.toArray := by
  congr 1
  have key : ∀ m ∈ List.range xs.size, xs[(((xs.size : Int) - 1) + (m : Int) * (-1)).toNat]? = some (xs.toList.reverse.getD m .none) := by
    intro m hm
    have hm := List.mem_range.mp hm
    have e : (((xs.size : Int) - 1) + (m : Int) * (-1)).toNat = xs.size - 1 - m := by omega
    rw [e, List.getD_eq_getElem?_getD, List.getElem?_reverse (by simpa using hm)]
    rw [Array.length_toList, Array.getElem?_toList, Array.getElem?_eq_getElem (by omega)]
    rfl
  have fm : ∀ {l : List Nat} {f : Nat → Option Value} {g : Nat → Value}, (∀ m ∈ l, f m = some (g m)) → l.filterMap f = l.map g := by
    intro l f g
    induction l with
    | nil => intro _; rfl
    | cons a l ih =>
      intro h
      rw [List.filterMap_cons, h a List.mem_cons_self, List.map_cons, ih fun m hm => h m (List.mem_cons_of_mem _ hm)]
  rw [fm key]
  apply List.ext_getElem
  · simp
  · intro i h1 h2
    rw [List.getElem_map, List.getElem_range, List.getD_eq_getElem?_getD, List.getElem?_eq_getElem h2]
    rfl
theorem getItem_tuple_rev {t sl : Addr} {items : Array Value} {vl vu vs : Value} {Q : Value → Shared → Prop} (ht : IsTup s.heap t items) (hs : s.heap.IsSliceOf sl vl vu vs) (pl : IsPart vl none) (pu : IsPart vu none) (ps : IsPart vs (some (-1)))
    (h : Q (.ref s.heap.objs.size) { s with heap := s.heap.push { cls := .type "tuple", data := .seq items.toList.reverse.toArray } })
    (hsz : items.size ≤ sizeLine) : wpAny (model prog w) A (getItem (.ref t) (.ref sl)) Q E s := by
  have htake : sizeOk (.seq items.toList.reverse.toArray) := by
    show items.toList.reverse.toArray.size ≤ sizeLine
    rw [List.size_toArray, List.length_reverse, Array.length_toList]
    omega
  obtain ⟨os, hos, hcs, hds⟩ := id hs
  have hTs : s.TypeIs (.ref sl) "slice" := ⟨os, hos, hcs⟩
  unfold getItem
  try with_reducible refine wpAny_holding ?_
  first | refine wpAny_bind (wpAny_pure ?_) | skip
  refine wpAny_bind (wpAny_sequenceKey ht.typeIs (by decide) ?_)
  refine wpAny_bind (wpAny_callSpecial?_slot (name := Str.ofString "__getitem__") ht.typeIs PyProof.Rows.slot_tuple_getitem
    (wpAny_call_entry PyProof.Rows.slot_tuple_getitem ht.typeIs entry_tuple_getitem ?_ (args_tuple_getitem _ _)))
  show wpAny _ _ (Builtin.Tuple.tupleItemsOf (.ref t) >>= _) _ _ s
  refine wpAny_bind (tupleItemsOf_ ht ?_)
  refine wpAny_bind (wpAny_typeOf hTs ?_)
  rw [if_pos (by decide)]
  refine wpAny_bind (sliceApplied_rev hs pl pu ps ?_)
  have hno : ¬ (((((items.size : Nat) : Int) - 1) == 0 && (-1 : Int) == 1 && items.size == items.size) = true) := by
    intro q
    rw [Bool.and_eq_true, Bool.and_eq_true] at q
    exact absurd q.1.2 (by decide)
  show wpAny _ _ (if ((((items.size : Nat) : Int) - 1) == 0 && (-1 : Int) == 1 && items.size == items.size) = true then _ else _) _ _ s
  rw [if_neg hno, pick_rev]
  first
    | exact wpAny_bind (m := Builtin.Tuple.tupleExact _) (wpAny_newObj_type (wpAny_pure ⟨_, rfl, wpAny_pure h⟩) htake)
    | exact wpAny_bind (m := Builtin.Tuple.tupleExact _) (wpAny_newObj_type (wpAny_bind (wpAny_pure (wpAny_pure ⟨_, rfl, wpAny_pure h⟩))) htake)
    | exact wpAny_bind (wpAny_bind (m := Builtin.Tuple.tupleExact _) (wpAny_newObj_type (wpAny_pure (wpAny_pure ⟨_, rfl, wpAny_pure h⟩)) htake))
    | exact wpAny_bind (wpAny_bind (m := Builtin.Tuple.tupleExact _) (wpAny_newObj_type (wpAny_pure ⟨_, rfl, wpAny_pure h⟩) htake))
end
end DLR
namespace DLR
open PySem PySem.Spec PyProof.Rows L2
/-- xs[::-1], t[::-1] -/
def tRevA (K : PySem.W.Frag) (te : TE) : TE := fun σ H Q => te σ H fun x H1 => (∃ a xs, x = .ref a ∧ SqL K H1 a xs ∧ ∀ p, H1 p = none → Q (.ref p) (upd H1 p (.lst xs.reverse))) ∨ (∃ a xs, x = .ref a ∧ SqT K H1 a xs ∧ ∀ p, H1 p = none → Q (.ref p) (upd H1 p (.tup xs.reverse)))
section
variable {X : Cx}
theorem pe_revA {e : Expr} {te : TE} {k : Nat} {p1 p2 p3 pos : Pos} (he : PE X e te) : PE X (.Subscript e (.Slice none none (some (.UnaryOp .USub (.Constant (.int 1) k p1) p2)) p3) pos) (tRevA X.K te) := by
  refine ⟨fun pins s σ H Q I h => ?_⟩
  refine Subscript_ (thn (he.run pins s σ H _ I h) fun v s1 ⟨x, H1, I1, r1, q1⟩ => ?_)
  have hst : PO X (some (.UnaryOp .USub (.Constant (.int 1) k p1) p2)) (tPart (tUn (rU fun i => .int (-i)) (tC (.int 1)))) := po_some (pe_un un_neg pe_int)
  refine wpAny_Slice (thn (po_none.run pins s1 σ H1 (fun o H2 => o = none ∧ H2 = H1) I1 ⟨rfl, rfl⟩) fun vl s2 ⟨l, H2, I2, pl, el, e2⟩ => ?_)
  subst el e2
  refine thn (po_none.run pins s2 σ H2 (fun o H3 => o = none ∧ H3 = H2) I2 ⟨rfl, rfl⟩) fun vu s3 ⟨u, H3, I3, pu, eu, e3⟩ => ?_
  subst eu e3
  refine thn (hst.run pins s3 σ H3 (fun o H4 => o = some (-1) ∧ H4 = H3) I3 ⟨1, rfl, -1, rfl, rfl, rfl⟩) fun vs s4 ⟨o, H4, I4, ps, eo, e4⟩ => ?_
  subst eo e4
  have I5 : Inv X pins σ H4 { s4 with heap := s4.heap.push { cls := .type "slice", data := .fields #[vl, vu, vs] } } := I4.kept (t' := s4.toks) fun b ob q => Heap.get?_push_of_some _ q
  rcases q1 with ⟨a, xs, ex, hx, q⟩ | ⟨a, xs, ex, hx, q⟩
  · subst ex
    cases r1
    obtain ⟨its, r, ht, hz⟩ := I5.list hx
    have hlen := r.length
    show wpAny (model X.prog X.w) X.A (subscriptTail e (.Slice none none (some (.UnaryOp .USub (.Constant (.int 1) k p1) p2)) p3) (.ref a) (.ref s4.heap.objs.size)) (EP X pins σ Q) X.xe { s4 with heap := s4.heap.push { cls := .type "slice", data := .fields #[vl, vu, vs] } }
    refine tail_any (ops := [.ref a, .ref s4.heap.objs.size]) ht.isList.typeIs (PySem.slot_list_getitem.lookup) ?_ (by with_unfolding_all rfl)
    refine wpAny_getItem_list_slice ht.isList (Heap.IsSliceOf.new _ vl vu vs) pl pu ps (by decide) ?_ (by rw [List.size_toArray]; omega)
    rw [PySem.W.krv_pick]
    refine ⟨.ref _, _, I5.laid (t' := s4.toks) (o := .lst xs.reverse) (fun b ob q => Heap.get?_push_of_some _ q) (Nat.le_refl _) ?_, rfl, q _ (I5.hok.fresh (Nat.le_refl _))⟩
    exact ⟨by rw [List.length_reverse]; exact hz, _, 0, r.reverse, Heap.get?_push_size _ rfl⟩
  · subst ex
    cases r1
    obtain ⟨its, r, ht, hz⟩ := I5.tuple hx
    have hlen := r.length
    show wpAny (model X.prog X.w) X.A (subscriptTail e (.Slice none none (some (.UnaryOp .USub (.Constant (.int 1) k p1) p2)) p3) (.ref a) (.ref s4.heap.objs.size)) (EP X pins σ Q) X.xe { s4 with heap := s4.heap.push { cls := .type "slice", data := .fields #[vl, vu, vs] } }
    refine tail_any (ops := [.ref a, .ref s4.heap.objs.size]) ht.typeIs (PyProof.Rows.slot_tuple_getitem.lookup) ?_ (by with_unfolding_all rfl)
    refine getItem_tuple_rev ht (Heap.IsSliceOf.new _ vl vu vs) pl pu ps ?_ (by rw [List.size_toArray]; omega)
    refine ⟨.ref _, _, I5.laid (t' := s4.toks) (o := .tup xs.reverse) (fun b ob q => Heap.get?_push_of_some _ q) (Nat.le_refl _) ?_, rfl, q _ (I5.hok.fresh (Nat.le_refl _))⟩
    exact ⟨by rw [List.length_reverse]; omega, _, by simpa using r.reverse, IsTup.new _ _⟩
end
end DLR

set_option Elab.async false
set_option linter.all false
set_option maxRecDepth 100000
namespace DL
open PySem PySem.Spec L2
open PyProof.Rows hiding St

section
variable {G : Cfg} {X : Cx} {e o i value : Expr}
theorem ds_par (i j : Nat) {x y : Str} {a b : Expr} {wa : WA} {px py pt pos : Pos} {kt k2 pt2} (hN : X.N.Nodup) (ha : DA G X [a, b] wa) (hc : X.calm = true := by rfl) (hi : X.N[i]? = some x := by rfl) (hj : X.N[j]? = some y := by rfl) (hij : i ≠ j := by decide)
    (hx : X.env.scope.names.lookup x = some .local := by rfl) (hy : X.env.scope.names.lookup y = some .local := by rfl)
    (hw : swappedStores [.Tuple [.Name x px, .Name y py] kt pt] (.Tuple [a, b] k2 pt2) X.env = pure (some [x, y]) := by rfl)
    (hs : swapsWithSole [.Tuple [.Name x px, .Name y py] kt pt] (.Tuple [a, b] k2 pt2) pos.line X.env = pure false := by rfl) :
    DSt G X (.Assign [.Tuple [.Name x px, .Name y py] kt pt] (.Tuple [a, b] k2 pt2) pos) (wPar i j wa) := ps_imp (ps_par hc hN hi hj hij hx hy ha hw hs) up_par
/-- list(range(..)) -/
def rgD (a b : Int) : List D := (List.range (b - a).toNat).map fun i => D.int (a + (i : Nat))
theorem rg_rep {K : PySem.W.Frag} {F : Hp} (a b : Int) : RepL G K F (rgV a b) (rgD a b) := by
  unfold rgV rgD
  generalize List.range (b - a).toNat = l
  induction l with
  | nil => exact .nil
  | cons n l ih => exact .cons (.int _) ih
def wLRg (wa : WA) : WE := fun δ M Q EX => wa δ M (fun ds M1 => match ds with
  | [.int n] => RgOk 0 n ∧ Q (.lst (rgD 0 n)) M1
  | [.int a, .int b] => RgOk a b ∧ Q (.lst (rgD a b)) M1
  | _ => False) EX
def wLRgM (wa : WA) : WE := fun δ M Q EX => wa δ M (fun ds M1 => match ds with
  | [.int n] => RgOk 0 n ∧ ∀ p, M1 p = none → Q (.raw (.ref p)) (updM M1 p (.lst (rgD 0 n)))
  | [.int a, .int b] => RgOk a b ∧ ∀ p, M1 p = none → Q (.raw (.ref p)) (updM M1 p (.lst (rgD a b)))
  | _ => False) EX
variable {p pos p2 pos2 : Pos} {a b : Expr} {wa wb : WE}
theorem de_lrg1 (hl : X.mg "list" = none) (hr : X.mg "range" = none) (ha : DE G X a wa) (hc : X.calm = true := by rfl) (g1 : Gl X "list" := by rfl) (g2 : Gl X "range" := by rfl) (na : starEach [a] X.env = (false, eval a X.env) :: starEach [] X.env := by rfl)
    (nb : starEach [.Call (.Name "range" p) [a] [] pos] X.env = (false, eval (.Call (.Name "range" p) [a] [] pos) X.env) :: starEach [] X.env := by rfl) : DE G X (.Call (.Name "list" p2) [.Call (.Name "range" p) [a] [] pos] [] pos2) (wLRg (wCons wa wNil)) := by
  refine pe_imp (pe_listRg hc g1 hl (prg_1 g2 hr ha na) nb) fun σ H P ⟨F, M, δ, Q, EX, hm, rs, h, tk, f⟩ => ?_
  refine ⟨F, M, δ, _, EX, hm, rs, h, tk, fun v d F1 M1 H1 g1 r1 h1 => ?_⟩
  dsimp only [wNil] at h1
  split at h1
  · rename_i n e
    cases e
    cases r1
    refine ⟨n, rfl, h1.1, fun q hq => ?_⟩
    have g := g1.hm.new (o := .lst (rgV 0 n)) hq
    exact f _ _ _ _ _ (g1.trans g) (.lst upd_same (rg_rep _ _)) h1.2
  · rename_i e; cases e
  · exact h1.elim
theorem de_lrg1M (hl : X.mg "list" = none) (hr : X.mg "range" = none) (ha : DE G X a wa) (hc : X.calm = true := by rfl) (g1 : Gl X "list" := by rfl) (g2 : Gl X "range" := by rfl) (na : starEach [a] X.env = (false, eval a X.env) :: starEach [] X.env := by rfl)
    (nb : starEach [.Call (.Name "range" p) [a] [] pos] X.env = (false, eval (.Call (.Name "range" p) [a] [] pos) X.env) :: starEach [] X.env := by rfl) : DE G X (.Call (.Name "list" p2) [.Call (.Name "range" p) [a] [] pos] [] pos2) (wLRgM (wCons wa wNil)) := by
  refine pe_imp (pe_listRg hc g1 hl (prg_1 g2 hr ha na) nb) fun σ H P ⟨F, M, δ, Q, EX, hm, rs, h, tk, f⟩ => ?_
  refine ⟨F, M, δ, _, EX, hm, rs, h, tk, fun v d F1 M1 H1 g1 r1 h1 => ?_⟩
  dsimp only [wNil] at h1
  split at h1
  · rename_i n e
    cases e
    cases r1
    refine ⟨n, rfl, h1.1, fun q hq => ?_⟩
    have g := g1.hm.newM (o := .lst (rgV 0 n)) (m := .lst (rgD 0 n)) hq ⟨_, upd_same, rg_rep _ _⟩
    exact f _ _ _ _ _ (g1.trans g) (.raw _) (h1.2 q (g1.hm.free hq).2)
  · rename_i e; cases e
  · exact h1.elim
theorem de_lrg2 (hl : X.mg "list" = none) (hr : X.mg "range" = none) (ha : DE G X a wa) (hb : DE G X b wb) (hc : X.calm = true := by rfl) (g1 : Gl X "list" := by rfl) (g2 : Gl X "range" := by rfl) (n1 : starEach [a, b] X.env = (false, eval a X.env) :: starEach [b] X.env := by rfl)
    (n2 : starEach [b] X.env = (false, eval b X.env) :: starEach [] X.env := by rfl) (n3 : (backTo pos (starEach [b] X.env)).any (·.1) = false := by rfl) (nb : starEach [.Call (.Name "range" p) [a, b] [] pos] X.env = (false, eval (.Call (.Name "range" p) [a, b] [] pos) X.env) :: starEach [] X.env := by rfl) :
    DE G X (.Call (.Name "list" p2) [.Call (.Name "range" p) [a, b] [] pos] [] pos2) (wLRg (wCons wa (wCons wb wNil))) := by
  refine pe_imp (pe_listRg hc g1 hl (prg_2 g2 hr ha hb n1 n2 n3) nb) fun σ H P ⟨F, M, δ, Q, EX, hm, rs, h, tk, f⟩ => ?_
  refine ⟨F, M, δ, _, EX, hm, rs, h, tk, fun v d F1 M1 H1 g1 r1 h1 => ?_⟩
  refine ⟨F1, M1, δ, _, EX, g1.hm, rs.mono g1.ext, h1, tk.imp (wX_mono g1), fun v2 d2 F2 M2 H2 g2 r2 h2 => ?_⟩
  have g12 := g1.trans g2
  dsimp only [wNil] at h2
  split at h2
  · rename_i e; cases e
  · rename_i n m e
    cases e
    cases r1; cases r2
    refine ⟨n, m, rfl, rfl, h2.1, fun q hq => ?_⟩
    have g := g2.hm.new (o := .lst (rgV n m)) hq
    exact f _ _ _ _ _ (g12.trans g) (.lst upd_same (rg_rep _ _)) h2.2
  · exact h2.elim
/-- xs[::-1] -/
@[irreducible] def kRev (Q : D → MM → Prop) (d : D) (M1 : MM) : Prop := match lstOf M1 d with
  | some xs => Q (.lst xs.reverse) M1
  | none => match d with
    | .tup xs => Q (.tup xs.reverse) M1
    | _ => False
def wRev (we : WE) : WE := fun δ M Q EX => we δ M (kRev Q) EX
theorem de_rev {we : WE} {k : Nat} {p1 p2 p3 pos : Pos} (h : DE G X e we) : DE G X (.Subscript e (.Slice none none (some (.UnaryOp .USub (.Constant (.int 1) k p1) p2)) p3) pos) (wRev we) := by
  refine pe_imp (DLR.pe_revA h) fun σ H P ⟨F, M, δ, Q, EX, hm, rs, h, tk, f⟩ => ?_
  refine ⟨F, M, δ, _, EX, hm, rs, h, tk, fun v d F1 M1 H1 g1 r1 h1 => ?_⟩
  unfold kRev at h1
  split at h1
  · rename_i xs ex
    obtain ⟨a, vs, rfl, hz, r⟩ := lstOf_rep g1.hm r1 ex
    refine .inl ⟨a, vs, rfl, SqL.of hz, fun q hq => ?_⟩
    have g := g1.hm.new (o := .lst vs.reverse) hq
    exact f _ _ _ _ _ (g1.trans g) (.lst upd_same (r.rev.mono g.ext)) h1
  · split at h1
    · cases r1 with
      | @tup a vs _ ht r =>
        refine .inr ⟨_, _, rfl, SqT.of (g1.hm.sub _ _ ht), fun q hq => ?_⟩
        have g := g1.hm.new (o := .tup vs.reverse) hq
        exact f _ _ _ _ _ (g1.trans g) (.tup upd_same (r.rev.mono g.ext)) h1
    · exact h1.elim
end
end DL

set_option Elab.async false
set_option linter.all false
set_option maxRecDepth 100000
namespace DL
open PySem PySem.Spec L2
open PyProof.Rows hiding St
section
variable {M : MM} {Q : D → MM → Prop} {nx : MM → Prop} {o i v x y d : D} {a p : Addr} {xs ds : List D} {kvs : List (Key × D)} {k : Key} {j n : Nat} {z : Int}
theorem at_dget (h1 : dctOf M o = some kvs) (h2 : keyD i = some k) (h3 : valD kvs k = some d) (q : Q d M) : kDGet Q o i M := by
  unfold kDGet; rw [h1, h2]; dsimp only; rw [h3]; exact q
theorem at_dput (h1 : M a = some (.dct kvs)) (h2 : keyD i = some k) (hz : kvs.length < sizeLine) (q : nx (updM M a (.dct (putD kvs k v)))) : kDPut nx v (.raw (.ref a)) i M := by
  unfold kDPut; rw [h2]; dsimp only; rw [h1]; exact ⟨hz, q⟩
theorem at_putL (h1 : M a = some (.lst xs)) (h2 : ixN xs.length z = some j) (q : nx (updM M a (.lst (xs.set j v)))) : kPutL nx v (.raw (.ref a)) (.int z) M := by
  unfold kPutL; dsimp only; rw [h1]; dsimp only; rw [h2]; exact q
theorem at_ix (h1 : seqOf M x = some xs) (h2 : atD xs z = some d) (q : Q d M) : wIx x (.int z) M Q := by
  unfold wIx; rw [h1]; dsimp only; rw [h2]; exact q
theorem at_len (h1 : seqOf M d = some xs) (q : Q (.int xs.length) M) : wLen [d] M Q := by
  unfold wLen; dsimp only; rw [h1]; exact q
theorem at_frz (h1 : M p = some (.lst ds)) (q : Q (.lst ds) (delM M p)) : kFrz Q (.raw (.ref p)) M := by
  unfold kFrz; dsimp only; rw [h1]; exact q
theorem at_frzD (h1 : M p = some (.dct kvs)) (q : Q (.dct kvs) (delM M p)) : kFrz Q (.raw (.ref p)) M := by
  unfold kFrz; dsimp only; rw [h1]; exact q
theorem at_lst {w : Addr → List D → List D → MM → (D → MM → Prop) → Prop} (h1 : M a = some (.lst xs)) (q : w a xs ds M Q) : onL w (.raw (.ref a)) ds M Q := by
  unfold onL; dsimp only; rw [h1]; exact q
theorem at_enumF {Q : IT → MM → Prop} (q : Q { items := enumL 0 ds } M) : kiE Q [.frl ds] M := by
  unfold kiE; exact q
theorem at_iterM {Q : IT → MM → Prop} (h1 : M a = some (.lst ds)) (q : Q { items := ds, src := some (a, ds) } M) : kiS Q (.raw (.ref a)) M := by
  unfold kiS; dsimp only; rw [h1]; exact q
theorem at_enumM {Q : IT → MM → Prop} (h1 : M a = some (.lst ds)) (q : Q { items := enumL 0 ds, src := some (a, ds) } M) : kiE Q [.raw (.ref a)] M := by
  unfold kiE; dsimp only; rw [h1]; exact q
theorem seq_mut (h : M a = some (.lst xs)) : seqOf M (.raw (.ref a)) = some xs := by
  unfold seqOf lstOf; dsimp only; rw [h]
theorem lst_mut (h : M a = some (.lst xs)) : lstOf M (.raw (.ref a)) = some xs := by
  unfold lstOf; dsimp only; rw [h]
theorem dct_mut (h : M a = some (.dct kvs)) : dctOf M (.raw (.ref a)) = some kvs := by
  unfold dctOf; dsimp only; rw [h]
theorem py_mut (h : M a = some (.lst xs)) : py M (.raw (.ref a)) = toPy (.lst xs) := by
  unfold py; dsimp only; rw [h]
theorem toPys_ints : ∀ (ns : List Int), toPys (ns.map D.int) = some (ns.map PyData.int)
  | [] => rfl
  | n :: ns => by simp only [List.map_cons, toPys, toPy, toPys_ints ns]
theorem ixN_nat {n : Nat} {z : Int} (h : 0 ≤ z) (h2 : z < n) : ixN n z = some z.toNat := by
  unfold ixN
  rw [if_pos h, if_pos h2]
theorem atD_nat {z : Int} (h : 0 ≤ z) (h2 : z < xs.length) : atD xs z = xs[z.toNat]? := by
  unfold atD; rw [ixN_nat h h2]; rfl
/-- a for, by a word of the turn -/
theorem loop_inv {src : Option (Addr × List D)} {b : BD} {wb : WS} {E : ED} {EX : XK'} : ∀ {ds : List D} {δ : DS} {M : MM} (I : Nat → DS → MM → Prop), I 0 δ M → (∀ i δ M, I i δ M → stay src M) →
    (∀ i d δ M, ds[i]? = some d → I i δ M → ∃ δ', b d δ = some δ' ∧ ∀ nx : DS → MM → Prop, (∀ δ2 M2, I (i + 1) δ2 M2 → nx δ2 M2) → wb { nx := nx, rt := E.rt, bk := E.nx, ct := nx } EX δ' M) → (∀ δ M, I ds.length δ M → E.nx δ M) → wLoop src b wb ds E EX δ M
  | [], δ, M, I, h0, hst, hs, hd => by
    unfold wLoop
    exact ⟨hst _ _ _ h0, hd _ _ h0⟩
  | d :: ds, δ, M, I, h0, hst, hs, hd => by
    obtain ⟨δ', e, h⟩ := hs 0 d δ M rfl h0
    unfold wLoop
    refine ⟨hst _ _ _ h0, ?_⟩
    rw [e]
    refine h _ fun δ2 M2 h2 => ?_
    exact loop_inv (fun i => I (i + 1)) h2 (fun i δ M => hst (i + 1) δ M) (fun i d δ M hi => hs (i + 1) d δ M (by simpa using hi)) hd
/-- a comprehension, by a word of the turn and the list so far -/
theorem lc_inv {src : Option (Addr × List D)} {b : BD} {wt : WT} {we : WE} {δ : DS} {fin : List D → MM → Prop} : ∀ {ds acc : List D} {M : MM} (I : Nat → List D → MM → Prop), I 0 acc M → (∀ i acc M, I i acc M → stay src M) →
    (∀ i d acc M, ds[i]? = some d → I i acc M → ∃ δ', b d δ = some δ' ∧ ∀ nx : List D → MM → Prop, (∀ acc2 M2, I (i + 1) acc2 M2 → nx acc2 M2) → wt δ' M (fun c M1 => if c = true then we δ' M1 (fun y M2 => acc.length < sizeLine ∧ nx (acc ++ [y]) M2) noX else nx acc M1) noX) →
    (∀ acc M, I ds.length acc M → fin acc M) → wLcL src b wt we δ fin ds acc M
  | [], acc, M, I, h0, hst, hs, hd => by
    unfold wLcL
    exact ⟨hst _ _ _ h0, hd _ _ h0⟩
  | d :: ds, acc, M, I, h0, hst, hs, hd => by
    obtain ⟨δ', e, h⟩ := hs 0 d acc M rfl h0
    unfold wLcL
    refine ⟨hst _ _ _ h0, ?_⟩
    rw [e]
    refine h (fun acc M => wLcL src b wt we δ fin ds acc M) fun acc2 M2 h2 => ?_
    exact lc_inv (fun i => I (i + 1)) h2 (fun i acc M => hst (i + 1) acc M) (fun i d acc M hi => hs (i + 1) d acc M (by simpa using hi)) hd
theorem rngL_get {lo : Int} {n i : Nat} {d : D} (h : (rngL lo n)[i]? = some d) : i < n ∧ d = .int (lo + (i : Nat)) := by
  have l : i < n := by
    have z := (List.getElem?_eq_some_iff.mp h).1
    rwa [rngL_len] at z
  unfold rngL at h
  rw [List.getElem?_map, List.getElem?_range l] at h
  exact ⟨l, (Option.some.inj h).symm⟩
/-! ### data of ints -/
theorem canAll_ints : ∀ ns : List Int, PyData.canLayAll0 (ns.map PyData.int) = true
  | [] => by simp [PyData.canLayAll0]
  | n :: ns => by simp [PyData.canLayAll0, PyData.canLay0, canAll_ints ns]
theorem depth_ints : ∀ ns : List Int, PyData.depthAll (ns.map PyData.int) = 0
  | [] => by simp [PyData.depthAll]
  | n :: ns => by simp [PyData.depthAll, PyData.depth, depth_ints ns]
theorem shaped_ints (ns : List Int) : SeqAt.shaped (.list (ns.map .int)) = true := by
  simp [SeqAt.shaped, PyData.canLay0, canAll_ints, PyData.depth, depth_ints]
theorem shaped_intsT (ns : List Int) : SeqAt.shaped (.tuple (ns.map .int)) = true := by
  simp [SeqAt.shaped, PyData.canLay0, canAll_ints, PyData.depth, depth_ints]
theorem toPy_lst {xs : List D} {ps : List PyData} (h : toPys xs = some ps) : toPy (.lst xs) = some (.list ps) := by simp only [toPy, h, Option.map_some]
theorem toPy_tup {xs : List D} {ps : List PyData} (h : toPys xs = some ps) : toPy (.tup xs) = some (.tuple ps) := by simp only [toPy, h, Option.map_some]
theorem eqv_nil : ∀ (ps : List PyData), PyData.eqv (.list ps) (.list []) = ps.isEmpty
  | [] => by simp [PyData.eqv, PyData.eqvAll]
  | p :: ps => by simp [PyData.eqv, PyData.eqvAll]
theorem at_ne {p q : PyData} (h1 : py M x = some p) (h2 : py M y = some q) (h3 : SeqAt.shaped p = true) (h4 : SeqAt.shaped q = true) (k : Q (.bl (!PyData.eqv p q)) M) : wNe x y M Q := by
  unfold wNe; exact ⟨p, q, h1, h2, h3, h4, k⟩
theorem at_eq {p q : PyData} (h1 : py M x = some p) (h2 : py M y = some q) (h3 : SeqAt.shaped p = true) (h4 : SeqAt.shaped q = true) (k : Q (.bl (PyData.eqv p q)) M) : wEq x y M Q := by
  unfold wEq; exact ⟨p, q, h1, h2, h3, h4, k⟩
theorem ifT {c : Bool} {A B : Prop} (hc : c = true) (h : A) : if c = true then A else B := by rw [if_pos hc]; exact h
theorem ifF {c : Bool} {A B : Prop} (hc : c = false) (h : B) : if c = true then A else B := by rw [hc, if_neg Bool.false_ne_true]; exact h
theorem if2 {p : Prop} [Decidable p] {A B : Prop} (h1 : p → A) (h2 : ¬ p → B) : if decide p = true then A else B := by
  by_cases h : p
  · exact ifT (decide_eq_true h) (h1 h)
  · exact ifF (decide_eq_false h) (h2 h)
theorem ifB {c : Bool} {A B : Prop} (h1 : c = true → A) (h2 : c = false → B) : if c = true then A else B := by
  cases c
  · exact ifF rfl (h2 rfl)
  · exact ifT rfl (h1 rfl)
end
end DL

set_option Elab.async false
set_option linter.all false
set_option maxRecDepth 100000
namespace DL
open PySem PySem.Spec L2
open PyProof.Rows hiding St
section
variable {G : Cfg} {X : Cx} {e o i value : Expr}
/-! ### truth -/
def truD (M : MM) : D → Option Bool
  | .non => some false
  | .bl b => some b
  | .int i => some (i != 0)
  | .lst ds => some (!ds.isEmpty)
  | .tup ds => some (!ds.isEmpty)
  | .raw (.ref a) => match M a with
    | some (.lst ds) => some (!ds.isEmpty)
    | _ => none
  | _ => none
theorem RepL.empty {K : PySem.W.Frag} {F : Hp} {vs : List V} {ds : List D} (r : RepL G K F vs ds) : vs.isEmpty = ds.isEmpty := by
  cases r with
  | nil => rfl
  | cons _ _ => rfl
theorem truD_rep {K : PySem.W.Frag} {F : Hp} {M : MM} {H : Hp} {v : V} {d : D} {k : Bool} (hm : HM G K F M H) (r : Rep G K F v d) (e : truD M d = some k) : TruV K v H k := by
  unfold truD at e
  split at e
  · cases r; cases e; rfl
  · cases r; cases e; rfl
  · cases r; cases e; rfl
  · cases r with
    | lst h r => cases e; exact .inl ⟨_, SqL.of (hm.sub _ _ h), by rw [r.empty]⟩
  · cases r with
    | tup h r => cases e; exact .inr (.inl ⟨_, sqT_mono hm.sub h, by rw [r.empty]⟩)
  · cases r
    split at e
    · rename_i q
      cases e
      obtain ⟨vs, h1, r1⟩ := hm.mo _ _ q
      exact .inl ⟨vs, SqL.of h1, by rw [r1.empty]⟩
    · cases e
  · cases e
@[irreducible] def kTru (Q : Bool → MM → Prop) (d : D) (M1 : MM) : Prop := match truD M1 d with
  | some k => Q k M1
  | none => False
def wTru (we : WE) : WT := fun δ M Q EX => we δ M (kTru Q) EX
theorem at_tru {Q : Bool → MM → Prop} {d : D} {M1 : MM} {k : Bool} (h : truD M1 d = some k) (q : Q k M1) : kTru Q d M1 := by unfold kTru; rw [h]; exact q
theorem dt_tru {we : WE} (h : DE G X e we) (he : ∀ whole, isTrue e X.env whole = (do let v ← whole; standAt e.pos; holding [v] (truthy v)) := by intro _; rfl) : DT G X e (wTru we) := by
  refine pt_imp (pt_truth h he) fun σ H P ⟨F, M, δ, Q, EX, hm, rs, h, tk, f⟩ => ?_
  refine ⟨F, M, δ, _, EX, hm, rs, h, tk, fun v d F1 M1 H1 g r q => ?_⟩
  unfold kTru at q
  split at q
  · rename_i k ek
    exact ⟨k, truD_rep g.hm r ek, f _ _ _ _ g q⟩
  · exact q.elim
/-! ### generators: the list of what is handed out -/
structure GED where
  nx : List D → DS → MM → Prop
  rt : List D → D → MM → Prop
  bk : List D → DS → MM → Prop := fun _ _ _ => False
  ct : List D → DS → MM → Prop := fun _ _ _ => False
abbrev WG := GED → List D → DS → MM → Prop
def upG (G : Cfg) (X : Cx) (w : WG) : TGn := fun D ys σ H => ∃ F M δ E dys, HM G X.K F M H ∧ RS G X.K F σ δ ∧ RepL G X.K F ys dys ∧ w E dys δ M ∧
  (∀ ys' dys' σ' δ' F' M' H', Grow G X.K F M H F' M' H' → RS G X.K F' σ' δ' → RepL G X.K F' ys' dys' → E.nx dys' δ' M' → D.nx ys' σ' H') ∧
  (∀ ys' dys' v d F' M' H', Grow G X.K F M H F' M' H' → Rep G X.K F' v d → RepL G X.K F' ys' dys' → E.rt dys' d M' → D.rt ys' v H') ∧
  (∀ ys' dys' σ' δ' F' M' H', Grow G X.K F M H F' M' H' → RS G X.K F' σ' δ' → RepL G X.K F' ys' dys' → E.bk dys' δ' M' → D.bk ys' σ' H') ∧
  (∀ ys' dys' σ' δ' F' M' H', Grow G X.K F M H F' M' H' → RS G X.K F' σ' δ' → RepL G X.K F' ys' dys' → E.ct dys' δ' M' → D.ct ys' σ' H')
abbrev DG (G : Cfg) (X : Cx) (st : Stmt) (w : WG) : Prop := GS X st (upG G X w)
abbrev DGs (G : Cfg) (X : Cx) (st : List Stmt) (w : WG) : Prop := GSs X st (upG G X w)
theorem gs_imp {st : Stmt} {t t' : TGn} (h : GS X st t) (i : ∀ D ys σ H, t' D ys σ H → t D ys σ H) : GS X st t' := ⟨fun A S ip R n ys s₀ c fs K J gd lv s σ H D g hn k hI ht => h.run A S ip R n ys s₀ c fs K J gd lv s σ H D g hn k hI (i D ys σ H ht)⟩
theorem gss_imp {st : List Stmt} {t t' : TGn} (h : GSs X st t) (i : ∀ D ys σ H, t' D ys σ H → t D ys σ H) : GSs X st t' := ⟨fun A S ip R n ys s₀ c fs K J gd lv s σ H D g hn k hI ht => h.run A S ip R n ys s₀ c fs K J gd lv s σ H D g hn k hI (i D ys σ H ht)⟩
def wgNil : WG := fun E ys δ M => E.nx ys δ M
theorem dg_nil : DGs G X [] wgNil := gss_imp gss_nil fun D ys σ H ⟨F, M, δ, E, dys, hm, rs, ry, h, n, r, b, c⟩ => n ys dys σ δ F M H (.refl hm) rs ry h
def wgSeq (w u : WG) : WG := fun E ys δ M => w { E with nx := fun ys' δ' M' => u E ys' δ' M' } ys δ M
theorem dg_cons {st : Stmt} {rest : List Stmt} {w u : WG} (h1 : DG G X st w) (h2 : DGs G X rest u) : DGs G X (st :: rest) (wgSeq w u) := by
  refine gss_imp (gss_cons h1 h2) fun D ys σ H ⟨F, M, δ, E, dys, hm, rs, ry, h, n, r, b, c⟩ => ?_
  refine ⟨F, M, δ, _, dys, hm, rs, ry, h, fun ys' dys' σ' δ' F' M' H' g rs' ry' h' => ?_, r, b, c⟩
  exact ⟨F', M', δ', E, dys', g.hm, rs', ry', h', fun y2 d2 s2 e2 F2 M2 H2 g2 a2 b2 q => n y2 d2 s2 e2 F2 M2 H2 (g.trans g2) a2 b2 q, fun y2 d2 s2 e2 F2 M2 H2 g2 a2 b2 q => r y2 d2 s2 e2 F2 M2 H2 (g.trans g2) a2 b2 q,
    fun y2 d2 s2 e2 F2 M2 H2 g2 a2 b2 q => b y2 d2 s2 e2 F2 M2 H2 (g.trans g2) a2 b2 q, fun y2 d2 s2 e2 F2 M2 H2 g2 a2 b2 q => c y2 d2 s2 e2 F2 M2 H2 (g.trans g2) a2 b2 q⟩
/-- a statement that hands out nothing and raises nothing -/
def wgS (w : WS) : WG := fun E ys δ M => w { nx := E.nx ys, rt := E.rt ys, bk := E.bk ys, ct := E.ct ys } noX δ M
theorem dg_s {st : Stmt} {w : WS} (h : DSt G X st w) : DG G X st (wgS w) := by
  refine gs_imp (gs_ps h) fun D ys σ H ⟨F, M, δ, E, dys, hm, rs, ry, h, n, r, b, c⟩ => ?_
  exact ⟨F, M, δ, _, noX, hm, rs, h, takes_no, fun σ' δ' F' M' H' g rs' q => n ys dys σ' δ' F' M' H' g rs' (ry.mono g.ext) q, fun v d F' M' H' g r' q => r ys dys v d F' M' H' g r' (ry.mono g.ext) q,
    fun σ' δ' F' M' H' g rs' q => b ys dys σ' δ' F' M' H' g rs' (ry.mono g.ext) q, fun σ' δ' F' M' H' g rs' q => c ys dys σ' δ' F' M' H' g rs' (ry.mono g.ext) q⟩
def wgYield (we : WE) : WG := fun E ys δ M => ys.length < sizeLine ∧ we δ M (fun d M1 => E.nx (ys ++ [d]) δ M1) noX
theorem dg_yield {we : WE} {yp pos : Pos} (h : DE G X e we) (hco : X.env.scope.isCoroutine = false := by rfl) (hi : interactive X.env = false := by rfl) : DG G X (.Expr (.Yield (some e) yp) pos) (wgYield we) := by
  refine gs_imp (gs_yield h hco hi) fun D ys σ H ⟨F, M, δ, E, dys, hm, rs, ry, h, n, r, b, c⟩ => ?_
  refine ⟨by rw [ry.len]; exact h.1, F, M, δ, _, noX, hm, rs, h.2, takes_no, fun v d F1 M1 H1 g r1 q => ?_⟩
  exact n _ _ σ δ F1 M1 H1 g (rs.mono g.ext) ((ry.mono g.ext).app (.cons r1 .nil)) q
def wgWh (p : WT) (wb : WG) : Nat → GED → List D → DS → MM → Prop
  | 0, _, _, _, _ => False
  | n + 1, E, ys, δ, M => p δ M (fun k M1 => if k = true then wb { nx := wgWh p wb n E, rt := E.rt, bk := E.nx, ct := wgWh p wb n E } ys δ M1 else E.nx ys δ M1) noX
def wgWhile (p : WT) (wb : WG) : WG := fun E ys δ M => ∃ n, wgWh p wb n E ys δ M
theorem dg_while {c : Expr} {body : List Stmt} {p : WT} {wb : WG} {pos} (hp : PassesOwn (model X.prog X.w) X.A X.env X.xe) (hc : DT G X c p) (hb : DGs G X body wb) : DG G X (.While c body [] pos) (wgWhile p wb) := by
  refine gs_imp (gs_while hp hc hb) fun D ys σ H ⟨F, M, δ, E, dys, hm, rs, ry, ⟨n0, h⟩, n, r, bk, c⟩ => ?_
  refine ⟨fun m ys' σ' H' => ∃ F' M' δ' dys', Grow G X.K F M H F' M' H' ∧ RS G X.K F' σ' δ' ∧ RepL G X.K F' ys' dys' ∧ wgWh p wb m E dys' δ' M', ⟨n0, F, M, δ, dys, .refl hm, rs, ry, h⟩, ?_⟩
  rintro m ys' σ' H' ⟨F', M', δ', dys', g', rs', ry', h'⟩
  cases m with
  | zero => exact h'.elim
  | succ m =>
    unfold wgWh at h'
    refine ⟨F', M', δ', _, noX, g'.hm, rs', h', takes_no, fun k F2 M2 H2 g2 q => ?_⟩
    have gt := g'.trans g2
    cases k with
    | true =>
      refine ⟨fun y3 s3 H3 => ∃ F3 M3 d3 dy3, Grow G X.K F M H F3 M3 H3 ∧ RS G X.K F3 s3 d3 ∧ RepL G X.K F3 y3 dy3 ∧ wgWh p wb m E dy3 d3 M3, fun y3 s3 H3 w3 => ⟨m, Nat.lt_succ_self _, w3⟩, ?_⟩
      exact ⟨F2, M2, δ', _, dys', g2.hm, rs'.mono g2.ext, ry'.mono g2.ext, q, fun y3 d3 s3 e3 F3 M3 H3 g3 a3 b3 q3 => ⟨F3, M3, e3, d3, gt.trans g3, a3, b3, q3⟩, fun y3 d3 s3 e3 F3 M3 H3 g3 a3 b3 q3 => r y3 d3 s3 e3 F3 M3 H3 (gt.trans g3) a3 b3 q3,
        fun y3 d3 s3 e3 F3 M3 H3 g3 a3 b3 q3 => n y3 d3 s3 e3 F3 M3 H3 (gt.trans g3) a3 b3 q3, fun y3 d3 s3 e3 F3 M3 H3 g3 a3 b3 q3 => ⟨F3, M3, e3, d3, gt.trans g3, a3, b3, q3⟩⟩
    | false => exact n ys' dys' σ' δ' F2 M2 H2 gt (rs'.mono g2.ext) (ry'.mono g2.ext) q
/-- a generator def's promise by trees -/
abbrev SpGD := List D → MM → (List D → MM → Prop) → Prop
def liftG (G : Cfg) (K : PySem.W.Frag) (sp : SpGD) : SpG := fun vs H P E => ∃ F M ds Q, HM G K F M H ∧ RepL G K F vs ds ∧ sp ds M Q ∧ ∀ ws es F' M' H', Grow G K F M H F' M' H' → RepL G K F' ws es → Q es M' → P ws H'
def spGOf (n m : Nat) (w : WG) : SpGD := fun ds M Q => ds.length = n ∧ w { nx := fun ys _ M' => Q ys M', rt := fun ys d M' => d = .non ∧ Q ys M' } [] (startD m ds) M
theorem okGen {P : Program} {w : World} {K : PySem.W.Frag} {mg : Str → Option Value} {base : Heap} {x qual : Str} {st : Stmt} {f : Addr} {fd : FuncData} {N ps : List Str} {k : Nat} {wb : WG} (F : Fun K x qual st f fd) (S : GScope N ps (defScope st))
    (hb : ∀ (cdv : Value) (A : Around) (out : List Env) (s : Shared) (H : Hp) (E : XK) (pn : List (Addr × Obj)), Room k (A.deeper (envOfC qual (defScope st) s.heap.objs.size f cdv)) → DGs G (gcxOf P w K mg base N qual (defScope st) f cdv A out s H E pn) (defBody st) wb) :
    GFn P w K mg base (k + 1) f fd ps (liftG G K (spGOf ps.length N.length wb)) := by
  obtain ⟨oc, od, kV, doc, pm, an, cdv, ct, osl, efd, lk, hcd⟩ := F.ex
  subst efd
  refine gfn_of lk hcd S (fun vs H Q E h => ?_) (fun A out s H vs Q E pn hr h => ⟨_, hb cdv A out s H E pn hr, ?_⟩)
  · obtain ⟨F', M, ds, Q', hm, r, ⟨h1, _⟩, _⟩ := h
    rw [r.len]; exact h1
  · obtain ⟨F', M, ds, Q', hm, r, ⟨h1, h2⟩, fin⟩ := h
    refine ⟨F', M, _, _, [], hm, rs_start r, .nil, h2, fun ys' dys' σ' δ' F1 M1 H1 g1 _ ry q => fin ys' dys' F1 M1 H1 g1 ry q, fun ys' dys' v d F1 M1 H1 g1 rv ry q => ?_, fun _ _ _ _ _ _ _ _ _ _ q => q.elim, fun _ _ _ _ _ _ _ _ _ _ q => q.elim⟩
    obtain ⟨ed, q⟩ := q
    subst ed
    cases rv
    exact ⟨rfl, fin ys' dys' F1 M1 H1 g1 ry q⟩
/-- list(o.m()), m a generator method -/
structure MethG (G : Cfg) (X : Cx) (c : Nat) (m : Str) (sp : SpGD) : Prop where
  cls : Cls X.K (G.cl c)
  noat : m ∉ G.nm c
  ex : ∃ (k : Nat) (f : Addr) (fd : FuncData) (ps : List Str), Meth X.K (G.cl c) m f ∧ GFn X.prog X.w X.K X.mg X.base k f fd ps (liftG G X.K sp) ∧ Room (k + 3) X.A ∧ Binds X.K fd ps []
def wListG (c : Nat) (sp : SpGD) (wo : WE) : WE := fun δ M Q EX => wo δ M (fun d M1 => ∃ fs, insOf M1 d = some (c, fs) ∧ sp [d] M1 (fun ys M2 => Q (.lst ys) M2)) EX
def wListGM (c : Nat) (sp : SpGD) (wo : WE) : WE := fun δ M Q EX => wo δ M (fun d M1 => ∃ fs, insOf M1 d = some (c, fs) ∧ sp [d] M1 (fun ys M2 => ∀ p, M2 p = none → Q (.raw (.ref p)) (updM M2 p (.lst ys)))) EX
variable {c : Nat} {m : Str} {sp : SpGD} {wo : WE} {p pos apos : Pos} {pl : Sem Bool}
theorem noStop0 {K : PySem.W.Frag} : NoStop K E0 := fun _ _ _ h => h.elim
theorem de_listG (mt : MethG G X c m sp) (ho : DE G X o wo) (hmg : X.mg "list" = none) (hg : Gl X "list" := by rfl)
    (hv : eval (.Call (.Attribute o m apos) [] [] pos) X.env = (do
      let ov ← eval o X.env
      standAt apos.atName
      let (f, first) ← holding [ov] (getMethod ov m pl)
      callWith pos f first (backTo pos (starEach [] X.env)) (backToKw pos (keywordEach [] X.env))) := by rfl)
    (he : starEach [.Call (.Attribute o m apos) [] [] pos] X.env = (false, eval (.Call (.Attribute o m apos) [] [] pos) X.env) :: starEach [] X.env := by rfl) {p2 : Pos} :
    DE G X (.Call (.Name "list" p) [.Call (.Attribute o m apos) [] [] pos] [] p2) (wListG c sp wo) := by
  obtain ⟨cls, noat, k, f, fd, ps, hmt, F, hr, hb⟩ := mt
  refine pe_imp (pe_listG (E := E0) (pgen_meth0 (dvs := []) (ds := []) ho cls hmt F (hr.mono (by omega)) hb .nil hv) passL noStop0 hr hg hmg (by decide +kernel) (by decide) (by decide) he) fun σ H P ⟨F', M, δ, Q, EX, hm, rs, h, tk, f'⟩ => ?_
  refine ⟨F', M, δ, _, EX, hm, rs, h, tk, fun v d F1 M1 H1 g1 r1 h1 => ?_⟩
  obtain ⟨fs, e1, q⟩ := h1
  obtain ⟨a, dx, ws, rfl, hz, l, rz⟩ := insOf_rep g1.hm r1 e1
  refine ⟨a, dx, _, rfl, hz, zip_lookup_none noat, F1, M1, [d], _, g1.hm, .cons r1 .nil, q, fun ys dys F2 M2 H2 g2 ry q2 q3 hq => ?_⟩
  have g := g2.hm.new (o := .lst ys) hq
  exact f' _ _ _ _ _ ((g1.trans g2).trans g) (.lst upd_same (ry.mono g.ext)) q2
end
end DL

set_option Elab.async false
set_option linter.all false
set_option maxRecDepth 100000
namespace DL
open PySem PySem.Spec L2
open PyProof.Rows hiding St
section
variable {G : Cfg} {X : Cx} {e o i value : Expr}
/-! ### isinstance -/
inductive Ty where
  | non | bl | int | str | tup | lst | dct
  | own (k : Nat)
deriving DecidableEq
def Ty.nm : Ty → String
  | .non => "NoneType" | .bl => "bool" | .int => "int" | .str => "str" | .tup => "tuple" | .lst => "list" | .dct => "dict" | .own _ => "object"
def tyD (M : MM) : D → Option Ty
  | .non => some .non
  | .bl _ => some .bl
  | .int _ => some .int
  | .str _ => some .str
  | .tup _ => some .tup
  | .lst _ => some .lst
  | .dct _ => some .dct
  | .ins c _ => some (.own c)
  | .raw (.ref a) => match M a with
    | some (.lst _) => some .lst
    | some (.dct _) => some .dct
    | some (.ins c _) => some (.own c)
    | _ => none
  | _ => none
/-- what isinstance answers for the class value u -/
structure IsiT (G : Cfg) (K : PySem.W.Frag) (u : Value) (tb : Ty → Option Bool) : Prop where
  bt : ∀ t b, (∀ k, t ≠ .own k) → tb t = some b → PySem.W.kitOne K (.type t.nm) u = some b
  ow : ∀ k b, tb (.own k) = some b → PySem.W.kitOne K (.ref (G.cl k)) u = some b ∧ Cls K (G.cl k) ∧ PySem.W.findIn K (.ref (G.cl k)) "__class__" = some (some (.builtin "object.__class__")) ∧
    PySem.W.specialIn K (.builtin "object.__class__") "__get__" = some (some (.builtin "getset_descriptor.__get__")) ∧ PySem.W.takesIn K (.builtin "object.__class__") = some true ∧ PySem.W.mroIn K (G.cl k) (.type "object") = some true
def tbB (u : Ty) (own : Nat → Option Bool) : Ty → Option Bool
  | .own k => own k
  | t => some (decide (t = u) || (decide (u = .int) && decide (t = .bl)))
theorem isi_b {K : PySem.W.Frag} (u : Ty) (hu : ∀ k, u ≠ .own k) : IsiT G K (.type u.nm) (tbB u fun _ => none) := by
  refine ⟨fun t b ht h => ?_, fun k b h => by cases h⟩
  refine kit_ty ?_
  cases u <;> cases t <;> first
    | exact absurd rfl (ht _)
    | exact absurd rfl (hu _)
    | (cases h; decide +kernel)
theorem tyD_rep {K : PySem.W.Frag} {F : Hp} {M : MM} {H : Hp} {v : V} {d : D} {t : Ty} {tb : Ty → Option Bool} {b : Bool} {u : Value} (T : IsiT G K u tb) (hm : HM G K F M H) (r : Rep G K F v d) (e : tyD M d = some t) (q : tb t = some b) :
    ∃ tv, TyX K H v tv ∧ PySem.W.kitOne K tv u = some b := by
  unfold tyD at e
  split at e
  · cases r; cases e; exact ⟨_, .base .non, T.bt _ _ (fun _ z => Ty.noConfusion z) q⟩
  · cases r; cases e; exact ⟨_, .base (.bl _), T.bt _ _ (fun _ z => Ty.noConfusion z) q⟩
  · cases r; cases e; exact ⟨_, .base (.int _), T.bt _ _ (fun _ z => Ty.noConfusion z) q⟩
  · cases r; cases e; exact ⟨_, .base (.str _), T.bt _ _ (fun _ z => Ty.noConfusion z) q⟩
  · cases e
    cases r with
    | tup h r =>
      refine ⟨_, ?_, T.bt _ _ (fun _ z => Ty.noConfusion z) q⟩
      rcases sqT_mono hm.sub h with z | ⟨o, its, n, h1, h2, _⟩
      · rcases z with z | ⟨o, z⟩
        · exact .base (.tup z)
        · exact .fTuple z
      · exact .kTuple h1 h2
    
  · cases e
    cases r with
    | lst h r => exact ⟨_, .base (.lst (hm.sub _ _ h)), T.bt _ _ (fun _ z => Ty.noConfusion z) q⟩
  · cases e
    cases r with
    | dct h r => exact ⟨_, .base (.dK (hm.sub _ _ h)), T.bt _ _ (fun _ z => Ty.noConfusion z) q⟩
  · cases e
    cases r with
    | ins h l r =>
      obtain ⟨h1, h2, h3, h4, h5, h6⟩ := T.ow _ _ q
      exact ⟨_, .base (.ins (hm.sub _ _ h) h2 h3 h4 h5 h6), h1⟩
  · cases r
    split at e
    · rename_i z
      cases e
      obtain ⟨vs, h1, r1⟩ := hm.mo _ _ z
      exact ⟨_, .base (.lst h1), T.bt _ _ (fun _ z => Ty.noConfusion z) q⟩
    · rename_i z
      cases e
      obtain ⟨vs, h1, r1⟩ := hm.mo _ _ z
      exact ⟨_, .base (.dK h1), T.bt _ _ (fun _ z => Ty.noConfusion z) q⟩
    · rename_i z
      cases e
      obtain ⟨dx, vs, h1, l, r1⟩ := hm.mo _ _ z
      obtain ⟨h1', h2, h3, h4, h5, h6⟩ := T.ow _ _ q
      exact ⟨_, .base (.ins h1 h2 h3 h4 h5 h6), h1'⟩
    · cases e
  · cases e
@[irreducible] def kIsi (tb : Ty → Option Bool) (Q : D → MM → Prop) (d : D) (M1 : MM) : Prop := match tyD M1 d with
  | some t => match tb t with
    | some b => Q (.bl b) M1
    | none => False
  | none => False
theorem at_isi {tb : Ty → Option Bool} {Q : D → MM → Prop} {d : D} {M1 : MM} {t : Ty} {b : Bool} (h : tyD M1 d = some t) (h2 : tb t = some b) (q : Q (.bl b) M1) : kIsi tb Q d M1 := by unfold kIsi; rw [h]; dsimp only; rw [h2]; exact q
def wIsi (cv : V) (tb : Ty → Option Bool) : WR1 := fun ds M Q => match ds with
  | [d, .raw v] => v = cv ∧ kIsi tb Q d M
  | _ => False
theorem sim_isi {K : PySem.W.Frag} {cv : V} {u : Value} {tb : Ty → Option Bool} (k : ClsV cv u) (T : IsiT G K u tb) : SimC G K (rIsi K) (wIsi cv tb) := by
  intro F M H vs ds Q P hm r w f
  unfold wIsi at w
  split at w
  · rename_i d v
    obtain ⟨ev, w⟩ := w
    subst ev
    cases r with
    | cons r1 r2 =>
      cases r2 with
      | cons r2 r3 =>
        cases r3
        cases r2
        unfold kIsi at w
        split at w
        · rename_i t e1
          split at w
          · rename_i b e2
            obtain ⟨tv, ty, kk⟩ := tyD_rep T hm r1 e1 e2
            exact ⟨_, _, tv, u, b, rfl, k, ty, kk, f _ _ F M H (.refl hm) (.bl b) w⟩
          · exact w.elim
        · exact w.elim
  · exact w.elim
/-- a type, a class as a value -/
theorem de_cls {x : Str} {v : V} {u : Value} {pos : Pos} (hm : X.mg x = some u) (r : RelV v u) (hg : Gl X x := by rfl) (hd : (x == ("__debug__" : Str)) = false := by decide) : DE G X (.Name x pos) (wC (.raw v)) := pe_imp (pe_glob hg hm r hd) (up_c fun _ _ => .raw v)
theorem de_ty {x : Str} {T : String} {pos : Pos} (hm : X.mg x = none) (hv : bootBuiltins x = some (.type T)) (hg : Gl X x := by rfl) (hn : x ≠ "__name__" := by decide) (hd : (x == ("__debug__" : Str)) = false := by decide) : DE G X (.Name x pos) (wC (.raw (.ty T))) := pe_imp (pe_bltn hg hm hv (r := show RelV (.ty T) (.type T) from rfl) hn hd) (up_c fun _ _ => .raw _)
/-! ### C.f, a constant of the class -/
/-- the text has the constant: its tree -/
structure CK (G : Cfg) (K : PySem.W.Frag) (C : Addr) (f : Str) (d : D) : Prop where
  ex : ∃ mc v u, ClX.CRead K C mc ∧ ClX.CVal K C mc f v u ∧ ∀ F, Rep G K F v d
def wCv (v : V) (we : WE) (d : D) : WE := fun δ M Q EX => we δ M (fun x M1 => x = .raw v ∧ Q d M1) EX
theorem de_cval {C : Addr} {f : Str} {we : WE} {d : D} {pos : Pos} (k : CK G X.K C f d) (h : DE G X e we) (hb : attributeBase e f X.env (eval e X.env) = eval e X.env := by rfl) : DE G X (.Attribute e f pos) (wCv (.ref C) we d) := by
  obtain ⟨mc, v, u, h1, h2, h3⟩ := k
  refine pe_imp (ClX.pe_cval h hb) fun σ H P ⟨F, M, δ, Q, EX, hm, rs, h, tk, f⟩ => ?_
  refine ⟨F, M, δ, _, EX, hm, rs, h, tk, fun w x F1 M1 H1 g r q => ?_⟩
  obtain ⟨ex, q⟩ := q
  subst ex
  cases r
  exact ⟨C, mc, v, u, rfl, h1, h2, f v d F1 M1 H1 g (h3 F1) q⟩
/-! ### C(e, .., k = v, ..) -/
/-- what such a call binds, by trees -/
structure KBD (G : Cfg) (K : PySem.W.Frag) (fd : FuncData) (ps : List Str) (n : Nat) (ks : List Str) (gD : List D → List D → List D) : Prop where
  ex : ∃ g gV, KBn K fd ps n ks g gV ∧ (∀ F vs ds zs es, RepL G K F vs ds → RepL G K F zs es → RepL G K F (gV vs zs) (gD ds es))
abbrev DK (G : Cfg) (X : Cx) (kws : List Keyword) (w : WA) : Prop := PK X kws (upA G X w)
theorem pk_imp {kws : List Keyword} {t t' : TA} (h : PK X kws t) (i : ∀ σ H Q, t' σ H Q → t σ H Q) : PK X kws t' := ⟨fun pos pins s σ H Q I ht => h.run pos pins s σ H Q I (i σ H Q ht)⟩
theorem dk_nil : DK G X [] wNil := pk_imp pk_nil fun σ H P ⟨F, M, δ, Q, EX, hm, rs, h, tk, f⟩ => f [] [] F M H (.refl hm) .nil h
theorem dk_cons {nm : Option Str} {kpos : Pos} {kws : List Keyword} {we : WE} {wr : WA} (h : DE G X e we) (hr : DK G X kws wr) : DK G X (⟨nm, e, kpos⟩ :: kws) (wCons we wr) := by
  refine pk_imp (pk_cons h hr) fun σ H P ⟨F, M, δ, Q, EX, hm, rs, h, tk, f⟩ => ?_
  refine ⟨F, M, δ, _, EX, hm, rs, h, tk, fun x d F1 M1 H1 g1 r1 h1 => ?_⟩
  refine ⟨F1, M1, δ, _, EX, g1.hm, rs.mono g1.ext, h1, tk.imp (wX_mono g1), fun vs ds F2 M2 H2 g2 r2 q => ?_⟩
  exact f (x :: vs) (d :: ds) F2 M2 H2 (g1.trans g2) (.cons (r1.mono g2.ext) r2) q
def wMakeK (c n m : Nat) (gD : List D → List D → List D) (sp : SpD) (wa wk : WA) : WE := fun δ M Q EX => wa δ M (fun ds M1 => wk δ M1 (fun es M2 => ds.length = n ∧ es.length = m ∧ ∀ p, M2 p = none →
  sp (gD (.raw (.ref p) :: ds) es) (updM M2 p (.ins c [])) (fun d M3 => d = .non ∧ Q (.raw (.ref p)) M3) (fun xd M3 => EX xd δ M3)) EX) EX
variable {gd : Bool} {k : Nat} {f : Addr} {fd : FuncData} {ps ks : List Str} {sp : SpD} {x m : Str} {p pos apos : Pos} {es : List Expr} {wa wk : WA} {wo : WE} {kws : List Keyword} {gD : List D → List D → List D}
theorem run_makeKD {C n : Nat} (Mk' : Mk X.K (G.cl C) f) (F : FnG X.prog X.w X.K X.mg X.base gd k f fd ps (lift G X.K sp)) (hr : Room (k + 1) X.A) (hgd : gd = true → X.A.guards = some []) (hb : KBD G X.K fd ps (n + 1) ks gD) {pins : List (Addr × Obj)} {σ : St} {H : Hp} {s : Shared} {us ws : List Value} {vs zs : List V} {ds es : List D} {F1 : Hp} {M1 : MM} {δ : DS} {Q : D → MM → Prop} {EX : XK'} {P : VK}
    (I : Inv X pins σ H s) (r : Vals vs us) (rz : Vals zs ws) (hm : HM G X.K F1 M1 H) (rs : RS G X.K F1 σ δ) (rl : RepL G X.K F1 vs ds) (rk : RepL G X.K F1 zs es) (l1 : ds.length = n) (l2 : es.length = ks.length)
    (h : ∀ p, M1 p = none → sp (gD (.raw (.ref p) :: ds) es) (updM M1 p (.ins C [])) (fun d M2 => d = .non ∧ Q (.raw (.ref p)) M2) (fun xd M2 => EX xd δ M2)) (tk : Takes X (wX G X.K F1 M1 H EX)) (f' : Fin G X.K F1 M1 H Q P) :
    wpAny (model X.prog X.w) X.A (call (.ref (G.cl C)) us (ks.zip ws)) (EP X pins σ P) X.xe s := by
  obtain ⟨g0, gV, kb, hg⟩ := hb
  have n1 : H s.heap.objs.size = none := I.hok.fresh (Nat.le_refl _)
  have n2 : H (s.heap.objs.size + 1) = none := I.hok.fresh (Nat.le_succ _)
  have ne : s.heap.objs.size + 1 ≠ s.heap.objs.size := Nat.succ_ne_self _
  have I2 := Inv.made (C := G.cl C) I
  have g1 : Grow G X.K F1 M1 H F1 M1 (upd H s.heap.objs.size (.own (s.heap.objs.size + 1))) := hm.own n1
  have n3 : upd H s.heap.objs.size (.own (s.heap.objs.size + 1)) (s.heap.objs.size + 1) = none := by rw [upd_ne ne]; exact n2
  have g2 := g1.hm.newM (p := s.heap.objs.size + 1) (o := .ins (G.cl C) s.heap.objs.size []) (m := .ins C []) n3 ⟨s.heap.objs.size, [], by rw [upd_same]; simp, by simp, .nil⟩
  have g := g1.trans g2
  have hq := h (s.heap.objs.size + 1) (hm.free n2).2
  have r1 : Vals (V.ref (s.heap.objs.size + 1) :: vs) (Value.ref (s.heap.objs.size + 1) :: us) := .cons rfl r
  have r2 := kb.rel r1 rz
  have rl2 : RepL G X.K F1 (gV (V.ref (s.heap.objs.size + 1) :: vs) zs) (gD (D.raw (.ref (s.heap.objs.size + 1)) :: ds) es) := hg _ _ _ _ _ (.cons (.raw _) rl) rk
  have hl' := lift_at (P := fun v H' => v = .non ∧ P (.ref (s.heap.objs.size + 1)) H') g.hm rs rl2 hq (fun v d F3 M3 H3 g3 r3 q3 => by
    obtain ⟨e, q3⟩ := q3
    subst e
    cases r3
    exact ⟨rfl, f' _ _ F3 M3 H3 (g.trans g3) (.raw _) q3⟩)
  have nn : (Value.ref (s.heap.objs.size + 1) :: us).length = n + 1 := by
    rw [List.length_cons, ← r.length, rl.len, l1]
  have nk : ws.length = ks.length := by rw [← rz.length, rk.len, l2]
  have tk2 : Takes X (wX G X.K F1 (updM M1 (s.heap.objs.size + 1) (.ins C [])) (upd (upd H s.heap.objs.size (.own (s.heap.objs.size + 1))) (s.heap.objs.size + 1) (.ins (G.cl C) s.heap.objs.size [])) EX) := tk.imp (wX_mono g)
  refine wpAny_call (make_map (f := f) I.kIn Mk'.makes Mk'.init (beq_iff_eq.mp Mk'.fn) (codeAny_mono (F.run _ X.stack _ _ ⟨Value.ref (s.heap.objs.size + 1) :: us, ks.zip ws⟩ (g0 (Value.ref (s.heap.objs.size + 1) :: us) ws) _ _ _ (hr.make _ us (ks.zip ws)) (fun z => guards_make (hgd z))
    (I2.env0.make _ us (ks.zip ws)) (kb.to _ (Value.ref (s.heap.objs.size + 1) :: us) ws I2.kIn nn nk) r2 hl') fun r s' hq' => ?_))
  cases r with
  | error e => exact passAt tk2 σ pins _ _ e s' I2 hq'
  | ok fl =>
    cases fl with
    | ret u =>
      obtain ⟨v, H', I3, rv, ev, q3⟩ := I2.after hq'
      subst ev
      exact ⟨rv, ⟨V.ref (s.heap.objs.size + 1), H', I3, rfl, q3⟩⟩
    | next => exact False.elim hq'
    | brk => exact False.elim hq'
    | cont => exact False.elim hq'
theorem dk_run {F1 : Hp} {M1 : MM} {δ : DS} {QA : List D → MM → Prop} {EX : XK'} {pins : List (Addr × Obj)} {s : Shared} {σ : St} {H : Hp} (ha : DK G X kws wk) (pos : Pos) (I : Inv X pins σ H s) (hm : HM G X.K F1 M1 H) (rs : RS G X.K F1 σ δ) (h : wk δ M1 QA EX) (tk : Takes X (wX G X.K F1 M1 H EX)) :
    wpAny (model X.prog X.w) X.A (evalAll ((backToKw pos (keywordEach kws X.env)).map (·.2))) (AP X pins σ (fun vs H2 => ∃ ds F2 M2, Grow G X.K F1 M1 H F2 M2 H2 ∧ RepL G X.K F2 vs ds ∧ QA ds M2)) X.xe s :=
  ha.run pos pins s σ H _ I ⟨F1, M1, δ, QA, EX, hm, rs, h, tk, fun vs ds F2 M2 H2 g r q => ⟨ds, F2, M2, g, r, q⟩⟩
theorem de_makeK {C n : Nat} (Mk' : Mk X.K (G.cl C) f) (F : FnG X.prog X.w X.K X.mg X.base gd k f fd ps (lift G X.K sp)) (hr : Room (k + 1) X.A) (hgd : gd = true → X.A.guards = some []) (hm : X.mg x = some (.ref (G.cl C))) (hb : KBD G X.K fd ps (n + 1) ks gD)
    (ha : DA G X (e :: es) wa) (hkw : DK G X kws wk) (hg : Gl X x := by rfl)
    (hall : (backToKw pos (keywordEach kws X.env)).all (·.1.isSome) = true := by rfl) (hks : (backToKw pos (keywordEach kws X.env)).filterMap (·.1) = ks := by rfl) (hdb : (x == ("__debug__" : Str)) = false := by decide)
    (he : starEach (e :: es) X.env = (false, eval e X.env) :: starEach es X.env := by rfl) (hpl : ((backTo pos (starEach (e :: es) X.env)).any (·.1) || (backToKw pos (keywordEach kws X.env)).any (·.1.isNone)) = false := by rfl) :
    DE G X (.Call (.Name x p) (e :: es) kws pos) (wMakeK C n ks.length gD sp wa wk) := by
  refine ⟨fun pins s σ H Q I ⟨F1, M1, δ, Q', EX, hm1, rs, h, tk, fin⟩ => ?_⟩
  refine wpAny_Call_Name_kw (ld_glob I hg hm ?_ hdb)
  refine PySem.W.callWith_KW (h₀ := X.base) I.ok.mod.kin Mk'.kp hall (thn (da_run ha pos I hm1 rs h tk) fun us s1 ⟨vs, H1, I1, r, ds, F2, M2, g, rl, q⟩ => ?_) hpl he
  refine thn (dk_run hkw pos I1 g.hm (rs.mono g.ext) q (tk.imp (wX_mono g))) fun ws s2 ⟨zs, H2, I2, rz, es', F3, M3, g2, rk, l1, l2, q2⟩ => ⟨I2.kIn, ?_⟩
  rw [hks]
  have gt := g.trans g2
  exact run_makeKD Mk' F hr hgd hb I2 r rz g2.hm (rs.mono gt.ext) (rl.mono g2.ext) rk l1 l2 q2 (tk.imp (wX_mono gt)) fun v d F4 M4 H4 g4 r4 q4 => fin v d F4 M4 H4 (gt.trans g4) r4 q4
/-! ### hand(x): an instance is called -/
structure CallD (G : Cfg) (X : Cx) (c : Nat) (sp : SpD) : Prop where
  ex : ∃ (gd : Bool) (k : Nat) (f : Addr) (fd : FuncData) (ps : List Str), StX.CallO X.K (G.cl c) f ∧ FnG X.prog X.w X.K X.mg X.base gd k f fd ps (lift G X.K sp) ∧ Room k X.A ∧ (gd = true → X.A.guards = some []) ∧ Binds X.K fd ps []
def wCallO (tb : List (Nat × SpD)) (wf : WE) (wa : WA) : WE := fun δ M Q EX => wf δ M (fun d M1 => (insOf M1 d).isSome = true ∧ wa δ M1 (fun ds M2 => ∃ c fs sp, insOf M2 d = some (c, fs) ∧ tb.lookup c = some sp ∧ sp (d :: ds) M2 Q (fun xd M3 => EX xd δ M3)) EX) EX
theorem de_callO {fe : Expr} {wf : WE} (tb : List (Nat × SpD)) (ht : ∀ q ∈ tb, CallD G X q.1 q.2) (hf : DE G X fe wf) (ha : DA G X (e :: es) wa)
    (hv : eval (.Call fe (e :: es) [] pos) X.env = (do callWith pos (← eval fe X.env) [] (backTo pos (starEach (e :: es) X.env)) (backToKw pos (keywordEach [] X.env))) := by rfl)
    (he : starEach (e :: es) X.env = (false, eval e X.env) :: starEach es X.env := by rfl) (hpl : (backTo pos (starEach es X.env)).any (·.1) = false := by rfl) : DE G X (.Call fe (e :: es) [] pos) (wCallO tb wf wa) := by
  refine ⟨fun pins s σ H Q I ⟨F1, M1, δ, Q', EX, hm1, rs, h, tk, fin⟩ => ?_⟩
  refine Call_ (thn (de_run hf I hm1 rs h tk) fun u s1 ⟨v, H1, I1, rv, d, F2, M2, g, rd, qi, q⟩ => ?_) hv
  have key : ∃ a, v = .ref a := by
    obtain ⟨⟨c, fs⟩, e0⟩ := Option.isSome_iff_exists.mp qi
    obtain ⟨a, _, _, z, _⟩ := insOf_rep g.hm rd e0
    exact ⟨a, z⟩
  obtain ⟨a, rfl⟩ := key
  obtain rfl : u = Value.ref a := rv
  refine StX.callO_with (thn (da_run ha pos I1 g.hm (rs.mono g.ext) q (tk.imp (wX_mono g))) fun us s2 ⟨vs, H2, I2, r, ds, F3, M3, g2, rl, c, fs, sp, e1, e2, q2⟩ => ?_) he hpl
  obtain ⟨a', dx, ws, ea, hz, l, rz⟩ := insOf_rep g2.hm (rd.mono g2.ext) e1
  cases ea
  obtain ⟨gd, k, f, fd, ps, co, F, hr, hgd, hb⟩ := ht _ (lookup_mem e2)
  obtain ⟨ox, od, J, hd⟩ := StX.insC_at I2 (.inr ⟨_, _, hz⟩)
  have gt := g.trans g2
  refine ⟨⟨_, ox, od, J, hd⟩, ?_⟩
  have rl3 : RepL G X.K F3 (V.ref a :: vs) (d :: ds) := .cons (rd.mono g2.ext) rl
  have f2 : Fin G X.K F3 M3 H2 Q' Q := fun v d F4 M4 H4 g4 r4 q4 => fin v d F4 M4 H4 (gt.trans g4) r4 q4
  have hl' := lift_at (P := Q) g2.hm (rs.mono gt.ext) rl3 q2 f2
  have r2 : Vals (V.ref a :: vs) (Value.ref a :: us) := .cons rfl r
  have hn : (Value.ref a :: us).length = ps.length := r2.length.symm.trans (F.len _ _ _ _ hl')
  refine wpAny_call (PySem.W.kco_code I2.kIn J hd co.at_ co.fn co.fi (codeAny_mono (F.run X.A X.stack s2 H2 ⟨Value.ref a :: us, []⟩ (Value.ref a :: us) _ Q _ hr hgd I2.env0 ?_ r2 hl') (fun res s' hq => ?_)))
  · have z := hb s2 (Value.ref a :: us) I2.kIn (by simpa using hn)
    simpa using z
  · match res, hq with
    | .error z, hq => exact passAt (tk.imp (wX_mono gt)) σ pins H2 s2 z s' I2 hq
    | .ok (.ret u), hq => exact I2.after hq
end
end DL

set_option Elab.async false
set_option linter.all false
set_option maxRecDepth 100000
namespace DL
open PySem PySem.Spec L2
open PyProof.Rows hiding St
section
variable {G : Cfg}
/-! ### the law's own call -/
theorem rep_ints {K : PySem.W.Frag} {F : Hp} : ∀ ns : List Int, RepL G K F (ns.map V.int) (ns.map D.int)
  | [] => .nil
  | n :: ns => .cons (.int n) (rep_ints ns)
theorem not_cx {P : Program} {w : World} {H : Hp} {s : Shared} {e : Value} {s' : Shared} (h : L2.CX P w [] H s (fun _ _ _ => False) e s') : False := by
  obtain ⟨_, _, _, _, _, _, _, _, _, _, _, _, z⟩ := h
  exact z
section
variable {P : Program} {w : World} {K : PySem.W.Frag} {mg mb : Str → Option Value} {gd : Bool} {k : Nat} {fa a : Addr} {nm x : Str} {sp : SpD} {s₁ : Shared} {vs : List Value} {ns : List Int}
/-- from a heap H in which at most the script (at a) is tracked -/
theorem law_at (KX : K.In s₁.heap) (hns : s₁.heap.Ns mainGlobals mg) (hb : s₁.heap.Ns builtinsNs mb) (hbb : ∀ x : Str, x ≠ "__name__" → mb x = bootBuiltins x) (hlim : s₁.heap.NoLimit) (hg : s₁.gens = #[])
    (ha : s₁.heap.get? a = some { cls := .type "list", data := .seq vs.toArray }) (hr : Room k callerA) (hgd : callerA.guards = some [])
    (F : ∀ base : Heap, K.In base → base.Ns mainGlobals mg → OkG P w K mg base gd k nm [x] (lift G K sp)) (hmg : mg nm = some (.ref fa)) (hT : G.tabs = [])
    (hsp : sp [.frl (ns.map D.int)] (fun _ => none) (fun d _ => d = .bl true) fun _ _ => False)
    {H : Hp} (hS : SqL K H a (ns.map V.int)) (hok : HOk P w H s₁.heap) (hA : ∀ b, H b ≠ none → b = a ∧ K.lookup a = none ∧ ∃ o xs, H b = some (.frz o (.lst xs))) :
    codeAny (model P w) callerA (.call (.ref fa) ⟨[.ref a], []⟩) (fun r s' => r = .ok (.ret (.bool true)) ∧ OldK s₁.heap s'.heap ∧ s'.os = s₁.os ∧ AllBare s'.gens) s₁ := by
  have free : ∀ {b : Addr} {o : Obj}, s₁.heap.get? b = some o → (b = a → False) → H b = none := fun {b o} _ nb => by
    cases q : H b with
    | none => rfl
    | some u => exact (nb (hA b (by rw [q]; simp)).1).elim
  have nsK : ∀ {b : Addr} {m : Str → Option Value}, s₁.heap.Ns b m → (hidT s₁.heap H).Ns b m := fun {b m} ⟨o, es, ep, e, d, r⟩ => by
    refine ⟨o, es, ep, hidT_get e (free e fun z => ?_), d, r⟩
    subst z
    rw [ha] at e
    cases e
    have d' : Data.seq vs.toArray _ = Data.dict es ep := d
    cases d'
  have hKb : K.In (hidT s₁.heap H) := fun b o e => hidT_get (KX b o e) (by
    cases q : H b with
    | none => rfl
    | some u =>
      obtain ⟨z, n, _⟩ := hA b (by rw [q]; simp)
      subst z
      rw [n] at e; cases e)
  have hM : Mod K mg (hidT s₁.heap H) := ⟨hKb, nsK hns, ⟨mb, nsK hb, hbb⟩, let ⟨mc, h1, h2⟩ := hlim; ⟨mc, nsK h1, h2⟩⟩
  have e0 : Env0 P w K mg (hidT s₁.heap H) callerA [] s₁ H := ⟨rfl, hM, fun b o e => of_hidT e, Nat.le_of_eq (hidT_size _ _), trivial, fun b hb => absurd (show b ∈ ([] : List Addr) from hb) (by simp), hok, .of_eq hg⟩
  have hm0 : HM G K H (fun _ => none) H := ⟨Same.refl _, fun b m e => (nomatch e), fun b m e => (nomatch e), fun p hp => by rw [hT] at hp; cases hp⟩
  have hl : lift G K sp [.ref a] H (fun v _ => v = .bl true) (fun _ _ _ => False) :=
    ⟨H, fun _ => none, [.frl (ns.map D.int)], _, _, hm0, .cons (.frl hS (rep_ints ns)) .nil, hsp, fun v d F' M' H' g r q => by subst q; cases r; rfl, fun cls dop xd F' M' H' g rx q => q⟩
  obtain ⟨f, fd, hf, _, hb, Fn⟩ := F _ hKb (nsK hns)
  have ef : f = fa := by
    have z := hf.symm.trans hmg
    injection z with z
    injection z
  subst ef
  refine codeAny_mono (Fn.run callerA [] s₁ H ⟨[.ref a], []⟩ [.ref a] [.ref a] _ _ hr (fun _ => hgd) e0 (hb s₁ [.ref a] KX rfl) (.cons rfl .nil) hl) fun r s' h => ?_
  match r, h with
  | .error e, h => exact (not_cx h).elim
  | .ok (.ret u), h =>
    obtain ⟨v, H', os, bare, un, hok', r', q⟩ := h
    have q' : v = .bl true := q
    subst q'
    obtain rfl : u = Value.bool true := r'
    refine ⟨rfl, OldK.of_keep fun b o e => ?_, os, bare⟩
    cases q : H b with
    | none => exact un.keep b o e q (by intro z; exact absurd (show b ∈ ([] : List Addr) from z) (by simp)) (by simp)
    | some u =>
      obtain ⟨_, _, ob, xs, z⟩ := hA b (by rw [q]; simp)
      have z2 := un.frzs b ob _ z
      obtain ⟨e1, _⟩ := hok b _ z
      obtain ⟨e2, _⟩ := hok' b _ z2
      rw [e] at e1; cases e1
      exact e2
end
theorem walkD {l : PySem.W.OpenLaw} {n k : Nat} {gd : Bool} {q : Program} {loose : List Str} {XP : (Str → Option Value) → Heap → Prop} {YP : World → Heap → Prop} {d : DefRec} {K : Params → PySem.W.Frag} {sp : SpD} {x : Str}
    (hn : l.most = some n) (hn2 : n ≤ sizeLine) (hdf : d.params.defaults = []) (hr : Room k callerA) (hgd : callerA.guards = some [])
    (hY : ∀ (w : World) (h : Heap), YP w h → (K w.params).In h)
    (F : ∀ (w : World) (mg : Str → Option Value) (h : Heap), (K w.params).In h → h.Ns mainGlobals mg →
      ∃ G : Cfg, G.tabs = [] ∧ ∀ base : Heap, (K w.params).In base → base.Ns mainGlobals mg → OkG l.prog w (K w.params) mg base gd k d.name [x] (lift G (K w.params) sp))
    (hsp : ∀ ns : List Int, ns.length ≤ n → sp [.frl (ns.map D.int)] (fun _ => none) (fun d _ => d = .bl true) fun _ _ => False) :
    PySem.W.WalkO q loose XP YP l.row.toRowW d [] (fun f vs => PySem.call f vs) := by
  refine Att.attach_call hn hdf fun w s₀ s₁ mg mb fa o pm cd doc a vs ns E Y ho hd hcd hmg hobj hints hlen hg => ?_
  have KX := hY w _ Y
  obtain ⟨G, hT, hF⟩ := F w mg _ KX E.T.g
  have rv := vals_ints hints
  have lenV := hints.length
  have hl := Nat.le_trans hlen hn2
  cases hk : (K w.params).lookup a with
  | some o =>
    have e := KX a o hk
    rw [hobj] at e
    cases e
    exact law_at KX E.T.g E.T.b E.T.builtins E.T.nolimit hg hobj hr hgd hF hmg hT (hsp ns hlen) (H := fun _ => none) (.inr ⟨_, vs.toArray, _, hk, rfl, rfl, rfl, by rw [List.size_toArray, lenV]; exact hl, by simpa using rv⟩) (fun b u z => nomatch (show (none : Option HO) = some u from z)) (fun b z => absurd rfl z)
  | none =>
    refine law_at KX E.T.g E.T.b E.T.builtins E.T.nolimit hg hobj hr hgd hF hmg hT (hsp ns hlen) (H := fun b => if b = a then some (.frz { cls := .type "list", data := .seq vs.toArray } (.lst (ns.map V.int))) else none) (.inl (.inr ⟨{ cls := .type "list", data := .seq vs.toArray }, if_pos rfl⟩)) (fun b u z => ?_) (fun b z => ?_)
    · by_cases hb : b = a
      · have z' := (if_pos hb).symm.trans z
        cases z'
        subst hb
        exact ⟨hobj, by rw [List.length_map]; exact hl, vs, _, rv, hobj⟩
      · have z' := (if_neg hb).symm.trans z
        cases z'
    · by_cases hb : b = a
      · exact ⟨hb, hk, _, _, if_pos hb⟩
      · exact absurd (if_neg hb) z
end
end DL

set_option Elab.async false
set_option linter.all false
set_option maxRecDepth 100000
namespace DL
open PySem PySem.Spec L2
open PyProof.Rows hiding St
section
variable {G : Cfg} {X : Cx} {P : Program} {w : World} {K : PySem.W.Frag} {mg : Str → Option Value} {base : Heap} {gd : Bool} {C : Addr} {c k n : Nat} {m qual : Str} {st : Stmt} {f : Addr} {N ps ks : List Str} {wb : WS} {wg : WG} {sp : SpD} {sg : SpGD} {kws : List (Str × V)} {dds : List D}
/-! ### what the text has of classes; what their defs promise -/
structure GMeth (K : PySem.W.Frag) (C : Addr) (m qual : Str) (st : Stmt) (ps : List Str) : Prop where
  ex : ∃ f fd, Meth K C m f ∧ Fun K m qual st f fd ∧ Binds K fd ps []
structure OkMeth (P : Program) (w : World) (K : PySem.W.Frag) (mg : Str → Option Value) (base : Heap) (gd : Bool) (k : Nat) (C : Addr) (m : Str) (ps : List Str) (sp : Sp) : Prop where
  ex : ∃ f fd, Meth K C m f ∧ Binds K fd ps [] ∧ FnG P w K mg base gd k f fd ps sp
theorem okMeth (g : GMeth K C m qual st ps) (S : FnScope N ps (defScope st))
    (hb : ∀ (f : Addr) (cdv : Value) (A : Around) (out : List Env) (s : Shared) (H : Hp) (E : XK), Room k (A.deeper (envOfC qual (defScope st) s.heap.objs.size f cdv)) → (gd = true → (A.deeper (envOfC qual (defScope st) s.heap.objs.size f cdv)).guards = some []) → DSs G (cxOf (L2.CX P w) P w K mg base N qual (defScope st) f cdv A out s H E) (defBody st) wb) :
    OkMeth P w K mg base gd (k + 1) C m ps (lift G K (spOf ps.length N.length wb)) := by
  obtain ⟨f, fd, h1, F, b⟩ := g
  exact ⟨f, fd, h1, b, okD F S (hb f)⟩
theorem md_of (o : OkMeth X.prog X.w X.K X.mg X.base gd k (G.cl c) m ps (lift G X.K sp)) (cls : Cls X.K (G.cl c)) (noat : m ∉ G.nm c) (hr : Room k X.A) (hgd : gd = true → X.A.guards = some []) : MethD G X c m [] sp := by
  obtain ⟨f, fd, h1, b, F⟩ := o
  exact ⟨cls, noat, gd, k, f, fd, ps, [], [], h1, F, hr, hgd, b, .nil, Flat.nil⟩
structure OkMethG (P : Program) (w : World) (K : PySem.W.Frag) (mg : Str → Option Value) (base : Heap) (k : Nat) (C : Addr) (m : Str) (ps : List Str) (sp : SpG) : Prop where
  ex : ∃ f fd, Meth K C m f ∧ Binds K fd ps [] ∧ GFn P w K mg base k f fd ps sp
theorem okMethG (g : GMeth K C m qual st ps) (S : GScope N ps (defScope st))
    (hb : ∀ (f : Addr) (cdv : Value) (A : Around) (out : List Env) (s : Shared) (H : Hp) (E : XK) (pn : List (Addr × Obj)), Room k (A.deeper (envOfC qual (defScope st) s.heap.objs.size f cdv)) → DGs G (gcxOf P w K mg base N qual (defScope st) f cdv A out s H E pn) (defBody st) wg) :
    OkMethG P w K mg base (k + 1) C m ps (liftG G K (spGOf ps.length N.length wg)) := by
  obtain ⟨f, fd, h1, F, b⟩ := g
  exact ⟨f, fd, h1, b, okGen F S (hb f)⟩
theorem mg_of (o : OkMethG X.prog X.w X.K X.mg X.base k (G.cl c) m ps (liftG G X.K sg)) (cls : Cls X.K (G.cl c)) (noat : m ∉ G.nm c) (hr : Room (k + 3) X.A) : MethG G X c m sg := by
  obtain ⟨f, fd, h1, b, F⟩ := o
  exact ⟨cls, noat, k, f, fd, ps, h1, F, hr, b⟩
structure GCall (K : PySem.W.Frag) (C : Addr) (qual : Str) (st : Stmt) (ps : List Str) : Prop where
  ex : ∃ f fd, StX.CallO K C f ∧ Fun K "__call__" qual st f fd ∧ Binds K fd ps []
structure OkCall (P : Program) (w : World) (K : PySem.W.Frag) (mg : Str → Option Value) (base : Heap) (gd : Bool) (k : Nat) (C : Addr) (ps : List Str) (sp : Sp) : Prop where
  ex : ∃ f fd, StX.CallO K C f ∧ Binds K fd ps [] ∧ FnG P w K mg base gd k f fd ps sp
theorem okCall (g : GCall K C qual st ps) (S : FnScope N ps (defScope st))
    (hb : ∀ (f : Addr) (cdv : Value) (A : Around) (out : List Env) (s : Shared) (H : Hp) (E : XK), Room k (A.deeper (envOfC qual (defScope st) s.heap.objs.size f cdv)) → (gd = true → (A.deeper (envOfC qual (defScope st) s.heap.objs.size f cdv)).guards = some []) → DSs G (cxOf (L2.CX P w) P w K mg base N qual (defScope st) f cdv A out s H E) (defBody st) wb) :
    OkCall P w K mg base gd (k + 1) C ps (lift G K (spOf ps.length N.length wb)) := by
  obtain ⟨f, fd, h1, F, b⟩ := g
  exact ⟨f, fd, h1, b, okD F S (hb f)⟩
theorem cd_of (o : OkCall X.prog X.w X.K X.mg X.base gd k (G.cl c) ps (lift G X.K sp)) (hr : Room k X.A) (hgd : gd = true → X.A.guards = some []) : CallD G X c sp := by
  obtain ⟨f, fd, h1, b, F⟩ := o
  exact ⟨gd, k, f, fd, ps, h1, F, hr, hgd, b⟩
structure GProp (K : PySem.W.Frag) (C : Addr) (m qual : Str) (st : Stmt) (ps : List Str) : Prop where
  ex : ∃ p g fd, PropOf K C m p g ∧ Fun K m qual st g fd ∧ Binds K fd ps []
structure OkProp (P : Program) (w : World) (K : PySem.W.Frag) (mg : Str → Option Value) (base : Heap) (gd : Bool) (k : Nat) (C : Addr) (m : Str) (ps : List Str) (sp : Sp) : Prop where
  ex : ∃ p g fd, PropOf K C m p g ∧ Binds K fd ps [] ∧ FnG P w K mg base gd k g fd ps sp
theorem okProp (g : GProp K C m qual st ps) (S : FnScope N ps (defScope st))
    (hb : ∀ (f : Addr) (cdv : Value) (A : Around) (out : List Env) (s : Shared) (H : Hp) (E : XK), Room k (A.deeper (envOfC qual (defScope st) s.heap.objs.size f cdv)) → (gd = true → (A.deeper (envOfC qual (defScope st) s.heap.objs.size f cdv)).guards = some []) → DSs G (cxOf (L2.CX P w) P w K mg base N qual (defScope st) f cdv A out s H E) (defBody st) wb) :
    OkProp P w K mg base gd (k + 1) C m ps (lift G K (spOf ps.length N.length wb)) := by
  obtain ⟨p, f, fd, h1, F, b⟩ := g
  exact ⟨p, f, fd, h1, b, okD F S (hb f)⟩
theorem pd_of (o : OkProp X.prog X.w X.K X.mg X.base gd k (G.cl c) m ps (lift G X.K sp)) (cls : Cls X.K (G.cl c)) (hr : Room (k + 1) X.A) (hgd : gd = true → X.A.guards = some []) : PropD G X c m sp := by
  obtain ⟨p, f, fd, h1, b, F⟩ := o
  exact ⟨cls, gd, p, f, k, fd, ps, h1, F, hr, hgd, b⟩
/-! ### C(..) -/
structure GInit (K : PySem.W.Frag) (C : Addr) (qual : Str) (st : Stmt) (kws : List (Str × V)) : Prop where
  ex : ∃ f fd, Mk K C f ∧ FunD K "__init__" qual (defArgs st) (defBody st) (defScope st) [] kws f fd
structure OkInit (P : Program) (w : World) (K : PySem.W.Frag) (mg : Str → Option Value) (base : Heap) (gd : Bool) (k : Nat) (C : Addr) (qual : Str) (st : Stmt) (kws : List (Str × V)) (ps : List Str) (sp : Sp) : Prop where
  ex : ∃ f fd, Mk K C f ∧ FunD K "__init__" qual (defArgs st) (defBody st) (defScope st) [] kws f fd ∧ FnG P w K mg base gd k f fd ps sp
theorem funD_fun {x : Str} {f : Addr} {fd : FuncData} (F : FunD K x qual (defArgs st) (defBody st) (defScope st) [] kws f fd) : Fun K x qual st f fd := by
  obtain ⟨oc, od, dV, kV, doc, pm, an, cdv, ct, osl, e, lk, hcd, hD, hK⟩ := F.ex
  rcases hD with ⟨_, z⟩ | ⟨z, _⟩
  · subst z
    exact ⟨⟨oc, od, kV, doc, pm, an, cdv, ct, osl, e, lk, hcd⟩, F.kp⟩
  · exact absurd rfl z
theorem okInit (g : GInit K C qual st kws) (S : FnScope N ps (defScope st))
    (hb : ∀ (f : Addr) (cdv : Value) (A : Around) (out : List Env) (s : Shared) (H : Hp) (E : XK), Room k (A.deeper (envOfC qual (defScope st) s.heap.objs.size f cdv)) → (gd = true → (A.deeper (envOfC qual (defScope st) s.heap.objs.size f cdv)).guards = some []) → DSs G (cxOf (L2.CX P w) P w K mg base N qual (defScope st) f cdv A out s H E) (defBody st) wb) :
    OkInit P w K mg base gd (k + 1) C qual st kws ps (lift G K (spOf ps.length N.length wb)) := by
  obtain ⟨f, fd, h1, F⟩ := g
  exact ⟨f, fd, h1, F, okD (funD_fun F) S (hb f)⟩
variable {x : Str} {p pos : Pos} {e : Expr} {es : List Expr} {wa wk : WA} {kwl : List Keyword}
/-- C(e, ..), every parameter written -/
theorem de_new (o : OkInit X.prog X.w X.K X.mg X.base gd k (G.cl c) qual st [] ps (lift G X.K sp)) (hr : Room (k + 1) X.A) (hgd : gd = true → X.A.guards = some []) (hm : X.mg x = some (.ref (G.cl c)))
    (hch : ∀ (kV doc pm : Value) (an : Option Addr) (cdv ct : Value) (us : List Value), us.length = ps.length → bindArgs (PySem.W.fnOf "__init__" qual (defArgs st) (defBody st) (defScope st) .none kV doc pm an cdv ct) ⟨us, []⟩ = pure (ps.zip us))
    (ha : DA G X (e :: es) wa) (hg : Gl X x := by rfl) (hdb : (x == ("__debug__" : Str)) = false := by decide) (he : starEach (e :: es) X.env = (false, eval e X.env) :: starEach es X.env := by rfl) (hpl : (backTo pos (starEach es X.env)).any (·.1) = false := by rfl) :
    DE G X (.Call (.Name x p) (e :: es) [] pos) (wMake c sp [] wa) := by
  obtain ⟨f, fd, mk, F, Fn⟩ := o
  exact de_make mk Fn hr hgd hm (F.bindsN hch) .nil Flat.nil ha hg hdb he hpl
/-- C(e, ..), the keyword-only ones are left out -/
theorem de_newD (o : OkInit X.prog X.w X.K X.mg X.base gd k (G.cl c) qual st kws ps (lift G X.K sp)) (hr : Room (k + 1) X.A) (hgd : gd = true → X.A.guards = some []) (hm : X.mg x = some (.ref (G.cl c))) (n : Nat) (hk : kws ≠ []) (hn : n + kws.length = ps.length) (hf : Flat G X.K (kws.map (·.2)) dds)
    (hch : ∀ (D : Addr) (doc pm : Value) (an : Option Addr) (cdv ct : Value) (us ks : List Value), us.length = n → ks.length = kws.length → KwChain D ((kws.map (·.1)).zip ks) (bindArgs (PySem.W.fnOf "__init__" qual (defArgs st) (defBody st) (defScope st) .none (.ref D) doc pm an cdv ct) ⟨us, []⟩) (ps.zip (us ++ ks)))
    (ha : DA G X (e :: es) wa) (hg : Gl X x := by rfl) (hdb : (x == ("__debug__" : Str)) = false := by decide) (he : starEach (e :: es) X.env = (false, eval e X.env) :: starEach es X.env := by rfl) (hpl : (backTo pos (starEach es X.env)).any (·.1) = false := by rfl) :
    DE G X (.Call (.Name x p) (e :: es) [] pos) (wMake c sp dds wa) := by
  obtain ⟨f, fd, mk, F, Fn⟩ := o
  obtain ⟨ds, hd, hb⟩ := F.binds0 n hk hn hch
  exact de_make mk Fn hr hgd hm hb hd hf ha hg hdb he hpl
/-- C(e, .., k = v, ..), no keyword-only parameter lacks -/
theorem de_newK (o : OkInit X.prog X.w X.K X.mg X.base gd k (G.cl c) qual st kws ps (lift G X.K sp)) (hr : Room (k + 1) X.A) (hgd : gd = true → X.A.guards = some []) (hm : X.mg x = some (.ref (G.cl c))) (n : Nat) (hk : kws ≠ [])
    (hch : ∀ (D : Addr) (doc pm : Value) (an : Option Addr) (cdv ct : Value) (us ws : List Value), us.length = n + 1 → ws.length = ks.length → bindArgs (PySem.W.fnOf "__init__" qual (defArgs st) (defBody st) (defScope st) .none (.ref D) doc pm an cdv ct) ⟨us, ks.zip ws⟩ = pure (ps.zip (us ++ ws)))
    (ha : DA G X (e :: es) wa) (hkw : DK G X kwl wk) (hks : (backToKw pos (keywordEach kwl X.env)).filterMap (·.1) = ks := by rfl) (hg : Gl X x := by rfl)
    (hall : (backToKw pos (keywordEach kwl X.env)).all (·.1.isSome) = true := by rfl) (hdb : (x == ("__debug__" : Str)) = false := by decide)
    (he : starEach (e :: es) X.env = (false, eval e X.env) :: starEach es X.env := by rfl) (hpl : ((backTo pos (starEach (e :: es) X.env)).any (·.1) || (backToKw pos (keywordEach kwl X.env)).any (·.1.isNone)) = false := by rfl) :
    DE G X (.Call (.Name x p) (e :: es) kwl pos) (wMakeK c n ks.length (fun ds es => ds ++ es) sp wa wk) := by
  obtain ⟨f, fd, mk, F, Fn⟩ := o
  obtain ⟨mv, hb⟩ := F.kbinds0 (ps := ps) (n + 1) ks [] (fun us mv ws => us ++ ws) hk (fun _ z => by cases z) (fun r1 _ r3 => r1.append r3) (fun D doc pm an cdv ct us mv ws l1 _ l3 => by
    have z := hch D doc pm an cdv ct us ws l1 l3
    exact z)
  exact de_makeK mk Fn hr hgd hm ⟨_, _, hb, fun F vs ds zs es r1 r2 => r1.app r2⟩ ha hkw hg hall hks hdb he hpl
end
end DL
namespace DL
open PySem PySem.Spec L2
open PyProof.Rows hiding St
section
variable {G : Cfg} {X : Cx} {e : Expr}
theorem de_weak {w w' : WE} (h : DE G X e w) (i : ∀ δ M Q EX, w' δ M Q EX → w δ M Q EX) : DE G X e w' := pe_imp h fun σ H P ⟨F, M, δ, Q, EX, hm, rs, h, tk, f⟩ => ⟨F, M, δ, Q, EX, hm, rs, i _ _ _ _ h, tk, f⟩
theorem de_cvalN {C : Addr} {x f : Str} {d : D} {p pos : Pos} (k : CK G X.K C f d) (hm : X.mg x = some (.ref C)) (hg : Gl X x := by rfl) (hd : (x == ("__debug__" : Str)) = false := by decide) (hb : attributeBase (.Name x p) f X.env (eval (.Name x p) X.env) = eval (.Name x p) X.env := by rfl) :
    DE G X (.Attribute (.Name x p) f pos) (wC d) := de_weak (de_cval k (de_cls hm (show RelV (.ref C) (.ref C) from rfl) hg hd) hb) fun δ M Q EX h => ⟨rfl, h⟩
def wIsi1 (tb : Ty → Option Bool) (we : WE) : WE := fun δ M Q EX => we δ M (kIsi tb Q) EX
theorem de_isi {we : WE} {cv : V} {u : Value} {tb : Ty → Option Bool} {c : Expr} {p pos : Pos} (k : ClsV cv u) (T : IsiT G X.K u tb) (hm : X.mg "isinstance" = none) (h : DE G X e we) (hc : DE G X c (wC (.raw cv))) (hg : Gl X "isinstance" := by rfl)
    (he : starEach (e :: [c]) X.env = (false, eval e X.env) :: starEach [c] X.env := by rfl) (he2 : starEach [c] X.env = (false, eval c X.env) :: starEach [] X.env := by rfl) (hpl : (backTo pos (starEach [c] X.env)).any (·.1) = false := by rfl) :
    DE G X (.Call (.Name "isinstance" p) [e, c] [] pos) (wIsi1 tb we) := by
  refine de_weak (de_callB (sim_isi k T) call_isi hm (by decide +kernel) (da_cons h (da_cons hc da_nil he2) he) hg (by decide) (by decide) he hpl) fun δ M Q EX h => ?_
  have z : (fun d M1 => cv = cv ∧ kIsi tb Q d M1) = kIsi tb Q := by
    funext d M1
    exact propext ⟨fun h => h.2, fun h => ⟨rfl, h⟩⟩
  show we δ M (fun d M1 => cv = cv ∧ kIsi tb Q d M1) EX
  rw [z]
  exact h
theorem tb_nil {α : Type} {P : α → Prop} : ∀ p ∈ ([] : List α), P p := fun _ h => nomatch h
theorem tb_cons {α : Type} {P : α → Prop} {a : α} {l : List α} (h : P a) (t : ∀ p ∈ l, P p) : ∀ p ∈ a :: l, P p := fun p hp => by
  rcases List.mem_cons.mp hp with e | hp
  · rw [e]; exact h
  · exact t p hp
end
end DL

set_option Elab.async false
set_option linter.all false
set_option maxRecDepth 100000
namespace DL
open PySem PySem.Spec L2
open PyProof.Rows hiding St
/-! ### repr and == of data: what must be shown of the data -/
structure Sho (p : PyData) : Prop where
  sh : p.showable = true
  nd : p.hasDict = false
  dp : p.depth ≤ 64
  le : p.shown.length ≤ sizeLine
/-- ==, != of texts and ints alone; of other data by their data -/
def wEq2 : WR2 := fun x y M Q => match x, y with
  | .str s, .str t => Q (.bl (decide (s = t))) M
  | .int i, .int j => Q (.bl (decide (i = j))) M
  | x, y => wEq x y M Q
def wNe2 : WR2 := fun x y M Q => match x, y with
  | .str s, .str t => Q (.bl (!decide (s = t))) M
  | .int i, .int j => Q (.bl (!decide (i = j))) M
  | x, y => wNe x y M Q
theorem dec_inj {α β : Type} [DecidableEq α] [DecidableEq β] {f : α → β} (hf : ∀ a b, f a = f b → a = b) {a b : α} : decide (f a = f b) = decide (a = b) := by
  by_cases h : a = b
  · subst h; simp
  · rw [decide_eq_false h, decide_eq_false fun z => h (hf _ _ z)]
theorem sim_eq2 {G : Cfg} {K : PySem.W.Frag} : Sim2 G K (orR rEq (rEqD K)) wEq2 := by
  intro F M H x y dx dy Q P hm rx ry hw f
  unfold wEq2 at hw
  split at hw
  · cases rx; cases ry
    refine .inl ⟨rfl, f _ _ F M H (.refl hm) (.bl _) ?_⟩
    rw [dec_inj (f := V.str) (fun a b z => by injection z)]
    exact hw
  · cases rx; cases ry
    refine .inl ⟨rfl, f _ _ F M H (.refl hm) (.bl _) ?_⟩
    rw [dec_inj (f := V.int) (fun a b z => by injection z)]
    exact hw
  · exact .inr (sim_eq F M H x y _ _ Q P hm rx ry hw f)
theorem sim_ne2 {G : Cfg} {K : PySem.W.Frag} : Sim2 G K (orR rNe (rNeD K)) wNe2 := by
  intro F M H x y dx dy Q P hm rx ry hw f
  unfold wNe2 at hw
  split at hw
  · cases rx; cases ry
    refine .inl ⟨rfl, f _ _ F M H (.refl hm) (.bl _) ?_⟩
    rw [dec_inj (f := V.str) (fun a b z => by injection z)]
    exact hw
  · cases rx; cases ry
    refine .inl ⟨rfl, f _ _ F M H (.refl hm) (.bl _) ?_⟩
    rw [dec_inj (f := V.int) (fun a b z => by injection z)]
    exact hw
  · exact .inr (sim_ne F M H x y _ _ Q P hm rx ry hw f)
theorem sho_none : Sho .none := ⟨by decide +kernel, by decide +kernel, by decide +kernel, by decide +kernel⟩
theorem int_lt {x : Int} (h : -(2 ^ 100) < x ∧ x < 2 ^ 100) : x.natAbs.log2 < 100 := by
  by_cases h0 : x.natAbs = 0
  · rw [h0]; decide
  · exact (Nat.log2_lt h0).mpr (by omega)
theorem shown_int_le {x : Int} (h : -(2 ^ 100) < x ∧ x < 2 ^ 100) : (PyData.shown (.int x)).length ≤ 101 := by
  have z := int_text_length_le (k := 100) (by decide) (int_lt h)
  simp only [PyData.shown]
  rw [PySem.ofString_length]
  exact z
theorem leavesAll_ints : ∀ {ns : List Int}, (∀ x ∈ ns, -(2 ^ 100) < x ∧ x < 2 ^ 100) → PyData.leavesShortAll 101 (ns.map .int) = true
  | [], _ => by simp only [List.map_nil, PyData.leavesShortAll]
  | n :: ns, h => by
    simp only [List.map_cons, PyData.leavesShortAll, PyData.leavesShort, Bool.and_eq_true, decide_eq_true_eq]
    exact ⟨shown_int_le (h n List.mem_cons_self), leavesAll_ints fun x hx => h x (List.mem_cons_of_mem _ hx)⟩
theorem bulkAll_ints : ∀ ns : List Int, PyData.bulkAll (ns.map .int) = ns.length
  | [] => by simp only [List.map_nil, PyData.bulkAll, List.length_nil]
  | n :: ns => by simp only [List.map_cons, PyData.bulkAll, PyData.bulk, bulkAll_ints ns, List.length_cons]; omega
theorem noDictAll_ints : ∀ ns : List Int, PyData.hasDictAll (ns.map .int) = false
  | [] => by simp only [List.map_nil, PyData.hasDictAll]
  | n :: ns => by simp only [List.map_cons, PyData.hasDictAll, PyData.hasDict, noDictAll_ints ns, Bool.or_self]
theorem sho_int {x : Int} (h : -(2 ^ 100) < x ∧ x < 2 ^ 100) : Sho (.int x) := ⟨by
  simp only [PyData.showable, decide_eq_true_eq]
  exact Nat.lt_trans (int_lt h) (by decide), by simp only [PyData.hasDict], by simp only [PyData.depth]; omega, by
  have := shown_int_le h
  rw [sizeLine_eq]; omega⟩
theorem sho_list {ns : List Int} (h : ∀ x ∈ ns, -(2 ^ 100) < x ∧ x < 2 ^ 100) (hl : ns.length ≤ 10000) : Sho (.list (ns.map .int)) := by
  refine ⟨?_, ?_, ?_, ?_⟩
  · simp only [PyData.showable]
    exact PyData.showableAll_ints ns fun x hx => Nat.lt_trans (int_lt (h x hx)) (by decide)
  · simp only [PyData.hasDict, noDictAll_ints]
  · simp only [PyData.depth, depth_ints]; omega
  · have z := PyData.shown_le_bulk 101 (by decide) (.list (ns.map .int)) (by simp only [PyData.leavesShort]; exact leavesAll_ints h)
    simp only [PyData.bulk, bulkAll_ints] at z
    rw [sizeLine_eq]; omega
theorem sho_tuple {ns : List Int} (h : ∀ x ∈ ns, -(2 ^ 100) < x ∧ x < 2 ^ 100) (hl : ns.length ≤ 10000) : Sho (.tuple (ns.map .int)) := by
  refine ⟨?_, ?_, ?_, ?_⟩
  · simp only [PyData.showable]
    exact PyData.showableAll_ints ns fun x hx => Nat.lt_trans (int_lt (h x hx)) (by decide)
  · simp only [PyData.hasDict, noDictAll_ints]
  · simp only [PyData.depth, depth_ints]; omega
  · have z := PyData.shown_le_bulk 101 (by decide) (.tuple (ns.map .int)) (by simp only [PyData.leavesShort]; exact leavesAll_ints h)
    simp only [PyData.bulk, bulkAll_ints] at z
    rw [sizeLine_eq]; omega
section
variable {M : MM} {Q : D → MM → Prop} {d x y : D} {p : PyData}
theorem at_repr (h : py M d = some p) (s : Sho p) (q : Q (.str p.shown) M) : wRepr [d] M Q := by
  unfold wRepr
  exact ⟨p, h, s.sh, s.nd, s.dp, s.le, q⟩
theorem py_str {s : Str} : py M (.str s) = some (.str s) := by unfold py; simp only [toPy]
theorem py_int {i : Int} : py M (.int i) = some (.int i) := by unfold py; simp only [toPy]
theorem py_non : py M .non = some .none := by unfold py; simp only [toPy]
theorem py_lst {ns : List Int} : py M (.lst (ns.map D.int)) = some (.list (ns.map .int)) := by unfold py; exact toPy_lst (toPys_ints ns)
theorem py_tup {ns : List Int} : py M (.tup (ns.map D.int)) = some (.tuple (ns.map .int)) := by unfold py; exact toPy_tup (toPys_ints ns)
theorem lints_mut {a : Addr} {ns : List Int} (h : M a = some (.lst (ns.map D.int))) : lintsOf M (.raw (.ref a)) = some ns := by
  unfold lintsOf; rw [lst_mut h]; exact intsOf_ints ns
theorem lints_lst {ns : List Int} : lintsOf M (.lst (ns.map D.int)) = some ns := intsOf_ints ns
theorem at_cat {xs ys : List D} (h1 : lstOf M x = some xs) (h2 : lstOf M y = some ys) (hl : xs.length + ys.length ≤ sizeLine) (q : Q (.lst (xs ++ ys)) M) : wCat x y M Q := by
  unfold wCat; rw [h1, h2]; exact ⟨hl, q⟩
theorem at_sort {ns : List Int} (h : lintsOf M d = some ns) (q : ∀ s : List Int, s.Perm ns → s.Pairwise (· ≤ ·) → Q (.lst (s.map D.int)) M) : wSorted [d] M Q := by
  unfold wSorted; dsimp only; rw [h]; exact q
theorem at_sortM {ns : List Int} (h : lintsOf M d = some ns) (q : ∀ s : List Int, s.Perm ns → s.Pairwise (· ≤ ·) → ∀ p, M p = none → Q (.raw (.ref p)) (updM M p (.lst (s.map D.int)))) : wSortedM [d] M Q := by
  unfold wSortedM; dsimp only; rw [h]; exact q
theorem at_max {ns : List Int} (h : lintsOf M d = some ns) (l : 0 < ns.length) (q : ∀ m, m ∈ ns → (∀ y, y ∈ ns → y ≤ m) → Q (.int m) M) : wMax [d] M Q := by
  unfold wMax; dsimp only; rw [h]; exact ⟨l, q⟩
theorem at_min {ns : List Int} (h : lintsOf M d = some ns) (l : 0 < ns.length) (q : ∀ m, m ∈ ns → (∀ y, y ∈ ns → m ≤ y) → Q (.int m) M) : wMin [d] M Q := by
  unfold wMin; dsimp only; rw [h]; exact ⟨l, q⟩
theorem at_tupOf {xs : List D} (h : seqOf M d = some xs) (q : Q (.tup xs) M) : wTupOf [d] M Q := by
  unfold wTupOf; dsimp only; rw [h]; exact q
theorem at_rev {xs : List D} (h : lstOf M d = some xs) (q : Q (.lst xs.reverse) M) : kRev Q d M := by
  unfold kRev; rw [h]; exact q
theorem at_revT {xs : List D} (q : Q (.tup xs.reverse) M) : kRev Q (.tup xs) M := by
  unfold kRev; exact q
theorem at_pop {a : Addr} {xs : List D} (h : xs[xs.length - 1]? = some d) (q : Q d (updM M a (.lst xs.dropLast))) : wPop a xs [] M Q := by
  unfold wPop; dsimp only; rw [h]; exact q
theorem at_pop0 {a : Addr} {xs : List D} (h : xs[0]? = some d) (q : Q d (updM M a (.lst (xs.eraseIdx 0)))) : wPopAt a xs [.int 0] M Q := by
  have e : seqIndex? 0 xs.length = some 0 := by
    cases xs with
    | nil => cases h
    | cons y ys => simp [seqIndex?]
  unfold wPopAt; dsimp only
  refine ⟨⟨by decide, by decide⟩, ?_⟩
  rw [e]; dsimp only; rw [h]; exact q
theorem ins_mut {a : Addr} {c : Nat} {fs : List D} (h : M a = some (.ins c fs)) : insOf M (.raw (.ref a)) = some (c, fs) := by
  unfold insOf; dsimp only; rw [h]
theorem at_fld {cs : List (Nat × Nat)} {c i : Nat} {fs : List D} (h : insOf M d = some (c, fs)) (h2 : cs.lookup c = some i) (h3 : fs[i]? = some x) (q : Q x M) : kFld cs Q d M := by
  unfold kFld; rw [h]; dsimp only; rw [h2]; dsimp only; rw [h3]; exact q
theorem at_fldSet {cs : List (Nat × Nat)} {nx : MM → Prop} {v : D} {a : Addr} {c i : Nat} {fs : List D} (h : M a = some (.ins c fs)) (h2 : cs.lookup c = some i) (hi : i < fs.length) (q : nx (updM M a (.ins c (fs.set i v)))) : kFldPut cs nx v (.raw (.ref a)) M := by
  unfold kFldPut; dsimp only; rw [h]; dsimp only; rw [h2]; exact .inl ⟨hi, q⟩
theorem at_fldNew {cs : List (Nat × Nat)} {nx : MM → Prop} {v : D} {a : Addr} {c i : Nat} {fs : List D} (h : M a = some (.ins c fs)) (h2 : cs.lookup c = some i) (hi : i = fs.length) (q : nx (updM M a (.ins c (fs ++ [v])))) : kFldPut cs nx v (.raw (.ref a)) M := by
  unfold kFldPut; dsimp only; rw [h]; dsimp only; rw [h2]; exact .inr ⟨hi, q⟩
theorem drop_last {α : Type} : ∀ xs : List α, xs.dropLast = xs.eraseIdx (xs.length - 1)
  | [] => rfl
  | [_] => rfl
  | x :: y :: ys => by
    have z := drop_last (y :: ys)
    show x :: (y :: ys).dropLast = (x :: y :: ys).eraseIdx (ys.length + 1)
    rw [z]
    rfl
theorem map_erase : ∀ (xs : List Int) (i : Nat), (xs.map D.int).eraseIdx i = (xs.eraseIdx i).map D.int
  | [], _ => rfl
  | x :: xs, 0 => rfl
  | x :: xs, i + 1 => by
    show D.int x :: (xs.map D.int).eraseIdx i = D.int x :: (xs.eraseIdx i).map D.int
    rw [map_erase xs i]
end
theorem at_iterF' {Q : IT → MM → Prop} {M : MM} {ds : List D} (q : Q { items := ds } M) : kiS Q (.lst ds) M := by
  unfold kiS; exact q
/-! ### what stays of the changing part -/
/-- M' keeps what was there, but for S, which is there still -/
def Kp (S : List Addr) (M M' : MM) : Prop := ∀ b, M b ≠ none → M' b ≠ none ∧ (b ∉ S → M' b = M b)
theorem Kp.refl {S : List Addr} {M : MM} : Kp S M M := fun _ h => ⟨h, fun _ => rfl⟩
theorem Kp.trans {S : List Addr} {M M1 M2 : MM} (a : Kp S M M1) (b : Kp S M1 M2) : Kp S M M2 := fun c h1 =>
  ⟨(b c (a c h1).1).1, fun h2 => ((b c (a c h1).1).2 h2).trans ((a c h1).2 h2)⟩
theorem Kp.mono {S T : List Addr} {M M' : MM} (a : Kp S M M') (h : ∀ b ∈ S, b ∈ T) : Kp T M M' := fun c h1 => ⟨(a c h1).1, fun h2 => (a c h1).2 fun z => h2 (h c z)⟩
theorem updM_some {M : MM} {p b : Addr} {o : MO} (h : M b ≠ none) : updM M p o b ≠ none := by
  by_cases e : b = p
  · rw [e, updM_same]; simp
  · rw [updM_ne e]; exact h
theorem kp_upd {S : List Addr} {M : MM} {p : Addr} {o : MO} (h : p ∈ S) : Kp S M (updM M p o) := fun b hb => ⟨updM_some hb, fun nb => updM_ne fun z => nb (z ▸ h)⟩
theorem kp_new {S : List Addr} {M : MM} {p : Addr} {o : MO} (h : M p = none) : Kp S M (updM M p o) := fun b hb => ⟨updM_some hb, fun _ => updM_ne fun z => hb (z ▸ h)⟩
theorem Kp.drop {S : List Addr} {M M1 M2 : MM} {q : Addr} (hq : M q = none) (a : Kp S M M1) (b : Kp (q :: S) M1 M2) : Kp S M M2 := fun c h1 => by
  have nq : c ≠ q := fun z => h1 (z ▸ hq)
  exact ⟨(b c (a c h1).1).1, fun h2 => ((b c (a c h1).1).2 (by simp [nq, h2])).trans ((a c h1).2 h2)⟩
theorem Kp.some {S : List Addr} {M M' : MM} {b : Addr} {o : MO} (a : Kp S M M') (h : M b = some o) (n : b ∉ S) : M' b = some o := by rw [(a b (by rw [h]; simp)).2 n]; exact h
theorem Kp.none {S : List Addr} {M M' : MM} {b : Addr} (a : Kp S M M') (h : M' b = none) : M b = none := by
  cases e : M b with
  | none => rfl
  | some o => exact absurd h (a b (by rw [e]; simp)).1
end DL

set_option Elab.async false
set_option linter.all false
set_option maxRecDepth 100000
/-! positional promises; own operators -/
namespace PySem.W
open PySem PySem.Calls PyProof.Rows
/-- none of the classes above C has the number slot -/
def noNum (K : Frag) (C : Addr) (d r : Str) : Bool := (clsIn K C).any fun cd => cd.mro.all fun c => (match c with | .type _ => true | .ref _ => true | _ => false) && (findIn K c d == some none) && (findIn K c r == some none)
theorem looks_noNum {K : Frag} {M : Model} {h : Heap} {C : Addr} {nm : String} (X : K.In h) (e : noNum K C (PySem.dunder nm) (dunderR nm) = true) : Looks M h (fillsNumberSlot (.ref C) nm) false := by
  unfold noNum at e
  obtain ⟨cd, hcd, hm⟩ := any_some e
  intro A Q E s k q
  have Lm : Looks M h (mroOf (.ref C)) cd.mro := (looks_clsIn X hcd).andThen (f := fun cd => pure cd.mro) .now
  unfold fillsNumberSlot
  refine wpAny_bind (Lm A _ E s k ?_)
  have go : ∀ l : List Value, (l.all fun c => (match c with | .type _ => true | .ref _ => true | _ => false) && (findIn K c (PySem.dunder nm) == some none) && (findIn K c (dunderR nm) == some none)) = true →
      wpAny M A (l.anyM fun c => do
        if let .type _ := c then return ← (do
          let f ← typeLookup c (PySem.dunder nm)
          let r ← typeLookup c (dunderR nm)
          return (f.isSome && !isSeqSlot f) || (r.isSome && !isSeqSlot r))
        [PySem.dunder nm, dunderR nm].anyM fun name => do
          let some x ← typeLookup c name | return false
          if !ownNameWrapper x name then return true
          return !(← inheritsSeqSlot c name)) Q E s := by
    intro l
    induction l with
    | nil => intro _; exact wpAny_pure q
    | cons c r ih =>
      intro hall
      rw [List.all_cons] at hall
      obtain ⟨h1, h2⟩ := Bool.and_eq_true_iff.mp hall
      obtain ⟨h3, h4⟩ := Bool.and_eq_true_iff.mp h1
      obtain ⟨h5, h6⟩ := Bool.and_eq_true_iff.mp h3
      have L1 : Looks M h (typeLookup c (PySem.dunder nm)) none := looks_findIn X (beq_iff_eq.mp h6)
      have L2 : Looks M h (typeLookup c (dunderR nm)) none := looks_findIn X (beq_iff_eq.mp h4)
      have L1' := L1.keeps k
      have L2' := L2.keeps k
      have ih' := ih h2
      rw [List.anyM_cons]
      refine wpAny_bind ?_
      cases c with
      | type T =>
        refine wpAny_bind (L1'.here (wpAny_bind (L2'.here ?_)))
        exact wpAny_pure ih'
      | ref a =>
        show wpAny M A (List.anyM _ [PySem.dunder nm, dunderR nm]) _ _ _
        rw [List.anyM_cons]
        refine wpAny_bind (wpAny_bind (L1'.here ?_))
        refine wpAny_pure ?_
        rw [if_neg Bool.false_ne_true, List.anyM_cons]
        refine wpAny_bind (wpAny_bind (L2'.here ?_))
        refine wpAny_pure ?_
        rw [if_neg Bool.false_ne_true]
        exact wpAny_pure ih'
      | _ => exact absurd h5 Bool.false_ne_true
  exact go cd.mro hm
end PySem.W
namespace PySem.W
open PySem PySem.Calls PyProof.Rows
section
variable {prog : Program} {w : World} {A : Around} {E : Value → Shared → Prop} {s : Shared} {K : Frag} {x C C' L f : Addr} {h₀ : Heap} {m : Str → Option Value} {ox : Obj} {od : Option Obj}
theorem kbin_O {op : Operator} {b : Value} {Q : Value → Shared → Prop} (X : K.In s.heap) (I : InstAt s.heap x ox C od) (hb : Looks (model prog w) s.heap (typeOf b) (.ref C')) (hne : C ≠ C') (hc : selfFirst K C = true)
    (hs : findIn K (.ref C) (PySem.dunder op.info.2) = some (some (.ref f))) (hf : isFn K (.ref f) = true) (hn : noNum K C' (PySem.dunder op.info.2) (dunderR op.info.2) = true)
    (h : wpAny (model prog w) A (call (.ref f) [.ref x, b]) (CmpBack Q) E s) : wpAny (model prog w) A (binaryOp op (.ref x) b) Q E s := by
  obtain ⟨cd, rest, hcd, hm⟩ := ksp_first hc
  have hneq : (Value.ref C == Value.ref C') = false := Bool.eq_false_iff.mpr fun q => by cases beq_iff_eq.mp q; exact hne rfl
  unfold binaryOp
  refine wpAny_holding (wpAny_bind ?_)
  unfold binaryOp1
  refine wpAny_bind (I.type.here (wpAny_bind (hb.here (wpAny_bind ((fills_K X hcd hm hs).here ?_)))))
  simp only [hneq, Bool.false_eq_true, if_false]
  refine wpAny_bind ((looks_noNum X hn).here ?_)
  simp only [Bool.and_false, Bool.false_eq_true, if_false, Bool.false_and]
  refine wpAny_bind (wpAny_pure ?_)
  simp only [Bool.false_eq_true, if_false]
  refine wpAny_bind (m := tryMethod (.ref x) _ b) ?_
  unfold tryMethod
  refine wpAny_bind (special_fn X I hs (beq_iff_eq.mp hf) (wpAny_mono h (fun v s' hv => ?_) fun _ _ e => e))
  cases v <;> first | exact hv.elim | exact wpAny_pure (wpAny_pure (wpAny_pure hv))
end
end PySem.W
namespace DL
open PySem PySem.Spec L2
open PyProof.Rows hiding St
/-- a def keeps its promise of positional arguments -/
structure FnP (P : Program) (w : World) (K : PySem.W.Frag) (mg : Str → Option Value) (base : Heap) (gd : Bool) (k : Nat) (f : Addr) (sp : Sp) : Prop where
  run : ∀ (A : Around) (out : List Env) (s : Shared) (H : Hp) (us : List Value) (vs : List V) (Q : VK) (E : XK), Room k A → (gd = true → A.guards = some []) → Env0 P w K mg base A out s H → Vals vs us → sp vs H Q E →
    codeAny (PySem.model P w) A (.call (.ref f) ⟨us, []⟩) (CR (L2.CX P w) out P w H s Q E) s
section
variable {P : Program} {w : World} {K : PySem.W.Frag} {mg : Str → Option Value} {base : Heap} {gd : Bool} {k : Nat} {f : Addr} {fd : FuncData} {ps : List Str} {sp : Sp}
theorem FnG.pos (F : FnG P w K mg base gd k f fd ps sp) (hb : Binds K fd ps []) : FnP P w K mg base gd k f sp := ⟨fun A out s H us vs Q E hr hg e0 r h => by
  have hn : us.length = ps.length := r.length.symm.trans (F.len _ _ _ _ h)
  have inK : K.In s.heap := e0.mod.kin.keeps (fun b o z => (e0.bs b o z).left)
  have b := hb s us inK (by rw [List.append_nil]; exact hn)
  rw [List.append_nil] at b
  exact F.run A out s H ⟨us, []⟩ us vs Q E hr hg e0 b r h⟩
theorem FnP.ofR (F : FnR P w K mg base (L2.CX P w) k f sp) : FnP P w K mg base false k f sp := ⟨fun A out s H us vs Q E hr hg e0 r h => F A out s H us vs Q E hr e0 r h⟩
theorem FnP.toR (F : FnP P w K mg base false k f sp) : FnR P w K mg base (L2.CX P w) k f sp := fun A out s H us vs Q E hr e0 r h => F.run A out s H us vs Q E hr (fun z => nomatch z) e0 r h
end
section
variable {G : Cfg} {X : Cx} {gd : Bool} {k : Nat} {f : Addr} {sp : SpD}
theorem runP_at (F : FnP X.prog X.w X.K X.mg X.base gd k f (lift G X.K sp)) (hr : Room k X.A) (hgd : gd = true → X.A.guards = some []) {pins : List (Addr × Obj)} {σ : St} {H : Hp} {s : Shared} {us : List Value} {vs : List V} {ds : List D} {F1 : Hp} {M1 : MM} {δ : DS} {Q : D → MM → Prop} {EX : XK'} {P : VK}
    (I : Inv X pins σ H s) (r : Vals vs us) (hm : HM G X.K F1 M1 H) (rs : RS G X.K F1 σ δ) (rl : RepL G X.K F1 vs ds) (h : sp ds M1 Q (fun xd M' => EX xd δ M')) (tk : Takes X (wX G X.K F1 M1 H EX)) (f' : Fin G X.K F1 M1 H Q P) :
    codeAny (model X.prog X.w) X.A (.call (.ref f) ⟨us, []⟩) (fun r s' => match r with | .ok (.ret v) => EP X pins σ P v s' | .ok _ => False | .error e => X.xe e s') s := by
  have hl' := lift_at (P := P) hm rs rl h f'
  refine codeAny_mono (F.run X.A X.stack s H us vs P _ hr hgd I.env0 r hl') (fun res s' hq => ?_)
  match res, hq with
  | .error z, hq => exact passAt tk σ pins H s z s' I hq
  | .ok (.ret u), hq => exact I.after hq
theorem callP_at (F : FnP X.prog X.w X.K X.mg X.base gd k f (lift G X.K sp)) (hr : Room k X.A) (hgd : gd = true → X.A.guards = some []) {pins : List (Addr × Obj)} {σ : St} {H : Hp} {s : Shared} {us : List Value} {vs : List V} {ds : List D} {F1 : Hp} {M1 : MM} {δ : DS} {Q : D → MM → Prop} {EX : XK'} {P : VK}
    (I : Inv X pins σ H s) (r : Vals vs us) (hm : HM G X.K F1 M1 H) (rs : RS G X.K F1 σ δ) (rl : RepL G X.K F1 vs ds) (h : sp ds M1 Q (fun xd M' => EX xd δ M')) (tk : Takes X (wX G X.K F1 M1 H EX)) (f' : Fin G X.K F1 M1 H Q P) :
    wpAny (model X.prog X.w) X.A (call (.ref f) us) (EP X pins σ P) X.xe s :=
  wpAny_call (codeAny_mono (runP_at F hr hgd I r hm rs rl h tk f') fun res s' hq => by
    match res, hq with
    | .error z, hq => exact hq
    | .ok (.ret u), hq => exact hq)

/-! ### operators, with what they may raise -/
abbrev WR2X := D → D → DS → MM → (D → MM → Prop) → XK' → Prop
def DOp (G : Cfg) (X : Cx) (f : Value → Value → Sem Value) (w : WR2X) : Prop :=
  ∀ (pins : List (Addr × Obj)) (s : Shared) (σ : St) (H : Hp) (x y : V) (v u : Value) (F : Hp) (M : MM) (δ : DS) (dx dy : D) (Q : D → MM → Prop) (EX : XK') (P : VK), Inv X pins σ H s → RelV x v → RelV y u → HM G X.K F M H → RS G X.K F σ δ → Rep G X.K F x dx → Rep G X.K F y dy →
    w dx dy δ M Q EX → Takes X (wX G X.K F M H EX) → Fin G X.K F M H Q P → wpAny (model X.prog X.w) X.A (f v u) (EP X pins σ P) X.xe s
def wOpX (w : WR2X) (wa wb : WE) : WE := fun δ M Q EX => wa δ M (fun x M1 => wb δ M1 (fun y M2 => w x y δ M2 Q EX) EX) EX
variable {a b : Expr} {wa wb : WE} {pos : Pos} {w : WR2X}
theorem dop_run {f : Value → Value → Sem Value} (ho : DOp G X f w) (ha : DE G X a wa) (hb : DE G X b wb) {pins : List (Addr × Obj)} {σ : St} {H : Hp} {s : Shared} {F1 : Hp} {M1 : MM} {δ : DS} {Q : D → MM → Prop} {EX : XK'} {P : VK}
    (I : Inv X pins σ H s) (hm : HM G X.K F1 M1 H) (rs : RS G X.K F1 σ δ) (h : wOpX w wa wb δ M1 Q EX) (tk : Takes X (wX G X.K F1 M1 H EX)) (f' : Fin G X.K F1 M1 H Q P) :
    wpAny (model X.prog X.w) X.A (eval a X.env) (fun v s1 => wpAny (model X.prog X.w) X.A (eval b X.env) (fun u s2 => wpAny (model X.prog X.w) X.A (f v u) (EP X pins σ P) X.xe s2) X.xe s1) X.xe s := by
  refine thn (de_run ha I hm rs h tk) fun v s1 ⟨x, H1, I1, rx, dx, F2, M2, g2, rdx, h2⟩ => ?_
  refine thn (de_run hb I1 g2.hm (rs.mono g2.ext) h2 (tk.imp (wX_mono g2))) fun u s2 ⟨y, H3, I3, ry, dy, F3, M3, g3, rdy, h3⟩ => ?_
  have g := g2.trans g3
  exact ho pins s2 σ H3 x y v u F3 M3 δ dx dy Q EX P I3 rx ry g3.hm (rs.mono g.ext) (rdx.mono g3.ext) rdy h3 (tk.imp (wX_mono g)) fun v d F' M' H' g' r q => f' v d F' M' H' (g.trans g') r q
theorem de_opX {op : Operator} (ho : DOp G X (binaryOp op) w) (ha : DE G X a wa) (hb : DE G X b wb) : DE G X (.BinOp a op b pos) (wOpX w wa wb) :=
  ⟨fun pins s σ H Q I ⟨F1, M1, δ, Q', EX, hm1, rs, h, tk, fin⟩ => wpAny_BinOp (dop_run ho ha hb I hm1 rs h tk fin)⟩
theorem de_cmpX {op : CmpOp} (ho : DOp G X (compareOp op) w) (ha : DE G X a wa) (hb : DE G X b wb) (hm : behindInMarks op b = false) : DE G X (.Compare a [op] [b] pos) (wOpX w wa wb) :=
  ⟨fun pins s σ H Q I ⟨F1, M1, δ, Q', EX, hm1, rs, h, tk, fin⟩ => wpAny_Compare1 (dop_run ho ha hb I hm1 rs h tk fin) hm⟩
theorem dt_cmpX {op : CmpOp} (ho : DOp G X (compareOp op) w) (ha : DE G X a wa) (hb : DE G X b wb) (hm : behindInMarks op b = false) : DT G X (.Compare a [op] [b] pos) (wTst (wOpX w wa wb)) := by
  refine ⟨fun pins s σ H Q I ⟨F1, M1, δ, Q', EX, hm1, rs, h, tk, fin⟩ => ?_⟩
  have z := dop_run (P := fun v H' => ∃ k, v = .bl k ∧ Q k H') ho ha hb I hm1 rs h tk (fun v d F' M' H' g r ⟨k, e, q⟩ => by
    subst e
    cases r
    exact ⟨k, rfl, fin k F' M' H' g q⟩)
  refine wpAny_isTrue_Compare1 (thn z fun v s1 z1 => thn z1 fun u s2 z2 => thn z2 fun c s3 ⟨y, H3, I3, r3, k, e, q3⟩ => ?_) hm
  subst e
  cases r3
  exact wpAny_truthy_bool ⟨H3, I3, q3⟩
theorem dop_of {f : Value → Value → Sem Value} {r : R2} {w : WR2} (ho : OpR X f r) (s : Sim2 G X.K r w) : DOp G X f (fun x y _ M Q _ => w x y M Q) :=
  fun pins s' σ H x y v u F M δ dx dy Q EX P I rx ry hm rs rdx rdy h tk fin => ho pins s' σ H x y v u P I rx ry (s F M H x y dx dy Q P hm rdx rdy h fin)
/-- own instances on the left, or else -/
def wOwn (tb : List (Nat × (Ty → Bool) × SpD)) (w : WR2) : WR2X := fun x y δ M Q EX => match x with
  | .ins c _ => ∃ al sp t, tb.lookup c = some (al, sp) ∧ tyD M y = some t ∧ al t = true ∧ sp [x, y] M Q (fun xd M3 => EX xd δ M3)
  | _ => w x y M Q
theorem dop_own {f : Value → Value → Sem Value} {w : WR2} {tb : List (Nat × (Ty → Bool) × SpD)} (ho : DOp G X f (fun x y _ M Q _ => w x y M Q))
    (h1 : ∀ p ∈ tb, ∀ t, p.2.1 t = true → DOp G X f (fun x y δ M Q EX => (∃ fs, x = .ins p.1 fs) ∧ tyD M y = some t ∧ p.2.2 [x, y] M Q (fun xd M3 => EX xd δ M3))) : DOp G X f (wOwn tb w) := by
  intro pins s' σ H x y v u F M δ dx dy Q EX P I rx ry hm rs rdx rdy h tk fin
  unfold wOwn at h
  split at h
  · obtain ⟨al, sp, t, e1, e2, e3, q⟩ := h
    exact h1 _ (lookup_mem e1) t e3 pins s' σ H x y v u F M δ _ dy Q EX P I rx ry hm rs rdx rdy ⟨⟨_, rfl⟩, e2, q⟩ tk fin
  · exact ho pins s' σ H x y v u F M δ dx dy Q EX P I rx ry hm rs rdx rdy h tk fin
end
end DL

set_option Elab.async false
set_option linter.all false
set_option maxRecDepth 100000
namespace DL
open PySem PySem.Spec L2
open PyProof.Rows hiding St
section
variable {G : Cfg} {X : Cx} {gd : Bool} {k c : Nat} {f : Addr} {sp : SpD} {m : Str} {ps : List Str}
/-- the class value of a kind -/
def tyV (G : Cfg) : Ty → Value
  | .own k => .ref (G.cl k)
  | t => .type t.nm
theorem tyD_own {M : MM} {d : D} {k : Nat} (e : tyD M d = some (.own k)) : ∃ fs, insOf M d = some (k, fs) := by
  unfold tyD at e
  split at e <;> try (cases e; done)
  · cases e; exact ⟨_, by unfold insOf; rfl⟩
  · split at e <;> try (cases e; done)
    rename_i q fs z
    cases e
    exact ⟨fs, by unfold insOf; simp only [z]⟩
/-- instances look as they are -/
theorem inst_at {pins : List (Addr × Obj)} {σ : St} {H : Hp} {s : Shared} {F : Hp} {M : MM} {x : V} {v : Value} {d : D} {c : Nat} {fs : List D} (I : Inv X pins σ H s) (hm : HM G X.K F M H) (rx : RelV x v) (rd : Rep G X.K F x d) (e : insOf M d = some (c, fs)) :
    ∃ a ox od, x = .ref a ∧ v = .ref a ∧ PySem.W.InstAt s.heap a ox (G.cl c) (some od) := by
  obtain ⟨a, dx, ws, rfl, hz, l, rz⟩ := insOf_rep hm rd e
  obtain rfl : v = Value.ref a := rx
  obtain ⟨mA, O, _⟩ := ins_get I.hok hz
  obtain ⟨od, J, _⟩ := O.look
  exact ⟨a, _, od, rfl, rfl, J⟩
def plainTy : Ty → Bool
  | .non | .bl | .int | .str | .own _ => true
  | _ => false
theorem looks_ty {pins : List (Addr × Obj)} {σ : St} {H : Hp} {s : Shared} {F : Hp} {M : MM} {x : V} {v : Value} {d : D} {t : Ty} (I : Inv X pins σ H s) (hm : HM G X.K F M H) (rx : RelV x v) (rd : Rep G X.K F x d) (e : tyD M d = some t) (hp : plainTy t = true) :
    PySem.W.Looks (model X.prog X.w) s.heap (typeOf v) (tyV G t) := by
  cases t with
  | own k =>
    obtain ⟨fs, e'⟩ := tyD_own e
    obtain ⟨a, ox, od, rfl, rfl, J⟩ := inst_at I hm rx rd e'
    exact J.type
  | non =>
    unfold tyD at e
    split at e <;> try (cases e; done)
    · cases rd; cases (show v = Value.none from rx); exact PySem.W.Looks.of_pure rfl
    · split at e <;> cases e
  | bl =>
    unfold tyD at e
    split at e <;> try (cases e; done)
    · cases rd; cases (show v = Value.bool _ from rx); exact PySem.W.Looks.of_pure rfl
    · split at e <;> cases e
  | int =>
    unfold tyD at e
    split at e <;> try (cases e; done)
    · cases rd; obtain ⟨t, q⟩ := (show ∃ t, v = Value.int _ t from rx); cases q; exact PySem.W.Looks.of_pure rfl
    · split at e <;> cases e
  | str =>
    unfold tyD at e
    split at e <;> try (cases e; done)
    · cases rd; obtain ⟨t, q⟩ := (show ∃ t, v = Value.str _ t from rx); cases q; exact PySem.W.Looks.of_pure rfl
    · split at e <;> cases e
  | _ => cases hp
/-- x op y by x's own def -/
theorem dop_bin {op : Operator} (o : OkMeth X.prog X.w X.K X.mg X.base gd k (G.cl c) m ps (lift G X.K sp)) (hmm : m = PySem.dunder op.info.2) (sf : PySem.W.selfFirst X.K (G.cl c) = true) (hr : Room k X.A) (hgd : gd = true → X.A.guards = some []) {t : Ty}
    (rt : ∃ j, t = .own j ∧ (j = c ∨ (G.cl c ≠ G.cl j ∧ PySem.W.noNum X.K (G.cl j) (PySem.dunder op.info.2) (PySem.dunderR op.info.2) = true))) :
    DOp G X (binaryOp op) (fun x y δ M Q EX => (∃ fs, x = .ins c fs) ∧ tyD M y = some t ∧ sp [x, y] M Q (fun xd M3 => EX xd δ M3)) := by
  subst hmm
  intro pins s σ H x y v u F M δ dx dy Q EX P I rx ry hm rs rdx rdy ⟨⟨fs, ex⟩, et, h⟩ tk fin
  subst ex
  obtain ⟨a, ox, od, rfl, rfl, J⟩ := inst_at I hm rx rdx (c := c) (fs := fs) (by unfold insOf; rfl)
  obtain ⟨f, fd, mt, b, Fn⟩ := o
  have go := wpAny_mono (callP_at (us := [.ref a, u]) (vs := [.ref a, y]) (ds := [.ins c fs, dy]) (Fn.pos b) hr hgd I (.cons rx (.cons ry .nil)) hm rs (.cons rdx (.cons rdy .nil)) h tk fin) (fun w s' z => by
    obtain ⟨z', H', I', rz, qz⟩ := id z
    exact SlX.cmpback (P := EP X pins σ P) rz z) fun _ _ x => x
  obtain ⟨j, rfl, hj⟩ := rt
  have Lb := looks_ty I hm ry rdy et rfl
  obtain ⟨mm, hF⟩ := I.fr
  rcases hj with e | ⟨ne, nn⟩
  · subst e
    exact PySem.W.binop_K hF I.ok.mod.kin J Lb sf mt.at_ mt.fn go
  · exact PySem.W.kbin_O I.kIn J Lb ne sf mt.at_ mt.fn nn go
/-- x == y and the like by x's own def -/
theorem dop_cmp {op : CmpOp} (hop : ∀ a b, compareOp op a b = richCompare op a b) (o : OkMeth X.prog X.w X.K X.mg X.base gd k (G.cl c) m ps (lift G X.K sp)) (hmm : m = (PySem.cmpInfo op).2.1) (hr : Room k X.A) (hgd : gd = true → X.A.guards = some []) {t : Ty} (hp : plainTy t = true)
    (hn : PySem.W.notFirst X.K (G.cl c) (tyV G t) = true) :
    DOp G X (compareOp op) (fun x y δ M Q EX => (∃ fs, x = .ins c fs) ∧ tyD M y = some t ∧ sp [x, y] M Q (fun xd M3 => EX xd δ M3)) := by
  subst hmm
  intro pins s σ H x y v u F M δ dx dy Q EX P I rx ry hm rs rdx rdy ⟨⟨fs, ex⟩, et, h⟩ tk fin
  subst ex
  obtain ⟨a, ox, od, rfl, rfl, J⟩ := inst_at I hm rx rdx (c := c) (fs := fs) (by unfold insOf; rfl)
  obtain ⟨f, fd, mt, b, Fn⟩ := o
  have go := wpAny_mono (callP_at (us := [.ref a, u]) (vs := [.ref a, y]) (ds := [.ins c fs, dy]) (Fn.pos b) hr hgd I (.cons rx (.cons ry .nil)) hm rs (.cons rdx (.cons rdy .nil)) h tk fin) (fun w s' z => by
    obtain ⟨z', H', I', rz, qz⟩ := id z
    exact SlX.cmpback (P := EP X pins σ P) rz z) fun _ _ x => x
  have Lb := looks_ty I hm ry rdy et hp
  obtain ⟨mm, hF⟩ := I.fr
  rw [hop]
  exact PySem.W.cmp_K hr.units0 hF I.ok.mod.kin J Lb hn mt.at_ mt.fn go
end
end DL
namespace DL
open PySem PySem.Spec L2
open PyProof.Rows hiding St
section
variable {prog : Program} {w : World} {A : Around} {E : Value → Shared → Prop} {s : Shared} {K : PySem.W.Frag} {x C L f : Addr} {h₀ : Heap} {m : Str → Option Value} {ox : Obj} {od : Option Obj} {b tb : Value}
open PySem.W in
/-- x != y where the class has its own == alone -/
theorem kne_K {Q : Value → Shared → Prop} (hu : A.units + 1 < cLine) (X : K.In s.heap) (I : InstAt s.heap x ox C od) (hb : Looks (model prog w) s.heap (typeOf b) tb) (hn : notFirst K C tb = true)
    (hne : findIn K (.ref C) "__ne__" = some (some (.builtin "object.__ne__"))) (hob : mroIn K C (.type "object") = some true)
    (hs : findIn K (.ref C) "__eq__" = some (some (.ref f))) (hf : isFn K (.ref f) = true)
    (h : wpAny (model prog w) A.in1 (call (.ref f) [.ref x, b]) (fun v s' => ∃ r, v = .bool r ∧ Q (.bool (!r)) s') E s) : wpAny (model prog w) A (richCompare .NotEq (.ref x) b) Q E s := by
  have one : wpAny (model prog w) A (tryCompare (.ref x) "__ne__" b) (fun r s' => ∃ v, r = some v ∧ Q v s') E s := by
    unfold tryCompare
    refine wpAny_bind ?_
    simp only [callSpecialIfBound?, bindSpecialIfBound?]
    refine wpAny_holding (wpAny_bind (wpAny_bind (wpAny_bind (I.type.here ((looks_findIn X hne).here ?_)))))
    simp only [PySem.F.cmp_object.ne.bind]
    have Lo : Looks (model prog w) s.heap (isInstance (.ref x) (.type "object")) true := I.type.andThen (looks_mroIn X hob)
    have fin : wpAny (model prog w) A (call (.builtin "object.__ne__") ([.ref x] ++ [b]) >>= fun v => pure (some v)) (fun r s' => wpAny (model prog w) A (match r with
        | some .notImplemented | none => pure none
        | some v => pure (some v)) (fun r s' => ∃ v, r = some v ∧ Q v s') E s') E s := by
      refine wpAny_bind (wpAny_call (codeAny_call_builtin PySem.F.cmp_object.ne.plain PySem.F.cmpEntry_ne (check_slot PySem.F.cmpKind_ne PySem.F.cmpSplit_ne Lo (PySem.F.cmpArgs_ne _ _) ?_)))
      unfold Builtin.«object.__ne__»
      refine wpAny_bind (wpAny_of_eq (a := ((Value.ref x : Value), [b])) (by first | rfl | (simp only [slotArgs]; rfl)) ?_)
      refine wpAny_bind (wpAny_cRoomFor (show A.in1.units < cLine by first | exact hu | (simp [Around.in1]; omega)) ?_)
      refine wpAny_bind (ifBound_K X I hs hf (wpAny_mono h (fun v s' hv => ?_) fun _ _ e => e))
      obtain ⟨r, rfl, hq⟩ := hv
      refine wpAny_bind (wpAny_truthy_bool ?_)
      refine wpAny_pure ?_
      exact wpAny_pure (wpAny_pure ⟨_, rfl, hq⟩)
    refine wpAny_bind (wpAny_askSetting (wpAny_ite ?_))
    split
    · exact wpAny_bind (wpAny_pure (wpAny_pure fin))
    · exact wpAny_tryCatch (wpAny_bind (wpAny_pure (wpAny_pure fin)))
  unfold richCompare
  simp only [oneThing_ref]
  refine wpAny_holding (wpAny_bind (wpAny_cRoomFor (by omega) ?_))
  refine wpAny_bind (I.type.here (wpAny_bind (hb.here ?_)))
  split
  · rename_i q
    have e : subIn K tb (.ref C) = some false := by
      rcases Bool.or_eq_true_iff.mp hn with e | e
      · rw [beq_iff_eq.mp e] at q; simp at q
      · exact beq_iff_eq.mp e
    refine wpAny_bind ((looks_subIn X e).here ?_)
    simp only [Bool.false_eq_true, if_false]
    refine wpAny_bind (wpAny_mono one (fun r s' z => ?_) fun _ _ e => e)
    obtain ⟨v, rfl, hq⟩ := z
    exact wpAny_pure hq
  · refine wpAny_bind (wpAny_pure ?_)
    simp only [Bool.false_eq_true, if_false]
    refine wpAny_bind (wpAny_mono one (fun r s' z => ?_) fun _ _ e => e)
    obtain ⟨v, rfl, hq⟩ := z
    exact wpAny_pure hq
end
end DL
namespace DL
open PySem PySem.Spec L2
open PyProof.Rows hiding St
section
variable {G : Cfg} {X : Cx} {gd : Bool} {k c : Nat} {f : Addr} {sp : SpD} {m : Str} {ps : List Str}
theorem callP_in {A : Around} (F : FnP X.prog X.w X.K X.mg X.base gd k f (lift G X.K sp)) (hr : Room k A) (fr : A.frames = X.A.frames) (hgd : gd = true → A.guards = some []) {pins : List (Addr × Obj)} {σ : St} {H : Hp} {s : Shared} {us : List Value} {vs : List V} {ds : List D} {F1 : Hp} {M1 : MM} {δ : DS} {Q : D → MM → Prop} {EX : XK'} {P : VK}
    (I : Inv X pins σ H s) (r : Vals vs us) (hm : HM G X.K F1 M1 H) (rs : RS G X.K F1 σ δ) (rl : RepL G X.K F1 vs ds) (h : sp ds M1 Q (fun xd M' => EX xd δ M')) (tk : Takes X (wX G X.K F1 M1 H EX)) (f' : Fin G X.K F1 M1 H Q P) :
    wpAny (model X.prog X.w) A (call (.ref f) us) (EP X pins σ P) X.xe s := by
  have hl' := lift_at (P := P) hm rs rl h f'
  have e := I.env0
  have e0 : Env0 X.prog X.w X.K X.mg X.base A X.stack s H := ⟨by rw [fr]; exact e.frames, e.mod, e.bs, e.bsz, e.funs, e.frf, e.hok, e.bare⟩
  refine wpAny_call (codeAny_mono (F.run A X.stack s H us vs P _ hr hgd e0 r hl') (fun res s' hq => ?_))
  match res, hq with
  | .error z, hq => exact passAt tk σ pins H s z s' I hq
  | .ok (.ret u), hq => exact I.after hq
/-- x != y by x's own == -/
theorem dop_ne (o : OkMeth X.prog X.w X.K X.mg X.base false k (G.cl c) "__eq__" ps (lift G X.K sp)) (hne : PySem.W.findIn X.K (.ref (G.cl c)) "__ne__" = some (some (.builtin "object.__ne__"))) (hob : PySem.W.mroIn X.K (G.cl c) (.type "object") = some true)
    (hr : Room (k + 1) X.A) {t : Ty} (hp : plainTy t = true) (hn : PySem.W.notFirst X.K (G.cl c) (tyV G t) = true) :
    DOp G X (compareOp .NotEq) (fun x y δ M Q EX => (∃ fs, x = .ins c fs) ∧ tyD M y = some t ∧ sp [x, y] M (fun d M1 => ∃ r, d = .bl r ∧ Q (.bl (!r)) M1) (fun xd M3 => EX xd δ M3)) := by
  intro pins s σ H x y v u F M δ dx dy Q EX P I rx ry hm rs rdx rdy ⟨⟨fs, ex⟩, et, h⟩ tk fin
  subst ex
  obtain ⟨a, ox, od, rfl, rfl, J⟩ := inst_at I hm rx rdx (c := c) (fs := fs) (by unfold insOf; rfl)
  obtain ⟨f, fd, mt, b, Fn⟩ := o
  have go := callP_in (A := X.A.in1) (P := fun v H' => ∃ r, v = .bl r ∧ P (.bl (!r)) H') (us := [.ref a, u]) (vs := [.ref a, y]) (ds := [.ins c fs, dy]) (Fn.pos b) hr.in1 rfl (fun z => nomatch z) I (.cons rx (.cons ry .nil)) hm rs (.cons rdx (.cons rdy .nil)) h tk
    (fun v d F' M' H' g r ⟨b, e, q⟩ => by
      subst e
      cases r
      exact ⟨b, rfl, fin _ _ F' M' H' g (.bl _) q⟩)
  have Lb := looks_ty I hm ry rdy et hp
  have hu : X.A.units + 1 < cLine := by have := hr.un; omega
  show wpAny _ _ (richCompare .NotEq _ _) _ _ _
  refine kne_K hu I.kIn J Lb hn hne hob mt.at_ mt.fn (wpAny_mono go (fun w s' z => ?_) fun _ _ x => x)
  obtain ⟨z', H', I', rz, r, e, qz⟩ := z
  subst e
  cases (show w = Value.bool r from rz)
  exact ⟨r, rfl, .bl (!r), H', I', rfl, qz⟩
/-- != reads the == of the left one -/
def wOwnNe (tb : List (Nat × (Ty → Bool) × SpD)) (w : WR2) : WR2X := fun x y δ M Q EX => match x with
  | .ins c _ => ∃ al sp t, tb.lookup c = some (al, sp) ∧ tyD M y = some t ∧ al t = true ∧ sp [x, y] M (fun d M1 => ∃ r, d = .bl r ∧ Q (.bl (!r)) M1) (fun xd M3 => EX xd δ M3)
  | _ => w x y M Q
theorem dop_ownNe {f : Value → Value → Sem Value} {w : WR2} {tb : List (Nat × (Ty → Bool) × SpD)} (ho : DOp G X f (fun x y _ M Q _ => w x y M Q))
    (h1 : ∀ p ∈ tb, ∀ t, p.2.1 t = true → DOp G X f (fun x y δ M Q EX => (∃ fs, x = .ins p.1 fs) ∧ tyD M y = some t ∧ p.2.2 [x, y] M (fun d M1 => ∃ r, d = .bl r ∧ Q (.bl (!r)) M1) (fun xd M3 => EX xd δ M3))) : DOp G X f (wOwnNe tb w) := by
  intro pins s' σ H x y v u F M δ dx dy Q EX P I rx ry hm rs rdx rdy h tk fin
  unfold wOwnNe at h
  split at h
  · obtain ⟨al, sp, t, e1, e2, e3, q⟩ := h
    exact h1 _ (lookup_mem e1) t e3 pins s' σ H x y v u F M δ _ dy Q EX P I rx ry hm rs rdx rdy ⟨⟨_, rfl⟩, e2, q⟩ tk fin
  · exact ho pins s' σ H x y v u F M δ dx dy Q EX P I rx ry hm rs rdx rdy h tk fin
/-! ### -x -/
def kNegO (tb : List (Nat × SpD)) (δ : DS) (Q : D → MM → Prop) (EX : XK') (d : D) (M1 : MM) : Prop := match d with
  | .int i => Q (.int (-i)) M1
  | .ins c _ => ∃ sp, tb.lookup c = some sp ∧ sp [d] M1 Q (fun xd M2 => EX xd δ M2)
  | _ => False
def wNegO (tb : List (Nat × SpD)) (we : WE) : WE := fun δ M Q EX => we δ M (kNegO tb δ Q EX) EX
theorem de_negO {e : Expr} {we : WE} {pos : Pos} (tb : List (Nat × SpD)) (h1 : ∀ p ∈ tb, ∃ (gd : Bool) (k : Nat) (ps : List Str), OkMeth X.prog X.w X.K X.mg X.base gd k (G.cl p.1) "__neg__" ps (lift G X.K p.2) ∧ Room k X.A ∧ (gd = true → X.A.guards = some [])) (h : DE G X e we) :
    DE G X (.UnaryOp .USub e pos) (wNegO tb we) := by
  refine ⟨fun pins s σ H Q I ⟨F1, M1, δ, Q', EX, hm1, rs, q, tk, fin⟩ => ?_⟩
  refine UnaryOp_ (thn (de_run h I hm1 rs q tk) fun u s1 ⟨x, H1, I1, rx, d, F2, M2, g, rd, q1⟩ => ?_)
  unfold kNegO at q1
  split at q1
  · cases rd
    obtain ⟨t, e⟩ := (show ∃ t, u = Value.int _ t from rx)
    cases e
    have z := un_neg (X := X) pins s1 σ H1 (.int _) (.int _ t) Q I1 ⟨t, rfl⟩ ⟨_, rfl, fin _ _ F2 M2 H1 g (.int _) q1⟩
    exact z
  · rename_i c fs
    obtain ⟨sp, e, q2⟩ := q1
    obtain ⟨gd, k, ps, ⟨f, fd, mt, b, Fn⟩, hr, hgd⟩ := h1 _ (lookup_mem e)
    obtain ⟨a, ox, od, rfl, rfl, J⟩ := inst_at I1 g.hm rx rd (c := c) (fs := fs) (by unfold insOf; rfl)
    obtain ⟨mm, hF⟩ := I1.fr
    exact PySem.W.ksp_neg hF I1.ok.mod.kin J mt.at_ mt.fn (callP_at (us := [.ref a]) (vs := [.ref a]) (ds := [.ins c fs]) (Fn.pos b) hr hgd I1 (.cons rfl .nil) g.hm (rs.mono g.ext) (.cons rd .nil) q2 (tk.imp (wX_mono g)) fun v d F3 M3 H3 g3 r3 q3 => fin v d F3 M3 H3 (g.trans g3) r3 q3)
  · exact q1.elim
end
end DL

set_option Elab.async false
set_option linter.all false
set_option maxRecDepth 100000
namespace DL
open PySem PySem.Spec L2
open PyProof.Rows hiding St
section
variable {G : Cfg} {X : Cx} {P : Program} {w : World} {K : PySem.W.Frag} {mg : Str → Option Value} {base : Heap} {gd : Bool} {C : Addr} {c k n : Nat} {m qual : Str} {st : Stmt} {f : Addr} {N ps : List Str} {wb : WS} {sp : SpD}
/-! ### def __init__(self, *rest) -/
def spStar (sp : SpD) : SpD := fun ds M Q EX => match ds with
  | d :: rest => rest.length ≤ sizeLine ∧ sp [d, .tup rest] M Q EX
  | [] => False
structure GInitS (K : PySem.W.Frag) (C : Addr) (qual : Str) (st : Stmt) (p1 pv : Str) : Prop where
  ex : ∃ f fd, Mk K C f ∧ Fun K "__init__" qual st f fd ∧ ∀ us rest : List Value, us.length = [p1].length → bindArgs fd ⟨us ++ rest, []⟩ = (newTuple rest >>= fun t => pure ([p1].zip us ++ [(pv, t)]))
structure OkInitP (P : Program) (w : World) (K : PySem.W.Frag) (mg : Str → Option Value) (base : Heap) (gd : Bool) (k : Nat) (C : Addr) (sp : Sp) : Prop where
  ex : ∃ f, Mk K C f ∧ FnP P w K mg base gd k f sp
theorem okInitS {p1 pv : Str} (g : GInitS K C qual st p1 pv) (S : FnScope N [p1, pv] (defScope st))
    (hb : ∀ (f : Addr) (cdv : Value) (A : Around) (out : List Env) (s : Shared) (H : Hp) (E : XK), Room k (A.deeper (envOfC qual (defScope st) s.heap.objs.size f cdv)) → (false = true → (A.deeper (envOfC qual (defScope st) s.heap.objs.size f cdv)).guards = some []) → DSs G (cxOf (L2.CX P w) P w K mg base N qual (defScope st) f cdv A out s H E) (defBody st) wb) :
    OkInitP P w K mg base false (k + 1) C (lift G K (spStar (spOf 2 N.length wb))) := by
  obtain ⟨f, fd, mk, F, hbi⟩ := g
  refine ⟨f, mk, FnP.ofR ?_⟩
  obtain ⟨oc, od, kV, doc, pm, an, cdv, ct, osl, efd, lk, hcd⟩ := F.ex
  subst efd
  have z := StX.fn_star (P := P) (w := w) (K := K) (mg := mg) (base := base) (CX := L2.CX P w) (k := k) (ps := [p1]) (pv := pv) (N := N) (sp := lift G K (spOf 2 N.length wb)) lk hcd S StX.cxUp hbi (fun A outer s H vs Q E hr h => by
    refine ⟨_, hb f cdv A outer s H E hr (fun z => nomatch z), ?_⟩
    obtain ⟨F', M, ds, Q', EX, hm, r, ⟨h1, h2⟩, fin, hx⟩ := h
    refine ⟨F', M, _, _, _, hm, rs_start r, h2, ?_, fun σ' δ' F1 M1 H1 g1 r1 q => fin _ _ F1 M1 H1 g1 .non q, fun v d F1 M1 H1 g1 r1 q => fin v d F1 M1 H1 g1 r1 q, fun _ _ _ _ _ _ _ q => q.elim, fun _ _ _ _ _ _ _ q => q.elim⟩
    have t : Takes (cxOf (L2.CX P w) P w K mg base N qual (defScope st) f cdv A outer s H E) (fun cls d _ H => E cls d H) := takes_of rfl rfl rfl rfl
    exact t.imp fun c d σ' H' ⟨xd, δ', F1, M1, g1, r1, rx, q⟩ => hx c d xd F1 M1 H' g1 rx q)
  refine z.imp fun vs H Q E h => ?_
  obtain ⟨F', M, ds, Q', EX, hm, r, h1, fin, hx⟩ := h
  unfold spStar at h1
  split at h1
  · rename_i d rest
    obtain ⟨hz, h2⟩ := h1
    cases r with
    | cons rv rr =>
      rename_i v vs'
      refine ⟨[v], vs', rfl, rfl, by rw [rr.len]; exact hz, fun p hp => ?_⟩
      have g := hm.new (o := .tup vs') hp
      refine ⟨_, M, [d, .tup rest], Q', EX, g.hm, .cons (rv.mono g.ext) (.cons (.tup upd_same (rr.mono g.ext)) .nil), h2, fun v d F3 M3 H3 g3 r3 q3 => fin v d F3 M3 H3 (g.trans g3) r3 q3, fun cls dop xd F3 M3 H3 g3 rx q => hx cls dop xd F3 M3 H3 (g.trans g3) rx q⟩
  · exact h1.elim
theorem OkInit.pos {kws : List (Str × V)} (o : OkInit P w K mg base gd k C qual st kws ps (lift G K sp)) (hk : kws = [])
    (hch : ∀ (kV doc pm : Value) (an : Option Addr) (cdv ct : Value) (us : List Value), us.length = ps.length → bindArgs (PySem.W.fnOf "__init__" qual (defArgs st) (defBody st) (defScope st) .none kV doc pm an cdv ct) ⟨us, []⟩ = pure (ps.zip us)) : OkInitP P w K mg base gd k C (lift G K sp) := by
  subst hk
  obtain ⟨f, fd, mk, F, Fn⟩ := o
  exact ⟨f, mk, Fn.pos (F.bindsN hch)⟩
/-- C(..) runs -/
theorem run_makeP {c : Nat} {f : Addr} (mk : Mk X.K (G.cl c) f) (F : FnP X.prog X.w X.K X.mg X.base gd k f (lift G X.K sp)) (hr : Room (k + 1) X.A) (hgd : gd = true → X.A.guards = some []) {pins : List (Addr × Obj)} {σ : St} {H : Hp} {s : Shared} {us : List Value} {vs : List V} {ds : List D} {F1 : Hp} {M1 : MM} {δ : DS} {Q : D → MM → Prop} {EX : XK'} {P : VK}
    (I : Inv X pins σ H s) (r : Vals vs us) (hm : HM G X.K F1 M1 H) (rs : RS G X.K F1 σ δ) (rl : RepL G X.K F1 vs ds)
    (h : ∀ p, M1 p = none → sp (.raw (.ref p) :: ds) (updM M1 p (.ins c [])) (fun d M2 => d = .non ∧ Q (.raw (.ref p)) M2) (fun xd M2 => EX xd δ M2)) (tk : Takes X (wX G X.K F1 M1 H EX)) (f' : Fin G X.K F1 M1 H Q P) :
    wpAny (model X.prog X.w) X.A (call (.ref (G.cl c)) us) (EP X pins σ P) X.xe s := by
  have n1 : H s.heap.objs.size = none := I.hok.fresh (Nat.le_refl _)
  have n2 : H (s.heap.objs.size + 1) = none := I.hok.fresh (Nat.le_succ _)
  have ne : s.heap.objs.size + 1 ≠ s.heap.objs.size := Nat.succ_ne_self _
  have I2 := Inv.made (C := G.cl c) I
  have g1 : Grow G X.K F1 M1 H F1 M1 (upd H s.heap.objs.size (.own (s.heap.objs.size + 1))) := hm.own n1
  have n3 : upd H s.heap.objs.size (.own (s.heap.objs.size + 1)) (s.heap.objs.size + 1) = none := by rw [upd_ne ne]; exact n2
  have g2 := g1.hm.newM (p := s.heap.objs.size + 1) (o := .ins (G.cl c) s.heap.objs.size []) (m := .ins c []) n3 ⟨s.heap.objs.size, [], by rw [upd_same]; simp, by simp, .nil⟩
  have g := g1.trans g2
  have hq := h (s.heap.objs.size + 1) (hm.free n2).2
  have r2 : Vals (V.ref (s.heap.objs.size + 1) :: vs) (Value.ref (s.heap.objs.size + 1) :: us) := .cons rfl r
  have rl2 : RepL G X.K F1 (V.ref (s.heap.objs.size + 1) :: vs) (D.raw (.ref (s.heap.objs.size + 1)) :: ds) := .cons (.raw _) rl
  have hl' := lift_at (P := fun v H' => v = .non ∧ P (.ref (s.heap.objs.size + 1)) H') g.hm rs rl2 hq (fun v d F3 M3 H3 g3 r3 q3 => by
    obtain ⟨e, q3⟩ := q3
    subst e
    cases r3
    exact ⟨rfl, f' _ _ F3 M3 H3 (g.trans g3) (.raw _) q3⟩)
  have tk2 : Takes X (wX G X.K F1 (updM M1 (s.heap.objs.size + 1) (.ins c [])) (upd (upd H s.heap.objs.size (.own (s.heap.objs.size + 1))) (s.heap.objs.size + 1) (.ins (G.cl c) s.heap.objs.size [])) EX) := tk.imp (wX_mono g)
  refine wpAny_call (make_map (f := f) I.kIn mk.makes mk.init (beq_iff_eq.mp mk.fn) (codeAny_mono (F.run _ X.stack _ _ (Value.ref (s.heap.objs.size + 1) :: us) (V.ref (s.heap.objs.size + 1) :: vs) _ _ (hr.make _ us []) (fun z => guards_make (hgd z))
    (I2.env0.make _ us []) r2 hl') fun r s' hq' => ?_))
  cases r with
  | error e => exact passAt tk2 σ pins _ _ e s' I2 hq'
  | ok fl =>
    cases fl with
    | ret u =>
      obtain ⟨v, H', I3, rv, ev, q3⟩ := I2.after hq'
      subst ev
      exact ⟨rv, ⟨V.ref (s.heap.objs.size + 1), H', I3, rfl, q3⟩⟩
    | next => exact False.elim hq'
    | brk => exact False.elim hq'
    | cont => exact False.elim hq'
variable {x : Str} {p pos apos sp_ : Pos} {e fe : Expr} {es : List Expr} {wa : WA} {we wf : WE}
/-- C(e, ..), by a positional promise -/
theorem de_newP (o : OkInitP X.prog X.w X.K X.mg X.base gd k (G.cl c) (lift G X.K sp)) (hr : Room (k + 1) X.A) (hgd : gd = true → X.A.guards = some []) (hm : X.mg x = some (.ref (G.cl c)))
    (ha : DA G X (e :: es) wa) (hg : Gl X x := by rfl) (hdb : (x == ("__debug__" : Str)) = false := by decide) (he : starEach (e :: es) X.env = (false, eval e X.env) :: starEach es X.env := by rfl) (hpl : (backTo pos (starEach es X.env)).any (·.1) = false := by rfl) :
    DE G X (.Call (.Name x p) (e :: es) [] pos) (wMake c sp [] wa) := by
  refine ⟨fun pins s σ H Q I ⟨F1, M1, δ, Q', EX, hm1, rs, h, tk, fin⟩ => ?_⟩
  obtain ⟨f, mk, F⟩ := o
  refine wpAny_Call_Name_kw (ld_glob I hg hm ?_ hdb)
  refine PySem.W.callWith_K (h₀ := X.base) I.ok.mod.kin mk.kp (thn (da_run ha pos I hm1 rs h tk) fun us s1 ⟨vs, H2, I2, r, ds, F2, M2, g, rl, q⟩ => ⟨I2.kIn, ?_⟩) he hpl
  exact run_makeP mk F hr hgd I2 r g.hm (rs.mono g.ext) rl (fun p hp => by have z := q p hp; rw [List.append_nil] at z; exact z) (tk.imp (wX_mono g)) fun v d F3 M3 H3 g3 r3 q3 => fin v d F3 M3 H3 (g.trans g3) r3 q3
/-- C() -/
theorem de_newP0 (o : OkInitP X.prog X.w X.K X.mg X.base gd k (G.cl c) (lift G X.K sp)) (hr : Room (k + 1) X.A) (hgd : gd = true → X.A.guards = some []) (hm : X.mg x = some (.ref (G.cl c)))
    (hg : Gl X x := by rfl) (hdb : (x == ("__debug__" : Str)) = false := by decide) :
    DE G X (.Call (.Name x p) [] [] pos) (wMake c sp [] wNil) := by
  refine ⟨fun pins s σ H Q I ⟨F1, M1, δ, Q', EX, hm1, rs, h, tk, fin⟩ => ?_⟩
  obtain ⟨f, mk, F⟩ := o
  refine wpAny_Call_Name_kw (ld_glob I hg hm ?_ hdb)
  exact PySem.W.callWith_K0 I.kIn mk.kp (run_makeP (us := []) (ds := []) mk F hr hgd I .nil hm1 rs .nil h tk fin)
/-- what *e gives -/
def kStar (Q : List D → MM → Prop) (d : D) (M : MM) : Prop := ∃ ds, seqOf M d = some ds ∧ Q ds M
theorem star_D {pins : List (Addr × Obj)} {σ : St} {H : Hp} {s : Shared} {F : Hp} {M : MM} {v : V} {u : Value} {d : D} {ds : List D} (I : Inv X pins σ H s) (hm : HM G X.K F M H) (rv : RelV v u) (rd : Rep G X.K F v d) (e : seqOf M d = some ds) {E : Value → Shared → Prop} {Q : List Value → Shared → Prop}
    (hQ : ∀ vs us s', Inv X pins σ H s' → Vals vs us → RepL G X.K F vs ds → Q us s') : PySem.W.StarOf (model X.prog X.w) X.A E u Q s := by
  obtain ⟨a, vs, rfl, hs, rl⟩ := seqOf_rep hm rd e
  obtain rfl : u = Value.ref a := rv
  exact StX.star_any I (hs.elim .inr .inl) fun us s' I' r => hQ vs us s' I' r rl
/-- C(*e) -/
def wMakeS (c : Nat) (sp : SpD) (we : WE) : WE := fun δ M Q EX => we δ M (kStar fun ds M1 => ∀ p, M1 p = none → sp (.raw (.ref p) :: ds) (updM M1 p (.ins c [])) (fun d M2 => d = .non ∧ Q (.raw (.ref p)) M2) (fun xd M2 => EX xd δ M2)) EX
theorem de_newS (o : OkInitP X.prog X.w X.K X.mg X.base gd k (G.cl c) (lift G X.K sp)) (hr : Room (k + 1) X.A) (hgd : gd = true → X.A.guards = some []) (hm : X.mg x = some (.ref (G.cl c)))
    (ha : DE G X e we) (hg : Gl X x := by rfl) (hdb : (x == ("__debug__" : Str)) = false := by decide) (hst : starEach [.Starred e sp_] X.env = [(true, eval e X.env)] := by rfl) :
    DE G X (.Call (.Name x p) [.Starred e sp_] [] pos) (wMakeS c sp we) := by
  refine ⟨fun pins s σ H Q I ⟨F1, M1, δ, Q', EX, hm1, rs, h, tk, fin⟩ => ?_⟩
  obtain ⟨f, mk, F⟩ := o
  refine wpAny_Call_Name_kw (ld_glob I hg hm ?_ hdb)
  refine PySem.W.callWith_S (h₀ := X.base) I.ok.mod.kin mk.kp (thn (de_run ha I hm1 rs h tk) fun v s1 ⟨y, H2, I2, ry, d, F2, M2, g, rd, ds, ed, q⟩ => ?_) hst
  refine star_D I2 g.hm ry rd ed fun vs us s2 I3 r rl => ⟨I3.kIn, ?_⟩
  exact run_makeP mk F hr hgd I3 r g.hm (rs.mono g.ext) rl q (tk.imp (wX_mono g)) fun v d F3 M3 H3 g3 r3 q3 => fin v d F3 M3 H3 (g.trans g3) r3 q3
/-- c(*e), c a class as a value -/
def wMakeSV (tb : List (Nat × SpD)) (wf we : WE) : WE := fun δ M Q EX => wf δ M (fun y M0 => ∃ c sp, y = .cls c ∧ tb.lookup c = some sp ∧ we δ M0 (kStar fun ds M1 => ∀ p, M1 p = none → sp (.raw (.ref p) :: ds) (updM M1 p (.ins c [])) (fun d M2 => d = .non ∧ Q (.raw (.ref p)) M2) (fun xd M2 => EX xd δ M2)) EX) EX
theorem de_newSV (tb : List (Nat × SpD)) (ht : ∀ q ∈ tb, ∃ gd k, OkInitP X.prog X.w X.K X.mg X.base gd k (G.cl q.1) (lift G X.K q.2) ∧ Room (k + 1) X.A ∧ (gd = true → X.A.guards = some [])) (hf : DE G X fe wf) (ha : DE G X e we) (hst : starEach [.Starred e sp_] X.env = [(true, eval e X.env)] := by rfl)
    (hv : eval (.Call fe [.Starred e sp_] [] pos) X.env = (do callWith pos (← eval fe X.env) [] (backTo pos (starEach [.Starred e sp_] X.env)) (backToKw pos (keywordEach [] X.env))) := by rfl) :
    DE G X (.Call fe [.Starred e sp_] [] pos) (wMakeSV tb wf we) := by
  refine ⟨fun pins s σ H Q I ⟨F1, M1, δ, Q', EX, hm1, rs, h, tk, fin⟩ => ?_⟩
  refine Call_ (thn (de_run hf I hm1 rs h tk) fun u s0 ⟨y0, H0, I0, r0, d0, F0, M0, g0, rd0, c, sp, ec, el, h1⟩ => ?_) hv
  subst ec
  cases rd0
  obtain rfl : u = Value.ref (G.cl c) := r0
  obtain ⟨gd, k, ⟨f, mk, F⟩, hr, hgd⟩ := ht _ (lookup_mem el)
  refine PySem.W.callWith_S (h₀ := X.base) I.ok.mod.kin mk.kp (thn (de_run ha I0 g0.hm (rs.mono g0.ext) h1 (tk.imp (wX_mono g0))) fun v s1 ⟨y, H2, I2, ry, d, F2, M2, g2, rd, ds, ed, q⟩ => ?_) hst
  have g := g0.trans g2
  refine star_D I2 g.hm ry rd ed fun vs us s2 I3 r rl => ⟨I3.kIn, ?_⟩
  exact run_makeP mk F hr hgd I3 r g.hm (rs.mono g.ext) rl q (tk.imp (wX_mono g)) fun v d F3 M3 H3 g3 r3 q3 => fin v d F3 M3 H3 (g.trans g3) r3 q3
/-! ### classmethods -/
structure GCm (K : PySem.W.Frag) (C : Addr) (m qual : Str) (st : Stmt) (ps : List Str) : Prop where
  ex : ∃ p f fd, ClX.CRead K C (.type "type") ∧ ClX.CMet K C (.type "type") m p f ∧ Fun K m qual st f fd ∧ Binds K fd ps []
structure OkCm (P : Program) (w : World) (K : PySem.W.Frag) (mg : Str → Option Value) (base : Heap) (gd : Bool) (k : Nat) (C : Addr) (m : Str) (sp : Sp) : Prop where
  ex : ∃ p f, ClX.CRead K C (.type "type") ∧ ClX.CMet K C (.type "type") m p f ∧ FnP P w K mg base gd k f sp
theorem okCm (g : GCm K C m qual st ps) (S : FnScope N ps (defScope st))
    (hb : ∀ (f : Addr) (cdv : Value) (A : Around) (out : List Env) (s : Shared) (H : Hp) (E : XK), Room k (A.deeper (envOfC qual (defScope st) s.heap.objs.size f cdv)) → (gd = true → (A.deeper (envOfC qual (defScope st) s.heap.objs.size f cdv)).guards = some []) → DSs G (cxOf (L2.CX P w) P w K mg base N qual (defScope st) f cdv A out s H E) (defBody st) wb) :
    OkCm P w K mg base gd (k + 1) C m (lift G K (spOf ps.length N.length wb)) := by
  obtain ⟨p, f, fd, h1, h2, F, b⟩ := g
  exact ⟨p, f, h1, h2, (okD F S (hb f)).pos b⟩
def wCm (c : Nat) (sp : SpD) (wa : WA) : WE := fun δ M Q EX => wa δ M (fun ds M1 => sp (.cls c :: ds) M1 Q (fun xd M2 => EX xd δ M2)) EX
theorem de_cm {pl : Sem Bool} (o : OkCm X.prog X.w X.K X.mg X.base gd k (G.cl c) m (lift G X.K sp)) (hr : Room k X.A) (hgd : gd = true → X.A.guards = some []) (hm : X.mg x = some (.ref (G.cl c))) (ha : DA G X (e :: es) wa) (hg : Gl X x := by rfl) (hdb : (x == ("__debug__" : Str)) = false := by decide)
    (hst : starEach (e :: es) X.env = (false, eval e X.env) :: starEach es X.env := by rfl) (hpl : (backTo pos (starEach es X.env)).any (·.1) = false := by rfl)
    (hv : eval (.Call (.Attribute (.Name x p) m apos) (e :: es) [] pos) X.env = (do
      let ov ← eval (.Name x p) X.env
      standAt apos.atName
      let (f, first) ← holding [ov] (getMethod ov m pl)
      callWith pos f first (backTo pos (starEach (e :: es) X.env)) (backToKw pos (keywordEach [] X.env))) := by rfl) :
    DE G X (.Call (.Attribute (.Name x p) m apos) (e :: es) [] pos) (wCm c sp wa) := by
  refine ⟨fun pins s σ H Q I ⟨F1, M1, δ, Q', EX, hm1, rs, h, tk, fin⟩ => ?_⟩
  obtain ⟨q, f, rd, cm, F⟩ := o
  refine PySem.W.methodCall_KW (pl := pl) (ld_glob I hg hm ?_ hdb) hv
  refine ClX.getmethcm_ok I rd cm fun s2 I2 => ?_
  refine ClX.callwith_cm I2 (ClX.base_none I (Nat.le_refl _)) cm.fi (thn (da_run ha pos I2 hm1 rs h tk) fun us s3 ⟨vs, H2, I3, r, ds, F2, M2, g, rl, q2⟩ => ⟨⟨ClX.pin_at I3, I3.kIn⟩, ?_⟩) hst hpl
  have z := PySem.W.method_call (ClX.pin_at I3) (runP_at (us := .ref (G.cl c) :: us) (vs := .ref (G.cl c) :: vs) (ds := .cls c :: ds) F hr hgd I3 (.cons rfl r) g.hm (rs.mono g.ext) (.cons (.cls c) rl) q2 (tk.imp (wX_mono g)) (P := Q) fun v d F3 M3 H3 g3 r3 q3 => fin v d F3 M3 H3 (g.trans g3) r3 q3)
  exact thn (wpAny_call z) fun _ _ y => ClX.unpinE y
end
end DL

set_option Elab.async false
set_option linter.all false
set_option maxRecDepth 100000
/-! set(..) of a list of ints, sorted of it; in; zip; max and min of two -/
namespace DL
open PySem PySem.Spec L2
open PyProof.Rows hiding St
section
variable {P : Program} {w : World} {A : Around} {E : Value → Shared → Prop} {s : Shared}
/-- a new set, and the heap with it -/
abbrev nSet (w : World) : Obj := { cls := .type "set", dict := none, data := .set #[] 0 (.fresh 0 0 (!w.params.followText "set-order")) }
abbrev setH (s : Shared) (w : World) : Heap := s.heap.push (nSet w)
set_option maxHeartbeats 3200000 in
theorem set_of_list {l : Addr} {items : Array Value} (ns : List Int) {Q : Value → Shared → Prop} (hh : A.handled = none) (hl : s.heap.IsList l items) (hit : IntsAre items.toList ns) (hb : ns.length + 1 < scanBound)
    (h : ∀ (h' : Heap) (tk c : Nat), SetR w h' s.heap.objs.size (fun j => decide (j ∈ ns)) c → c ≤ ns.length → (∀ b o, s.heap.get? b = some o → h'.get? b = some o) → Q (.ref s.heap.objs.size) { s with heap := h', toks := tk }) :
    wpAny (model P w) A (call (.type "set") [.ref l]) Q E s := by
  have hisz : items.size = ns.length := by
    have q := IntsAre.length hit
    rw [Array.length_toList] at q
    exact q
  obtain ⟨c, tl, hmro⟩ := F.called_set.mro
  have hmade := F.called_set.made
  have hsub := F.called_set.sub
  refine wpAny_call (codeAny_of_tree ?_)
  show wpAny _ _ (callAny (.type "set") _) _ _ _
  refine wpAny_pure ⟨Code.quiet_builtin _ (by decide +kernel), codeAny_builtin F.entry_type_call ?_⟩
  rw [Around.under_plain (weight_type_call_type "set" [.ref l] []) rfl]
  have h1 := F.called_set.notType
  have h2 := F.called_set.canCreate
  have hct := F.typeCall_set_1 (.ref l)
  repeat (any_goals (first | assumption | wp_step))
  refine codeAny_mono (code_set_led1 (.ref l) (E := E) (Q₁ := fun obj s₁ => obj = .ref s.heap.objs.size ∧ s₁ = { s with heap := setH s w }) ⟨rfl, rfl⟩) fun r s₁ hr => ?_
  cases r with
  | error e => exact hr
  | ok fl =>
    cases fl with
    | ret obj =>
      obtain ⟨rfl, rfl⟩ := hr
      have hS : (setH s w).get? s.heap.objs.size = some (nSet w) := Heap.get?_push_size _ rfl
      have hT : Shared.TypeIs { s with heap := setH s w } (.ref s.heap.objs.size) "set" := ⟨_, hS, rfl⟩
      have hli := F.called_set.init.lookup
      have hbi := F.called_set.init.bind (.ref s.heap.objs.size)
      repeat (any_goals (first | assumption | wp_step))
      refine codeAny_mono (codeAny_call_builtin (R := wants (fun r s₂ => r = .none ∧ ∃ h' tk c, s₂ = { s with heap := h', toks := tk } ∧ SetR w h' s.heap.objs.size (fun j => decide (j ∈ ns)) c ∧ c ≤ ns.length ∧
          (∀ b o, s.heap.get? b = some o → h'.get? b = some o)) E) F.called_set.init.plain F.entry_set_init (check_set_init_1 hT ?_)) fun r₂ s₂ hr₂ => ?_
      · obtain ⟨ol, hol, hcl, nl, hdl⟩ := hl
        obtain ⟨ocls, odict, odata, oslots⟩ := ol
        simp only at hcl hdl
        subst hcl; subst hdl
        have hol' : (setH s w).get? l = some { cls := .type "list", dict := odict, data := .seq items nl, slots := oslots } := Heap.get?_push_of_some _ hol
        have hsls := F.sub_list_set
        have hslf := F.sub_list_frozenset
        have hne : (Value.type "list" == Value.type "dict") = false := by decide
        have hl1 : (setH s w).IsList l items := ⟨_, hol', rfl, nl, rfl⟩
        unfold Builtin.«set.__init__» noKeywords Builtin.Frozenset.updateFrom
        generalize hPI : pyIter = PI
        wp_walk
        subst hPI
        refine wpAny_pyIter_list hl1 ?_
        refine wpAny_bind (wpAny_runValue ?_)
        have hlS : l < s.heap.objs.size := Heap.lt_size hol
        have hh3 : A.in1.in1.in1.handled = none := by simp [hh]
        have hz1 : (setH s w).objs.size = s.heap.objs.size + 1 := Heap.size_push ..
        have hneI : l ≠ (setH s w).objs.size := by
          rw [Heap.size_push]; exact Nat.ne_of_lt (Nat.lt_succ_of_lt hlS)
        have hSf : s.heap.objs.size ∉ [(setH s w).objs.size, l] := by
          rw [Heap.size_push]; simp only [List.mem_cons, List.mem_singleton, List.not_mem_nil, or_false, not_or]
          exact ⟨Nat.ne_of_lt (Nat.lt_succ_self _), Nat.ne_of_gt hlS⟩
        have hval : ∀ (i : Nat) (v : Value), items[i]? = some v → ∃ k t, ns[i]? = some k ∧ v = .int k t := fun i v hv => by
          have hi : i < ns.length := by rw [← hisz]; exact (Array.getElem?_eq_some_iff.mp hv).1
          obtain ⟨t, e⟩ := PyProof.Rows.IntsAre.int_at hit i v (by rw [Array.getElem?_toList]; exact hv)
          refine ⟨ns[i], t, List.getElem?_eq_getElem hi, ?_⟩
          rw [e, List.getD_eq_getElem?_getD, List.getElem?_eq_getElem hi] <;> rfl
        refine set_update_ints ((Walks.list hh3 _ l hneI items).toS) s.heap.objs.size
          hSf ns hisz hb hval (items.size - 0) 0 _ (by omega) (Nat.zero_le _)
          ⟨⟨_, Heap.get?_push_size _ rfl, rfl, rfl⟩, (hl1.push _)⟩ ?hS0 ?hR
        case hS0 =>
          have hget : ((setH s w).push { cls := .type "list_iterator", data := .fields #[.ref l, .int 0 0] }).get? s.heap.objs.size
              = some (nSet w) := Heap.get?_push_of_some _ hS
          exact ⟨0, Nat.le_refl 0, setR_new_at hget⟩
        case hR =>
          intro s' c' hm hc' hS'
          obtain ⟨h', g2, d', tk', os'⟩ := s'
          have eg : g2 = s.gens := hm.gens
          have ed : d' = s.drawn := hm.drawn
          have eo : os' = s.os := hm.os
          subst eg; subst ed; subst eo
          show wpAny _ _ _ _ _ _
          refine wpAny_pure ?_
          show wpAny _ _ (ret Value.none) _ _ _
          rw [hisz] at hc'
          refine wpAny_pure ⟨rfl, h', tk', c', rfl, hS', hc', fun b o e => ?_⟩
          have hb0 : b < s.heap.objs.size := Heap.lt_size e
          have hb1 : b ≠ s.heap.objs.size := Nat.ne_of_lt hb0
          have hb2 : b ≠ (setH s w).objs.size := by
            rw [Heap.size_push]; exact Nat.ne_of_lt (Nat.lt_succ_of_lt hb0)
          exact hm.heap b o (by simp only [List.mem_cons, List.mem_singleton, List.not_mem_nil, or_false, not_or]; exact ⟨hb1, hb2⟩) (Heap.get?_push_of_some _ (Heap.get?_push_of_some _ e))
      · cases r₂ with
        | error e => exact hr₂
        | ok fl₂ =>
          cases fl₂ with
          | ret r =>
            obtain ⟨rfl, h', tk, c', rfl, hS', hc', hk'⟩ := hr₂
            repeat (any_goals (first | assumption | wp_step))
            exact h _ _ _ hS' hc' hk'
          | _ => exact hr₂.elim
    | _ => exact hr.elim
end
end DL
namespace DL
open PySem PySem.Spec L2
open PyProof.Rows hiding St
section
variable {G : Cfg} {X : Cx} {e : Expr}
/-! ### sorted(set(e)) -/
def rSetI (w : World) (K : PySem.W.Frag) : List V → Hp → VK → Prop := fun xs H Q => ∃ (l : Addr) (ns : List Int), xs = [.ref l] ∧ (SqL K H l (ns.map V.int) ∨ SqT K H l (ns.map V.int)) ∧ ns.length < 64 ∧
  ∀ p c, H p = none → c ≤ ns.length → Q (.ref p) (upd H p (SetO w p (fun j => decide (j ∈ ns)) c))
theorem cr_setI (hc : X.calm = true) : CallR X (.type "set") (rSetI X.w X.K) := by
  intro pins s σ H xs us Q I r h
  obtain ⟨l, ns, rfl, hq, hl, q⟩ := h
  obtain ⟨u, rfl, ru⟩ := r.one
  obtain rfl : u = Value.ref l := ru
  have hd := I.ok.hd hc
  have b1 : ns.length + 1 < scanBound := by unfold scanBound; omega
  have fin : ∀ (h' : Heap) (tk c : Nat), SetR X.w h' s.heap.objs.size (fun j => decide (j ∈ ns)) c → c ≤ ns.length → (∀ b o, s.heap.get? b = some o → h'.get? b = some o) → EP X pins σ Q (.ref s.heap.objs.size) { s with heap := h', toks := tk } := fun h' tk c R hcn k =>
    ⟨.ref _, _, I.laid (t' := tk) k (Nat.le_refl _) (setO_new R), rfl, q _ c (I.hok.fresh (Nat.le_refl _)) hcn⟩
  rcases hq with hq | hq
  · obtain ⟨its, rv, pl, hz⟩ := I.list hq
    exact set_of_list ns hd pl.isList (by simpa using rv.ints) b1 fin
  · obtain ⟨its, rv, pt, hz⟩ := I.tuple hq
    exact call_set_tupI ns hd (show s.heap.IsTuple l its.toArray from pt) (by simpa using rv.ints) b1 fin
def kSrtSet (Q : D → MM → Prop) (d : D) (M : MM) : Prop := ∃ ns : List Int, (seqOf M d).bind intsOf = some ns ∧ ns.length < 64 ∧ ∀ ms : List Int, ms.Pairwise (· < ·) → (∀ k, k ∈ ms ↔ k ∈ ns) → Q (.lst (ms.map D.int)) M
def wSrtSet (we : WE) : WE := fun δ M Q EX => we δ M (kSrtSet Q) EX
theorem de_srtSet {we : WE} {p p2 q pos : Pos} (hc : X.calm = true) (hs : X.mg "sorted" = none) (hm : X.mg "set" = none) (h : DE G X e we) (g1 : Gl X "sorted" := by rfl) (g2 : Gl X "set" := by rfl)
    (na : starEach [e] X.env = (false, eval e X.env) :: starEach [] X.env := by rfl) (nb : starEach [.Call (.Name "set" p2) [e] [] q] X.env = (false, eval (.Call (.Name "set" p2) [e] [] q) X.env) :: starEach [] X.env := by rfl) :
    DE G X (.Call (.Name "sorted" p) [.Call (.Name "set" p2) [e] [] q] [] pos) (wSrtSet we) := by
  have z := pe_callB (pos := pos) (p := p) (cr_sortedSet (X := X) hc) g1 hs (by decide +kernel) (pa_cons (pe_callTy (pos := q) (p := p2) (cr_setI hc) g2 hm (by decide +kernel) (pa_cons h pa_nil na) (by decide) (by decide) na rfl) pa_nil nb) (by decide) (by decide) nb rfl
  refine pe_imp z fun σ H P ⟨F, M, δ, Q, EX, hm1, rs, h, tk, f⟩ => ?_
  refine ⟨F, M, δ, _, EX, hm1, rs, h, tk, fun v d F1 M1 H1 g r ⟨ns, en, hl, q⟩ => ?_⟩
  cases es : seqOf M1 d with
  | none => rw [es] at en; cases en
  | some ds =>
    rw [es] at en
    have ed : ds = ns.map D.int := intsOf_map en
    subst ed
    obtain ⟨a, vs, rfl, h1, r1⟩ := seqOf_rep g.hm r es
    have ev := r1.ints
    subst ev
    refine ⟨a, ns, rfl, h1, hl, fun p c hp hc2 => ?_⟩
    refine ⟨p, _, c, rfl, upd_same, by omega, fun ms q2 hs2 hmem hlen hq2 => ?_⟩
    have g2 := g.hm.own (u := SetO X.w p (fun j => decide (j ∈ ns)) c) hp
    have g3 := g2.hm.new (o := .lst (ms.map V.int)) hq2
    exact f _ _ _ _ _ ((g.trans g2).trans g3) (.lst upd_same (.of_ints _)) (q ms hs2 fun k => by rw [hmem k, decide_eq_true_eq])
/-! ### in -/
def toV : D → Option V
  | .non => some .non
  | .bl b => some (.bl b)
  | .int i => some (.int i)
  | .str x => some (.str x)
  | _ => none
def toVs : List D → Option (List V)
  | [] => some []
  | d :: r => (toV d).bind fun v => (toVs r).map (v :: ·)
theorem toV_rep {K : PySem.W.Frag} {F : Hp} {v u : V} {d : D} (r : Rep G K F v d) (e : toV d = some u) : v = u ∧ flatV u = true := by
  unfold toV at e
  split at e <;> cases e <;> cases r <;> exact ⟨rfl, rfl⟩
theorem toVs_rep {K : PySem.W.Frag} {F : Hp} : ∀ {vs us : List V} {ds : List D}, RepL G K F vs ds → toVs ds = some us → vs = us ∧ us.all flatV = true
  | _, _, _, .nil, e => by cases e; exact ⟨rfl, rfl⟩
  | _, _, _, .cons (d := d) (ds := ds) h t, e => by
    unfold toVs at e
    cases e1 : toV d with
    | none => rw [e1] at e; cases e
    | some u =>
      cases e2 : toVs ds with
      | none => rw [e1, e2] at e; cases e
      | some us =>
        rw [e1, e2] at e
        cases e
        obtain ⟨a, b⟩ := toV_rep h e1
        obtain ⟨c, d⟩ := toVs_rep t e2
        exact ⟨by rw [a, c], by rw [List.all_cons, b, d]; rfl⟩
@[irreducible] def wIn (neg : Bool) : WR2 := fun x y M Q => match toV x, (seqOf M y).bind toVs with
  | some v, some vs => Q (.bl (if neg then !inV v vs else inV v vs)) M
  | _, _ => False
theorem sim_in {K : PySem.W.Frag} (neg : Bool) : Sim2 G K (rIn K neg) (wIn neg) := by
  intro F M H x y dx dy Q P hm rx ry w f
  unfold wIn at w
  split at w
  · rename_i v vs e1 e2
    cases es : seqOf M dy with
    | none => rw [es] at e2; cases e2
    | some ds =>
      rw [es] at e2
      obtain ⟨a, ws, rfl, h1, r1⟩ := seqOf_rep hm ry es
      obtain ⟨ex, fx⟩ := toV_rep rx e1
      obtain ⟨ey, fy⟩ := toVs_rep r1 e2
      subst ex ey
      exact ⟨a, _, rfl, h1, fx, fy, f _ _ F M H (.refl hm) (.bl _) w⟩
  · exact w.elim
theorem toVs_ints : ∀ ns : List Int, toVs (ns.map D.int) = some (ns.map V.int)
  | [] => rfl
  | n :: ns => by show (some (V.int n)).bind _ = _; rw [Option.bind_some, toVs_ints ns]; rfl
theorem inV_ints (n : Int) (ns : List Int) : inV (.int n) (ns.map V.int) = decide (n ∈ ns) := by
  unfold inV
  induction ns with
  | nil => rfl
  | cons m ns ih =>
    rw [List.map_cons, List.any_cons, ih]
    show ((m == n) || decide (n ∈ ns)) = decide (n ∈ m :: ns)
    by_cases h : m = n
    · subst h; simp
    · have h' : ¬ n = m := fun z => h z.symm
      simp [h, h']
theorem at_inI {Q : D → MM → Prop} {M : MM} {n : Int} {ns : List Int} {y : D} (h : seqOf M y = some (ns.map D.int)) (q : Q (.bl (decide (n ∈ ns))) M) : wIn false (.int n) y M Q := by
  unfold wIn
  rw [h, Option.bind_some, toVs_ints]
  show Q (.bl (inV (.int n) (ns.map V.int))) M
  rw [inV_ints]; exact q
theorem at_ninI {Q : D → MM → Prop} {M : MM} {n : Int} {ns : List Int} {y : D} (h : seqOf M y = some (ns.map D.int)) (q : Q (.bl (!decide (n ∈ ns))) M) : wIn true (.int n) y M Q := by
  unfold wIn
  rw [h, Option.bind_some, toVs_ints]
  show Q (.bl (!inV (.int n) (ns.map V.int))) M
  rw [inV_ints]; exact q
/-! ### max, min of two -/
@[irreducible] def wMax2 : WR1 := fun ds M Q => match ds with
  | [.int i, .int j] => Q (.int (if j > i then j else i)) M
  | _ => False
@[irreducible] def wMin2 : WR1 := fun ds M Q => match ds with
  | [.int i, .int j] => Q (.int (if j < i then j else i)) M
  | _ => False
theorem two_ints {K : PySem.W.Frag} {F : Hp} {vs : List V} {i j : Int} (r : RepL G K F vs [.int i, .int j]) : vs = [.int i, .int j] := by
  cases r with
  | cons a t =>
    cases a
    cases t with
    | cons b t =>
      cases b
      cases t
      rfl
theorem sim_max2 {K : PySem.W.Frag} : SimC G K (fun xs H Q => ∃ i j, xs = [.int i, .int j] ∧ Q (.int (if j > i then j else i)) H) wMax2 := by
  intro F M H vs ds Q P hm r w f
  unfold wMax2 at w
  split at w
  · exact ⟨_, _, two_ints r, f _ _ F M H (.refl hm) (.int _) w⟩
  · exact w.elim
theorem sim_min2 {K : PySem.W.Frag} : SimC G K (fun xs H Q => ∃ i j, xs = [.int i, .int j] ∧ Q (.int (if j < i then j else i)) H) wMin2 := by
  intro F M H vs ds Q P hm r w f
  unfold wMin2 at w
  split at w
  · exact ⟨_, _, two_ints r, f _ _ F M H (.refl hm) (.int _) w⟩
  · exact w.elim
theorem at_max2 {Q : D → MM → Prop} {M : MM} {i j : Int} (q : Q (.int (max i j)) M) : wMax2 [.int i, .int j] M Q := by
  unfold wMax2
  have e : (if j > i then j else i) = max i j := by
    by_cases h : j > i
    · rw [if_pos h, Int.max_eq_right (by omega)]
    · rw [if_neg h, Int.max_eq_left (by omega)]
  show Q (.int (if j > i then j else i)) M
  rw [e]; exact q
theorem at_min2 {Q : D → MM → Prop} {M : MM} {i j : Int} (q : Q (.int (min i j)) M) : wMin2 [.int i, .int j] M Q := by
  unfold wMin2
  have e : (if j < i then j else i) = min i j := by
    by_cases h : j < i
    · rw [if_pos h, Int.min_eq_right (by omega)]
    · rw [if_neg h, Int.min_eq_left (by omega)]
  show Q (.int (if j < i then j else i)) M
  rw [e]; exact q
/-! ### zip -/
def pairs (xs ys : List D) : List D := (xs.zip ys).map fun p => .tup [p.1, p.2]
/-- a list that does not change -/
def frzOf : D → Option (List D)
  | .lst ds => some ds
  | .frl ds => some ds
  | _ => none
def tupX : D → Option (List D)
  | .tup ds => some ds
  | _ => none
theorem tupX_rep {K : PySem.W.Frag} {F : Hp} {v : V} {d : D} {ds : List D} (r : Rep G K F v d) (e : tupX d = some ds) : ∃ a vs, v = .ref a ∧ SqT K F a vs ∧ RepL G K F vs ds := by
  unfold tupX at e
  split at e <;> cases e
  cases r with
  | tup h r => exact ⟨_, _, rfl, SqT.of h, r⟩
@[irreducible] def kiZ (Q : IT → MM → Prop) (ds : List D) (M : MM) : Prop := match ds with
  | [x, y] => match frzOf x, frzOf y with
    | some xs, some ys => Q { items := pairs xs ys } M
    | _, _ => match tupX x, tupX y with
      | some xs, some ys => Q { items := pairs xs ys } M
      | _, _ => False
  | _ => False
def wiZ (wa : WA) : WI := fun δ M Q EX => wa δ M (kiZ Q) EX
theorem frz_rep {K : PySem.W.Frag} {F : Hp} {v : V} {d : D} {ds : List D} (r : Rep G K F v d) (e : frzOf d = some ds) : ∃ a vs, v = .ref a ∧ SqL K F a vs ∧ RepL G K F vs ds := by
  unfold frzOf at e
  split at e <;> cases e
  · cases r with
    | lst h r => exact ⟨_, _, rfl, SqL.of h, r⟩
  · cases r with
    | frl h r => exact ⟨_, _, rfl, h, r⟩
theorem pairs_get {xs ys : List D} {i : Nat} {d : D} (h : (pairs xs ys)[i]? = some d) : ∃ x y, xs[i]? = some x ∧ ys[i]? = some y ∧ d = .tup [x, y] := by
  unfold pairs at h
  rw [List.getElem?_map] at h
  cases q : (xs.zip ys)[i]? with
  | none => rw [q] at h; cases h
  | some p =>
    rw [q] at h
    obtain ⟨a, b⟩ := List.getElem?_zip_eq_some.mp q
    exact ⟨p.1, p.2, a, b, (Option.some.inj h).symm⟩
theorem pairs_len (xs ys : List D) : (pairs xs ys).length = min xs.length ys.length := by unfold pairs; rw [List.length_map, List.length_zip]
theorem di_zip {elts : List Expr} {kk : Nat} {e2 : Expr} {wa : WA} {p pos tpos : Pos} (hm : X.mg "zip" = none) (ha : DA G X [e, e2] wa) (hg : Gl X "zip" := by rfl)
    (hs : starEach [e, e2] X.env = (false, eval e X.env) :: starEach [e2] X.env := by rfl) (hpl : (backTo pos (starEach [e2] X.env)).any (·.1) = false := by rfl) :
    DI G X (.Tuple elts kk tpos) (.Call (.Name "zip" p) [e, e2] [] pos) (wiZ wa) := by
  refine pi_imp (RZ.pi_zipA hg hm ha hs hpl) fun σ H R ⟨F, M, δ, Q, EX, hm1, rs, h, tk, f⟩ => ?_
  refine ⟨F, M, δ, _, EX, hm1, rs, h, tk, fun vs ds F1 M1 H1 g1 r1 q => ?_⟩
  unfold kiZ at q
  split at q
  · rename_i x y
    cases r1 with
    | cons rx t =>
      obtain ⟨vy, rfl, ry⟩ := one_rep t
      split at q
      · rename_i xs ys e1 e2
        obtain ⟨a, us, rfl, ha, ra⟩ := frz_rep rx e1
        obtain ⟨b, ws, rfl, hb, rb⟩ := frz_rep ry e2
        refine ⟨a, b, us, ws, rfl, .inl ⟨g1.hm.sub.seq ha, g1.hm.sub.seq hb, f _ { items := pairs xs ys } F1 M1 H1 g1 ⟨fun F' M' H' i d g st e => ?_, fun F' M' H' g st => ?_⟩ q⟩⟩
        · obtain ⟨x, y, ex, ey, rfl⟩ := pairs_get e
          obtain ⟨u, eu, ru⟩ := ra.get ex
          obtain ⟨w, ew, rw'⟩ := rb.get ey
          have hsa : SqL X.K H' a us := g.hm.sub.seq (g.ext.seq ha)
          have hsb : SqL X.K H' b ws := g.hm.sub.seq (g.ext.seq hb)
          refine ⟨⟨us, ws, u, w, hsa, hsb, eu, ew⟩, fun z H'' ⟨T, u', w', ez, hT, eH, k1, k2⟩ => ?_⟩
          have e3 := k1 us hsa
          have e4 := k2 ws hsb
          rw [eu] at e3
          rw [ew] at e4
          cases e3
          cases e4
          subst ez eH
          have gn := g.hm.new (o := .tup [u, w]) hT
          exact ⟨_, gn, .tup upd_same (.cons ((ru.mono g.ext).mono gn.ext) (.cons ((rw'.mono g.ext).mono gn.ext) .nil))⟩
        · refine ⟨us, ws, g.hm.sub.seq (g.ext.seq ha), g.hm.sub.seq (g.ext.seq hb), ?_⟩
          rw [show ({ items := pairs xs ys } : IT).items.length = min xs.length ys.length from pairs_len _ _, ra.len, rb.len]
          omega
      · split at q
        · rename_i xs ys e1 e2
          obtain ⟨a, us, rfl, ha, ra⟩ := tupX_rep rx e1
          obtain ⟨b, ws, rfl, hb, rb⟩ := tupX_rep ry e2
          · · refine ⟨a, b, us, ws, rfl, .inr ⟨sqT_up g1.hm.sub ha, sqT_up g1.hm.sub hb, f _ { items := pairs xs ys } F1 M1 H1 g1 ⟨fun F' M' H' i d g st e => ?_, fun F' M' H' g st => ?_⟩ q⟩⟩
              · obtain ⟨x, y, ex, ey, rfl⟩ := pairs_get e
                obtain ⟨u, eu, ru⟩ := ra.get ex
                obtain ⟨w, ew, rw'⟩ := rb.get ey
                have hsa : SqT X.K H' a us := sqT_up g.hm.sub (sqT_up g.ext ha)
                have hsb : SqT X.K H' b ws := sqT_up g.hm.sub (sqT_up g.ext hb)
                refine ⟨⟨us, ws, u, w, hsa, hsb, eu, ew⟩, fun z H'' ⟨T, u', w', ez, hT, eH, k1, k2⟩ => ?_⟩
                have e3 := k1 us hsa
                have e4 := k2 ws hsb
                rw [eu] at e3
                rw [ew] at e4
                cases e3
                cases e4
                subst ez eH
                have gn := g.hm.new (o := .tup [u, w]) hT
                exact ⟨_, gn, .tup upd_same (.cons ((ru.mono g.ext).mono gn.ext) (.cons ((rw'.mono g.ext).mono gn.ext) .nil))⟩
              · refine ⟨us, ws, sqT_up g.hm.sub (sqT_up g.ext ha), sqT_up g.hm.sub (sqT_up g.ext hb), ?_⟩
                rw [show ({ items := pairs xs ys } : IT).items.length = min xs.length ys.length from pairs_len _ _, ra.len, rb.len]
                omega
        · exact q.elim
  · exact q.elim
end
end DL

set_option Elab.async false
set_option linter.all false
set_option maxRecDepth 100000
namespace DL
open PySem PySem.Spec L2
open PyProof.Rows hiding St
section
variable {G : Cfg} {X : Cx} {K : PySem.W.Frag}
def alIn (ks : List Nat) : Ty → Bool
  | .own k => ks.contains k
  | _ => false
theorem alIn_of {ks : List Nat} {P : Nat → Prop} (h : ∀ k ∈ ks, P k) (t : Ty) (ht : alIn ks t = true) : ∃ j, t = .own j ∧ P j := by
  cases t with
  | own k => exact ⟨k, rfl, h k (by simpa [alIn] using ht)⟩
  | _ => cases ht
theorem alIn_plain {ks : List Nat} (t : Ty) (ht : alIn ks t = true) : plainTy t = true := by
  cases t <;> first | rfl | cases ht
theorem alIn_nf {ks : List Nat} {C : Addr} (h : ∀ k ∈ ks, PySem.W.notFirst K C (.ref (G.cl k)) = true) (t : Ty) (ht : alIn ks t = true) : PySem.W.notFirst K C (tyV G t) = true := by
  obtain ⟨j, rfl, hj⟩ := alIn_of h t ht
  exact hj
def wNo2 : WR2 := fun _ _ _ _ => False
theorem dop_no2 {f : Value → Value → Sem Value} : DOp G X f (fun x y _ M Q _ => wNo2 x y M Q) := fun _ _ _ _ _ _ _ _ _ _ _ _ _ _ _ _ _ _ _ _ _ _ _ h => h.elim
/-! ### isinstance with an own class -/
def tbO (own : List (Nat × Bool)) : Ty → Option Bool
  | .own k => own.lookup k
  | _ => some false
/-- builtin values are none of it -/
def noBlt (K : PySem.W.Frag) (u : Value) : Bool := ["NoneType", "bool", "int", "str", "tuple", "list", "dict"].all fun n => PySem.W.kitOne K (.type n) u == some false
structure CgOk (K : PySem.W.Frag) : Prop where
  get : PySem.W.specialIn K (.builtin "object.__class__") "__get__" = some (some (.builtin "getset_descriptor.__get__"))
  tk : PySem.W.takesIn K (.builtin "object.__class__") = some true
structure CcOk (K : PySem.W.Frag) (C : Addr) : Prop where
  at_ : PySem.W.findIn K (.ref C) "__class__" = some (some (.builtin "object.__class__"))
  mo : PySem.W.mroIn K C (.type "object") = some true
theorem isi_o (own : List (Nat × Bool)) {u : Value} (kb : noBlt K u = true) (cg : CgOk K) (h : ∀ p ∈ own, PySem.W.kitOne K (.ref (G.cl p.1)) u = some p.2 ∧ Cls K (G.cl p.1) ∧ CcOk K (G.cl p.1)) : IsiT G K u (tbO own) := by
  have nb : ∀ n ∈ ["NoneType", "bool", "int", "str", "tuple", "list", "dict"], PySem.W.kitOne K (.type n) u = some false := fun n hn => beq_iff_eq.mp (List.all_eq_true.mp kb n hn)
  refine ⟨fun t b ht e => ?_, fun k b e => ?_⟩
  · cases t with
    | own k => exact absurd rfl (ht k)
    | _ => cases e; exact nb _ (by simp [Ty.nm])
  · have z := lookup_mem (show own.lookup k = some b from e)
    obtain ⟨h1, h2, h3⟩ := h _ z
    exact ⟨h1, h2, h3.at_, cg.get, cg.tk, h3.mo⟩
/-! ### what is asked -/
theorem at_srtSet {Q : D → MM → Prop} {M : MM} {d : D} {ns : List Int} (h : seqOf M d = some (ns.map D.int)) (hl : ns.length < 64) (q : ∀ ms : List Int, ms.Pairwise (· < ·) → (∀ k, k ∈ ms ↔ k ∈ ns) → Q (.lst (ms.map D.int)) M) : kSrtSet Q d M :=
  ⟨ns, by rw [h, Option.bind_some, intsOf_ints], hl, q⟩
theorem at_zipF {Q : IT → MM → Prop} {M : MM} {xs ys : List D} {x y : D} (h1 : frzOf x = some xs) (h2 : frzOf y = some ys) (q : Q { items := pairs xs ys } M) : kiZ Q [x, y] M := by
  unfold kiZ
  dsimp only
  rw [h1, h2]
  exact q
theorem at_zipT {Q : IT → MM → Prop} {M : MM} {xs ys : List D} (q : Q { items := pairs xs ys } M) : kiZ Q [.tup xs, .tup ys] M := by
  unfold kiZ
  exact q
theorem at_star {Q : List D → MM → Prop} {M : MM} {d : D} {ds : List D} (h : seqOf M d = some ds) (q : Q ds M) : kStar Q d M := ⟨ds, h, q⟩
end
end DL

set_option Elab.async false
set_option linter.all false
set_option maxRecDepth 100000
/-! The end of a law: one run of the top in the kernel, its facts read by a Hook. -/
namespace DH
open PySem PySem.Spec L2 DL
open PyProof.Rows hiding St

/-! what an answer names -/
def refO : Option (Option Value) → Addr
  | some (some (.ref a)) => a
  | _ => 0
def isRef (o : Option (Option Value)) : Bool := eqv o (some (some (.ref (refO o))))
where eqv (a b : Option (Option Value)) : Bool := decide (a = b)
theorem isRef_ok {o : Option (Option Value)} (h : isRef o = true) : o = some (some (.ref (refO o))) := of_decide_eq_true h
def eqO (a b : Option (Option Value)) : Bool := decide (a = b)
theorem eqO_ok {a b : Option (Option Value)} (h : eqO a b = true) : a = b := of_decide_eq_true h
def eqB (a b : Option Bool) : Bool := match a, b with
  | some true, some true => true
  | some false, some false => true
  | none, none => true
  | _, _ => false
theorem eqB_ok {a b : Option Bool} (h : eqB a b = true) : a = b := by
  cases a with
  | none => cases b with
    | none => rfl
    | some b => cases b <;> cases h
  | some a => cases b with
    | none => cases a <;> cases h
    | some b => cases a <;> cases b <;> first | rfl | cases h
def neA (a b : Addr) : Bool := !Nat.beq a b
theorem neA_ok {a b : Addr} (h : neA a b = true) : a ≠ b := by
  intro e
  subst e
  unfold neA at h
  rw [Nat.beq_refl] at h
  cases h
/-- an int -/
def tokO : Option (Option Value) → Tok
  | some (some (.int _ t)) => t
  | _ => default
def isInt (o : Option (Option Value)) (i : Int) : Bool := match o with
  | some (some (.int j _)) => decide (j = i)
  | _ => false
theorem isInt_ok {o : Option (Option Value)} {i : Int} (h : isInt o i = true) : o = some (some (.int i (tokO o))) := by
  unfold isInt at h
  split at h
  · rw [of_decide_eq_true h]
    rfl
  · cases h
/-- a truth value -/
def isBl (o : Option (Option Value)) (b : Bool) : Bool := match o with
  | some (some (.bool c)) => b == c
  | _ => false
theorem isBl_ok {o : Option (Option Value)} {b : Bool} (h : isBl o b = true) : o = some (some (.bool b)) := by
  unfold isBl at h
  split at h
  · rw [eq_of_beq h]
  · cases h
/-- a class's constant, classmethod -/
def tokC : Option PySem.W.CFound → Tok
  | some (.val (.int _ t)) => t
  | _ => default
def isCInt (o : Option PySem.W.CFound) (i : Int) : Bool := match o with
  | some (.val (.int j _)) => decide (j = i)
  | _ => false
theorem isCInt_ok {o : Option PySem.W.CFound} {i : Int} (h : isCInt o i = true) : o = some (.val (.int i (tokC o))) := by
  unfold isCInt at h
  split at h
  · rw [of_decide_eq_true h]
    rfl
  · cases h
def refG : Option PySem.W.CFound → Addr
  | some (.get _ (.ref p) _ _) => p
  | _ => 0
def isGet (o : Option PySem.W.CFound) (g : String) (C : Addr) : Bool := match o with
  | some (.get (.builtin x) (.ref _) .none (.ref c)) => decide (x = g) && Nat.beq c C
  | _ => false
theorem isGet_ok {o : Option PySem.W.CFound} {g : String} {C : Addr} (h : isGet o g C = true) : o = some (.get (.builtin g) (.ref (refG o)) .none (.ref C)) := by
  unfold isGet at h
  split at h
  · obtain ⟨h1, h2⟩ := Bool.and_eq_true_iff.mp h
    rw [of_decide_eq_true h1, Nat.eq_of_beq_eq_true h2]
    rfl
  · cases h
def hdR : Option (List Value) → Addr
  | some (.ref a :: _) => a
  | _ => 0
def tlR : Option (List Value) → List Value
  | some (_ :: r) => r
  | _ => []
def isRec : Option (List Value) → Bool
  | some (.ref _ :: _) => true
  | _ => false
theorem isRec_ok {o : Option (List Value)} (h : isRec o = true) : o = some (.ref (hdR o) :: tlR o) := by
  unfold isRec at h
  split at h
  · rfl
  · cases h
/-! objects -/
def oCls : Option Obj → Value
  | some o => o.cls
  | none => .none
def oDct : Option Obj → Option Addr
  | some o => o.dict
  | none => none
def oSlt : Option Obj → Array (Option Value)
  | some o => o.slots
  | none => #[]
def oFd : Option Obj → FuncData
  | some ⟨_, _, .func fd, _⟩ => fd
  | _ => default
def oFlds : Option Obj → Array Value
  | some ⟨_, _, .fields vs, _⟩ => vs
  | _ => #[]
def isFlds : Option Obj → Bool
  | some ⟨_, _, .fields _, _⟩ => true
  | _ => false
theorem isFlds_ok {o : Option Obj} (h : isFlds o = true) : o = some ⟨oCls o, oDct o, .fields (oFlds o), oSlt o⟩ := by
  unfold isFlds at h
  split at h
  · rfl
  · cases h
def isCell (o : Option Obj) (C : Addr) : Bool := match o with
  | some ⟨_, _, .cell (some (.ref c)), _⟩ => Nat.beq c C
  | _ => false
theorem isCell_ok {o : Option Obj} {C : Addr} (h : isCell o C = true) : o = some ⟨oCls o, oDct o, .cell (some (.ref C)), oSlt o⟩ := by
  unfold isCell at h
  split at h
  · rw [← Nat.eq_of_beq_eq_true h]
    rfl
  · cases h
def oCd (o : Option ClassData) : ClassData := match o with
  | some c => c
  | none => default
theorem oCd_ok {o : Option ClassData} (h : o.isSome = true) : o = some (oCd o) := by
  cases o with
  | none => cases h
  | some c => rfl
def vRef : Value → Addr
  | .ref a => a
  | _ => 0
def isVRef : Value → Bool
  | .ref _ => true
  | _ => false
theorem isVRef_ok {v : Value} (h : isVRef v = true) : v = .ref (vRef v) := by
  cases v <;> first | rfl | cases h
def vStr : Option Value → Str
  | some (.str x _) => x
  | _ => Str.empty
def vStrT : Option Value → Tok
  | some (.str _ t) => t
  | _ => default
def isVStr : Option Value → Bool
  | some (.str _ _) => true
  | _ => false
theorem isVStr_ok {v : Option Value} (h : isVStr v = true) : v = some (.str (vStr v) (vStrT v)) := by
  unfold isVStr at h
  split at h
  · rfl
  · cases h
def isTyp (v : Value) (n : String) : Bool := match v with
  | .type m => decide (m = n)
  | _ => false
theorem isTyp_ok {v : Value} {n : String} (h : isTyp v n = true) : v = .type n := by
  unfold isTyp at h
  split at h
  · rw [of_decide_eq_true h]
  · cases h
/-! functions -/
abbrev FnV : Type := Option (Str × Str × Arguments × FuncBody × Scope × Addr × List Str × Value × Addr)
def fnV : Option Obj → FnV
  | some ⟨_, _, .func fd, _⟩ => some (fd.name, fd.qualname, fd.params, fd.body, fd.scope, fd.globals, fd.closure.map (·.1), fd.defaults, fd.builtins)
  | _ => none
theorem fnV_ok {o : Option Obj} {n q : Str} {ps : Arguments} {b : List Stmt} {sc : Scope} {dV : Value} (h : fnV o = some (n, q, ps, .stmts b, sc, mainGlobals, [], dV, builtinsNs)) :
    o = some ⟨oCls o, oDct o, .func (PySem.W.fnOf n q ps b sc dV (oFd o).kwdefaults (oFd o).doc (oFd o).pyModule (oFd o).annotations (oFd o).code (oFd o).closureTuple), oSlt o⟩ := by
  unfold fnV at h
  split at h
  · rename_i c d fd sl
    obtain ⟨n1, n2, n3, n4, n5, n6, n7, n8, n9, n10, n11, n12, n13, n14, n15⟩ := fd
    simp only [Option.some.injEq, Prod.mk.injEq] at h
    obtain ⟨h1, h2, h3, h4, h5, h6, h7, h8, h9⟩ := h
    have h7' : n7 = [] := List.map_eq_nil_iff.mp h7
    subst h1 h2 h3 h4 h5 h6 h7' h8 h9
    rfl
  · cases h
def oCl1 (o : Option Obj) : Addr := match (oFd o).closure with
  | (_, a) :: _ => a
  | _ => 0
theorem fnVC_ok {o : Option Obj} {n q x : Str} {ps : Arguments} {b : List Stmt} {sc : Scope} {dV : Value} (h : fnV o = some (n, q, ps, .stmts b, sc, mainGlobals, [x], dV, builtinsNs)) (hc : isVRef (oFd o).code = true) :
    o = some ⟨oCls o, oDct o, .func (PySem.W.fnX n q ps b sc [(x, oCl1 o)] dV (oFd o).kwdefaults (oFd o).doc (oFd o).pyModule (oFd o).annotations (.ref (vRef (oFd o).code)) (oFd o).closureTuple), oSlt o⟩ := by
  unfold fnV at h
  split at h
  · rename_i c d fd sl
    obtain ⟨n1, n2, n3, n4, n5, n6, n7, n8, n9, n10, n11, n12, n13, n14, n15⟩ := fd
    simp only [Option.some.injEq, Prod.mk.injEq] at h
    obtain ⟨h1, h2, h3, h4, h5, h6, h7, h8, h9⟩ := h
    have hc' := isVRef_ok hc
    match n7, h7 with
    | [(y, a)], h7 =>
      have e : y = x := by simpa using h7
      subst h1 h2 h3 h4 h5 h6 e h8 h9
      have z : n13 = .ref (vRef n13) := hc'
      rw [z]
      rfl
  · cases h
theorem fnVK_ok {o : Option Obj} {n q : Str} {ps : Arguments} {b : List Stmt} {sc : Scope} {dV : Value} (h : fnV o = some (n, q, ps, .stmts b, sc, mainGlobals, [], dV, builtinsNs)) (hc : isVRef (oFd o).kwdefaults = true) :
    o = some ⟨oCls o, oDct o, .func (PySem.W.fnOf n q ps b sc dV (.ref (vRef (oFd o).kwdefaults)) (oFd o).doc (oFd o).pyModule (oFd o).annotations (oFd o).code (oFd o).closureTuple), oSlt o⟩ := by
  have z := fnV_ok h
  rw [isVRef_ok hc] at z
  exact z
/-! the Hook -/
/-- a def as the text has it -/
abbrev fv (n q : Str) (ps : Arguments) (b : List Stmt) (sc : Scope) (cl : List Str) : FnV := some (n, q, ps, .stmts b, sc, mainGlobals, cl, Value.none, builtinsNs)
abbrev Al : Type := Bool × List (List FnV)
def frA (as : List Addr) (g : Addr → Option Obj) : PySem.W.Frag := He.frG g as
def obsU (as : List Addr) (fc : PySem.W.Frag → List (List Bool)) (fn : PySem.W.Frag → List (List FnV)) (g : Addr → Option Obj) : Al := ((fc (He.frG g as)).all fun l => l.all id, fn (He.frG g as))
def hookU (as : List Addr) (fc : PySem.W.Frag → List (List Bool)) (fn : PySem.W.Frag → List (List FnV)) (vs : List (List FnV)) : PySem.W.Hook where
  α := Al
  obs := fun s => obsU as fc fn s.heap.get?
  val := fun _ => (true, vs)
  says := fun _ h => ∃ K : PySem.W.Frag, K.In h ∧ ((fc K).all fun l => l.all id) = true ∧ fn K = vs
  of := fun _ _ e => ⟨_, He.frG_in, congrArg (fun z : Al => z.1) e, congrArg (fun z : Al => z.2) e⟩
  keeps := fun _ _ _ ⟨K, hK, c⟩ k => ⟨K, PySem.W.Frag.In.keeps hK k, c⟩
theorem obsU_eq {as : List Addr} {fc : PySem.W.Frag → List (List Bool)} {fn : PySem.W.Frag → List (List FnV)} {vs : List (List FnV)} (s : PySem.W.SharedT) : obsU as fc fn (HandSHeadRun.getT s) = (hookU as fc fn vs).obs s.abs := by
  have e : HandSHeadRun.getT s = s.abs.heap.get? := funext (HandSHeadRun.getT_eq s)
  rw [e]
  rfl
theorem at_ {l : List (List Bool)} (h : (l.all fun l => l.all id) = true) (i j : Nat) {m : List Bool} {b : Bool} (e : l[i]? = some m) (e2 : m[j]? = some b) : b = true :=
  List.all_eq_true.mp (List.all_eq_true.mp h m (List.mem_of_getElem? e)) b (List.mem_of_getElem? e2)
theorem fat_ {l vs : List (List FnV)} (h : l = vs) (i j : Nat) {m m' : List FnV} {a b : FnV} (e : l[i]? = some m) (e1 : m[j]? = some a) (e2 : vs[i]? = some m') (e3 : m'[j]? = some b) : a = b := by
  rw [h, e2] at e
  have em := Option.some.inj e
  rw [← em, e3] at e1
  exact (Option.some.inj e1).symm
/-! the walk -/
theorem walkDE {l : PySem.W.OpenLaw} {n k : Nat} {gd : Bool} {q : Program} {loose : List Str} {XP : (Str → Option Value) → Heap → Prop} {YP : World → Heap → Prop} {d : DefRec} {sp : SpD} {x : Str}
    (hn : l.most = some n) (hn2 : n ≤ sizeLine) (hdf : d.params.defaults = []) (hr : Room k callerA) (hgd : callerA.guards = some [])
    (F : ∀ (w : World) (mg : Str → Option Value) (h : Heap), YP w h → h.Ns mainGlobals mg → ∃ K : PySem.W.Frag, K.In h ∧
      ∃ G : Cfg, G.tabs = [] ∧ ∀ base : Heap, K.In base → base.Ns mainGlobals mg → OkG l.prog w K mg base gd k d.name [x] (lift G K sp))
    (hsp : ∀ ns : List Int, ns.length ≤ n → sp [.frl (ns.map D.int)] (fun _ => none) (fun d _ => d = .bl true) fun _ _ => False) :
    PySem.W.WalkO q loose XP YP l.row.toRowW d [] (fun f vs => PySem.call f vs) := by
  refine Att.attach_call hn hdf fun w s₀ s₁ mg mb fa o pm cd doc a vs ns E Y ho hd hcd hmg hobj hints hlen hg => ?_
  obtain ⟨K, KX, G, hT, hF⟩ := F w mg _ Y E.T.g
  have rv := vals_ints hints
  have lenV := hints.length
  have hl := Nat.le_trans hlen hn2
  cases hk : K.lookup a with
  | some o =>
    have e := KX a o hk
    rw [hobj] at e
    cases e
    exact law_at KX E.T.g E.T.b E.T.builtins E.T.nolimit hg hobj hr hgd hF hmg hT (hsp ns hlen) (H := fun _ => none) (.inr ⟨_, vs.toArray, _, hk, rfl, rfl, rfl, by rw [List.size_toArray, lenV]; exact hl, by simpa using rv⟩) (fun b u z => nomatch (show (none : Option HO) = some u from z)) (fun b z => absurd rfl z)
  | none =>
    refine law_at KX E.T.g E.T.b E.T.builtins E.T.nolimit hg hobj hr hgd hF hmg hT (hsp ns hlen) (H := fun b => if b = a then some (.frz { cls := .type "list", data := .seq vs.toArray } (.lst (ns.map V.int))) else none) (.inl (.inr ⟨{ cls := .type "list", data := .seq vs.toArray }, if_pos rfl⟩)) (fun b u z => ?_) (fun b z => ?_)
    · by_cases hb : b = a
      · have z' := (if_pos hb).symm.trans z
        cases z'
        subst hb
        exact ⟨hobj, by rw [List.length_map]; exact hl, vs, _, rv, hobj⟩
      · have z' := (if_neg hb).symm.trans z
        cases z'
    · by_cases hb : b = a
      · exact ⟨hb, hk, _, _, if_pos hb⟩
      · exact absurd (if_neg hb) z
def eqT (a b : Option Value) : Bool := decide (a = b)
theorem eqT_ok {a b : Option Value} (h : eqT a b = true) : a = b := of_decide_eq_true h
theorem none_ok {α : Type} {o : Option α} (h : o.isNone = true) : o = none := by
  cases o with
  | none => rfl
  | some a => cases h
/-! ### the Hook with tables -/
def isTab : Option Obj → Bool
  | some ⟨.none, none, .fields vs, sl⟩ => vs.isEmpty && sl.isEmpty
  | _ => false
theorem isTab_ok {o : Option Obj} (h : isTab o = true) : o = some { cls := .none, data := .fields #[] } := by
  unfold isTab at h
  split at h
  · rename_i vs sl
    simp only [Bool.and_eq_true, Array.isEmpty_iff] at h
    obtain ⟨rfl, rfl⟩ := h
    rfl
  · cases h
def obsT (as ts : List Addr) (fc : PySem.W.Frag → List (List Bool)) (fn : PySem.W.Frag → List (List FnV)) (g : Addr → Option Obj) : Al :=
  (((fc (He.frG g as)).all fun l => l.all id) && ts.all (fun p => isTab ((He.frG g ts).lookup p)), fn (He.frG g as))
def hookT (as ts : List Addr) (fc : PySem.W.Frag → List (List Bool)) (fn : PySem.W.Frag → List (List FnV)) (vs : List (List FnV)) : PySem.W.Hook where
  α := Al
  obs := fun s => obsT as ts fc fn s.heap.get?
  val := fun _ => (true, vs)
  says := fun _ h => ∃ K K2 : PySem.W.Frag, K.In h ∧ K2.In h ∧ (((fc K).all fun l => l.all id) && ts.all (fun p => isTab (K2.lookup p))) = true ∧ fn K = vs
  of := fun _ _ e => ⟨_, _, He.frG_in, He.frG_in, congrArg (fun z : Al => z.1) e, congrArg (fun z : Al => z.2) e⟩
  keeps := fun _ _ _ ⟨K, K2, hK, hK2, c⟩ k => ⟨K, K2, PySem.W.Frag.In.keeps hK k, PySem.W.Frag.In.keeps hK2 k, c⟩
theorem obsT_eq {as ts : List Addr} {fc : PySem.W.Frag → List (List Bool)} {fn : PySem.W.Frag → List (List FnV)} {vs : List (List FnV)} (s : PySem.W.SharedT) : obsT as ts fc fn (HandSHeadRun.getT s) = (hookT as ts fc fn vs).obs s.abs := by
  have e : HandSHeadRun.getT s = s.abs.heap.get? := funext (HandSHeadRun.getT_eq s)
  rw [e]
  rfl
end DH

set_option Elab.async false
set_option linter.all false
set_option maxRecDepth 100000
set_option maxHeartbeats 4000000
namespace My
open PySem PySem.Spec L2 DL
open PyProof.Rows hiding St
def tp (i : Nat) : Stmt := PySem.Challenge.pw_handsweeps_k11_whole_only_the_load_count.main.body.getD i (.Pass ⟨0, 0, 0, 0⟩)
def cb : Stmt → Nat → Stmt
  | .ClassDef _ _ _ body .., j => body.getD j (.Pass ⟨0, 0, 0, 0⟩)
  | _, _ => .Pass ⟨0, 0, 0, 0⟩
def ad_C_Load (K : PySem.W.Frag) : Addr := DH.refO (PySem.W.nsIn K mainGlobals "Load")
def ad_C_Hand (K : PySem.W.Frag) : Addr := DH.refO (PySem.W.nsIn K mainGlobals "Hand")
def ad_C_Sweep (K : PySem.W.Frag) : Addr := DH.refO (PySem.W.nsIn K mainGlobals "Sweep")
def ad_C_Forward (K : PySem.W.Frag) : Addr := DH.refO (PySem.W.nsIn K mainGlobals "Forward")
def ad_C_Backward (K : PySem.W.Frag) : Addr := DH.refO (PySem.W.nsIn K mainGlobals "Backward")
def ad_C_Row (K : PySem.W.Frag) : Addr := DH.refO (PySem.W.nsIn K mainGlobals "Row")
def ad_f__law_folded (K : PySem.W.Frag) : Addr := DH.refO (PySem.W.nsIn K mainGlobals "_law_folded")
def ad_f__law_begun (K : PySem.W.Frag) : Addr := DH.refO (PySem.W.nsIn K mainGlobals "_law_begun")
def ad_f__law_mixed (K : PySem.W.Frag) : Addr := DH.refO (PySem.W.nsIn K mainGlobals "_law_mixed")
def ad_f__law_draw (K : PySem.W.Frag) : Addr := DH.refO (PySem.W.nsIn K mainGlobals "_law_draw")
def ad_f__law_order (K : PySem.W.Frag) : Addr := DH.refO (PySem.W.nsIn K mainGlobals "_law_order")
def ad_f__law_given (K : PySem.W.Frag) : Addr := DH.refO (PySem.W.nsIn K mainGlobals "_law_given")
def ad_p_Load_backward (K : PySem.W.Frag) : Addr := DH.refO (PySem.W.findIn K (.ref (ad_C_Load K)) "backward")
def ad_p_Load_forward (K : PySem.W.Frag) : Addr := DH.refO (PySem.W.findIn K (.ref (ad_C_Load K)) "forward")
def ad_f_is_integer (K : PySem.W.Frag) : Addr := DH.refO (PySem.W.nsIn K mainGlobals "is_integer")
def ad_f_is_integer_within (K : PySem.W.Frag) : Addr := DH.refO (PySem.W.nsIn K mainGlobals "is_integer_within")
def ad_f_Load_init (K : PySem.W.Frag) : Addr := DH.refO (PySem.W.findIn K (.ref (ad_C_Load K)) "__init__")
def ad_f_Row_eq (K : PySem.W.Frag) : Addr := DH.refO (PySem.W.findIn K (.ref (ad_C_Row K)) "__eq__")
def ad_p_Row_numbers (K : PySem.W.Frag) : Addr := DH.refO (PySem.W.findIn K (.ref (ad_C_Row K)) "numbers")
def ad_f_is_count (K : PySem.W.Frag) : Addr := DH.refO (PySem.W.nsIn K mainGlobals "is_count")
def ad_f__check_numbers (K : PySem.W.Frag) : Addr := DH.refO (PySem.W.nsIn K mainGlobals "_check_numbers")
def ad_f_Row_init (K : PySem.W.Frag) : Addr := DH.refO (PySem.W.findIn K (.ref (ad_C_Row K)) "__init__")
def ad_p_Row_of (K : PySem.W.Frag) : Addr := DH.refG (PySem.W.findCls K (.ref (ad_C_Row K)) (.type "type") "of")
def ad_p_Backward_size (K : PySem.W.Frag) : Addr := DH.refO (PySem.W.findIn K (.ref (ad_C_Backward K)) "size")
def ad_p_Forward_size (K : PySem.W.Frag) : Addr := DH.refO (PySem.W.findIn K (.ref (ad_C_Forward K)) "size")
def ad_p_Sweep_size (K : PySem.W.Frag) : Addr := DH.refO (PySem.W.findIn K (.ref (ad_C_Sweep K)) "size")
def ad_f__forward_and_backward (K : PySem.W.Frag) : Addr := DH.refO (PySem.W.nsIn K mainGlobals "_forward_and_backward")
def ad_f__mirrored (K : PySem.W.Frag) : Addr := DH.refO (PySem.W.nsIn K mainGlobals "_mirrored")
def ad_f_laid_down (K : PySem.W.Frag) : Addr := DH.refO (PySem.W.nsIn K mainGlobals "laid_down")
def ad_f_Row_rshift (K : PySem.W.Frag) : Addr := DH.refO (PySem.W.findIn K (.ref (ad_C_Row K)) "__rshift__")
def ad_f_Sweep_init (K : PySem.W.Frag) : Addr := DH.refO (PySem.W.findIn K (.ref (ad_C_Sweep K)) "__init__")
def ad_f_Backward_init (K : PySem.W.Frag) : Addr := DH.refO (PySem.W.findIn K (.ref (ad_C_Backward K)) "__init__")
def ad_f_Forward_init (K : PySem.W.Frag) : Addr := DH.refO (PySem.W.findIn K (.ref (ad_C_Forward K)) "__init__")
def ad_f__law_made (K : PySem.W.Frag) : Addr := DH.refO (PySem.W.nsIn K mainGlobals "_law_made")
def ad_f__law_done (K : PySem.W.Frag) : Addr := DH.refO (PySem.W.nsIn K mainGlobals "_law_done")
def ad_f__law_joined (K : PySem.W.Frag) : Addr := DH.refO (PySem.W.nsIn K mainGlobals "_law_joined")
def ad_f__law_mixed_up (K : PySem.W.Frag) : Addr := DH.refO (PySem.W.nsIn K mainGlobals "_law_mixed_up")
def ad_f__law_parted (K : PySem.W.Frag) : Addr := DH.refO (PySem.W.nsIn K mainGlobals "_law_parted")
def ad_f__law_sums (K : PySem.W.Frag) : Addr := DH.refO (PySem.W.nsIn K mainGlobals "_law_sums")
def ad_f__law_swept (K : PySem.W.Frag) : Addr := DH.refO (PySem.W.nsIn K mainGlobals "_law_swept")
def ad_f__law_swept_all (K : PySem.W.Frag) : Addr := DH.refO (PySem.W.nsIn K mainGlobals "_law_swept_all")
def ad_f_is_sweep (K : PySem.W.Frag) : Addr := DH.refO (PySem.W.nsIn K mainGlobals "is_sweep")
def ad_f_check_word (K : PySem.W.Frag) : Addr := DH.refO (PySem.W.nsIn K mainGlobals "check_word")
def ad_f_load_within_limit (K : PySem.W.Frag) : Addr := DH.refO (PySem.W.nsIn K mainGlobals "load_within_limit")
def ad_f_sums_of (K : PySem.W.Frag) : Addr := DH.refO (PySem.W.nsIn K mainGlobals "sums_of")
def ad_f_load_of (K : PySem.W.Frag) : Addr := DH.refO (PySem.W.nsIn K mainGlobals "load_of")
def ad_f__law_right (K : PySem.W.Frag) : Addr := DH.refO (PySem.W.nsIn K mainGlobals "_law_right")
def ad_f__law_word (K : PySem.W.Frag) : Addr := DH.refO (PySem.W.nsIn K mainGlobals "_law_word")
def ad_f_law (K : PySem.W.Frag) : Addr := DH.refO (PySem.W.nsIn K mainGlobals "law")
def ad_f_Load_backward (K : PySem.W.Frag) : Addr := DH.hdR (PySem.W.recIn K (ad_p_Load_backward K) "property")
def ad_f_Load_forward (K : PySem.W.Frag) : Addr := DH.hdR (PySem.W.recIn K (ad_p_Load_forward K) "property")
def ad_f_Row_numbers (K : PySem.W.Frag) : Addr := DH.hdR (PySem.W.recIn K (ad_p_Row_numbers K) "property")
def ad_f_Row_of (K : PySem.W.Frag) : Addr := DH.hdR (PySem.W.recIn K (ad_p_Row_of K) "classmethod")
def ad_f_Backward_size (K : PySem.W.Frag) : Addr := DH.hdR (PySem.W.recIn K (ad_p_Backward_size K) "property")
def ad_f_Forward_size (K : PySem.W.Frag) : Addr := DH.hdR (PySem.W.recIn K (ad_p_Forward_size K) "property")
def ad_f_Sweep_size (K : PySem.W.Frag) : Addr := DH.hdR (PySem.W.recIn K (ad_p_Sweep_size K) "property")
def fct0 (K : PySem.W.Frag) : List Bool := [DH.isRef (PySem.W.nsIn K mainGlobals "Load"),
  DH.isRef (PySem.W.nsIn K mainGlobals "Hand"),
  DH.isRef (PySem.W.nsIn K mainGlobals "Sweep"),
  DH.isRef (PySem.W.nsIn K mainGlobals "Forward"),
  DH.isRef (PySem.W.nsIn K mainGlobals "Backward"),
  DH.isRef (PySem.W.nsIn K mainGlobals "Row"),
  DH.isRef (PySem.W.nsIn K mainGlobals "_law_folded"),
  DH.isRef (PySem.W.nsIn K mainGlobals "_law_begun"),
  DH.isRef (PySem.W.nsIn K mainGlobals "_law_mixed"),
  DH.isRef (PySem.W.nsIn K mainGlobals "_law_draw"),
  DH.isRef (PySem.W.nsIn K mainGlobals "_law_order"),
  DH.isRef (PySem.W.nsIn K mainGlobals "_law_given"),
  DH.isRef (PySem.W.findIn K (.ref (ad_C_Load K)) "backward"),
  DH.isRef (PySem.W.findIn K (.ref (ad_C_Load K)) "forward"),
  DH.isRef (PySem.W.nsIn K mainGlobals "is_integer"),
  DH.isRef (PySem.W.nsIn K mainGlobals "is_integer_within"),
  DH.isRef (PySem.W.findIn K (.ref (ad_C_Load K)) "__init__"),
  DH.isRef (PySem.W.findIn K (.ref (ad_C_Row K)) "__eq__"),
  DH.isRef (PySem.W.findIn K (.ref (ad_C_Row K)) "numbers"),
  DH.isRef (PySem.W.nsIn K mainGlobals "is_count")]
def fct1 (K : PySem.W.Frag) : List Bool := [DH.isRef (PySem.W.nsIn K mainGlobals "_check_numbers"),
  DH.isRef (PySem.W.findIn K (.ref (ad_C_Row K)) "__init__"),
  DH.isGet (PySem.W.findCls K (.ref (ad_C_Row K)) (.type "type") "of") "classmethod.__get__" (ad_C_Row K),
  DH.isRef (PySem.W.findIn K (.ref (ad_C_Backward K)) "size"),
  DH.isRef (PySem.W.findIn K (.ref (ad_C_Forward K)) "size"),
  DH.isRef (PySem.W.findIn K (.ref (ad_C_Sweep K)) "size"),
  DH.isRef (PySem.W.nsIn K mainGlobals "_forward_and_backward"),
  DH.isRef (PySem.W.nsIn K mainGlobals "_mirrored"),
  DH.isRef (PySem.W.nsIn K mainGlobals "laid_down"),
  DH.isRef (PySem.W.findIn K (.ref (ad_C_Row K)) "__rshift__"),
  DH.isRef (PySem.W.findIn K (.ref (ad_C_Sweep K)) "__init__"),
  DH.isRef (PySem.W.findIn K (.ref (ad_C_Backward K)) "__init__"),
  DH.isRef (PySem.W.findIn K (.ref (ad_C_Forward K)) "__init__"),
  DH.isRef (PySem.W.nsIn K mainGlobals "_law_made"),
  DH.isRef (PySem.W.nsIn K mainGlobals "_law_done"),
  DH.isRef (PySem.W.nsIn K mainGlobals "_law_joined"),
  DH.isRef (PySem.W.nsIn K mainGlobals "_law_mixed_up"),
  DH.isRef (PySem.W.nsIn K mainGlobals "_law_parted"),
  DH.isRef (PySem.W.nsIn K mainGlobals "_law_sums"),
  DH.isRef (PySem.W.nsIn K mainGlobals "_law_swept")]
def fct2 (K : PySem.W.Frag) : List Bool := [DH.isRef (PySem.W.nsIn K mainGlobals "_law_swept_all"),
  DH.isRef (PySem.W.nsIn K mainGlobals "is_sweep"),
  DH.isRef (PySem.W.nsIn K mainGlobals "check_word"),
  DH.isRef (PySem.W.nsIn K mainGlobals "load_within_limit"),
  DH.isRef (PySem.W.nsIn K mainGlobals "sums_of"),
  DH.isRef (PySem.W.nsIn K mainGlobals "load_of"),
  DH.isRef (PySem.W.nsIn K mainGlobals "_law_right"),
  DH.isRef (PySem.W.nsIn K mainGlobals "_law_word"),
  DH.isRef (PySem.W.nsIn K mainGlobals "law"),
  DH.isRec (PySem.W.recIn K (ad_p_Load_backward K) "property"),
  DH.isRec (PySem.W.recIn K (ad_p_Load_forward K) "property"),
  DH.isRec (PySem.W.recIn K (ad_p_Row_numbers K) "property"),
  DH.isRec (PySem.W.recIn K (ad_p_Row_of K) "classmethod"),
  DH.isRec (PySem.W.recIn K (ad_p_Backward_size K) "property"),
  DH.isRec (PySem.W.recIn K (ad_p_Forward_size K) "property"),
  DH.isRec (PySem.W.recIn K (ad_p_Sweep_size K) "property"),
  DH.isVRef (DH.oFd (K.lookup (ad_f_Backward_init K))).code,
  DH.isVRef (DH.oFd (K.lookup (ad_f_Forward_init K))).code,
  PySem.W.plainGet K (ad_C_Load K) Str.empty,
  PySem.W.hasDictIn K (ad_C_Load K)]
def fct3 (K : PySem.W.Frag) : List Bool := [PySem.W.plainOver K (ad_C_Load K),
  DH.eqO (PySem.W.findIn K (.ref (ad_C_Load K)) "__setattr__") (some (some (.builtin "object.__setattr__"))),
  DH.eqO (PySem.W.findIn K (.ref (ad_C_Load K)) "_forward") (some none),
  DH.eqO (PySem.W.findIn K (.ref (ad_C_Load K)) "_backward") (some none),
  noBlt K (.ref (ad_C_Load K)),
  DH.eqO (PySem.W.findIn K (.ref (ad_C_Load K)) "__class__") (some (some (.builtin "object.__class__"))),
  DH.eqB (PySem.W.mroIn K (ad_C_Load K) (.type "object")) (some true),
  DH.eqB (PySem.W.kitOne K (.ref (ad_C_Load K)) (.ref (ad_C_Load K))) (some true),
  DH.eqB (PySem.W.kitOne K (.ref (ad_C_Load K)) (.ref (ad_C_Forward K))) (some false),
  DH.eqB (PySem.W.kitOne K (.ref (ad_C_Load K)) (.ref (ad_C_Backward K))) (some false),
  DH.eqB (PySem.W.kitOne K (.ref (ad_C_Load K)) (.ref (ad_C_Row K))) (some false),
  PySem.W.noNum K (ad_C_Load K) (PySem.dunder (PySem.Operator.RShift).info.2) (PySem.dunderR (PySem.Operator.RShift).info.2),
  PySem.W.readsIn K (ad_C_Load K) (.type "type"),
  DH.eqO (PySem.W.specialIn K (.ref (ad_C_Load K)) "__getattribute__") (some (some (.builtin "type.__getattribute__"))),
  DH.isCInt (PySem.W.findCls K (.ref (ad_C_Load K)) (.type "type") "MOST") (1200),
  PySem.W.plainGet K (ad_C_Hand K) Str.empty,
  PySem.W.hasDictIn K (ad_C_Hand K),
  PySem.W.plainOver K (ad_C_Hand K),
  DH.eqO (PySem.W.findIn K (.ref (ad_C_Hand K)) "__setattr__") (some (some (.builtin "object.__setattr__"))),
  DH.eqO (PySem.W.findIn K (.ref (ad_C_Hand K)) "_size") (some none)]
def fct4 (K : PySem.W.Frag) : List Bool := [PySem.W.readsIn K (ad_C_Hand K) (.type "type"),
  DH.eqO (PySem.W.specialIn K (.ref (ad_C_Hand K)) "__getattribute__") (some (some (.builtin "type.__getattribute__"))),
  DH.isCInt (PySem.W.findCls K (.ref (ad_C_Hand K)) (.type "type") "MOST") (20),
  PySem.W.plainGet K (ad_C_Sweep K) Str.empty,
  PySem.W.hasDictIn K (ad_C_Sweep K),
  PySem.W.plainOver K (ad_C_Sweep K),
  DH.eqO (PySem.W.findIn K (.ref (ad_C_Sweep K)) "__setattr__") (some (some (.builtin "object.__setattr__"))),
  DH.eqO (PySem.W.findIn K (.ref (ad_C_Sweep K)) "_size") (some none),
  PySem.W.plainGet K (ad_C_Forward K) Str.empty,
  PySem.W.hasDictIn K (ad_C_Forward K),
  PySem.W.plainOver K (ad_C_Forward K),
  DH.eqO (PySem.W.findIn K (.ref (ad_C_Forward K)) "__setattr__") (some (some (.builtin "object.__setattr__"))),
  DH.eqO (PySem.W.findIn K (.ref (ad_C_Forward K)) "_size") (some none),
  noBlt K (.ref (ad_C_Forward K)),
  DH.eqO (PySem.W.findIn K (.ref (ad_C_Forward K)) "__class__") (some (some (.builtin "object.__class__"))),
  DH.eqB (PySem.W.mroIn K (ad_C_Forward K) (.type "object")) (some true),
  DH.eqB (PySem.W.kitOne K (.ref (ad_C_Forward K)) (.ref (ad_C_Load K))) (some false),
  DH.eqB (PySem.W.kitOne K (.ref (ad_C_Forward K)) (.ref (ad_C_Forward K))) (some true),
  DH.eqB (PySem.W.kitOne K (.ref (ad_C_Forward K)) (.ref (ad_C_Backward K))) (some false),
  DH.eqB (PySem.W.kitOne K (.ref (ad_C_Forward K)) (.ref (ad_C_Row K))) (some false)]
def fct5 (K : PySem.W.Frag) : List Bool := [PySem.W.noNum K (ad_C_Forward K) (PySem.dunder (PySem.Operator.RShift).info.2) (PySem.dunderR (PySem.Operator.RShift).info.2),
  PySem.W.plainGet K (ad_C_Backward K) Str.empty,
  PySem.W.hasDictIn K (ad_C_Backward K),
  PySem.W.plainOver K (ad_C_Backward K),
  DH.eqO (PySem.W.findIn K (.ref (ad_C_Backward K)) "__setattr__") (some (some (.builtin "object.__setattr__"))),
  DH.eqO (PySem.W.findIn K (.ref (ad_C_Backward K)) "_size") (some none),
  noBlt K (.ref (ad_C_Backward K)),
  DH.eqO (PySem.W.findIn K (.ref (ad_C_Backward K)) "__class__") (some (some (.builtin "object.__class__"))),
  DH.eqB (PySem.W.mroIn K (ad_C_Backward K) (.type "object")) (some true),
  DH.eqB (PySem.W.kitOne K (.ref (ad_C_Backward K)) (.ref (ad_C_Load K))) (some false),
  DH.eqB (PySem.W.kitOne K (.ref (ad_C_Backward K)) (.ref (ad_C_Forward K))) (some false),
  DH.eqB (PySem.W.kitOne K (.ref (ad_C_Backward K)) (.ref (ad_C_Backward K))) (some true),
  DH.eqB (PySem.W.kitOne K (.ref (ad_C_Backward K)) (.ref (ad_C_Row K))) (some false),
  PySem.W.noNum K (ad_C_Backward K) (PySem.dunder (PySem.Operator.RShift).info.2) (PySem.dunderR (PySem.Operator.RShift).info.2),
  PySem.W.plainGet K (ad_C_Row K) Str.empty,
  PySem.W.hasDictIn K (ad_C_Row K),
  PySem.W.plainOver K (ad_C_Row K),
  DH.eqO (PySem.W.findIn K (.ref (ad_C_Row K)) "__setattr__") (some (some (.builtin "object.__setattr__"))),
  DH.eqO (PySem.W.findIn K (.ref (ad_C_Row K)) "_numbers") (some none),
  PySem.W.selfFirst K (ad_C_Row K)]
def fct6 (K : PySem.W.Frag) : List Bool := [noBlt K (.ref (ad_C_Row K)),
  DH.eqO (PySem.W.findIn K (.ref (ad_C_Row K)) "__class__") (some (some (.builtin "object.__class__"))),
  DH.eqB (PySem.W.mroIn K (ad_C_Row K) (.type "object")) (some true),
  DH.neA (ad_C_Row K) (ad_C_Load K),
  DH.eqB (PySem.W.kitOne K (.ref (ad_C_Row K)) (.ref (ad_C_Load K))) (some false),
  DH.neA (ad_C_Row K) (ad_C_Forward K),
  DH.eqB (PySem.W.kitOne K (.ref (ad_C_Row K)) (.ref (ad_C_Forward K))) (some false),
  DH.neA (ad_C_Row K) (ad_C_Backward K),
  DH.eqB (PySem.W.kitOne K (.ref (ad_C_Row K)) (.ref (ad_C_Backward K))) (some false),
  PySem.W.notFirst K (ad_C_Row K) (.ref (ad_C_Row K)),
  DH.eqB (PySem.W.kitOne K (.ref (ad_C_Row K)) (.ref (ad_C_Row K))) (some true),
  DH.eqO (PySem.W.nsIn K mainGlobals "bool") (some none),
  DH.eqO (PySem.W.nsIn K mainGlobals "enumerate") (some none),
  DH.eqO (PySem.W.nsIn K mainGlobals "int") (some none),
  DH.eqO (PySem.W.nsIn K mainGlobals "isinstance") (some none),
  DH.eqO (PySem.W.nsIn K mainGlobals "len") (some none),
  DH.eqO (PySem.W.nsIn K mainGlobals "list") (some none),
  DH.eqO (PySem.W.nsIn K mainGlobals "max") (some none),
  DH.eqO (PySem.W.nsIn K mainGlobals "min") (some none),
  DH.eqO (PySem.W.nsIn K mainGlobals "range") (some none)]
def fct7 (K : PySem.W.Frag) : List Bool := [DH.eqO (PySem.W.nsIn K mainGlobals "repr") (some none),
  DH.eqO (PySem.W.nsIn K mainGlobals "sorted") (some none),
  DH.eqO (PySem.W.nsIn K mainGlobals "sum") (some none),
  DH.eqO (PySem.W.nsIn K mainGlobals "tuple") (some none),
  DH.isInt (PySem.W.nsIn K mainGlobals "MOST_NUMBERS") (20),
  DH.isInt (PySem.W.nsIn K mainGlobals "GREATEST") (999),
  DH.eqO (PySem.W.specialIn K (.builtin "object.__class__") "__get__") (some (some (.builtin "getset_descriptor.__get__"))),
  DH.eqB (PySem.W.takesIn K (.builtin "object.__class__")) (some true),
  PySem.W.codeIn K ((DH.oFd (K.lookup (ad_f__law_folded K))).code) "_law_folded",
  PySem.W.keepIn K (.ref (ad_f__law_folded K)),
  PySem.W.codeIn K ((DH.oFd (K.lookup (ad_f__law_begun K))).code) "_law_begun",
  PySem.W.keepIn K (.ref (ad_f__law_begun K)),
  PySem.W.codeIn K ((DH.oFd (K.lookup (ad_f__law_mixed K))).code) "_law_mixed",
  PySem.W.keepIn K (.ref (ad_f__law_mixed K)),
  PySem.W.codeIn K ((DH.oFd (K.lookup (ad_f__law_draw K))).code) "_law_draw",
  PySem.W.keepIn K (.ref (ad_f__law_draw K)),
  PySem.W.codeIn K ((DH.oFd (K.lookup (ad_f__law_order K))).code) "_law_order",
  PySem.W.keepIn K (.ref (ad_f__law_order K)),
  PySem.W.codeIn K ((DH.oFd (K.lookup (ad_f__law_given K))).code) "_law_given",
  PySem.W.keepIn K (.ref (ad_f__law_given K))]
def fct8 (K : PySem.W.Frag) : List Bool := [DH.eqO (PySem.W.specialIn K (.ref (ad_p_Load_backward K)) "__get__") (some (some (.builtin "property.__get__"))),
  DH.eqB (PySem.W.takesIn K (.ref (ad_p_Load_backward K))) (some true),
  PySem.W.codeIn K ((DH.oFd (K.lookup (ad_f_Load_backward K))).code) "Load.backward",
  PySem.W.keepIn K (.ref (ad_f_Load_backward K)),
  DH.eqO (PySem.W.specialIn K (.ref (ad_p_Load_forward K)) "__get__") (some (some (.builtin "property.__get__"))),
  DH.eqB (PySem.W.takesIn K (.ref (ad_p_Load_forward K))) (some true),
  PySem.W.codeIn K ((DH.oFd (K.lookup (ad_f_Load_forward K))).code) "Load.forward",
  PySem.W.keepIn K (.ref (ad_f_Load_forward K)),
  PySem.W.codeIn K ((DH.oFd (K.lookup (ad_f_is_integer K))).code) "is_integer",
  PySem.W.keepIn K (.ref (ad_f_is_integer K)),
  PySem.W.codeIn K ((DH.oFd (K.lookup (ad_f_is_integer_within K))).code) "is_integer_within",
  PySem.W.keepIn K (.ref (ad_f_is_integer_within K)),
  PySem.W.isFn K (.ref (ad_f_Load_init K)),
  PySem.W.codeIn K ((DH.oFd (K.lookup (ad_f_Load_init K))).code) "Load.__init__",
  PySem.W.keepIn K (.ref (ad_f_Load_init K)),
  PySem.W.makesIn K (ad_C_Load K),
  PySem.W.keepIn K (.ref (ad_C_Load K)),
  PySem.W.isFn K (.ref (ad_f_Row_eq K)),
  PySem.W.codeIn K ((DH.oFd (K.lookup (ad_f_Row_eq K))).code) "Row.__eq__",
  PySem.W.keepIn K (.ref (ad_f_Row_eq K))]
def fct9 (K : PySem.W.Frag) : List Bool := [DH.eqO (PySem.W.specialIn K (.ref (ad_p_Row_numbers K)) "__get__") (some (some (.builtin "property.__get__"))),
  DH.eqB (PySem.W.takesIn K (.ref (ad_p_Row_numbers K))) (some true),
  PySem.W.codeIn K ((DH.oFd (K.lookup (ad_f_Row_numbers K))).code) "Row.numbers",
  PySem.W.keepIn K (.ref (ad_f_Row_numbers K)),
  PySem.W.codeIn K ((DH.oFd (K.lookup (ad_f_is_count K))).code) "is_count",
  PySem.W.keepIn K (.ref (ad_f_is_count K)),
  PySem.W.codeIn K ((DH.oFd (K.lookup (ad_f__check_numbers K))).code) "_check_numbers",
  PySem.W.keepIn K (.ref (ad_f__check_numbers K)),
  PySem.W.isFn K (.ref (ad_f_Row_init K)),
  PySem.W.codeIn K ((DH.oFd (K.lookup (ad_f_Row_init K))).code) "Row.__init__",
  PySem.W.keepIn K (.ref (ad_f_Row_init K)),
  PySem.W.makesIn K (ad_C_Row K),
  PySem.W.keepIn K (.ref (ad_C_Row K)),
  PySem.W.readsIn K (ad_C_Row K) (.type "type"),
  DH.eqO (PySem.W.specialIn K (.ref (ad_C_Row K)) "__getattribute__") (some (some (.builtin "type.__getattribute__"))),
  PySem.W.fnIn K (ad_f_Row_of K),
  PySem.W.codeIn K ((DH.oFd (K.lookup (ad_f_Row_of K))).code) "Row.of",
  PySem.W.keepIn K (.ref (ad_f_Row_of K)),
  DH.eqO (PySem.W.specialIn K (.ref (ad_p_Backward_size K)) "__get__") (some (some (.builtin "property.__get__"))),
  DH.eqB (PySem.W.takesIn K (.ref (ad_p_Backward_size K))) (some true)]
def fct10 (K : PySem.W.Frag) : List Bool := [PySem.W.codeIn K ((DH.oFd (K.lookup (ad_f_Backward_size K))).code) "Backward.size",
  PySem.W.keepIn K (.ref (ad_f_Backward_size K)),
  DH.eqO (PySem.W.specialIn K (.ref (ad_p_Forward_size K)) "__get__") (some (some (.builtin "property.__get__"))),
  DH.eqB (PySem.W.takesIn K (.ref (ad_p_Forward_size K))) (some true),
  PySem.W.codeIn K ((DH.oFd (K.lookup (ad_f_Forward_size K))).code) "Forward.size",
  PySem.W.keepIn K (.ref (ad_f_Forward_size K)),
  DH.eqO (PySem.W.specialIn K (.ref (ad_p_Sweep_size K)) "__get__") (some (some (.builtin "property.__get__"))),
  DH.eqB (PySem.W.takesIn K (.ref (ad_p_Sweep_size K))) (some true),
  PySem.W.codeIn K ((DH.oFd (K.lookup (ad_f_Sweep_size K))).code) "Sweep.size",
  PySem.W.keepIn K (.ref (ad_f_Sweep_size K)),
  PySem.W.codeIn K ((DH.oFd (K.lookup (ad_f__forward_and_backward K))).code) "_forward_and_backward",
  PySem.W.keepIn K (.ref (ad_f__forward_and_backward K)),
  PySem.W.codeIn K ((DH.oFd (K.lookup (ad_f__mirrored K))).code) "_mirrored",
  PySem.W.keepIn K (.ref (ad_f__mirrored K)),
  PySem.W.codeIn K ((DH.oFd (K.lookup (ad_f_laid_down K))).code) "laid_down",
  PySem.W.keepIn K (.ref (ad_f_laid_down K)),
  PySem.W.isFn K (.ref (ad_f_Row_rshift K)),
  PySem.W.codeIn K ((DH.oFd (K.lookup (ad_f_Row_rshift K))).code) "Row.__rshift__",
  PySem.W.keepIn K (.ref (ad_f_Row_rshift K)),
  PySem.W.isFn K (.ref (ad_f_Sweep_init K))]
def fct11 (K : PySem.W.Frag) : List Bool := [PySem.W.codeIn K ((DH.oFd (K.lookup (ad_f_Sweep_init K))).code) "Sweep.__init__",
  PySem.W.keepIn K (.ref (ad_f_Sweep_init K)),
  PySem.W.makesIn K (ad_C_Sweep K),
  PySem.W.keepIn K (.ref (ad_C_Sweep K)),
  PySem.W.isFn K (.ref (ad_f_Backward_init K)),
  PySem.W.codeIn K (.ref (DH.vRef (DH.oFd (K.lookup (ad_f_Backward_init K))).code)) "Backward.__init__",
  DH.isFlds (K.lookup (DH.vRef (DH.oFd (K.lookup (ad_f_Backward_init K))).code)),
  DH.isVStr ((DH.oFlds (K.lookup (DH.vRef (DH.oFd (K.lookup (ad_f_Backward_init K))).code)))[2]?),
  (PySem.Challenge.rw_handsweeps_k11_whole_only_the_load_count.prog.main.file == (DH.vStr ((DH.oFlds (K.lookup (DH.vRef (DH.oFd (K.lookup (ad_f_Backward_init K))).code)))[2]?))),
  DH.isCell (K.lookup (DH.oCl1 (K.lookup (ad_f_Backward_init K)))) (ad_C_Backward K),
  (PySem.W.clsIn K (ad_C_Backward K)).isSome,
  DH.eqB (PySem.W.mroIn K (ad_C_Backward K) (.ref (ad_C_Backward K))) (some true),
  DH.eqO (PySem.W.nsIn K mainGlobals "super") (some none),
  DH.eqO (PySem.W.nsIn K cStatics "thirdparty.any") (some none),
  DH.eqO (PySem.W.ks_superIn K (ad_C_Backward K) (ad_C_Backward K) "__init__") (some (some (.ref (ad_f_Sweep_init K)))),
  DH.isTyp (DH.oCls (K.lookup (ad_f_Sweep_init K))) "function",
  PySem.W.makesIn K (ad_C_Backward K),
  PySem.W.keepIn K (.ref (ad_C_Backward K)),
  PySem.W.isFn K (.ref (ad_f_Forward_init K)),
  PySem.W.codeIn K (.ref (DH.vRef (DH.oFd (K.lookup (ad_f_Forward_init K))).code)) "Forward.__init__"]
def fct12 (K : PySem.W.Frag) : List Bool := [DH.isFlds (K.lookup (DH.vRef (DH.oFd (K.lookup (ad_f_Forward_init K))).code)),
  DH.isVStr ((DH.oFlds (K.lookup (DH.vRef (DH.oFd (K.lookup (ad_f_Forward_init K))).code)))[2]?),
  (PySem.Challenge.rw_handsweeps_k11_whole_only_the_load_count.prog.main.file == (DH.vStr ((DH.oFlds (K.lookup (DH.vRef (DH.oFd (K.lookup (ad_f_Forward_init K))).code)))[2]?))),
  DH.isCell (K.lookup (DH.oCl1 (K.lookup (ad_f_Forward_init K)))) (ad_C_Forward K),
  (PySem.W.clsIn K (ad_C_Forward K)).isSome,
  DH.eqB (PySem.W.mroIn K (ad_C_Forward K) (.ref (ad_C_Forward K))) (some true),
  DH.eqO (PySem.W.ks_superIn K (ad_C_Forward K) (ad_C_Forward K) "__init__") (some (some (.ref (ad_f_Sweep_init K)))),
  PySem.W.makesIn K (ad_C_Forward K),
  PySem.W.keepIn K (.ref (ad_C_Forward K)),
  PySem.W.codeIn K ((DH.oFd (K.lookup (ad_f__law_made K))).code) "_law_made",
  PySem.W.keepIn K (.ref (ad_f__law_made K)),
  PySem.W.codeIn K ((DH.oFd (K.lookup (ad_f__law_done K))).code) "_law_done",
  PySem.W.keepIn K (.ref (ad_f__law_done K)),
  PySem.W.codeIn K ((DH.oFd (K.lookup (ad_f__law_joined K))).code) "_law_joined",
  PySem.W.keepIn K (.ref (ad_f__law_joined K)),
  PySem.W.codeIn K ((DH.oFd (K.lookup (ad_f__law_mixed_up K))).code) "_law_mixed_up",
  PySem.W.keepIn K (.ref (ad_f__law_mixed_up K)),
  PySem.W.codeIn K ((DH.oFd (K.lookup (ad_f__law_parted K))).code) "_law_parted",
  PySem.W.keepIn K (.ref (ad_f__law_parted K)),
  PySem.W.codeIn K ((DH.oFd (K.lookup (ad_f__law_sums K))).code) "_law_sums"]
def fct13 (K : PySem.W.Frag) : List Bool := [PySem.W.keepIn K (.ref (ad_f__law_sums K)),
  PySem.W.codeIn K ((DH.oFd (K.lookup (ad_f__law_swept K))).code) "_law_swept",
  PySem.W.keepIn K (.ref (ad_f__law_swept K)),
  PySem.W.codeIn K ((DH.oFd (K.lookup (ad_f__law_swept_all K))).code) "_law_swept_all",
  PySem.W.keepIn K (.ref (ad_f__law_swept_all K)),
  PySem.W.codeIn K ((DH.oFd (K.lookup (ad_f_is_sweep K))).code) "is_sweep",
  PySem.W.keepIn K (.ref (ad_f_is_sweep K)),
  PySem.W.codeIn K ((DH.oFd (K.lookup (ad_f_check_word K))).code) "check_word",
  PySem.W.keepIn K (.ref (ad_f_check_word K)),
  PySem.W.codeIn K ((DH.oFd (K.lookup (ad_f_load_within_limit K))).code) "load_within_limit",
  PySem.W.keepIn K (.ref (ad_f_load_within_limit K)),
  PySem.W.codeIn K ((DH.oFd (K.lookup (ad_f_sums_of K))).code) "sums_of",
  PySem.W.keepIn K (.ref (ad_f_sums_of K)),
  PySem.W.codeIn K ((DH.oFd (K.lookup (ad_f_load_of K))).code) "load_of",
  PySem.W.keepIn K (.ref (ad_f_load_of K)),
  PySem.W.codeIn K ((DH.oFd (K.lookup (ad_f__law_right K))).code) "_law_right",
  PySem.W.keepIn K (.ref (ad_f__law_right K)),
  PySem.W.codeIn K ((DH.oFd (K.lookup (ad_f__law_word K))).code) "_law_word",
  PySem.W.keepIn K (.ref (ad_f__law_word K)),
  PySem.W.codeIn K ((DH.oFd (K.lookup (ad_f_law K))).code) "law"]
def fct14 (K : PySem.W.Frag) : List Bool := [PySem.W.keepIn K (.ref (ad_f_law K))]
def fcts (K : PySem.W.Frag) : List (List Bool) := [fct0 K, fct1 K, fct2 K, fct3 K, fct4 K, fct5 K, fct6 K, fct7 K, fct8 K, fct9 K, fct10 K, fct11 K, fct12 K, fct13 K, fct14 K]
def fns0 (K : PySem.W.Frag) : List DH.FnV := [DH.fnV (K.lookup (ad_f__law_folded K)),
  DH.fnV (K.lookup (ad_f__law_begun K)),
  DH.fnV (K.lookup (ad_f__law_mixed K)),
  DH.fnV (K.lookup (ad_f__law_draw K)),
  DH.fnV (K.lookup (ad_f__law_order K)),
  DH.fnV (K.lookup (ad_f__law_given K)),
  DH.fnV (K.lookup (ad_f_Load_backward K)),
  DH.fnV (K.lookup (ad_f_Load_forward K)),
  DH.fnV (K.lookup (ad_f_is_integer K)),
  DH.fnV (K.lookup (ad_f_is_integer_within K)),
  DH.fnV (K.lookup (ad_f_Load_init K)),
  DH.fnV (K.lookup (ad_f_Row_eq K)),
  DH.fnV (K.lookup (ad_f_Row_numbers K)),
  DH.fnV (K.lookup (ad_f_is_count K)),
  DH.fnV (K.lookup (ad_f__check_numbers K)),
  DH.fnV (K.lookup (ad_f_Row_init K)),
  DH.fnV (K.lookup (ad_f_Row_of K)),
  DH.fnV (K.lookup (ad_f_Backward_size K)),
  DH.fnV (K.lookup (ad_f_Forward_size K)),
  DH.fnV (K.lookup (ad_f_Sweep_size K))]
def fvs0 : List DH.FnV := [DH.fv "_law_folded" "_law_folded" (defArgs (tp 38)) (defBody (tp 38)) (defScope (tp 38)) [],
  DH.fv "_law_begun" "_law_begun" (defArgs (tp 40)) (defBody (tp 40)) (defScope (tp 40)) [],
  DH.fv "_law_mixed" "_law_mixed" (defArgs (tp 37)) (defBody (tp 37)) (defScope (tp 37)) [],
  DH.fv "_law_draw" "_law_draw" (defArgs (tp 39)) (defBody (tp 39)) (defScope (tp 39)) [],
  DH.fv "_law_order" "_law_order" (defArgs (tp 42)) (defBody (tp 42)) (defScope (tp 42)) [],
  DH.fv "_law_given" "_law_given" (defArgs (tp 41)) (defBody (tp 41)) (defScope (tp 41)) [],
  DH.fv "backward" "Load.backward" (defArgs (cb (tp 13) 3)) (defBody (cb (tp 13) 3)) (defScope (cb (tp 13) 3)) [],
  DH.fv "forward" "Load.forward" (defArgs (cb (tp 13) 2)) (defBody (cb (tp 13) 2)) (defScope (cb (tp 13) 2)) [],
  DH.fv "is_integer" "is_integer" (defArgs (tp 10)) (defBody (tp 10)) (defScope (tp 10)) [],
  DH.fv "is_integer_within" "is_integer_within" (defArgs (tp 11)) (defBody (tp 11)) (defScope (tp 11)) [],
  DH.fv "__init__" "Load.__init__" (defArgs (cb (tp 13) 1)) (defBody (cb (tp 13) 1)) (defScope (cb (tp 13) 1)) [],
  DH.fv "__eq__" "Row.__eq__" (defArgs (cb (tp 31) 10)) (defBody (cb (tp 31) 10)) (defScope (cb (tp 31) 10)) [],
  DH.fv "numbers" "Row.numbers" (defArgs (cb (tp 31) 2)) (defBody (cb (tp 31) 2)) (defScope (cb (tp 31) 2)) [],
  DH.fv "is_count" "is_count" (defArgs (tp 32)) (defBody (tp 32)) (defScope (tp 32)) [],
  DH.fv "_check_numbers" "_check_numbers" (defArgs (tp 34)) (defBody (tp 34)) (defScope (tp 34)) [],
  DH.fv "__init__" "Row.__init__" (defArgs (cb (tp 31) 0)) (defBody (cb (tp 31) 0)) (defScope (cb (tp 31) 0)) [],
  DH.fv "of" "Row.of" (defArgs (cb (tp 31) 1)) (defBody (cb (tp 31) 1)) (defScope (cb (tp 31) 1)) [],
  DH.fv "size" "Backward.size" (defArgs (cb (tp 22) 2)) (defBody (cb (tp 22) 2)) (defScope (cb (tp 22) 2)) [],
  DH.fv "size" "Forward.size" (defArgs (cb (tp 21) 2)) (defBody (cb (tp 21) 2)) (defScope (cb (tp 21) 2)) [],
  DH.fv "size" "Sweep.size" (defArgs (cb (tp 20) 1)) (defBody (cb (tp 20) 1)) (defScope (cb (tp 20) 1)) []]
def fns1 (K : PySem.W.Frag) : List DH.FnV := [DH.fnV (K.lookup (ad_f__forward_and_backward K)),
  DH.fnV (K.lookup (ad_f__mirrored K)),
  DH.fnV (K.lookup (ad_f_laid_down K)),
  DH.fnV (K.lookup (ad_f_Row_rshift K)),
  DH.fnV (K.lookup (ad_f_Sweep_init K)),
  DH.fnV (K.lookup (ad_f_Backward_init K)),
  DH.fnV (K.lookup (ad_f_Forward_init K)),
  DH.fnV (K.lookup (ad_f__law_made K)),
  DH.fnV (K.lookup (ad_f__law_done K)),
  DH.fnV (K.lookup (ad_f__law_joined K)),
  DH.fnV (K.lookup (ad_f__law_mixed_up K)),
  DH.fnV (K.lookup (ad_f__law_parted K)),
  DH.fnV (K.lookup (ad_f__law_sums K)),
  DH.fnV (K.lookup (ad_f__law_swept K)),
  DH.fnV (K.lookup (ad_f__law_swept_all K)),
  DH.fnV (K.lookup (ad_f_is_sweep K)),
  DH.fnV (K.lookup (ad_f_check_word K)),
  DH.fnV (K.lookup (ad_f_load_within_limit K)),
  DH.fnV (K.lookup (ad_f_sums_of K)),
  DH.fnV (K.lookup (ad_f_load_of K))]
def fvs1 : List DH.FnV := [DH.fv "_forward_and_backward" "_forward_and_backward" (defArgs (tp 33)) (defBody (tp 33)) (defScope (tp 33)) [],
  DH.fv "_mirrored" "_mirrored" (defArgs (tp 35)) (defBody (tp 35)) (defScope (tp 35)) [],
  DH.fv "laid_down" "laid_down" (defArgs (tp 18)) (defBody (tp 18)) (defScope (tp 18)) [],
  DH.fv "__rshift__" "Row.__rshift__" (defArgs (cb (tp 31) 13)) (defBody (cb (tp 31) 13)) (defScope (cb (tp 31) 13)) [],
  DH.fv "__init__" "Sweep.__init__" (defArgs (cb (tp 20) 0)) (defBody (cb (tp 20) 0)) (defScope (cb (tp 20) 0)) [],
  DH.fv "__init__" "Backward.__init__" (defArgs (cb (tp 22) 1)) (defBody (cb (tp 22) 1)) (defScope (cb (tp 22) 1)) ["__class__"],
  DH.fv "__init__" "Forward.__init__" (defArgs (cb (tp 21) 1)) (defBody (cb (tp 21) 1)) (defScope (cb (tp 21) 1)) ["__class__"],
  DH.fv "_law_made" "_law_made" (defArgs (tp 47)) (defBody (tp 47)) (defScope (tp 47)) [],
  DH.fv "_law_done" "_law_done" (defArgs (tp 48)) (defBody (tp 48)) (defScope (tp 48)) [],
  DH.fv "_law_joined" "_law_joined" (defArgs (tp 50)) (defBody (tp 50)) (defScope (tp 50)) [],
  DH.fv "_law_mixed_up" "_law_mixed_up" (defArgs (tp 49)) (defBody (tp 49)) (defScope (tp 49)) [],
  DH.fv "_law_parted" "_law_parted" (defArgs (tp 51)) (defBody (tp 51)) (defScope (tp 51)) [],
  DH.fv "_law_sums" "_law_sums" (defArgs (tp 46)) (defBody (tp 46)) (defScope (tp 46)) [],
  DH.fv "_law_swept" "_law_swept" (defArgs (tp 44)) (defBody (tp 44)) (defScope (tp 44)) [],
  DH.fv "_law_swept_all" "_law_swept_all" (defArgs (tp 45)) (defBody (tp 45)) (defScope (tp 45)) [],
  DH.fv "is_sweep" "is_sweep" (defArgs (tp 24)) (defBody (tp 24)) (defScope (tp 24)) [],
  DH.fv "check_word" "check_word" (defArgs (tp 25)) (defBody (tp 25)) (defScope (tp 25)) [],
  DH.fv "load_within_limit" "load_within_limit" (defArgs (tp 14)) (defBody (tp 14)) (defScope (tp 14)) [],
  DH.fv "sums_of" "sums_of" (defArgs (tp 27)) (defBody (tp 27)) (defScope (tp 27)) [],
  DH.fv "load_of" "load_of" (defArgs (tp 26)) (defBody (tp 26)) (defScope (tp 26)) []]
def fns2 (K : PySem.W.Frag) : List DH.FnV := [DH.fnV (K.lookup (ad_f__law_right K)),
  DH.fnV (K.lookup (ad_f__law_word K)),
  DH.fnV (K.lookup (ad_f_law K))]
def fvs2 : List DH.FnV := [DH.fv "_law_right" "_law_right" (defArgs (tp 52)) (defBody (tp 52)) (defScope (tp 52)) [],
  DH.fv "_law_word" "_law_word" (defArgs (tp 43)) (defBody (tp 43)) (defScope (tp 43)) [],
  DH.fv "law" "law" (defArgs (tp 53)) (defBody (tp 53)) (defScope (tp 53)) []]
def fns (K : PySem.W.Frag) : List (List DH.FnV) := [fns0 K, fns1 K, fns2 K]
def fvs : List (List DH.FnV) := [fvs0, fvs1, fvs2]
def adrs : List Addr := [2, 3, 15, 17, 18, 20, 21, 22, 29, 30, 31, 32, 35, 42, 44, 45, 47, 48, 49, 50, 51, 54, 61, 63, 64, 66, 67, 68, 69, 70, 73, 80, 82, 83, 85, 86, 87, 88, 89, 92, 99, 101, 102, 104, 105, 106, 107, 108, 111, 118, 120, 121, 123, 124, 125, 126, 127, 130, 137, 139, 140, 142, 143, 144, 145, 146, 149, 151, 152, 154, 155, 156, 158, 159, 161, 162, 170, 172, 173, 175, 176, 177, 179, 180, 182, 183, 184, 185, 187, 188, 190, 191, 192, 193, 195, 196, 198, 199, 200, 202, 203, 205, 206, 207, 209, 210, 212, 213, 214, 216, 217, 219, 220, 221, 223, 224, 226, 227, 228, 230, 231, 233, 234, 235, 237, 238, 240, 241, 242, 244, 245, 247, 248, 249, 251, 252, 254, 255, 256, 257, 258, 259, 260, 263, 265, 266, 268, 269, 270, 272, 273, 275, 276, 284, 285, 287, 288, 290, 291, 292, 294, 295, 297, 298, 299, 301, 302, 304, 305, 306, 308, 309, 311, 312, 313, 314, 316, 317, 319, 320, 321, 322, 323, 324, 325, 328, 330, 331, 333, 334, 342, 344, 345, 347, 348, 349, 351, 352, 354, 355, 356, 357, 359, 360, 362, 363, 364, 366, 367, 369, 370, 371, 372, 373, 374, 375, 378, 381, 386, 387, 389, 390, 392, 393, 394, 396, 397, 399, 400, 401, 402, 404, 405, 407, 408, 409, 411, 412, 414, 415, 416, 417, 418, 421, 424, 429, 430, 432, 433, 435, 436, 437, 439, 440, 442, 443, 444, 445, 447, 448, 450, 451, 452, 454, 455, 457, 458, 459, 460, 461, 464, 466, 467, 469, 470, 471, 473, 474, 476, 477, 478, 480, 481, 483, 484, 485, 488, 489, 497, 499, 500, 502, 503, 504, 506, 507, 509, 510, 511, 512, 513, 514, 516, 517, 519, 520, 521, 522, 524, 525, 527, 528, 529, 530, 532, 533, 535, 536, 537, 538, 540, 541, 543, 544, 545, 547, 548, 550, 551, 552, 554, 555, 557, 558, 559, 561, 562, 564, 565, 566, 568, 569, 571, 572, 573, 575, 576, 578, 579, 580, 582, 583, 585, 586, 587, 589, 590, 592, 593, 594, 596, 597, 599, 600, 601, 602, 603, 604, 605, 608, 610, 611, 613, 614, 615, 617, 618, 620, 621, 622, 624, 625, 627, 628, 629, 632, 633, 634, 636, 637, 639, 640, 641, 644, 645, 646, 648, 649, 651, 652, 653, 656, 657, 658, 661, 662, 663, 665, 666, 668, 669, 670, 672, 673, 675, 676, 677, 679, 680, 682, 683, 684, 686, 687, 689, 690, 691, 694, 695, 696, 699, 700, 701, 703, 704, 706, 707, 708, 710, 711, 713, 714, 715, 718, 719, 720, 722, 723, 725, 726, 727, 730, 731, 732, 734, 735, 737, 738]
def loose0 : List Str := ["_wall", "SweepError", "InvalidRow", "InvalidPlace", "InvalidSize", "InvalidLoad", "InvalidWord", "LimitExceeded", "is_integer", "is_integer_within", "Load", "load_within_limit", "_require_load", "Hand", "laid_down", "Sweep", "Forward", "Backward", "is_sweep", "check_word", "load_of", "sums_of", "MOST_NUMBERS", "GREATEST", "Row", "is_count", "_forward_and_backward", "_check_numbers", "_mirrored", "_law_mixed"]
def loose1 : List Str := ["_law_folded", "_law_draw", "_law_begun", "_law_given", "_law_order", "_law_word", "_law_swept", "_law_swept_all", "_law_sums", "_law_made", "_law_done", "_law_mixed_up", "_law_joined", "_law_parted", "_law_right"]
def loose : List Str := loose0 ++ loose1
abbrev hk : PySem.W.Hook := DH.hookU adrs fcts fns fvs
def ob (s : PySem.W.SharedT) : DH.Al := DH.obsU adrs fcts fns (HandSHeadRun.getT s)
abbrev RW : PySem.W.OpenRow := PySem.W.OpenLaw.row PySem.Challenge.rw_handsweeps_k11_whole_only_the_load_count
set_option maxHeartbeats 0 in
theorem run (w : World) : HandSHeadRun.RunEq RW (PySem.W.view RW.prog [53]) hk ob 6200 loose w := by
  intro os
  kernel_rfl
end My


set_option Elab.async false
set_option linter.all false
set_option maxRecDepth 100000
/-! enumerate of a tuple -/
namespace DL
open PySem PySem.Spec L2
open AutoSeq1 (wpAny_loadPart')
section
open PyProof.Rows hiding St
variable {prog : Program} {w : World} {A : Around} {E : Value → Shared → Prop} {s : Shared}
abbrev tIter (t : Addr) : Obj := { cls := .type "tuple_iterator", data := .fields #[.ref t, .int 0 0] }
abbrev eIter (n : Addr) : Obj := { cls := .type "enumerate", data := .fields #[.none, .bool false, .ref n, rawInt 0, .none, .none] }
theorem enum_newT (t : Addr) (items : Array Value) (n : Nat) (dct : Option Addr) (sl : Array (Option Value)) :
    Meets (Builtin.«enumerate.__new__» ⟨[.type "enumerate", .ref t], []⟩) (fun _ R s => s.heap.get? t = some { cls := .type "tuple", dict := dct, data := .seq items n, slots := sl } ∧
      R (.ok (.ret (.ref (s.heap.push (tIter t)).objs.size))) { s with heap := (s.heap.push (tIter t)).push (eIter s.heap.objs.size) }) :=
  .of_wp fun prog w A R s h => by
    obtain ⟨hp, g, d, tk, os⟩ := s
    obtain ⟨ht, h⟩ := h
    have sb := sub_enumerate
    have it : Heap.IsTuple (Shared.heap ⟨hp, g, d, tk, os⟩) t items := ⟨_, ht, rfl, n, rfl⟩
    wp_walk using wpAny_loadPart' ht
    refine wpAny_stack_any fun st => wpAny_pure ?_
    split
    · rename_i c _ _ _ _ _
      cases (c == Value.type "enumerate") <;> (wp_walk using wpAny_loadPart' ht, wpAny_pyIter_tuple it) <;> exact ⟨_, rfl, h⟩
    · wp_walk using wpAny_loadPart' ht, wpAny_pyIter_tuple it
      exact ⟨_, rfl, h⟩
theorem call_enumT {t : Addr} {items : Array Value} {Q : Value → Shared → Prop} (it : s.heap.IsTuple t items)
    (h : ∀ h', IsEnum h' (s.heap.objs.size + 1) s.heap.objs.size 0 .none → h'.IsTupleIter s.heap.objs.size t 0 → (∀ b o, s.heap.get? b = some o → h'.get? b = some o) → Q (.ref (s.heap.objs.size + 1)) { s with heap := h' }) :
    wpAny (model prog w) A (call (.type "enumerate") [.ref t]) Q E s := by
  obtain ⟨⟨c, dct, dt, sl⟩, hl, hc, n, hd⟩ := it
  obtain rfl : c = .type "tuple" := hc
  obtain rfl : dt = .seq items n := hd
  refine callType_new F.called_enumerate (by decide) (F.typeCall_enumerate_1 _) (F.newCall_enumerate_1 _) (fun obj => F.args_object_init_2 obj _) F.entry_enumerate_new (enum_newT t items n dct sl) ⟨hl, ?_⟩
  have z : (s.heap.push (tIter t)).objs.size = s.heap.objs.size + 1 := Heap.size_push ..
  show _ ∧ _
  rw [z]
  have e : IsEnum ((s.heap.push (tIter t)).push (eIter s.heap.objs.size)) (s.heap.objs.size + 1) s.heap.objs.size 0 .none := by
    have q := Heap.get?_push_size (s.heap.push (tIter t)) (o := eIter s.heap.objs.size) rfl
    rw [z] at q
    exact q
  exact ⟨⟨_, e, rfl⟩, h _ e ⟨_, Heap.get?_push_of_some _ (Heap.get?_push_size _ rfl), rfl, rfl⟩ fun b o x => Heap.get?_push_of_some _ (Heap.get?_push_of_some _ x)⟩
end
open PyProof.Rows hiding St
/-- the tuple at a, each item in a new pair -/
def IteT (K : PySem.W.Frag) (a : Addr) : It :=
  ⟨fun i H => ∃ (xs : List V) (x : V), SqT K H a xs ∧ xs[i]? = some x, fun i H v H' => ∃ T x, v = .ref T ∧ H T = none ∧ H' = upd H T (.tup [.int (i : Nat), x]) ∧ ∀ xs, SqT K H a xs → xs[i]? = some x, fun i H => ∃ xs : List V, SqT K H a xs ∧ xs.length = i⟩
theorem turn_enumT {P : Program} {w : World} {K : PySem.W.Frag} {elts : List Expr} {kk : Nat} {tpos : Pos} (a e it : Addr) :
    Turn P w K (.Tuple elts kk tpos) (IteT K a) [e, it] e (fun i h => (∃ old, IsEnum h e it ((i : Nat) : Int) old) ∧ h.IsTupleIter it a i ∧ e ≠ it ∧ a ≠ it ∧ a ≠ e) where
  mem := by simp
  obj := fun i h ⟨⟨old, he⟩, ⟨o, ho, hc, hd⟩, _⟩ b hb => by
    rcases List.mem_cons.mp hb with z | hb
    · subst z; exact ⟨_, he, fun v q => nomatch q⟩
    · rw [List.mem_singleton.mp hb]; exact ⟨o, ho, fun v q => by rw [hd] at q; cases q⟩
  keep := fun i h h' ⟨⟨old, he⟩, hi, ne⟩ k => ⟨⟨old, k e (by simp) _ he⟩, hi.at fun o q => k it (by simp) o q, ne⟩
  item := by
    intro X hP hw hK hc i pins s σ H E I hf ⟨⟨old, he⟩, hit, ne, na, nb⟩ ⟨xs, x, hq, hx⟩
    subst hP hw hK
    obtain ⟨its, rv, p, hz⟩ := I.tuple hq
    obtain ⟨u, hu, ru⟩ := rv.get hx
    have el : e < s.heap.objs.size := Heap.lt_size he
    have il : it < s.heap.objs.size := by obtain ⟨_, q, _⟩ := hit; exact Heap.lt_size q
    have D := Draws.tuple (prog := X.prog) (w := X.w) (A := X.A.in1) (I.ok.hd hc) it a na its.toArray
    have lt : i < its.toArray.size := by
      have z := (List.getElem?_eq_some_iff.mp hu).1
      simpa using z
    refine wpAny_pyNext_enum_itemD D he ⟨hit, p⟩ lt ne (by simp [ne, Ne.symm nb]) fun y h' tk hy ho st hT hsz hk => ?_
    have ey : y = u := by
      have z : its[i]? = some y := by simpa using hy
      rw [hu] at z
      exact (Option.some.inj z).symm
    subst ey
    refine ⟨_, rfl, wpAny_letOwnedTupleGo_enum (s := { s with heap := h', toks := tk + 1 }) ho fun h2 he2 sb => ?_⟩
    have hT2 : h2.get? s.heap.objs.size = some { cls := .type "tuple", data := .seq #[.int i tk, y] } := (sb.2 _ (Nat.ne_of_gt el)).trans hT
    have new : ObjOk X.prog X.w (upd H s.heap.objs.size (.tup [.int (i : Nat), x])) h2 s.heap.objs.size (.tup [.int (i : Nat), x]) := ⟨by show 2 ≤ sizeLine; decide, [.int i tk, y], .cons ⟨_, rfl⟩ (.cons ru .nil), ⟨_, hT2, rfl, _, rfl⟩⟩
    have I1 : Inv X pins σ (upd H s.heap.objs.size (.tup [.int (i : Nat), x])) { s with heap := h2, toks := tk + 1 } :=
      I.turnedNew (ch := [e, it]) (fun b ob hb q => (sb.2 b (fun z => hb (by simp [z]))).trans (hk b ob (fun z => hb (by simp [z])) (fun z => hb (by simp [z])) q)) hf (Nat.le_refl _) new
    refine ⟨.ref s.heap.objs.size, _, I1, rfl, ⟨_, x, rfl, I.hok.fresh (Nat.le_refl _), rfl, fun ys hy => by rw [I.tuple_inj hy hq]; exact hx⟩, ⟨⟨y, ?_⟩, st.1.at fun o q => (sb.2 it (Ne.symm ne)).trans q, ne, na, nb⟩, fun b hb => ?_⟩
    · rw [show ((i + 1 : Nat) : Int) = (i : Int) + 1 from by omega]; exact he2
    · have hb' : b < s.heap.objs.size := by
        rcases List.mem_cons.mp hb with z | z
        · rw [z]; exact el
        · rw [List.mem_singleton.mp z]; exact il
      rw [upd_ne (Nat.ne_of_lt hb')]
      exact (hf b hb).1
  done := by
    intro X hP hw hK hc i pins s σ H E I hf ⟨⟨old, he⟩, hit, ne, na, nb⟩ ⟨xs, hq, hx⟩
    subst hP hw hK
    obtain ⟨its, rv, p, hz⟩ := I.tuple hq
    obtain ⟨f0, f1, f2, f3, f4, f5⟩ := hf it (by simp)
    have hl := rv.length
    have es : its.toArray.size = i := by rw [List.size_toArray, ← hl, hx]
    have D := Draws.tuple (prog := X.prog) (w := X.w) (A := X.A.in1) (I.ok.hd hc) it a na its.toArray
    refine wpAny_pyNext_enum_endD D he ⟨?_, p⟩ fun h' eb => ⟨rfl, I.turned (t' := s.toks) (fun b o hb q => eb b o hb q) f0 f1 f3 f4 f5⟩
    rw [es]; exact hit
  self := fun A i s Q E ⟨⟨_, he⟩, _⟩ h => wpAny_pyIter_enum he h
section
variable {G : Cfg} {X : Cx} {e : Expr}
theorem walks_enumT {K : PySem.W.Frag} {F : Hp} {M : MM} {H : Hp} {a : Addr} {vs : List V} {ds : List D} (hm : HM G K F M H) (h : SqT K F a vs) (r : RepL G K F vs ds) : Walks G K F M H (IteT K a) { items := enumL 0 ds } := by
  have len : ∀ (n : Nat) (l : List D), (enumL n l).length = l.length := by
    intro n l
    induction l generalizing n with
    | nil => rfl
    | cons d l ih => show (enumL (n + 1) l).length + 1 = _; rw [ih]; rfl
  refine ⟨fun F' M' H' i d g st e => ?_, fun F' M' H' g st => ?_⟩
  · obtain ⟨d1, e1, rfl⟩ := enumL_get e
    obtain ⟨v, e2, r1⟩ := r.get e1
    have hs : SqT K H' a vs := sqT_up g.hm.sub (sqT_up g.ext h)
    refine ⟨⟨vs, v, hs, e2⟩, fun x H2 ⟨T, u, ex, hT, eH, k⟩ => ?_⟩
    have e3 := k vs hs
    rw [e2] at e3
    cases e3
    subst ex eH
    have gn := g.hm.new (o := .tup [.int (i : Nat), v]) hT
    refine ⟨_, gn, .tup upd_same (.cons ?_ (.cons ((r1.mono g.ext).mono gn.ext) .nil))⟩
    rw [Nat.zero_add]; exact .int _
  · exact ⟨vs, sqT_up g.hm.sub (sqT_up g.ext h), by rw [r.len]; exact (len 0 ds).symm⟩
@[irreducible] def kiET (Q : IT → MM → Prop) (ds : List D) (M : MM) : Prop := match ds with
  | [.tup xs] => Q { items := enumL 0 xs } M
  | _ => False
def wiET (wa : WA) : WI := fun δ M Q EX => wa δ M (kiET Q) EX
theorem at_enumT {Q : IT → MM → Prop} {M : MM} {xs : List D} (q : Q { items := enumL 0 xs } M) : kiET Q [.tup xs] M := by
  unfold kiET; exact q
theorem di_enumT {elts : List Expr} {kk : Nat} {wa : WA} {p pos tpos : Pos} (hm : X.mg "enumerate" = none) (ha : DA G X [e] wa) (hg : Gl X "enumerate" := by rfl) (hs : starEach [e] X.env = [(false, eval e X.env)] := by rfl) :
    DI G X (.Tuple elts kk tpos) (.Call (.Name "enumerate" p) [e] [] pos) (wiET wa) := by
  refine ⟨fun pins s σ H R I ⟨F, M, δ, Q, EX, hm1, rs, h, tk, f⟩ => ?_⟩
  refine Call_ (ld_blt I hg hm boot_enumerate (PyProof.Rows.callWith_type1 (thn (da_run ha pos I hm1 rs h tk) fun us s1 ⟨vs, H1, I1, r1, ds, F1, M1, g1, rl, q⟩ => ?_) hs rfl))
  unfold kiET at q
  split at q
  · rename_i xs
    obtain ⟨v, rfl, rv⟩ := one_rep rl
    cases rv with
    | tup ht rt =>
      rename_i a vs
      obtain ⟨u, rfl, ru⟩ := r1.one
      obtain rfl : u = Value.ref a := ru
      have hq : SqT X.K H1 a vs := sqT_mono g1.hm.sub ht
      obtain ⟨its, rv2, p2, hz⟩ := I1.tuple hq
      refine call_enumT p2 fun h' he hit hk => wpAny_pyIter_enum he ?_
      have I2 : Inv X pins σ H1 { s1 with heap := h' } := I1.kept (t' := s1.toks) hk
      have al : a < s1.heap.objs.size := by obtain ⟨_, q, _⟩ := p2; exact Heap.lt_size q
      refine ⟨s1.heap.objs.size + 1, [s1.heap.objs.size + 1, s1.heap.objs.size], _, IteT X.K a, H1, rfl, I2, turn_enumT a (s1.heap.objs.size + 1) s1.heap.objs.size, ⟨⟨.none, he⟩, hit, Nat.succ_ne_self _, Nat.ne_of_lt al, Nat.ne_of_lt (Nat.lt_succ_of_lt al)⟩, fun b hb => ?_, f _ _ F1 M1 H1 g1 (walks_enumT g1.hm (SqT.of ht) rt) q⟩
      have le : s1.heap.objs.size ≤ b := by
        rcases List.mem_cons.mp hb with z | z
        · rw [z]; exact Nat.le_succ _
        · rw [List.mem_singleton.mp z]; exact Nat.le_refl _
      exact I1.fpOk le (I1.hok.fresh le)
  · exact q.elim
end
end DL

set_option Elab.async false
set_option linter.all false
set_option maxRecDepth 100000
/-! def __init__(self, x): super().__init__(x) -/
namespace DL
open PySem PySem.Spec L2
open PyProof.Rows hiding St
section
variable {G : Cfg} {P : Program} {w : World} {K : PySem.W.Frag} {mg : Str → Option Value} {base : Heap} {C : Addr} {c k : Nat} {qual : Str} {st : Stmt} {f f2 cc cda : Addr} {x1 x2 : Str} {sp2 : SpD}
def spSup (c : Nat) (sp2 : SpD) : SpD := fun ds M Q EX => match ds with
  | [d0, d1] => (∃ fs, insOf M d0 = some (c, fs)) ∧ sp2 [d0, d1] M (fun _ M' => Q .non M') EX
  | _ => False
theorem look1 {k y : Str} {b b2 : Addr} (h : List.lookup y [(k, b)] = some b2) : y = k ∧ b2 = b := by
  unfold List.lookup at h
  split at h
  · rename_i z
    exact ⟨eq_of_beq z, (Option.some.inj h).symm⟩
  · cases h
theorem looks_bound {M : Model} {h : Heap} {m f2 : Addr} {x : Value} {o2 : Obj} {fd2 : FuncData} (e1 : h.get? m = some { cls := .type "method", data := .fields #[.ref f2, x] }) (e2 : h.get? f2 = some o2) (e3 : o2.data = .func fd2) : PySem.W.Looks M h (keeperOf (.ref m)) .boundFrame := by
  intro A Q E s k q
  unfold keeperOf
  refine wpAny_bind (wpAny_load (k _ _ e1) ?_)
  show wpAny M A (load f2 >>= _) Q E s
  refine wpAny_bind (wpAny_load (k _ _ e2) ?_)
  rw [e3]
  exact wpAny_pure q
abbrev plOf (o : Expr) (env : Env) : Sem Bool := do
  let r ← importBound o env
  pure (r.getD true)
theorem ev_super {env : Env} {x2 : Str} {p0 p1 p2 p3 p4 : Pos} (h : (p2.endLine == p4.line) = true) : eval (.Call (.Attribute (.Call (.Name "super" p0) [] [] p1) "__init__" p2) [.Name x2 p3] [] p4) env = (do
    let ov ← attributeBase (.Call (.Name "super" p0) [] [] p1) "__init__" env (eval (.Call (.Name "super" p0) [] [] p1) env)
    standAt p2.atName
    let __x ← holding [ov] (getMethod ov "__init__" (plOf (.Call (.Name "super" p0) [] [] p1) env))
    match __x with
      | (f, first) => callWith p4 f first (backTo p4 (starEach [.Name x2 p3] env)) []) := by
  rw [eval]
  unfold methodCall
  have e : methodCallForm ([Expr.Name x2 p3].length + ([] : List Keyword).length) (backTo p4 (starEach [Expr.Name x2 p3] env)) (backToKw p4 (keywordEach [] env)) = true := rfl
  have e2 : ∀ o, methodCallPos true o env p2 p4 = pure p4 := by
    intro o
    unfold methodCallPos
    rw [h]; rfl
  have e3 : ∀ o ov, calleeOf true o env ov "__init__" = getMethod ov "__init__" (plOf o env) := by
    intro o ov
    unfold calleeOf
    rfl
  simp only [e, e2, e3]
  rfl
theorem cls_at {K : PySem.W.Frag} {C : Addr} {cd : ClassData} (h : PySem.W.clsIn K C = some cd) : ∃ o, List.lookup C K = some o ∧ o.data = .cls cd := by
  unfold PySem.W.clsIn at h
  split at h
  · rename_i e
    cases h
    exact ⟨_, e, rfl⟩
  · cases h
theorem look_first {x1 x2 : Str} {a b : Value} (h : x1 ≠ x2) : List.lookup x1 ([x1, x2].zip [a, b]).reverse = some a := by
  show List.lookup x1 [(x2, b), (x1, a)] = some a
  have e : (x1 == x2) = false := beq_false_of_ne h
  unfold List.lookup
  rw [e]
  exact List.lookup_cons_self
theorem look_last {x1 x2 : Str} {a b : Value} : List.lookup x2 ([x1, x2].zip [a, b]).reverse = some b := List.lookup_cons_self
structure SupOk (P : Program) (K : PySem.W.Frag) (C : Addr) (qual : Str) (st : Stmt) (f f2 : Addr) (x1 x2 : Str) : Prop where
  mkf : Mk K C f
  fn : ∃ oc od kV doc pm an ct osl cda cc, List.lookup f K = some { cls := oc, dict := od, data := .func (PySem.W.fnX "__init__" qual (defArgs st) (defBody st) (defScope st) [("__class__", cc)] .none kV doc pm an (.ref cda) ct), slots := osl } ∧
    PySem.W.codeIn K (.ref cda) qual = true ∧ (∃ ccl cdd vs ccs file tf, List.lookup cda K = some { cls := ccl, dict := cdd, data := .fields vs, slots := ccs } ∧ vs[2]? = some (.str file tf) ∧ (P.main.file == file) = true) ∧
    (∃ cl cld csl, List.lookup cc K = some { cls := cl, dict := cld, data := .cell (some (.ref C)), slots := csl }) ∧
    ∀ us : List Value, us.length = 2 → bindArgs (PySem.W.fnX "__init__" qual (defArgs st) (defBody st) (defScope st) [("__class__", cc)] .none kV doc pm an (.ref cda) ct) ⟨us, []⟩ = pure ([x1, x2].zip us)
  cd : ∃ cd, PySem.W.clsIn K C = some cd
  mro : PySem.W.mroIn K C (.ref C) = some true
  zs : PySem.W.nsIn K mainGlobals "super" = some none
  zt : PySem.W.nsIn K cStatics "thirdparty.any" = some none
  sup : PySem.W.ks_superIn K C C "__init__" = some (some (.ref f2))
  fn2 : ∃ od fd2 sl, List.lookup f2 K = some { cls := .type "function", dict := od, data := .func fd2, slots := sl }
  pm : (List.lookup ("super" : Str) P.main.scope.names).isSome = false
structure SupSt (st : Stmt) (x1 x2 : Str) : Prop where
  sc : NdefX.NScope [x1, x2, "__class__"] [x1, x2] ["__class__"] (defScope st)
  su : List.lookup ("super" : Str) (defScope st).names = some .globalImplicit
  ar : ∃ ar, ((defArgs st).posonlyargs ++ (defArgs st).args).head? = some ar ∧ ar.arg = x1
  body : ∃ p0 p1 p2 p3 p4 p5, defBody st = [.Expr (.Call (.Attribute (.Call (.Name "super" p0) [] [] p1) "__init__" p2) [.Name x2 p3] [] p4) p5] ∧ (p2.endLine == p4.line) = true
  db : (x2 == ("__debug__" : Str)) = false
  dc : (x2 == ("__classdict__" : Str)) = false
theorem okInitSup (g : SupOk P K C qual st f f2 x1 x2) (S : SupSt st x1 x2) (hC : G.cl c = C) (F2 : FnP P w K mg base false k f2 (lift G K sp2)) : OkInitP P w K mg base false (k + 1) C (lift G K (spSup c sp2)) := by
  subst hC
  obtain ⟨mk, ⟨oc, od, kV, doc, pm, an, ct, osl, cda, cc, lk, hcd, ⟨ccl, cdd, vs0, ccs, file, tf, lcd, hfile, hmain⟩, ⟨cl, cld, csl, lcc⟩, hbind⟩, ⟨cd, hcl⟩, hmro, zs, zt, hsup, ⟨od2, fd2, sl2, lk2⟩, hpm⟩ := g
  obtain ⟨hsc, hsu, ⟨ar, har, hax⟩, ⟨p0, p1, p2, p3, p4, p5, hbody, hpos⟩, hdb, hdc⟩ := S
  refine ⟨f, mk, ⟨fun A out s H us vs Q E hr hg e0 r h => ?_⟩⟩
  obtain ⟨F', M, ds, Q', EX, hm, rl, h1, fin, hx⟩ := h
  unfold spSup at h1
  split at h1
  case h_2 => exact h1.elim
  rename_i d0 d1
  obtain ⟨⟨fs, ei⟩, h2⟩ := h1
  obtain ⟨v0, v1, rfl⟩ : ∃ v0 v1, vs = [v0, v1] := by
    have := rl.len
    match vs, this with
    | [a, b], _ => exact ⟨a, b, rfl⟩
  obtain ⟨u0, u1, rfl⟩ : ∃ u0 u1, us = [u0, u1] := by
    have := r.length
    match us, this with
    | [a, b], _ => exact ⟨a, b, rfl⟩
  have inK : K.In s.heap := e0.mod.kin.keeps (fun b o z => (e0.bs b o z).left)
  have hfree : ∀ (b : Addr) (o : Obj), List.lookup b K = some o → H b = none := fun b o z => (e0.bs b o (e0.mod.kin b o z)).right
  let NF : NdefX.NF := ⟨"__init__", qual, defArgs st, defBody st, defScope st, [("__class__", cc)], cda⟩
  have cells : NdefX.CellsAt NF.cl ["__class__"] [none] s.heap H := by
    refine ⟨rfl, fun y b hb => ?_, fun x y b hx hy => ?_, fun i y hi => ?_⟩
    · obtain ⟨_, rfl⟩ := look1 hb
      exact ⟨hfree _ _ lcc, _, _, inK _ _ lcc, rfl⟩
    · rw [(look1 hx).1, (look1 hy).1]
    · match i, hi with
      | 0, hi =>
        cases hi
        refine ⟨cc, (show List.lookup ("__class__" : Str) [(("__class__" : Str), cc)] = some cc from List.lookup_cons_self), fun v hv => ?_⟩
        cases hv
      | i + 1, hi => cases hi
  refine ks_codeAny_call_defAt (binds := [x1, x2].zip [u0, u1]) (by have := hr.dp; omega) (inK f _ lk) rfl (e0.mod.nolimit.keeps fun b o z => (e0.bs b o z).left) (PySem.W.codeRec_of inK hcd) rfl ?_ hsc.nocell ?_ ?_ hsc.co hsc.gen hsc.kind
  · intro M1 A1 E1 Q1 q
    rw [hbind [u0, u1] rfl]
    exact wpAny_pure q
  · intro z hz
    simp only [List.zip_cons_cons, List.zip_nil_right, List.mem_cons, List.not_mem_nil, or_false] at hz
    rcases hz with e | e
    · rw [e]; exact hsc.par x1 (by simp)
    · rw [e]; exact hsc.par x2 (by simp)
  intro h₀ ns keep
  have I : Inv (NdefX.ncx (L2.CX P w) P w K mg base [x1, x2, "__class__"] NF f A out s H E) [] (NdefX.startF [x1, x2, "__class__"] [v0, v1] [none]) H { heap := h₀, gens := s.gens, drawn := s.drawn, toks := s.toks + 2, os := s.os } :=
    NdefX.inv_startN hsc hr.hd e0 rfl r cells ns keep
  have inK0 : K.In h₀ := fun b o z => keep b o (inK b o z)
  have ne12 : x1 ≠ x2 := by
    have := hsc.nd
    simp only [List.nodup_cons, List.mem_cons, not_or] at this
    exact this.1.1
  -- the instance
  obtain ⟨a, ox, od0, rfl, rfl, J⟩ : ∃ a ox od, v0 = .ref a ∧ u0 = .ref a ∧ PySem.W.InstAt h₀ a ox (G.cl c) (some od) := by
    cases rl with
    | cons rd0 _ =>
      cases r with
      | cons rv0 _ => exact inst_at (X := NdefX.ncx (L2.CX P w) P w K mg base [x1, x2, "__class__"] NF f A out s H E) I hm rv0 rd0 ei
  show PySem.wpAt (model P w) (A.deeper (NdefX.envF NF f s.heap.objs.size)) (Code.func (defBody st) (NdefX.envF NF f s.heap.objs.size)) (execs (defBody st) (NdefX.envF NF f s.heap.objs.size)) _ _ _
  obtain ⟨env, eE⟩ : ∃ env, env = NdefX.envF NF f s.heap.objs.size := ⟨_, rfl⟩
  obtain ⟨body, eB⟩ : ∃ body, body = defBody st := ⟨_, rfl⟩
  rw [← eB]
  rw [hbody] at eB
  have eB2 := eB
  subst eB
  rw [← eE]
  refine ks_wpAt_execs_cons (ks_wpAt_Expr_any (ks_wpAt_MethodCall (ks_wpAt_super_base (f := f) (cc := cda) (ar := ar) ?_ ?_ (by decide) ?_ (keep _ _ (inK _ _ lk)) rfl har ?_ (keep _ _ (inK _ _ lcd)) rfl hfile hmain hpm ?_) (ev_super hpos)) ?_ rfl)
  · rw [eE]; exact hsu
  · rw [eE]; exact hsc.frk _ (by simp)
  · rw [eE]
  · rw [eE]
  · have kd : env.scope.kind = .function := by rw [eE]; exact hsc.kind
    obtain ⟨mb, nb, hb⟩ := e0.mod.blt
    obtain ⟨oC, eC, dC⟩ := cls_at hcl
    refine PySem.W.ks_loadName_global kd (by rw [eE]; exact hsu) ?_
    refine Calls.loadGlobal_builtin (mg := mg) (mb := mb) (v := .type "super") ?_ (PySem.W.mg_none_of e0.mod.kin e0.mod.glob zs) ?_ ?_ ⟨rfl, ?_⟩
    · rw [eE]; exact e0.mod.glob.keeps fun b o z => keep b o (e0.bs b o z).1
    · rw [eE]; exact nb.keeps fun b o z => keep b o (e0.bs b o z).1
    · rw [hb _ (by decide)]; decide +kernel
    refine wpAny_loadName_free (c := cc) kd (by rw [eE]; exact hsc.frk _ (by simp)) (by rw [eE]; exact List.lookup_cons_self) ⟨_, keep _ _ (inK _ _ lcc), rfl⟩ ?_ (by decide)
    refine wpAny_loadName_local (m := fun x => List.lookup x ([x1, x2].zip [Value.ref a, u1]).reverse) (v := .ref a) kd (by rw [eE, hax]; exact hsc.par _ (by simp)) (by rw [eE]; exact ns) ?_ ?_
    · rw [hax]
      exact look_first ne12
    refine ks_wpAny_isType_cls (inK0 _ _ eC) dC ⟨rfl, ?_⟩
    refine ks_wpAny_call_super (inK0 _ _ eC) dC J.at_ J.cls ?_ (PySem.W.looks_mroIn inK0 hmro) fun h' e1 keep1 => ?_
    · intro z hz
      have := J.no
      unfold PySem.W.notCls at this
      rw [hz] at this
      cases this
    have inK1 : K.In h' := fun b o z => keep1 b o (inK0 b o z)
    refine ks_wpAny_getMethod_super (f := f2) e1 (PySem.W.looks_opaque inK1 zt) ((PySem.W.looks_clsIn inK1 hcl).andThen (f := fun cd => pure cd.mro) .now) rfl inK1 ?_ (inK1 _ _ lk2) rfl (PySem.W.ks_ne inK0 J hcl) (by decide) ?_
    · have z := hsup
      unfold PySem.W.ks_superIn at z
      rw [hcl] at z
      exact z
    have k2 : ∀ (b : Addr) (o : Obj), h₀.get? b = some o → (h'.push { cls := .type "method", data := .fields #[.ref f2, .ref a] }).get? b = some o := fun b o z => Heap.get?_push_of_some _ (keep1 b o z)
    have gm : (h'.push { cls := .type "method", data := .fields #[.ref f2, .ref a] }).get? h'.objs.size = some { cls := .type "method", data := .fields #[.ref f2, .ref a] } := Heap.get?_push_size h' rfl
    refine PySem.W.callWith_of (P := fun hh => hh.get? h'.objs.size = some { cls := .type "method", data := .fields #[.ref f2, .ref a] } ∧ hh.get? f2 = some { cls := .type "function", dict := od2, data := .func fd2, slots := sl2 }) rfl (fun hh z => ⟨.boundFrame, .inr (.inr rfl), looks_bound z.1 z.2 rfl⟩) ?_
    refine FK.evalArgs_any rfl ?_
    refine Calls.spliced_cons (wpAny_Name (wpAny_loadName_local (m := fun x => List.lookup x ([x1, x2].zip [Value.ref a, u1]).reverse) (v := u1) kd (by rw [eE]; exact hsc.par _ (by simp)) (by rw [eE]; exact ns.keeps k2) look_last ?_) hdb)
    refine Calls.spliced_nil ⟨⟨gm, k2 _ _ (inK0 _ _ lk2)⟩, ?_⟩
    refine wpAny_call (ks_codeAny_call_bound gm ?_)
    subst eE
    have I2 : Inv (NdefX.ncx (L2.CX P w) P w K mg base [x1, x2, "__class__"] NF f A out s H E) [] (NdefX.startF [x1, x2, "__class__"] [V.ref a, v1] [none]) H { heap := h'.push { cls := .type "method", data := .fields #[.ref f2, .ref a] }, gens := s.gens, drawn := s.drawn, toks := s.toks + 2 + 1, os := s.os } := I.kept k2
    have rs : RS G K F' (NdefX.startF [x1, x2, "__class__"] [V.ref a, v1] [none]) [some d0, some d1, none] := by
      refine ⟨rfl, fun i d hd => ?_⟩
      cases rl with
      | cons rd0 rr =>
        cases rr with
        | cons rd1 _ =>
          match i, hd with
          | 0, hd => cases hd; exact ⟨_, rfl, rd0⟩
          | 1, hd => cases hd; exact ⟨_, rfl, rd1⟩
          | 2, hd => cases hd
          | i + 3, hd => cases hd
    have tk0 : Takes (NdefX.ncx (L2.CX P w) P w K mg base [x1, x2, "__class__"] NF f A out s H E) (fun cls d _ H => E cls d H) := takes_of rfl rfl rfl rfl
    have tk : Takes (NdefX.ncx (L2.CX P w) P w K mg base [x1, x2, "__class__"] NF f A out s H E) (wX G K F' M H (fun xd _ M' => EX xd M')) := tk0.imp fun c d σ' H' ⟨xd, δ', F1, M1, g1, r1, rx, q⟩ => hx c d xd F1 M1 H' g1 rx q
    have run := runP_at (X := NdefX.ncx (L2.CX P w) P w K mg base [x1, x2, "__class__"] NF f A out s H E) (P := fun _ H' => Q .non H') F2 (hr.deeper _) (fun z => nomatch z) I2 r hm rs rl (Q := fun _ M' => Q' .non M') (EX := fun xd _ M' => EX xd M') h2 tk (fun v d F1 M1 H1 g _ q => fin .non .non F1 M1 H1 g .non q)
    refine codeAny_mono run fun res s' hq => ?_
    match res, hq with
    | .error z, hq => exact hq
    | .ok (.ret u), ⟨v, H', I3, _, q⟩ =>
      refine wpAt_of_wpAny (wpAny_execs_nil ?_)
      exact ⟨.non, H', I3.os, I3.bare, I3.base, I3.hok, rfl, q⟩
  · rw [eE]
    show (NF.scope.kind == ScopeKind.module && _) = false
    rw [hsc.kind]; rfl
end
end DL

set_option Elab.async false
set_option linter.all false
set_option maxRecDepth 100000
/-! three names at once -/
namespace DL
open PySem PySem.Spec L2
open PyProof.Rows hiding St
theorem ps_par3 {X : Cx} {i j k : Nat} {x y z : Str} {a b c : Expr} {ta : TA} {px py pz pt pos : Pos} {kt k2 : Nat} {pt2 : Pos} (hc : X.calm = true) (hN : X.N.Nodup) (hi : X.N[i]? = some x) (hj : X.N[j]? = some y) (hk : X.N[k]? = some z)
    (lx : X.env.scope.names.lookup x = some .local) (ly : X.env.scope.names.lookup y = some .local) (lz : X.env.scope.names.lookup z = some .local) (ha : PA X [a, b, c] ta)
    (hw : swappedStores [.Tuple [.Name x px, .Name y py, .Name z pz] kt pt] (.Tuple [a, b, c] k2 pt2) X.env = pure (some [x, y, z])) (hs : swapsWithSole [.Tuple [.Name x px, .Name y py, .Name z pz] kt pt] (.Tuple [a, b, c] k2 pt2) pos.line X.env = pure false) :
    PS X (.Assign [.Tuple [.Name x px, .Name y py, .Name z pz] kt pt] (.Tuple [a, b, c] k2 pt2) pos) (fun D σ H => ta σ H fun vs H1 => ∃ u v w, vs = [u, v, w] ∧ D.nx (((σ.set k (some w)).set j (some v)).set i (some u)) H1) := by
  refine ⟨fun pins s σ H D I h => ?_⟩
  rw [exec_Assign_arm]
  refine wpAny_bind (wpAny_standAt ?_)
  rw [hs]
  refine wpAny_bind (wpAny_pure ?_)
  rw [if_neg (by decide)]
  refine wpAny_bind (Tuple_ (thn (ha.run _ pins s σ H _ I h) fun us s1 hq => ?_))
  obtain ⟨vs, H1, I1, r, u, v, w, rfl, q⟩ := hq
  obtain ⟨u1, u2, u3, rfl⟩ : ∃ u1 u2 u3, us = [u1, u2, u3] := by
    have := r.length
    match us, this with
    | [a, b, c], _ => exact ⟨a, b, c, rfl⟩
  obtain ⟨r1, r2, r3⟩ : RelV u u1 ∧ RelV v u2 ∧ RelV w u3 := by
    cases r with
    | cons r1 r =>
      cases r with
      | cons r2 r =>
        cases r with
        | cons r3 _ => exact ⟨r1, r2, r3⟩
  refine wpAny_newObj_type ?_
  have I2 := I1.kept (t' := s1.toks) (h' := s1.heap.push { cls := Value.type "tuple", data := Data.seq #[u1, u2, u3] }) fun b o z => Heap.get?_push_of_some _ z
  rw [hw]
  refine wpAny_bind (wpAny_pure ?_)
  unfold assignStores
  refine wpAny_bind (wpAny_rule ?_)
  refine wpAny_bind (unpackItems_tuple (items := #[u1, u2, u3]) (I2.ok.hd hc) (IsTup.new _ _) fun h' he => ?_)
  have I3 : Inv X pins σ H1 { heap := h', gens := s1.gens, drawn := s1.drawn, toks := s1.toks, os := s1.os } := I1.kept fun b o z => by
    have z2 : (s1.heap.push { cls := Value.type "tuple", data := Data.seq #[u1, u2, u3] }).get? b = some o := Heap.get?_push_of_some _ z
    exact he b o (Nat.ne_of_lt (Heap.lt_size z2)) z2
  refine wpAny_bind (assignInOrder_cons (wpAny_bindName (store_ok I3 hN hk (.inl lz) r3 (fun s4 I4 => ?_) (.inr lz))))
  refine assignInOrder_cons (wpAny_bindName (store_ok I4 hN hj (.inl ly) r2 (fun s5 I5 => ?_) (.inr ly)))
  refine assignInOrder_cons (wpAny_bindName (store_ok I5 hN hi (.inl lx) r1 (fun s6 I6 => ?_) (.inr lx)))
  refine assignInOrder_nil (wpAny_pure ?_)
  exact ⟨_, _, I6, q⟩
section
variable {G : Cfg} {X : Cx}
def kPar3 (i j k : Nat) (nx : DS → MM → Prop) (δ : DS) (ds : List D) (M1 : MM) : Prop := match ds with
  | [a, b, c] => nx (((δ.set k (some c)).set j (some b)).set i (some a)) M1
  | _ => False
def wPar3 (i j k : Nat) (wa : WA) : WS := fun E EX δ M => wa δ M (kPar3 i j k E.nx δ) EX
theorem ds_par3 (i j k : Nat) {x y z : Str} {a b c : Expr} {wa : WA} {px py pz pt pos : Pos} {kt k2 pt2} (hN : X.N.Nodup) (ha : DA G X [a, b, c] wa) (hc : X.calm = true := by rfl) (hi : X.N[i]? = some x := by rfl) (hj : X.N[j]? = some y := by rfl) (hk : X.N[k]? = some z := by rfl)
    (hx : X.env.scope.names.lookup x = some .local := by rfl) (hy : X.env.scope.names.lookup y = some .local := by rfl) (hz : X.env.scope.names.lookup z = some .local := by rfl)
    (hw : swappedStores [.Tuple [.Name x px, .Name y py, .Name z pz] kt pt] (.Tuple [a, b, c] k2 pt2) X.env = pure (some [x, y, z]) := by rfl)
    (hs : swapsWithSole [.Tuple [.Name x px, .Name y py, .Name z pz] kt pt] (.Tuple [a, b, c] k2 pt2) pos.line X.env = pure false := by rfl) :
    DSt G X (.Assign [.Tuple [.Name x px, .Name y py, .Name z pz] kt pt] (.Tuple [a, b, c] k2 pt2) pos) (wPar3 i j k wa) := by
  refine ps_imp (ps_par3 hc hN hi hj hk hx hy hz ha hw hs) fun D σ H h => ?_
  obtain ⟨F, M, δ, E, EX, hm, rs, h, tk, n, r, b, c⟩ := h
  refine ⟨F, M, δ, _, EX, hm, rs, h, tk, fun vs ds F1 M1 H1 g1 r1 q => ?_⟩
  unfold kPar3 at q
  split at q
  · cases r1 with
    | cons ra t =>
      cases t with
      | cons rb t =>
        obtain ⟨v, rfl, rc⟩ := one_rep t
        exact ⟨_, _, _, rfl, n _ _ F1 M1 H1 g1 ((((rs.mono g1.ext).set k rc).set j rb).set i ra) q⟩
  · exact q.elim
end
end DL

set_option Elab.async false
set_option linter.all false
set_option maxRecDepth 100000
/-! isinstance with one of two classes -/
namespace DL
open PySem PySem.Spec L2
open PyProof.Rows hiding St
section
variable {G : Cfg} {X : Cx} {K : PySem.W.Frag} {e : Expr} {we : WE}
theorem tyD_rep2 {K : PySem.W.Frag} {F : Hp} {M : MM} {H : Hp} {v : V} {d : D} {t : Ty} {tb tb2 : Ty → Option Bool} {b b2 : Bool} {u u2 : Value} (T : IsiT G K u tb) (T2 : IsiT G K u2 tb2) (hm : HM G K F M H) (r : Rep G K F v d) (e : tyD M d = some t) (q : tb t = some b) (q2 : tb2 t = some b2) :
    ∃ tv, TyX K H v tv ∧ PySem.W.kitOne K tv u = some b ∧ PySem.W.kitOne K tv u2 = some b2 := by
  unfold tyD at e
  split at e
  · cases r; cases e; exact ⟨_, .base .non, T.bt _ _ (fun _ z => Ty.noConfusion z) q, T2.bt _ _ (fun _ z => Ty.noConfusion z) q2⟩
  · cases r; cases e; exact ⟨_, .base (.bl _), T.bt _ _ (fun _ z => Ty.noConfusion z) q, T2.bt _ _ (fun _ z => Ty.noConfusion z) q2⟩
  · cases r; cases e; exact ⟨_, .base (.int _), T.bt _ _ (fun _ z => Ty.noConfusion z) q, T2.bt _ _ (fun _ z => Ty.noConfusion z) q2⟩
  · cases r; cases e; exact ⟨_, .base (.str _), T.bt _ _ (fun _ z => Ty.noConfusion z) q, T2.bt _ _ (fun _ z => Ty.noConfusion z) q2⟩
  · cases e
    cases r with
    | tup h r =>
      refine ⟨_, ?_, T.bt _ _ (fun _ z => Ty.noConfusion z) q, T2.bt _ _ (fun _ z => Ty.noConfusion z) q2⟩
      rcases sqT_mono hm.sub h with z | ⟨o, its, n, h1, h2, _⟩
      · rcases z with z | ⟨o, z⟩
        · exact .base (.tup z)
        · exact .fTuple z
      · exact .kTuple h1 h2
    
  · cases e
    cases r with
    | lst h r => exact ⟨_, .base (.lst (hm.sub _ _ h)), T.bt _ _ (fun _ z => Ty.noConfusion z) q, T2.bt _ _ (fun _ z => Ty.noConfusion z) q2⟩
  · cases e
    cases r with
    | dct h r => exact ⟨_, .base (.dK (hm.sub _ _ h)), T.bt _ _ (fun _ z => Ty.noConfusion z) q, T2.bt _ _ (fun _ z => Ty.noConfusion z) q2⟩
  · cases e
    cases r with
    | ins h l r =>
      obtain ⟨h1, h2, h3, h4, h5, h6⟩ := T.ow _ _ q
      exact ⟨_, .base (.ins (hm.sub _ _ h) h2 h3 h4 h5 h6), h1, (T2.ow _ _ q2).1⟩
  · cases r
    split at e
    · rename_i z
      cases e
      obtain ⟨vs, h1, r1⟩ := hm.mo _ _ z
      exact ⟨_, .base (.lst h1), T.bt _ _ (fun _ z => Ty.noConfusion z) q, T2.bt _ _ (fun _ z => Ty.noConfusion z) q2⟩
    · rename_i z
      cases e
      obtain ⟨vs, h1, r1⟩ := hm.mo _ _ z
      exact ⟨_, .base (.dK h1), T.bt _ _ (fun _ z => Ty.noConfusion z) q, T2.bt _ _ (fun _ z => Ty.noConfusion z) q2⟩
    · rename_i z
      cases e
      obtain ⟨dx, vs, h1, l, r1⟩ := hm.mo _ _ z
      obtain ⟨h1', h2, h3, h4, h5, h6⟩ := T.ow _ _ q
      exact ⟨_, .base (.ins h1 h2 h3 h4 h5 h6), h1', (T2.ow _ _ q2).1⟩
    · cases e
  · cases e
@[irreducible] def kIsi2 (ta tb : Ty → Option Bool) (Q : D → MM → Prop) (d : D) (M1 : MM) : Prop := match tyD M1 d with
  | some t => match ta t, tb t with
    | some a, some b => Q (.bl (a || b)) M1
    | _, _ => False
  | none => False
theorem at_isi2 {ta tb : Ty → Option Bool} {Q : D → MM → Prop} {d : D} {M1 : MM} {t : Ty} {a b : Bool} (h : tyD M1 d = some t) (h2 : ta t = some a) (h3 : tb t = some b) (q : Q (.bl (a || b)) M1) : kIsi2 ta tb Q d M1 := by unfold kIsi2; rw [h]; dsimp only; rw [h2, h3]; exact q
def wIsi2 (ta tb : Ty → Option Bool) (we : WE) : WE := fun δ M Q EX => we δ M (kIsi2 ta tb Q) EX
theorem de_isi2 {cva cvb : V} {ua ub : Value} {ta tb : Ty → Option Bool} {xa xb : Str} {p pa pb pt pos : Pos} {kt : Nat} (ka : ClsV cva ua) (Ta : IsiT G X.K ua ta) (kb : ClsV cvb ub) (Tb : IsiT G X.K ub tb) (hm : X.mg "isinstance" = none) (he : DE G X e we)
    (ma : X.mg xa = some ua) (ra : RelV cva ua) (mb : X.mg xb = some ub) (rb : RelV cvb ub) (ga : Gl X xa := by rfl) (gb : Gl X xb := by rfl) (da : (xa == ("__debug__" : Str)) = false := by decide) (db : (xb == ("__debug__" : Str)) = false := by decide)
    (hg : Gl X "isinstance" := by rfl) (h1 : starEach [e, .Tuple [.Name xa pa, .Name xb pb] kt pt] X.env = (false, eval e X.env) :: starEach [.Tuple [.Name xa pa, .Name xb pb] kt pt] X.env := by rfl) :
    DE G X (.Call (.Name "isinstance" p) [e, .Tuple [.Name xa pa, .Name xb pb] kt pt] [] pos) (wIsi2 ta tb we) := by
  refine pe_imp (pe_callB call_isiT hg hm (by decide +kernel) (pa_cons he (pa_cons (pe_tup (pa_cons (pe_glob ga ma ra da) (pa_cons (pe_glob gb mb rb db) pa_nil))) pa_nil) h1) (by decide) (by decide) h1) fun σ H P ⟨F, M, δ, Q, EX, hm, rs, h, tk, fin⟩ => ?_
  refine ⟨F, M, δ, _, EX, hm, rs, h, tk, fun v d F1 M1 H1 g1 r1 q => ?_⟩
  refine ⟨by rw [sizeLine_eq]; simp, fun tp hp => ?_⟩
  have g2 := g1.hm.new (o := .tup [cva, cvb]) hp
  unfold kIsi2 at q
  split at q
  · rename_i t e1
    split at q
    · rename_i a b e2 e3
      obtain ⟨tv, ty, k1, k2⟩ := tyD_rep2 Ta Tb g2.hm (r1.mono g2.ext) e1 e2 e3
      refine ⟨v, tp, [cva, cvb], tv, [ua, ub], a || b, rfl, upd_same, .cons ka (.cons kb .nil), ty, ?_, fin _ _ _ _ _ (g1.trans g2) (.bl _) q⟩
      refine kitAny_cons k1 (fun ha => ?_) (fun ha => by rw [ha]; rfl)
      rw [ha, Bool.false_or]
      refine kitAny_cons k2 (fun hb => ?_) (fun hb => hb)
      rw [hb]
      exact kitAny_nil
    · exact q.elim
  · exact q.elim
end
end DL

set_option Elab.async false
set_option linter.all false
set_option maxRecDepth 100000
/-! calls of builtins with keywords: min(xs, default = d) -/
namespace DL
open PySem PySem.Spec
set_option maxHeartbeats 2000000
theorem args_minD (x d : Value) : argsOk "min" { pos := [x], kw := [("default", d)] } := by rfl
section
variable {prog : Program} {w : World} {A : Around} {R : Result → Shared → Prop} {I : Addr} {fp wr : List Addr} {n : Nat} {P : Nat → Value → Prop} {St : Nat → Heap → Prop}
theorem min_loop_d (W : PySem.Walks prog w A.in1 I fp wr n P St) (bt : Nat → Nat → Bool) (hc : CmpOf prog w A.in1 CmpOp.Lt P bt) (S : Addr) (hSf : ¬S ∈ fp) (d : Value) :
    ∀ (k j : Nat) (s : Shared) (vb : Value) (c : Nat), n - (j + 1) = k → j + 1 ≤ n → St (j + 1) s.heap → P (argBest bt j) vb →
      s.heap.get? S = some { cls := Value.type "list", data := Data.seq #[vb, vb] c } →
      (∀ (v : Value) (h' : Heap) (tk : Nat), P (argBest bt (n - 1)) v → (∀ (b : Addr) (o : Obj), ¬b ∈ wr → b ≠ S → s.heap.get? b = some o → h'.get? b = some o) →
        R (Except.ok (Flow.ret v)) { heap := h', gens := s.gens, drawn := s.drawn, toks := tk, os := s.os }) →
      codeAny (model prog w) A (Code.builtin "min.loop" { pos := [Value.ref I, Value.none, Value.ref S], kw := [("default", d)] }) R s := by
  have hSw : ¬ S ∈ wr := fun h => hSf (W.sub S h)
  have upd : ∀ (h h' : Heap) (f : Obj → Obj), (∀ b o, ¬b ∈ wr → h.get? b = some o → h'.get? b = some o) → ∀ b o, ¬ b ∈ wr → b ≠ S → h.get? b = some o → (h'.update S f).get? b = some o := fun h h' f k b o hb hne e =>
    (Heap.get?_update_other h' f (Ne.symm hne)).trans (k b o hb e)
  intro k
  induction k with
  | zero =>
    intro j s vb c hk hj hst hP hS hR
    refine codeAny_builtin F.entry_min_loop ?_
    rw [Around.under_plainId F.plain_min_loop]
    unfold Builtin.«min.loop»
    refine wpAny_bind (wpAny_seqItems hS rfl ?_)
    refine wpAny_bind (wpAny_tryCatch ?_)
    have e : n = j + 1 := by omega
    subst e
    refine W.done s _ _ hst fun h' tk hh => ?_
    dsimp only
    refine wpAny_bind (wpAny_updateSeq (hh S _ hSw hS) rfl ?_ ?_ ?_)
    · refine wpAny_bind (wpAny_letGo ?_)
      refine wpAny_pure ?_
      exact hR _ _ _ hP (upd _ _ _ hh)
    · rw [sizeLine_eq]; show 2 ≤ _; decide
    · rw [sizeLine_eq]; show 0 ≤ _; decide
  | succ k ih =>
    intro j s vb c hk hj hst hP hS hR
    refine codeAny_builtin F.entry_min_loop ?_
    rw [Around.under_plainId F.plain_min_loop]
    unfold Builtin.«min.loop»
    refine wpAny_bind (wpAny_seqItems hS rfl ?_)
    refine wpAny_bind (wpAny_tryCatch ?_)
    refine W.item (j + 1) s _ _ (by omega) hst fun v h' tk hv hst' hh => ?_
    dsimp only
    refine wpAny_bind (wpAny_pure ?_)
    refine wpAny_bind (wpAny_tryCatch (wpAny_holding ?_))
    refine wpAny_bind (hc (j + 1) (argBest bt j) v vb _ _ _ hv hP ?_)
    refine wpAny_bind (wpAny_holding (wpAny_truthy_bool ?_))
    refine wpAny_bind (wpAny_letGo (wpAny_pure ?_))
    have hS' := hh S _ hSw hS
    have hlt : k + (j + 1) + 1 = n := by omega
    by_cases hb : bt (j + 1) (argBest bt j) = true
    · rw [if_pos hb]
      refine wpAny_bind (wpAny_updateSeq hS' rfl ?_ ?_ ?_)
      · refine wpAny_bind (wpAny_letGo ?_)
        refine wpAny_pure ⟨plainId_quiet F.plain_min_loop _, ?_⟩
        obtain ⟨c', hN⟩ : ∃ c', (h'.update S (Obj.mapSeq fun _ => #[v, v])).get? S = some { cls := Value.type "list", data := Data.seq #[v, v] c' } := ⟨_, Heap.get?_update_self _ hS' rfl⟩
        refine ih (j + 1) _ v c' (by omega) (by omega) ?_ ?_ hN ?_
        · refine W.frame _ _ _ hst' fun b hbf o e => (Heap.get?_update_other _ _ ?_).trans e
          rintro rfl; exact hSf hbf
        · rw [show argBest bt (j + 1) = if bt (j + 1) (argBest bt j) then j + 1 else argBest bt j from rfl, if_pos hb]; exact hv
        · exact fun v2 h2 tk2 hP2 hk2 => hR v2 h2 tk2 hP2 fun b o hbw hne e => hk2 b o hbw hne (upd _ _ _ hh b o hbw hne e)
      · rw [sizeLine_eq]; show 2 ≤ _; decide
      · rw [sizeLine_eq]; show 2 ≤ _; decide
    · rw [if_neg hb]
      refine wpAny_bind (wpAny_letGo ?_)
      refine wpAny_pure ⟨plainId_quiet F.plain_min_loop _, ?_⟩
      refine ih (j + 1) _ vb c (by omega) (by omega) hst' ?_ hS' ?_
      · rw [show argBest bt (j + 1) = if bt (j + 1) (argBest bt j) then j + 1 else argBest bt j from rfl, if_neg hb]; exact hP
      · exact fun v2 h2 tk2 hP2 hk2 => hR v2 h2 tk2 hP2 fun b o hbw hne e => hk2 b o hbw hne (hh b o hbw e)
theorem min_loop_d0 (W : PySem.Walks prog w A.in1 I fp wr n P St) (bt : Nat → Nat → Bool) (hc : CmpOf prog w A.in1 CmpOp.Lt P bt) (S : Addr) (hSf : ¬S ∈ fp) (d : Value) {s : Shared} {c : Nat} (hst : St 0 s.heap)
      (hS : s.heap.get? S = some { cls := Value.type "list", data := Data.seq #[] c })
      (hE : n = 0 → ∀ (h' : Heap) (tk : Nat), (∀ (b : Addr) (o : Obj), ¬b ∈ wr → b ≠ S → s.heap.get? b = some o → h'.get? b = some o) →
        R (Except.ok (Flow.ret d)) { heap := h', gens := s.gens, drawn := s.drawn, toks := tk, os := s.os })
      (hR : 0 < n → ∀ (v : Value) (h' : Heap) (tk : Nat), P (argBest bt (n - 1)) v → (∀ (b : Addr) (o : Obj), ¬b ∈ wr → b ≠ S → s.heap.get? b = some o → h'.get? b = some o) →
        R (Except.ok (Flow.ret v)) { heap := h', gens := s.gens, drawn := s.drawn, toks := tk, os := s.os }) :
      codeAny (model prog w) A (Code.builtin "min.loop" { pos := [Value.ref I, Value.none, Value.ref S], kw := [("default", d)] }) R s := by
  have hSw : ¬ S ∈ wr := fun h => hSf (W.sub S h)
  refine codeAny_builtin F.entry_min_loop ?_
  rw [Around.under_plainId F.plain_min_loop]
  unfold Builtin.«min.loop»
  refine wpAny_bind (wpAny_seqItems hS rfl ?_)
  refine wpAny_bind (wpAny_tryCatch ?_)
  by_cases h0 : n = 0
  · subst h0
    refine W.done s _ _ hst fun h' tk hh => ?_
    dsimp only
    refine wpAny_bind (wpAny_rule ?_)
    refine wpAny_pure ?_
    exact hE rfl h' tk fun b o hb _ e => hh b o hb e
  · refine W.item 0 s _ _ (by omega) hst fun v h' tk hv hst' hh => ?_
    dsimp only
    have hS' := hh S _ hSw hS
    refine wpAny_bind (wpAny_pure ?_)
    refine wpAny_bind (wpAny_updateSeq hS' rfl ?_ ?_ ?_)
    · refine wpAny_pure ⟨plainId_quiet F.plain_min_loop _, ?_⟩
      obtain ⟨c', hN⟩ : ∃ c', (h'.update S (Obj.mapSeq fun _ => #[v, v])).get? S = some { cls := Value.type "list", data := Data.seq #[v, v] c' } := ⟨_, Heap.get?_update_self _ hS' rfl⟩
      refine min_loop_d W bt hc S hSf d (n - 1) 0 _ v c' (by omega) (by omega) ?_ hv hN ?_
      · refine W.frame _ _ _ hst' fun b hbf o e => (Heap.get?_update_other _ _ ?_).trans e
        rintro rfl; exact hSf hbf
      · exact fun v2 h2 tk2 hP2 hk2 => hR (by omega) v2 h2 tk2 hP2 fun b o hbw hne e => hk2 b o hbw hne ((Heap.get?_update_other _ _ (Ne.symm hne)).trans (hh b o hbw e))
    · rw [sizeLine_eq]; show 0 ≤ _; decide
    · rw [sizeLine_eq]; show 2 ≤ _; decide

theorem call_min_d {E : Value → Shared → Prop} {s : Shared} {x d : Value} {Q : Value → Shared → Prop}
    (h : wpAny (model prog w) A.in1 (pyIter x) (fun it s₂ => ∃ I fp wr n P St bt, it = Value.ref I ∧ PySem.Walks prog w A.in1 I fp wr n P St ∧ St 0 s₂.heap ∧ (∀ (b : Addr), b ∈ fp → b < s₂.heap.objs.size) ∧ CmpOf prog w A.in1 CmpOp.Lt P bt ∧
      (n = 0 → ∀ (h' : Heap) (tk : Nat), (∀ (b : Addr) (o : Obj), ¬b ∈ wr → s₂.heap.get? b = some o → h'.get? b = some o) → Q d { heap := h', gens := s₂.gens, drawn := s₂.drawn, toks := tk, os := s₂.os }) ∧
      (0 < n → ∀ (v : Value) (h' : Heap) (tk : Nat), P (argBest bt (n - 1)) v → (∀ (b : Addr) (o : Obj), ¬b ∈ wr → s₂.heap.get? b = some o → h'.get? b = some o) → Q v { heap := h', gens := s₂.gens, drawn := s₂.drawn, toks := tk, os := s₂.os })) E s) :
    wpAny (model prog w) A (call (Value.builtin "min") [x] [("default", d)]) Q E s := by
  refine wpAny_call (codeAny_call_builtin F.plain_min F.entry_min (wpAny_of_eq (args_minD x d) ?_))
  unfold Builtin.min
  refine wpAny_bind (wpAny_of_eq rfl ?_)
  refine wpAny_bind (wpAny_pure ?_)
  refine wpAny_bind (wpAny_mono h (fun it s₂ h₂ => ?_) fun _ _ e => e)
  obtain ⟨I, fp, wr, n, P, St, bt, rfl, W, hst, hfp, hc, hE, hQ⟩ := h₂
  refine wpAny_bind (wpAny_newObj_type ?_ ?_)
  · have hSf : ¬ s₂.heap.objs.size ∈ fp := fun hm => Nat.lt_irrefl _ (hfp _ hm)
    have old : ∀ b o, s₂.heap.get? b = some o → b ≠ s₂.heap.objs.size := fun b o e => Nat.ne_of_lt (Heap.lt_size e)
    refine wpAny_pure ⟨plainId_quiet F.plain_min_loop _, ?_⟩
    refine min_loop_d0 W bt hc s₂.heap.objs.size hSf d (W.frame 0 s₂.heap _ hst fun b _ o e => Heap.get?_push_of_some _ e) (Heap.get?_push_size _ rfl) ?_ ?_
    · exact fun h0 h' tk hk => hE h0 h' tk fun b o hb e => hk b o hb (old b o e) (Heap.get?_push_of_some _ e)
    · exact fun h0 v h' tk hP hk => hQ h0 v h' tk hP fun b o hb e => hk b o hb (old b o e) (Heap.get?_push_of_some _ e)
  · show 0 ≤ sizeLine; omega

open L2 in
open PyProof.Rows hiding St in
theorem min_rawD {E : Value → Shared → Prop} {s : Shared} {l : Addr} {vs : List Value} {ns : List Int} {d : Value} {Q : Value → Shared → Prop} (hh : A.handled = none) (hl : s.heap.IsList l vs.toArray) (hi : IntsAre vs ns)
    (h0 : ns = [] → ∀ (h' : Heap) (tk : Nat), (∀ b o, s.heap.get? b = some o → h'.get? b = some o) → Q d { heap := h', gens := s.gens, drawn := s.drawn, toks := tk, os := s.os })
    (h1 : ∀ (h' : Heap) (m : Int) (t : Tok) (tk : Nat), (∀ b o, s.heap.get? b = some o → h'.get? b = some o) → m ∈ ns → (∀ y, y ∈ ns → m ≤ y) → Q (.int m t) { heap := h', gens := s.gens, drawn := s.drawn, toks := tk, os := s.os }) :
    wpAny (model prog w) A (call (Value.builtin "min") [Value.ref l] [("default", d)]) Q E s := by
  obtain ⟨xs, e⟩ := AllInts.items (IntsAre.allInts hi)
  have hns : ns = xs.toList.map (fun x => x.1) := by
    rw [← IntsAre.numsOf hi, ← nums_intItems xs, ← e]
  have hsz : ns.length = xs.size := by rw [hns, List.length_map, Array.length_toList]
  rw [e] at hl
  have hh3 : A.in1.handled = none := by simp [hh]
  refine call_min_d (iter_intList hl fun s₂ hs hit hfp hne => ?_)
  subst hs
  have hz : (intItems xs).size = xs.size := by unfold intItems; rw [Array.size_map]
  have old : ∀ (h' : Heap), (∀ (b : Addr) (o : Obj), ¬b ∈ [s.heap.objs.size] → (s.heap.push { cls := Value.type "list_iterator", data := Data.fields #[Value.ref l, Value.int 0 0] }).get? b = some o → h'.get? b = some o) → ∀ b o, s.heap.get? b = some o → h'.get? b = some o := fun h' k b o e =>
    k b o (by simp only [List.mem_singleton]; exact Nat.ne_of_lt (Heap.lt_size e)) (Heap.get?_push_of_some _ e)
  refine ⟨s.heap.objs.size, _, _, (intItems xs).size, _, _, fun i j => decide (numAt xs i < numAt xs j), rfl, PySem.Walks.list hh3 _ l hne (intItems xs), hit, hfp, CmpOf.ints_lt (numAt xs) (fun i v h => intItems_at h), fun h => ?_, fun h v h' tk hv hk => ?_⟩
  · intro h' tk hk
    refine h0 ?_ _ _ (old h' hk)
    exact List.length_eq_zero_iff.mp (by omega)
  · obtain ⟨t, rfl⟩ := intItems_at hv
    obtain ⟨p1, p2⟩ := argBest_lt (numAt xs) ((intItems xs).size - 1)
    refine h1 _ _ _ _ (old h' hk) ?_ ?_
    · rw [hns, numAt_eq]
      exact getD_mem (by rw [List.length_map, Array.length_toList]; omega)
    · intro y hy
      rw [hns] at hy
      obtain ⟨j, hj, rfl⟩ := mem_getD hy
      rw [List.length_map, Array.length_toList] at hj
      have z := p2 j (by omega)
      rwa [numAt_eq xs j] at z
end
end DL
namespace DL
open PySem PySem.Spec L2
open PyProof.Rows hiding St
section
variable {G : Cfg} {X : Cx} {e : Expr} {es : List Expr} {kws : List Keyword}
def rMinD (K : PySem.W.Frag) : List V → List V → Hp → VK → Prop := fun xs zs H Q => ∃ a ns d, xs = [.ref a] ∧ zs = [d] ∧ SqL K H a (ns.map V.int) ∧ (ns = [] → Q d H) ∧ (∀ m, m ∈ ns → (∀ y, y ∈ ns → m ≤ y) → Q (.int m) H)
theorem cr_minD (hc : X.calm = true) : CallRK X (.builtin "min") ["default"] (rMinD X.K) := by
  intro pins s σ H xs zs us ws Q I r rz h
  obtain ⟨a, ns, d, rfl, rfl, hs, q0, q1⟩ := h
  obtain ⟨u, rfl, ru⟩ := rz.one
  obtain ⟨its, rv, hl, _⟩ := I.list hs
  rw [Vals.ref1 r]
  exact min_rawD (I.ok.hd hc) hl.isList rv.ints (fun h h' tk k => ⟨d, H, I.kept k, ru, q0 h⟩) fun h' m t tk k h1 h2 => ⟨.int m, H, I.kept k, ⟨t, rfl⟩, q1 m h1 h2⟩
abbrev WR1K := List D → List D → MM → (D → MM → Prop) → Prop
def SimCK (G : Cfg) (K : PySem.W.Frag) (r : List V → List V → Hp → VK → Prop) (w : WR1K) : Prop := ∀ F M H vs zs ds es Q P, HM G K F M H → RepL G K F vs ds → RepL G K F zs es → w ds es M Q → Fin G K F M H Q P → r vs zs H P
def wBK (w : WR1K) (wa wk : WA) : WE := fun δ M Q EX => wa δ M (fun ds M1 => wk δ M1 (fun es M2 => w ds es M2 Q) EX) EX
theorem de_callBK {r : List V → List V → Hp → VK → Prop} {w : WR1K} {wa wk : WA} {x : Str} {id : String} {ks : List Str} {p pos : Pos} (s : SimCK G X.K r w) (hc : CallRK X (.builtin id) ks r) (hm : X.mg x = none) (hv : bootBuiltins x = some (.builtin id)) (ha : DA G X (e :: es) wa) (hk : DK G X kws wk) (hg : Gl X x := by rfl) (hn : x ≠ "__name__" := by decide) (hdb : (x == ("__debug__" : Str)) = false := by decide)
    (he : backTo pos (starEach (e :: es) X.env) = (false, eval e X.env) :: backTo pos (starEach es X.env) := by rfl) (hpl : (backTo pos (starEach (e :: es) X.env)).any (·.1) = false := by rfl)
    (h1 : (backToKw pos (keywordEach kws X.env)).all (·.1.isSome) = true := by rfl) (h2 : (backToKw pos (keywordEach kws X.env)).any (·.1.isNone) = false := by rfl) (h3 : (backToKw pos (keywordEach kws X.env)).filterMap (·.1) = ks := by rfl) :
    DE G X (.Call (.Name x p) (e :: es) kws pos) (wBK w wa wk) := by
  refine pe_imp (pe_callBK hc hg hm hv ha hk hn hdb he hpl h1 h2 h3) fun σ H P ⟨F, M, δ, Q, EX, hm1, rs, h, tk, f⟩ => ?_
  refine ⟨F, M, δ, _, EX, hm1, rs, h, tk, fun vs ds F1 M1 H1 g1 r1 q1 => ?_⟩
  refine ⟨F1, M1, δ, _, EX, g1.hm, rs.mono g1.ext, q1, tk.imp (wX_mono g1), fun zs es F2 M2 H2 g2 r2 q2 => ?_⟩
  exact s F2 M2 H2 vs zs ds es Q P g2.hm (r1.mono g2.ext) r2 q2 fun v d F3 M3 H3 g3 r3 q => f v d F3 M3 H3 ((g1.trans g2).trans g3) r3 q
@[irreducible] def wMinD : WR1K := fun ds es M Q => match ds, es with
  | [d], [x] => match lintsOf M d with
    | some ns => (ns = [] → Q x M) ∧ ∀ m, m ∈ ns → (∀ y, y ∈ ns → m ≤ y) → Q (.int m) M
    | none => False
  | _, _ => False
theorem sim_minD {K : PySem.W.Frag} : SimCK G K (rMinD K) wMinD := by
  intro F M H vs zs ds es Q P hm r rk w f
  unfold wMinD at w
  split at w
  · split at w
    · rename_i d x _ ns e
      obtain ⟨v, rfl, r1⟩ := one_rep r
      obtain ⟨z, rfl, r2⟩ := one_rep rk
      obtain ⟨a, rfl, h1⟩ := lints_rep hm r1 e
      exact ⟨a, ns, z, rfl, rfl, SqL.of h1, fun h => f _ _ F M H (.refl hm) r2 (w.1 h), fun m h2 h3 => f _ _ F M H (.refl hm) (.int _) (w.2 m h2 h3)⟩
    · exact w.elim
  · exact w.elim
theorem at_minD {Q : D → MM → Prop} {M : MM} {d x : D} {ns : List Int} (h : lintsOf M d = some ns) (q0 : ns = [] → Q x M) (q : ∀ m, m ∈ ns → (∀ y, y ∈ ns → m ≤ y) → Q (.int m) M) : wMinD [d] [x] M Q := by
  unfold wMinD; dsimp only; rw [h]; exact ⟨q0, q⟩
end
end DL

set_option Elab.async false
set_option linter.all false
set_option maxRecDepth 100000
/-! len(o) of an own object -/
namespace DL
open PySem PySem.Spec L2
open PyProof.Rows hiding St
section
variable {G : Cfg} {X : Cx} {gd : Bool} {k : Nat} {f : Addr} {sp : SpD} {e : Expr}
theorem callP_in1 (F : FnP X.prog X.w X.K X.mg X.base gd k f (lift G X.K sp)) (hr : Room (k + 1) X.A) (hgd : gd = true → X.A.guards = some []) {pins : List (Addr × Obj)} {σ : St} {H : Hp} {s : Shared} {us : List Value} {vs : List V} {ds : List D} {F1 : Hp} {M1 : MM} {δ : DS} {Q : D → MM → Prop} {EX : XK'} {P : VK}
    (I : Inv X pins σ H s) (r : Vals vs us) (hm : HM G X.K F1 M1 H) (rs : RS G X.K F1 σ δ) (rl : RepL G X.K F1 vs ds) (h : sp ds M1 Q (fun xd M' => EX xd δ M')) (tk : Takes X (wX G X.K F1 M1 H EX)) (f' : Fin G X.K F1 M1 H Q P) :
    wpAny (model X.prog X.w) X.A.in1 (call (.ref f) us) (EP X pins σ P) X.xe s := by
  have hl' := lift_at (P := P) hm rs rl h f'
  refine wpAny_call (codeAny_mono (F.run X.A.in1 X.stack s H us vs P _ hr.in1 hgd I.env0.in1 r hl') (fun res s' hq => ?_))
  match res, hq with
  | .error z, hq => exact passAt tk σ pins H s z s' I hq
  | .ok (.ret u), hq => exact I.after hq
theorem len_tail {prog : Program} {w : World} {A : Around} {E : Value → Shared → Prop} {s : Shared} {a C ff : Addr} {K : PySem.W.Frag} {ox : Obj} {od : Option Obj} {Q : Value → Shared → Prop} (kin : K.In s.heap) (J : PySem.W.InstAt s.heap a ox C od)
    (hf : PySem.W.findIn K (.ref C) "__len__" = some (some (.ref ff))) (hfn : PySem.W.typeIn K (.ref ff) = some (.type "function"))
    (h : wpAny (model prog w) A.in1 (call (.ref ff) [.ref a]) (fun v s' => ∃ (n : Int) (t : Tok), v = .int n t ∧ 0 ≤ n ∧ n < 2 ^ 63 ∧ ∀ (t2 : Tok) (c : Nat), Q (.int n t2) { heap := s'.heap, gens := s'.gens, drawn := s'.drawn, toks := c, os := s'.os }) E s) :
    wpAny (model prog w) A (call (.builtin "len") [.ref a]) Q E s := by
  refine call_function_tree kind_len plain_len entry_len (args_len1 _) ?_
  unfold Builtin.len
  refine wpAny_bind (wpAny_pure ?_)
  refine wpAny_bind (PySem.W.special_fn kin J hf hfn (wpAny_mono h (fun v s' z => ?_) fun _ _ z => z))
  obtain ⟨n, t, rfl, h0, h1, q⟩ := z
  dsimp only
  refine wpAny_bind (wpAny_holding ?_)
  refine wpAny_of_eq (a := n) ?_ ?_
  · rfl
  · refine wpAny_bind (wpAny_letGo ?_)
    rw [if_neg (by omega), if_neg (by omega)]
    exact wpAny_bind (wpAny_mkInt (wpAny_pure (q _ _)))
@[irreducible] def kLenO (tb : List (Nat × SpD)) (δ : DS) (Q : D → MM → Prop) (EX : XK') (d : D) (M : MM) : Prop := match insOf M d with
  | some (c, fs) => ∃ sp, tb.lookup c = some sp ∧ sp [d] M (fun x M' => ∃ n : Int, x = .int n ∧ 0 ≤ n ∧ n < 2 ^ 63 ∧ Q (.int n) M') (fun xd M' => EX xd δ M')
  | none => False
theorem at_lenO {tb : List (Nat × SpD)} {δ : DS} {Q : D → MM → Prop} {EX : XK'} {d : D} {M : MM} {c : Nat} {fs : List D} {sp : SpD} (h : insOf M d = some (c, fs)) (h2 : tb.lookup c = some sp) (q : sp [d] M (fun x M' => ∃ n : Int, x = .int n ∧ 0 ≤ n ∧ n < 2 ^ 63 ∧ Q (.int n) M') (fun xd M' => EX xd δ M')) : kLenO tb δ Q EX d M := by
  unfold kLenO; rw [h]; exact ⟨sp, h2, q⟩
def wLenO (tb : List (Nat × SpD)) (we : WE) : WE := fun δ M Q EX => we δ M (kLenO tb δ Q EX) EX
theorem de_lenO {we : WE} {p pos : Pos} (tb : List (Nat × SpD)) (h1 : ∀ p ∈ tb, ∃ (gd : Bool) (k : Nat) (ps : List Str), OkMeth X.prog X.w X.K X.mg X.base gd k (G.cl p.1) "__len__" ps (lift G X.K p.2) ∧ Room (k + 1) X.A ∧ (gd = true → X.A.guards = some []))
    (hm : X.mg "len" = none) (h : DE G X e we) (hg : Gl X "len" := by rfl) (hs : starEach [e] X.env = [(false, eval e X.env)] := by rfl) : DE G X (.Call (.Name "len" p) [e] [] pos) (wLenO tb we) := by
  refine ⟨fun pins s σ H Q I ⟨F1, M1, δ, Q', EX, hm1, rs, q, tk, fin⟩ => ?_⟩
  refine Call_ (ld_blt I hg hm boot_len ?_)
  rw [hs]
  refine callWith_builtin1 (thn (de_run h I hm1 rs q tk) fun u s1 ⟨x, H1, I1, rx, d, F2, M2, g, rd, q1⟩ => ?_)
  unfold kLenO at q1
  split at q1
  · rename_i c fs ei
    obtain ⟨sp, e, q2⟩ := q1
    obtain ⟨gd, k, ps, ⟨f, fd, mt, b, Fn⟩, hr, hgd⟩ := h1 _ (lookup_mem e)
    obtain ⟨a, ox, od, rfl, rfl, J⟩ := inst_at I1 g.hm rx rd ei
    refine len_tail I1.kIn J mt.at_ (beq_iff_eq.mp mt.fn) ?_
    refine wpAny_mono (callP_in1 (Q := fun x M' => ∃ n : Int, x = .int n ∧ 0 ≤ n ∧ n < 2 ^ 63 ∧ Q' (.int n) M') (P := fun v H' => ∃ n : Int, v = .int n ∧ 0 ≤ n ∧ n < 2 ^ 63 ∧ Q (.int n) H') (us := [.ref a]) (vs := [.ref a]) (ds := [d]) (Fn.pos b) hr hgd I1 (.cons rfl .nil) g.hm (rs.mono g.ext) (.cons rd .nil) q2 (tk.imp (wX_mono g)) fun v d F3 M3 H3 g3 r3 q3 => ?_) (fun v s' z => ?_) fun _ _ z => z
    · obtain ⟨n, rfl, h0, h2, q4⟩ := q3
      cases r3
      exact ⟨n, rfl, h0, h2, fin _ _ F3 M3 H3 (g.trans g3) (.int _) q4⟩
    · obtain ⟨v', H', I', rv, n, rfl, h0, h2, q4⟩ := z
      obtain ⟨t, rfl⟩ := (show ∃ t, v = Value.int n t from rv)
      exact ⟨n, t, rfl, h0, h2, fun t2 c => ⟨.int n, H', I'.kept (t' := c) (fun _ _ z => z), ⟨t2, rfl⟩, q4⟩⟩
  · exact q1.elim
end
end DL

set_option Elab.async false
set_option linter.all false
set_option maxRecDepth 100000
/-! sorted(a tuple of ints) -/
namespace DL
open PySem PySem.Spec L2
theorem collect_tup {prog : Program} {w : World} {A : Around} {E : Value → Shared → Prop} {s : Shared} {l : Addr} {vs : List Value} {Q : List Value → Shared → Prop} (ht : PyProof.Rows.IsTup s.heap l vs.toArray) (hl : vs.length ≤ sizeLine)
    (hQ : ∀ h' : Heap, (∀ b o, s.heap.get? b = some o → h'.get? b = some o) → s.heap.objs.size ≤ h'.objs.size → Q vs { heap := h', gens := s.gens, drawn := s.drawn, toks := s.toks, os := s.os }) : wpAny (model prog w) A (collect (.ref l)) Q E s := by
  obtain ⟨o, h1, h2, n, h3⟩ := ht
  obtain ⟨S, eS⟩ : ∃ S, S = s.heap.objs.size := ⟨_, rfl⟩
  obtain ⟨h2', eh⟩ : ∃ h2', h2' = (s.heap.push { cls := Value.type "list", data := Data.seq #[] }).update S (Obj.mapSeq fun x => x ++ vs.toArray) := ⟨_, rfl⟩
  have hS : (s.heap.push { cls := Value.type "list", data := Data.seq #[] }).get? S = some { cls := Value.type "list", data := Data.seq #[] } := by rw [eS]; exact Heap.get?_push_size _ rfl
  unfold collect
  refine wpAny_bind (wpAny_runValue (codeAny_mono (R := fun r s' => r = .ok (.ret (.ref S)) ∧ s' = { heap := h2', gens := s.gens, drawn := s.drawn, toks := s.toks, os := s.os }) (codeAny_builtin F.entry_proto_collect ?_) ?_))
  · rw [Around.under_plainId F.plain_proto_collect]
    unfold Builtin.«proto.collect»
    refine wpAny_bind (wpAny_newObj_type ?_ ?_)
    · refine wpAny_pure ⟨plainId_quiet F.plain_list_iadd _, codeAny_builtin F.entry_list_iadd ?_⟩
      rw [Around.under_plainId F.plain_list_iadd]
      unfold Builtin.«list.__iadd__»
      refine wpAny_bind (wpAny_of_eq rfl ?_)
      rw [← eS]
      exact wpAny_extend_seq (R := fun r s' => r = .ok (.ret (.ref S)) ∧ s' = { heap := h2', gens := s.gens, drawn := s.drawn, toks := s.toks, os := s.os }) S l (.ref S) 0 (T := "tuple") (.inr rfl) hS (Heap.get?_push_of_some _ h1) h2 h3 ⟨rfl, by rw [eh]⟩ (by simpa using hl)
    · show 0 ≤ sizeLine; omega
  · rintro r s' ⟨rfl, rfl⟩
    dsimp only
    have h4 : h2'.get? S = some (Obj.mapSeq (fun x => x ++ vs.toArray) { cls := Value.type "list", data := Data.seq #[] }) := by rw [eh]; exact Heap.get?_update_self _ hS rfl
    refine wpAny_bind (wpAny_load h4 ?_)
    dsimp only [Obj.mapSeq]
    refine wpAny_pure ?_
    have e : (#[] ++ vs.toArray).toList = vs := by simp
    rw [e]
    refine hQ _ (fun b o' e' => ?_) ?_
    · have hb : S ≠ b := by rw [eS]; exact (Nat.ne_of_lt (Heap.lt_size e')).symm
      rw [eh]
      exact (Heap.get?_update_other _ _ hb).trans (Heap.get?_push_of_some _ e')
    · rw [eh, Heap.size_update, PyProof.Rows.size_push']; exact Nat.le_succ _
theorem sorted_tup {prog : Program} {w : World} {A : Around} {E : Value → Shared → Prop} {s : Shared} {l : Addr} {vs : List Value} {ns : List Int} {Q : Value → Shared → Prop} (ht : PyProof.Rows.IsTup s.heap l vs.toArray) (hl : vs.length ≤ sizeLine) (hi : PyProof.Rows.IntsAre vs ns)
    (hQ : ∀ (h' : Heap) (d c : Nat) (out : Array Value) (ns' : List Int), PyProof.Rows.IntsAre out.toList ns' → ns'.Perm ns → ns'.Pairwise (· ≤ ·) → (∀ b o, s.heap.get? b = some o → h'.get? b = some o) → s.heap.objs.size ≤ d → h'.get? d = some (PyProof.Rows.seqObj "list" out c) →
      Q (.ref d) { heap := h', gens := s.gens, drawn := s.drawn, toks := s.toks, os := s.os }) : wpAny (model prog w) A (call (.builtin "sorted") [.ref l]) Q E s := by
  refine Calls.call_function_entry PyProof.Rows.kind_sorted PyProof.Rows.plain_sorted PyProof.Rows.entry_sorted (PyProof.Rows.args_sorted1 _) ?_
  unfold Builtin.sorted
  refine wpAny_bind (wpAny_of_eq rfl ?_)
  refine wpAny_bind (collect_tup ht hl fun h1 k1 z1 => ?_)
  refine wpAny_bind (wpAny_newList ?_ hl)
  obtain ⟨S, eS⟩ : ∃ S, S = h1.objs.size := ⟨_, rfl⟩
  have hS : (h1.push (PyProof.Rows.seqObj "list" vs.toArray 0)).get? S = some (PyProof.Rows.seqObj "list" vs.toArray 0) := by rw [eS]; exact Heap.get?_push_size _ rfl
  have hlt : ∀ b o, s.heap.get? b = some o → b < h1.objs.size := fun b o e => Nat.lt_of_lt_of_le (Heap.lt_size e) z1
  refine wpAny_bind (wpAny_holding (wpAny_call_entry PyProof.Rows.slot_list_sort ⟨_, by rw [← eS]; exact hS, rfl⟩ PyProof.Rows.entry_list_sort ?_ (PyProof.Rows.args_list_sort _)))
  rw [← eS]
  refine SrtO.list_sort_ord SrtO.swo_int hS hl (fun h2 => SrtO.ints_sortable hi h2) fun out h3 h4 => ⟨.none, rfl, ?_⟩
  obtain ⟨i1, i2, i3⟩ := SrtO.ints_out hi h3 h4
  obtain ⟨c, hc⟩ := PyProof.Rows.sortedHeap_at (out := out.toArray) hS
  refine wpAny_pure ⟨_, rfl, ?_⟩
  refine hQ _ S c out.toArray _ (by simpa using i1) i2 i3 (fun b o e => ?_) (by omega) hc
  have hb : b ≠ S := by rw [eS]; exact Nat.ne_of_lt (hlt b o e)
  rw [PyProof.Rows.sortedHeap_old hb (by rw [PyProof.Rows.size_push']; exact Nat.lt_succ_of_lt (hlt b o e))]
  exact Heap.get?_push_of_some _ (k1 b o e)
section
variable {G : Cfg} {X : Cx} {e : Expr}
def rSortTI (K : PySem.W.Frag) : List V → Hp → VK → Prop := fun xs H Q => ∃ (a : Addr) (ns : List Int), xs = [.ref a] ∧ SqT K H a (ns.map V.int) ∧ ∀ (ns' : List Int) (p : Addr), ns'.Perm ns → ns'.Pairwise (· ≤ ·) → H p = none → Q (.ref p) (upd H p (.lst (ns'.map V.int)))
theorem cr_sortedTI : CallR X (.builtin "sorted") (rSortTI X.K) := by
  intro pins s σ H xs us Q I r h
  obtain ⟨a, ns, rfl, hs, q⟩ := h
  obtain ⟨its, rv, ht, hz⟩ := I.tuple hs
  rw [Vals.ref1 r]
  refine sorted_tup (vs := its) ht (by rw [← rv.length]; exact hz) rv.ints fun h' d c out ns' i1 i2 i3 k z hd => ?_
  have lz : (ns'.map V.int).length ≤ sizeLine := by
    rw [List.length_map, i2.length_eq]; rw [List.length_map] at hz; exact hz
  refine ⟨.ref d, _, I.laid (t' := s.toks) (o := .lst (ns'.map V.int)) k z ?_, rfl, q ns' d i2 i3 (I.hok.fresh z)⟩
  have z2 : h'.get? d = some { cls := .type "list", data := .seq out.toList.toArray c } := by rw [Array.toArray_toList]; exact hd
  exact ⟨lz, _, _, vals_of_ints i1, z2⟩
/-- sorted(t) of a tuple of ints -/
@[irreducible] def wSortT : WR1 := fun ds M Q => match ds with
  | [.tup xs] => match intsOf xs with
    | some ns => ∀ ns' : List Int, ns'.Perm ns → ns'.Pairwise (· ≤ ·) → Q (.lst (ns'.map D.int)) M
    | none => False
  | _ => False
theorem at_sortT {Q : D → MM → Prop} {M : MM} {ns : List Int} (q : ∀ s : List Int, s.Perm ns → s.Pairwise (· ≤ ·) → Q (.lst (s.map D.int)) M) : wSortT [.tup (ns.map D.int)] M Q := by
  unfold wSortT; dsimp only; rw [intsOf_ints]; exact q
theorem sim_sortT {K : PySem.W.Frag} : SimC G K (rSortTI K) wSortT := by
  intro F M H vs ds Q P hm r w f
  unfold wSortT at w
  split at w
  · split at w
    · rename_i xs _ ns e
      obtain ⟨v, rfl, r1⟩ := one_rep r
      have ex : xs = ns.map D.int := intsOf_map e
      subst ex
      cases r1 with
      | tup h1 r2 =>
        rename_i a ws
        have ew : ws = ns.map V.int := r2.ints
        subst ew
        refine ⟨a, ns, rfl, sqT_mono hm.sub h1, fun ns' p i2 i3 hp => ?_⟩
        have g := hm.new (o := .lst (ns'.map V.int)) hp
        exact f _ _ _ _ _ g (.lst upd_same (.of_ints _)) (w ns' i2 i3)
    · exact w.elim
  · exact w.elim
end
end DL

set_option Elab.async false
set_option linter.all false
set_option maxRecDepth 100000
/-! is True, is not False .. -/
namespace DL
open PySem PySem.Spec L2
open PyProof.Rows hiding St
section
variable {G : Cfg} {K : PySem.W.Frag}
def wIsB (n : Bool) : WR2 := fun x y M Q => match x, y with
  | .bl a, .bl b => Q (.bl (if n = true then !decide (a = b) else decide (a = b))) M
  | _, _ => False
def rIsBn (n : Bool) : V → V → Hp → VK → Prop := fun x y H Q => ∃ a b : Bool, x = .bl a ∧ y = .bl b ∧ Q (.bl (if n = true then !decide (a = b) else decide (a = b))) H
theorem sim_isB (n : Bool) : Sim2 G K (match n with | false => rIsB | true => rNotB) (wIsB n) := by
  intro F M H x y dx dy Q P hm rx ry w f
  unfold wIsB at w
  split at w
  · cases rx; cases ry
    cases n
    · exact ⟨_, _, rfl, rfl, f _ _ F M H (.refl hm) (.bl _) w⟩
    · exact ⟨_, _, rfl, rfl, f _ _ F M H (.refl hm) (.bl _) w⟩
  · exact w.elim
theorem isi_bo (u : Ty) (hu : ∀ k, u ≠ .own k) (own : List (Nat × Bool)) (cg : CgOk K) (h : ∀ p ∈ own, PySem.W.kitOne K (.ref (G.cl p.1)) (.type u.nm) = some p.2 ∧ Cls K (G.cl p.1) ∧ CcOk K (G.cl p.1)) : IsiT G K (.type u.nm) (tbB u fun k => own.lookup k) := by
  refine ⟨fun t b ht e => (isi_b (G := G) (K := K) u hu).bt t b ht ?_, fun k b e => ?_⟩
  · cases t with
    | own k => exact absurd rfl (ht k)
    | _ => exact e
  · have z := lookup_mem (show own.lookup k = some b from e)
    obtain ⟨h1, h2, h3⟩ := h _ z
    exact ⟨h1, h2, h3.at_, cg.get, cg.tk, h3.mo⟩
end
end DL

set_option Elab.async false
set_option linter.all false
set_option maxRecDepth 100000
/-! xs.count(k) of ints; {} that stays empty -/
namespace DL
open PySem PySem.Spec L2
open PyProof.Rows hiding St
section
variable {G : Cfg} {X : Cx} {o e : Expr} {es : List Expr}
def kCount (Q : D → MM → Prop) (x : D) (ds : List D) (M : MM) : Prop := match lintsOf M x, ds with
  | some ns, [.int k] => Q (.int (ns.count k : Nat)) M
  | _, _ => False
theorem at_count {Q : D → MM → Prop} {x : D} {k : Int} {ns : List Int} {M : MM} (h : lintsOf M x = some ns) (q : Q (.int (ns.count k : Nat)) M) : kCount Q x [.int k] M := by
  unfold kCount; rw [h]; exact q
def wCount (wo : WE) (wa : WA) : WE := fun δ M Q EX => wo δ M (fun x M1 => (lintsOf M1 x).isSome = true ∧ wa δ M1 (fun ds M2 => kCount Q x ds M2) EX) EX
theorem de_count {wo : WE} {wa : WA} {apos cpos : Pos} (ho : DE G X o wo) (ha : DA G X (e :: es) wa)
    (hbase : attributeBase o "count" X.env (eval o X.env) = eval o X.env := by rfl)
    (hfew : ((backTo cpos (starEach (e :: es) X.env)).all (fun x => !x.1) && (backToKw cpos (keywordEach [] X.env)).all (fun x => x.1.isSome)
      && decide ((e :: es).length + ([] : List Keyword).length + (if ([] : List Keyword).isEmpty then 0 else 1) < 30)) = true := by rfl)
    (hline : (apos.endLine == cpos.line) = true := by rfl) (hs : starEach (e :: es) X.env = (false, eval e X.env) :: starEach es X.env := by rfl) (hplain : (backTo cpos (starEach es X.env)).any (·.1) = false := by rfl) :
    DE G X (.Call (.Attribute o "count" apos) (e :: es) [] cpos) (wCount wo wa) := by
  refine pe_imp (pe_bm PySem.F.plainAttrs_list PySem.F.slot_list_count PySem.F.type_list_count mt_lcount ho ha hbase hfew hline hs hplain) fun σ H P ⟨F, M, δ, Q, EX, hm, rs, h, tk, f⟩ => ?_
  refine ⟨F, M, δ, _, EX, hm, rs, h, tk, fun v d F1 M1 H1 g1 r1 h1 => ?_⟩
  obtain ⟨hi, h1⟩ := h1
  obtain ⟨ns, en⟩ := Option.isSome_iff_exists.mp hi
  obtain ⟨a, rfl, ha1⟩ := lints_rep g1.hm r1 en
  refine ⟨.inl ⟨rfl, _, SqL.of ha1⟩, ?_⟩
  refine ⟨F1, M1, δ, _, EX, g1.hm, rs.mono g1.ext, h1, tk.imp (wX_mono g1), fun vs ds F2 M2 H2 g2 r2 h2 => ?_⟩
  unfold kCount at h2
  split at h2
  · rename_i ns2 k e2
    obtain ⟨a2, ea, ha2⟩ := lints_rep g2.hm (r1.mono g2.ext) e2
    cases ea
    cases r2 with
    | cons r3 r4 =>
      cases r4
      cases r3
      exact ⟨a, ns2, k, rfl, rfl, SqL.of ha2, f _ _ F2 M2 H2 (g1.trans g2) (.int _) h2⟩
  · exact h2.elim
def wDct0 : WE := fun _ M Q _ => Q (.dct []) M
theorem de_dct0 {pos : Pos} : DE G X (.Dict [] [] pos) wDct0 := by
  refine pe_imp pe_dnewK fun σ H P ⟨F, M, δ, Q, EX, hm, rs, h, tk, f⟩ p hp => ?_
  have g := hm.new (o := .dK []) hp
  exact f _ _ _ _ _ g (.dct upd_same .nil) h
end
end DL

set_option Elab.async false
set_option linter.all false
set_option maxRecDepth 100000
/-! all(..), any(..) of a list of truths -/
namespace DL
open PySem PySem.Spec L2
open PyProof.Rows hiding St
def blsOf : List D → Option (List Bool)
  | [] => some []
  | .bl b :: ds => (blsOf ds).map (b :: ·)
  | _ :: _ => none
theorem blsOf_map : ∀ {ds : List D} {bs : List Bool}, blsOf ds = some bs → ds = bs.map D.bl
  | [], bs, h => by cases h; rfl
  | .bl b :: ds, bs, h => by
    unfold blsOf at h
    obtain ⟨cs, h1, h2⟩ := Option.map_eq_some_iff.mp h
    rw [← h2, blsOf_map h1]; rfl
theorem blsOf_bls : ∀ bs : List Bool, blsOf (bs.map D.bl) = some bs
  | [] => rfl
  | b :: bs => by
    show (blsOf (bs.map D.bl)).map (b :: ·) = _
    rw [blsOf_bls bs]; rfl
section
variable {G : Cfg} {K : PySem.W.Frag}
theorem RepL.bls {F : Hp} : ∀ {vs : List V} {bs : List Bool}, RepL G K F vs (bs.map D.bl) → vs = bs.map V.bl
  | _, [], h => by cases h; rfl
  | _, b :: bs, h => by
    cases h with
    | cons r t => cases r; rw [RepL.bls t]; rfl
@[irreducible] def wAll : WR1 := fun ds M Q => match ds with
  | [d] => match (lstOf M d).bind blsOf with
    | some bs => Q (.bl (bs.all id)) M
    | none => False
  | _ => False
@[irreducible] def wAny : WR1 := fun ds M Q => match ds with
  | [d] => match (lstOf M d).bind blsOf with
    | some bs => Q (.bl (bs.any id)) M
    | none => False
  | _ => False
theorem bls_rep {F : Hp} {M : MM} {H : Hp} {v : V} {d : D} {bs : List Bool} (hm : HM G K F M H) (r : Rep G K F v d) (e : (lstOf M d).bind blsOf = some bs) : ∃ a, v = .ref a ∧ H a = some (.lst (bs.map V.bl)) := by
  cases q : lstOf M d with
  | none => rw [q] at e; cases e
  | some ds =>
    rw [q] at e
    have e2 : ds = bs.map D.bl := blsOf_map e
    subst e2
    obtain ⟨a, vs, rfl, h1, r1⟩ := lstOf_rep hm r q
    rw [r1.bls] at h1
    exact ⟨a, rfl, h1⟩
theorem sim_all : SimC G K (rAll K) wAll := by
  intro F M H vs ds Q P hm r w f
  unfold wAll at w
  split at w
  · split at w
    · rename_i d bs e
      obtain ⟨v, rfl, r1⟩ := one_rep r
      obtain ⟨a, rfl, h1⟩ := bls_rep hm r1 e
      exact ⟨a, bs, rfl, SqL.of h1, f _ _ F M H (.refl hm) (.bl _) w⟩
    · exact w.elim
  · exact w.elim
theorem sim_any : SimC G K (rAny K) wAny := by
  intro F M H vs ds Q P hm r w f
  unfold wAny at w
  split at w
  · split at w
    · rename_i d bs e
      obtain ⟨v, rfl, r1⟩ := one_rep r
      obtain ⟨a, rfl, h1⟩ := bls_rep hm r1 e
      exact ⟨a, bs, rfl, SqL.of h1, f _ _ F M H (.refl hm) (.bl _) w⟩
    · exact w.elim
  · exact w.elim
theorem at_all {Q : D → MM → Prop} {M : MM} {bs : List Bool} (q : Q (.bl (bs.all id)) M) : wAll [.lst (bs.map D.bl)] M Q := by
  unfold wAll; dsimp only; rw [show lstOf M (.lst (bs.map D.bl)) = some (bs.map D.bl) from rfl, Option.bind_some, blsOf_bls]; exact q
theorem at_any {Q : D → MM → Prop} {M : MM} {bs : List Bool} (q : Q (.bl (bs.any id)) M) : wAny [.lst (bs.map D.bl)] M Q := by
  unfold wAny; dsimp only; rw [show lstOf M (.lst (bs.map D.bl)) = some (bs.map D.bl) from rfl, Option.bind_some, blsOf_bls]; exact q
end
end DL

set_option Elab.async false
set_option linter.all false
set_option maxRecDepth 100000
/-! a tuple times one, times nought -/
namespace DL
open PySem PySem.Spec L2
section
variable {X : Cx}
theorem mul_few {prog : Program} {w : World} {A : Around} {E : Value → Shared → Prop} {s : Shared} {l : Addr} {items : Array Value} {n : Nat} {dd : Option Addr} {sl : Array (Option Value)} {k : Int} {t : Tok} {Q : Value → Shared → Prop}
    (ho : s.heap.get? l = some { cls := .type "tuple", dict := dd, data := .seq items n, slots := sl }) (hk : -100000 ≤ k ∧ k ≤ 1) (hne : items.isEmpty = false)
    (h1 : k = 1 → Q (.ref l) s) (h0 : k ≤ 0 → Q (.ref s.heap.objs.size) { heap := s.heap.push { cls := .type "tuple", data := .seq #[] }, gens := s.gens, drawn := s.drawn, toks := s.toks, os := s.os }) :
    wpAny (model prog w) A (binaryOp .Mult (.ref l) (.int k t)) Q E s := by
  refine wpAny_binaryOp_repeat_ref (T := "tuple") (U := "int") (by decide) ⟨_, ho, rfl⟩ (fun s' => typeIs_int s' k t) noFill_tuple_mul F.fills_int_mul F.slot_int_rmul repeat_tuple F.slot_int_index.lookup ?_
  refine call_meets F.slot_int_rmul (typeIs_int _ _ _) F.entry_int_rmul (F.args_int_rmul_2 _ _) (int_rmul_tuple k t l items n dd sl) ⟨ho, ⟨rfl, ⟨_, ho, rfl⟩, ?_⟩⟩
  refine wpAny_call_entry F.slot_tuple_mul ⟨_, ho, rfl⟩ F.entry_tuple_mul ?_ (F.args_tuple_mul_2 _ _)
  unfold Builtin.«tuple.__mul__»
  refine wpAny_bind (wpAny_of_eq (a := k) rfl ?_)
  have b1 : (decide (k < -2 ^ 63) || decide (k ≥ 2 ^ 63)) = false := by
    rw [decide_eq_false (by omega), decide_eq_false (by omega)]; rfl
  rw [b1]
  dsimp only
  rw [if_neg Bool.false_ne_true]
  unfold Builtin.Tuple.tupleItemsOf
  refine wpAny_bind (wpAny_bind (wpAny_seqItems ho rfl (wpAny_pure ?_)))
  rw [hne, Bool.false_or]
  by_cases e : k = 1
  · rw [show (k == 1) = true from by simp [e], if_pos rfl]
    unfold Builtin.Tuple.tupleIsExact
    refine wpAny_bind (wpAny_bind (wpAny_typeOf (T := "tuple") ⟨_, ho, rfl⟩ (wpAny_pure ?_)))
    rw [if_pos (by decide)]
    refine wpAny_bind (wpAny_rule (wpAny_pure ⟨_, rfl, h1 e⟩))
  · rw [show (k == 1) = false from by simpa using e, if_neg Bool.false_ne_true]
    have b2 : (decide (k ≤ 0) || items.isEmpty) = true := by rw [decide_eq_true (by omega)]; rfl
    rw [hne] at b2
    rw [if_pos b2]
    unfold Builtin.Tuple.tupleExact
    refine wpAny_bind (wpAny_newObj_type ?_ ?_)
    · exact wpAny_pure ⟨_, rfl, h0 (by omega)⟩
    · show 0 ≤ sizeLine; omega
open PyProof.Rows in
def rRepF (K : PySem.W.Frag) : R2 := fun x y H Q => ∃ l k xs, x = .ref l ∧ y = .int k ∧ SqT K H l xs ∧ xs ≠ [] ∧ (-100000 ≤ k ∧ k ≤ 1) ∧ (k = 1 → Q (.ref l) H) ∧ (k ≤ 0 → ∀ p, H p = none → Q (.ref p) (upd H p (.tup [])))
theorem op_repF : OpR X (binaryOp .Mult) (rRepF X.K) := by
  intro pins s σ H x y v u Q I rx ry h
  obtain ⟨l, k, xs, rfl, rfl, hT, hne, hk, q1, q0⟩ := h
  obtain rfl : v = Value.ref l := rx
  obtain ⟨t, rfl⟩ := (show ∃ t, u = Value.int k t from ry)
  obtain ⟨its, r, ⟨o, ho, hc, n, hd⟩, hs⟩ := I.tuple hT
  obtain ⟨cls, dd, data, sl⟩ := o
  dsimp only at hc hd
  subst hc; subst hd
  refine mul_few ho hk ?_ (fun e => ⟨.ref l, H, I, rfl, q1 e⟩) fun e => ?_
  · cases its with
    | nil => cases r; exact absurd rfl hne
    | cons a as => simp
  · have z : (s.heap.push { cls := .type "tuple", data := .seq #[] }).get? s.heap.objs.size = some { cls := .type "tuple", data := .seq (([] : List Value).toArray) } := Heap.get?_push_size _ rfl
    refine ⟨.ref s.heap.objs.size, _, I.laid (o := .tup []) (fun b u e => Heap.get?_push_of_some _ e) (Nat.le_refl _) ?_, rfl, q0 e _ (I.hok.fresh (Nat.le_refl _))⟩
    exact ⟨Nat.zero_le _, [], .nil, ⟨_, z, rfl, _, rfl⟩⟩
def wTimesF : WR2 := fun x y M Q => match x, y with
  | .tup xs, .int k => if k ≤ 1 then xs ≠ [] ∧ -100000 ≤ k ∧ (k = 1 → Q (.tup xs) M) ∧ (k ≤ 0 → Q (.tup []) M) else wTimes (.tup xs) (.int k) M Q
  | x, y => wTimes x y M Q
variable {G : Cfg} {K : PySem.W.Frag}
theorem sim_timesF {r : R2} (h : Sim2 G K r wTimes) : Sim2 G K (orR r (rRepF K)) wTimesF := by
  intro F M H x y dx dy Q P hm rx ry w f
  unfold wTimesF at w
  split at w
  · rename_i xs k
    split at w
    · rename_i hk
      obtain ⟨hne, h0, h1, h2⟩ := w
      cases ry
      cases rx with
      | tup ht rt =>
        rename_i a vs
        refine .inr ⟨a, k, vs, rfl, rfl, sqT_mono hm.sub ht, fun z => hne ?_, ⟨h0, hk⟩, fun e => f _ _ F M H (.refl hm) (.tup ht rt) (h1 e), fun e p hp => ?_⟩
        · subst z; cases rt; rfl
        · have g := hm.new (o := .tup []) hp
          exact f _ _ _ _ _ g (.tup upd_same .nil) (h2 e)
    · exact .inl (h F M H x y _ _ Q P hm rx ry w f)
  · exact .inl (h F M H x y _ _ Q P hm rx ry w f)
end
end DL

set_option Elab.async false
set_option linter.all false
set_option maxRecDepth 100000
/-! sorted(pairs of ints), sorted(pairs of ints, reverse = b) -/
namespace DL
open PySem PySem.Spec L2 PyProof.Rows
section
open SrtO
variable {prog : Program} {w : World} {A : Around} {E : Value → Shared → Prop} {s : Shared}
/-- sorted(t, ..) of a tuple, by keywords that say reverse=b -/
theorem sorted_tupK {l : Addr} {vs : List Value} {b : Bool} {kw : List (Str × Value)} {ltv : Value → Value → Bool} {Q : Value → Shared → Prop} (hk : ∀ a, Builtin.«list.sort» ⟨[.ref a], kw⟩ = Builtin.«list.sort» ⟨[.ref a], [(Str.ofString "reverse", .bool b)]⟩)
    (ha1 : argsOk "sorted" ⟨[.ref l], kw⟩) (ha2 : ∀ a, argsOk "list.sort" ⟨[a], kw⟩) (O : Swo ltv) (ht : PyProof.Rows.IsTup s.heap l vs.toArray) (hl : vs.length ≤ sizeLine)
    (hS : 2 ≤ vs.length → ∀ (h₁ : Heap) (a : Addr), h₁.get? a = some (PyProof.Rows.seqObj "list" vs.toArray 0) → (∀ b o, s.heap.get? b = some o → b ≠ a ∧ h₁.get? b = some o) → SortableO prog w A.in1.in1 { s with heap := h₁ } a vs ltv)
    (hQ : ∀ (h' : Heap) (d c : Nat) (out : List Value), Srtd ltv out → Stb ltv out (if b = true then vs.reverse else vs) → (∀ b o, s.heap.get? b = some o → h'.get? b = some o) → s.heap.objs.size ≤ d →
      h'.get? d = some (PyProof.Rows.seqObj "list" (if b = true then out.toArray.reverse else out.toArray) c) → Q (.ref d) { s with heap := h' }) : wpAny (model prog w) A (call (.builtin "sorted") [.ref l] kw) Q E s := by
  refine call_function_entry_kw PyProof.Rows.kind_sorted PyProof.Rows.plain_sorted PyProof.Rows.entry_sorted ha1 ?_
  unfold Builtin.sorted
  refine wpAny_bind (m := checkCount "sorted" 1 1 _) (wpAny_pure ?_)
  refine wpAny_bind (collect_tup ht hl fun h1 k1 z1 => ?_)
  refine wpAny_bind (wpAny_newList ?_ hl)
  obtain ⟨S, eS⟩ : ∃ S, S = h1.objs.size := ⟨_, rfl⟩
  have at1 : (h1.push (PyProof.Rows.seqObj "list" vs.toArray 0)).get? S = some (PyProof.Rows.seqObj "list" vs.toArray 0) := by rw [eS]; exact Heap.get?_push_size _ rfl
  have lt1 : ∀ b o, s.heap.get? b = some o → b < h1.objs.size := fun b o e => Nat.lt_of_lt_of_le (Heap.lt_size e) z1
  refine wpAny_bind (wpAny_holding (wpAny_call_entry_kw PyProof.Rows.slot_list_sort ⟨_, by rw [← eS]; exact at1, rfl⟩ PyProof.Rows.entry_list_sort ?_ (ha2 _)))
  rw [← eS, hk]
  refine SrtR.list_sort_ordR O at1 hl (fun h2 => hS h2 _ _ at1 fun b o e => ⟨by rw [eS]; exact Nat.ne_of_lt (lt1 b o e), Heap.get?_push_of_some _ (k1 b o e)⟩) fun out h3 h4 => ⟨.none, rfl, ?_⟩
  obtain ⟨c, hc⟩ := PyProof.Rows.sortedHeap_at (out := if b = true then out.toArray.reverse else out.toArray) at1
  refine wpAny_pure ⟨_, rfl, ?_⟩
  refine hQ _ S c out h3 h4 (fun b o e => ?_) (by omega) hc
  have nb : b ≠ S := by rw [eS]; exact Nat.ne_of_lt (lt1 b o e)
  rw [PyProof.Rows.sortedHeap_old nb (by rw [PyProof.Rows.size_push']; exact Nat.lt_succ_of_lt (lt1 b o e))]
  exact Heap.get?_push_of_some _ (k1 b o e)
end
section
variable {X : Cx}
def rSortP (K : PySem.W.Frag) (b : Bool) : List V → Hp → VK → Prop := fun vs H Q => ∃ (a : Addr) (ys : List V), vs = [V.ref a] ∧ (SqL K H a ys ∨ SqT K H a ys) ∧ (∀ y ∈ ys, ∃ t i j, y = .ref t ∧ SqT K H t [.int i, .int j]) ∧
  ∀ (k : V → Int × Int) (zs : List V) (p : Addr), (∀ y ∈ ys, ∀ t i j, y = .ref t → SqT K H t [.int i, .int j] → k y = (i, j)) → zs.Perm ys → SrtO.Srtd (ltP k) (if b then zs.reverse else zs) → H p = none → Q (.ref p) (upd H p (.lst zs))
theorem sortP_run {b : Bool} {kw : List (Str × Value)} {pins : List (Addr × Obj)} {s : Shared} {σ : L2.St} {H : Hp} {a : Addr} {ys : List V} {Q : VK} (I : Inv X pins σ H s) (hs : SqL X.K H a ys ∨ SqT X.K H a ys) (hy : ∀ y ∈ ys, ∃ t i j, y = .ref t ∧ SqT X.K H t [.int i, .int j])
    (hk : ∀ a, Builtin.«list.sort» ⟨[.ref a], kw⟩ = Builtin.«list.sort» ⟨[.ref a], [(Str.ofString "reverse", .bool b)]⟩) (ha1 : argsOk "sorted" ⟨[.ref a], kw⟩) (ha2 : ∀ a, argsOk "list.sort" ⟨[a], kw⟩)
    (q : ∀ (k : V → Int × Int) (zs : List V) (p : Addr), (∀ y ∈ ys, ∀ t i j, y = .ref t → SqT X.K H t [.int i, .int j] → k y = (i, j)) → zs.Perm ys → SrtO.Srtd (ltP k) (if b then zs.reverse else zs) → H p = none → Q (.ref p) (upd H p (.lst zs))) :
    wpAny (model X.prog X.w) X.A (call (.builtin "sorted") [.ref a] kw) (EP X pins σ Q) X.xe s := by
  classical
  obtain ⟨its, rv, hl, hz⟩ : ∃ its, Vals ys its ∧ ((s.heap.IsList a its.toArray ∧ SqL X.K H a ys) ∨ PyProof.Rows.IsTup s.heap a its.toArray) ∧ ys.length ≤ sizeLine := by
    rcases hs with hs | hs
    · obtain ⟨its, rv, hl, hz⟩ := I.list hs
      exact ⟨its, rv, .inl ⟨hl.isList, hs⟩, hz⟩
    · obtain ⟨its, rv, hl, hz⟩ := I.tuple hs
      exact ⟨its, rv, .inr hl, hz⟩
  obtain ⟨k, hkk⟩ : ∃ k : V → Int × Int, ∀ y ∈ ys, ∀ t i j, y = .ref t → SqT X.K H t [.int i, .int j] → k y = (i, j) := by
    refine ⟨fun y => if h : ∃ p : Int × Int, ∃ t, y = .ref t ∧ SqT X.K H t [.int p.1, .int p.2] then h.choose else (0, 0), fun y hy2 t i j e1 e2 => ?_⟩
    have h : ∃ p : Int × Int, ∃ t, y = .ref t ∧ SqT X.K H t [.int p.1, .int p.2] := ⟨(i, j), t, e1, e2⟩
    dsimp only
    rw [dif_pos h]
    obtain ⟨t2, e3, e4⟩ := h.choose_spec
    rw [e1] at e3
    cases e3
    have z := I.tuple_inj e4 e2
    simp only [List.cons.injEq, V.int.injEq, and_true] at z
    exact Prod.ext z.1 z.2
  obtain ⟨e1, e2⟩ := refs_back rv fun x m => by
    obtain ⟨t, _, _, e, _⟩ := hy x m
    exact ⟨t, e⟩
  have hp : ∀ v ∈ its, Srt.IsPair s.heap v (k (backV v)).1 (k (backV v)).2 := fun v hv => by
    obtain ⟨t, rfl⟩ := e2 v hv
    have hm : V.ref t ∈ ys := by rw [e1]; exact List.mem_map.mpr ⟨_, hv, rfl⟩
    obtain ⟨t', i, j, e, ht⟩ := hy _ hm
    cases e
    have ek := hkk _ hm t i j rfl ht
    have ek2 : k (backV (Value.ref t)) = (i, j) := ek
    rw [ek2]
    obtain ⟨its2, r2, ⟨o, ho, hc, n, hd⟩, _⟩ := I.tuple ht
    obtain ⟨u1, u2, rfl, ri, rj⟩ := vals2 r2
    obtain ⟨t1, rfl⟩ := ri
    obtain ⟨t2, rfl⟩ := rj
    exact ⟨t, o, t1, t2, n, rfl, ho, hc, hd⟩
  have fin : ∀ (h' : Heap) (d c : Nat) (out : List Value), SrtO.Srtd (fun u v => SrtO.lexB (k (backV u)) (k (backV v))) out → SrtO.Stb (fun u v => SrtO.lexB (k (backV u)) (k (backV v))) out (if b = true then its.reverse else its) → (∀ b o, s.heap.get? b = some o → h'.get? b = some o) → s.heap.objs.size ≤ d →
      h'.get? d = some (PyProof.Rows.seqObj "list" (if b = true then out.toArray.reverse else out.toArray) c) → EP X pins σ Q (.ref d) { s with heap := h' } := by
    intro h' d c out h1 h2 keep hd he'
    have h2p : out.Perm its := h2.perm.trans (by cases b <;> simp [List.reverse_perm])
    have h3 : ∀ u ∈ out, ∃ a, u = Value.ref a := fun u hu => e2 u (h2p.mem_iff.mp hu)
    obtain ⟨res, er⟩ : ∃ res, res = if b = true then out.reverse else out := ⟨_, rfl⟩
    have rp : res.Perm out := by rw [er]; cases b <;> simp [List.reverse_perm]
    have h4 : ∀ u ∈ res, ∃ a, u = Value.ref a := fun u hu => h3 u (rp.mem_iff.mp hu)
    have hb : (res.map backV).Perm ys := by
      rw [e1]
      exact (rp.trans h2p).map backV
    have ea : (if b = true then out.toArray.reverse else out.toArray) = res.toArray := by
      rw [er]
      cases b
      · rfl
      · simp
    rw [ea] at he'
    have hlen : (res.map backV).length ≤ sizeLine := by rw [hb.length_eq]; exact hz
    have hs2 : SrtO.Srtd (ltP k) (if b then (res.map backV).reverse else res.map backV) := by
      have e : (if b = true then (res.map backV).reverse else res.map backV) = out.map backV := by
        rw [er]; cases b <;> simp
      rw [e]
      exact SrtO.srtd_map h1
    exact ⟨.ref _, upd H d (.lst (res.map backV)), I.laid (t' := s.toks) keep hd ⟨hlen, res, c, vals_back h4, he'⟩, rfl, q _ _ _ hkk hb hs2 (I.hok.fresh hd)⟩
  rcases hl with ⟨hl, _⟩ | hl
  · refine SrtR.sorted_ordK hk ha1 ha2 (SrtO.swo_lex fun u => k (backV u)) hl (by rw [← rv.length]; exact hz) (fun h2 h₁ a' ha' kk => SrtO.pairs_sortableO (by omega) (fun v hm => (hp v hm).keeps fun b o e _ => (kk b o e).2) fun o e => ?_) fun out h1 h2 => ?_
    · have e' : some o = some (PyProof.Rows.seqObj "list" its.toArray 0) := e.symm.trans ha'
      cases e'
      intro c
      exact absurd (Value.type.inj c) (by decide)
    · obtain ⟨ep, he'⟩ := PyProof.Rows.sortedAll_at s.heap its (if b = true then out.toArray.reverse else out.toArray)
      exact fin _ _ ep out h1 h2 (fun _ _ => PyProof.Rows.sortedAll_old) (Nat.le_succ _) he'
  · refine sorted_tupK hk ha1 ha2 (SrtO.swo_lex fun u => k (backV u)) hl (by rw [← rv.length]; exact hz) (fun h2 h₁ a' ha' kk => SrtO.pairs_sortableO (by omega) (fun v hm => (hp v hm).keeps fun b o e _ => (kk b o e).2) fun o e => ?_) fin
    have e' : some o = some (PyProof.Rows.seqObj "list" its.toArray 0) := e.symm.trans ha'
    cases e'
    intro c
    exact absurd (Value.type.inj c) (by decide)
theorem sort_no_kw (a : Addr) : Builtin.«list.sort» ⟨[.ref a], []⟩ = Builtin.«list.sort» ⟨[.ref a], [(Str.ofString "reverse", .bool false)]⟩ := by
  rw [list_sort_rev]
  first | rfl | kernel_rfl
theorem cr_sortP : CallR X (.builtin "sorted") (rSortP X.K false) := by
  intro pins s σ H vs us Q I r h
  obtain ⟨a, ys, rfl, hs, hy, q⟩ := h
  obtain rfl := Vals.ref1 r
  exact sortP_run I hs hy sort_no_kw (PyProof.Rows.args_sorted1 _) (fun _ => PyProof.Rows.args_list_sort _) q
theorem cr_sortPRev {b : Bool} : CallRK X (.builtin "sorted") [Str.ofString "reverse"] fun vs zs H Q => zs = [.bl b] ∧ rSortP X.K b vs H Q := by
  intro pins s σ H vs zs us ws Q I r rz h
  obtain ⟨rfl, a, ys, rfl, hs, hy, q⟩ := h
  obtain rfl := Vals.ref1 r
  obtain ⟨w1, rfl, e1⟩ := vals1 rz
  obtain rfl : w1 = Value.bool b := e1
  exact sortP_run I hs hy (fun _ => rfl) (PyProof.Rows.args_sorted_rev _ _) (fun _ => PyProof.Rows.args_list_sort_rev _ _) q
/-! ### as trees -/
variable {G : Cfg}
abbrev prI (p : Int × Int) : D := .tup [.int p.1, .int p.2]
def pairsD : List D → Option (List (Int × Int))
  | [] => some []
  | .tup [.int i, .int j] :: r => (pairsD r).map ((i, j) :: ·)
  | _ => none
theorem pairsD_map : ∀ (ps : List (Int × Int)), pairsD (ps.map prI) = some ps
  | [] => rfl
  | p :: ps => by
    show (pairsD (ps.map prI)).map _ = _
    rw [pairsD_map ps]; rfl
theorem pairsD_of : ∀ {ds : List D} {ps : List (Int × Int)}, pairsD ds = some ps → ds = ps.map prI
  | [], ps, h => by cases h; rfl
  | d :: r, ps, h => by
    unfold pairsD at h
    split at h
    · rename_i e; cases e
    · rename_i i j r' e
      cases e
      cases hr : pairsD r with
      | none => rw [hr] at h; cases h
      | some qs =>
        rw [hr] at h
        cases h
        rw [pairsD_of hr]; rfl
    · cases h
theorem RepL.perm {K : PySem.W.Frag} {F : Hp} {vs ws : List V} (h : ws.Perm vs) : ∀ {ds : List D}, RepL G K F vs ds → ∃ es, es.Perm ds ∧ RepL G K F ws es := by
  induction h with
  | nil => intro ds r; cases r; exact ⟨[], .refl _, .nil⟩
  | cons x h ih => 
    intro ds r
    cases r with
    | cons r1 r2 =>
      obtain ⟨es, p, q⟩ := ih r2
      exact ⟨_ :: es, p.cons _, .cons r1 q⟩
  | swap x y l =>
    intro ds r
    cases r with
    | cons r1 r2 =>
      cases r2 with
      | cons r3 r4 => exact ⟨_ :: _ :: _, .swap _ _ _, .cons r3 (.cons r1 r4)⟩
  | trans h1 h2 ih1 ih2 =>
    intro ds r
    obtain ⟨es, p, q⟩ := ih2 r
    obtain ⟨fs, p2, q2⟩ := ih1 q
    exact ⟨fs, p2.trans p, q2⟩
theorem pair_rep {K : PySem.W.Frag} {F : Hp} {v : V} {p : Int × Int} (r : Rep G K F v (prI p)) : ∃ t, v = .ref t ∧ SqT K F t [.int p.1, .int p.2] := by
  cases r with
  | tup h1 r2 =>
    have e := RepL.ints (ns := [p.1, p.2]) r2
    subst e
    exact ⟨_, rfl, SqT.of h1⟩
theorem RepL.of_mem {K : PySem.W.Frag} {F : Hp} : ∀ {vs : List V} {ds : List D} {v : V}, RepL G K F vs ds → v ∈ vs → ∃ d ∈ ds, Rep G K F v d
  | _, _, v, .nil, h => nomatch h
  | _, _, v, .cons r t, h => by
    rcases List.mem_cons.mp h with e | h
    · subst e; exact ⟨_, List.mem_cons_self, r⟩
    · obtain ⟨d, h1, h2⟩ := RepL.of_mem t h
      exact ⟨d, List.mem_cons_of_mem _ h1, h2⟩
theorem perm_pairs {ps : List (Int × Int)} {es : List D} (h : es.Perm (ps.map prI)) : ∃ qs : List (Int × Int), qs.Perm ps ∧ es = qs.map prI := by
  have hall : ∀ d ∈ es, ∃ p, d = prI p := fun d hd => by
    obtain ⟨p, _, e⟩ := List.mem_map.mp (h.mem_iff.mp hd)
    exact ⟨p, e.symm⟩
  obtain ⟨g, hg⟩ : ∃ g : D → Int × Int, ∀ p, g (prI p) = p := ⟨fun d => match d with | .tup [.int i, .int j] => (i, j) | _ => (0, 0), fun p => rfl⟩
  refine ⟨es.map g, ?_, ?_⟩
  · have z := h.map g
    rw [List.map_map] at z
    have e : (g ∘ prI) = id := funext hg
    rw [e, List.map_id] at z
    exact z
  · rw [List.map_map]
    refine (List.map_id es).symm.trans (List.map_congr_left fun d hd => ?_)
    obtain ⟨p, e⟩ := hall d hd
    show d = prI (g d)
    rw [e, hg]
theorem srtd_pairs {K : PySem.W.Frag} {F : Hp} {k : V → Int × Int} : ∀ {vs : List V} {ps : List (Int × Int)}, RepL G K F vs (ps.map prI) → (∀ v ∈ vs, ∀ p, Rep G K F v (prI p) → k v = p) → vs.map k = ps
  | [], [], _, _ => rfl
  | _, [], .nil, _ => rfl
  | _, p :: ps, .cons r t, h => by
    rw [List.map_cons, h _ List.mem_cons_self p r, srtd_pairs t fun v hv => h v (List.mem_cons_of_mem _ hv)]
/-- lexicographic order -/
abbrev lexLe (p q : Int × Int) : Prop := SrtO.lexB q p = false
theorem sim_sortP_aux {K : PySem.W.Frag} {b : Bool} {F : Hp} {M : MM} {H : Hp} {v : V} {d : D} {ds : List D} {ps : List (Int × Int)} {Q : D → MM → Prop} {P : VK} (hm : HM G K F M H) (r : Rep G K F v d) (e : seqOf M d = some ds) (ep : pairsD ds = some ps)
    (w : ∀ qs : List (Int × Int), qs.Perm ps → (if b then qs.reverse else qs).Pairwise lexLe → Q (.lst (qs.map prI)) M) (f : Fin G K F M H Q P) : rSortP K b [v] H P := by
  obtain ⟨a, vs, rfl, ha, rl⟩ := seqOf_rep hm r e
  have ed := pairsD_of ep
  subst ed
  have tup : ∀ y ∈ vs, ∃ p : Int × Int, ∃ t, y = .ref t ∧ SqT K F t [.int p.1, .int p.2] := fun y hy => by
    obtain ⟨d, hd, r⟩ := rl.of_mem hy
    obtain ⟨p, _, rfl⟩ := List.mem_map.mp hd
    exact ⟨p, pair_rep r⟩
  refine ⟨a, vs, rfl, ha, fun y hy => ?_, fun k zs p hk hp hs hn => ?_⟩
  · obtain ⟨p, t, e1, e2⟩ := tup y hy
    exact ⟨t, p.1, p.2, e1, sqT_up hm.sub e2⟩
  · obtain ⟨es, pe, re⟩ := rl.perm hp
    obtain ⟨qs, pq, rfl⟩ := perm_pairs pe
    have ek : zs.map k = qs := srtd_pairs re fun v hv p hr => by
      obtain ⟨t, e1, e2⟩ := pair_rep hr
      exact hk v (hp.mem_iff.mp hv) t _ _ e1 (sqT_up hm.sub e2)
    have g := hm.new (o := .lst zs) hn
    refine f _ _ _ _ _ g (.lst upd_same (re.mono g.ext)) (w qs pq ?_)
    rw [← ek]
    have hs' : (if b = true then zs.reverse else zs).Pairwise fun x y => SrtO.lexB (k y) (k x) = false := hs
    cases b
    · exact List.pairwise_map.mpr hs'
    · show ((zs.map k).reverse).Pairwise lexLe
      rw [← List.map_reverse]
      exact List.pairwise_map.mpr hs'
/-- sorted(pairs) -/
@[irreducible] def wSortP : WR1 := fun ds M Q => match ds with
  | [d] => match seqOf M d with
    | some xs => match pairsD xs with
      | some ps => ∀ qs : List (Int × Int), qs.Perm ps → qs.Pairwise lexLe → Q (.lst (qs.map prI)) M
      | none => False
    | none => False
  | _ => False
theorem at_sortP {Q : D → MM → Prop} {M : MM} {d : D} {ps : List (Int × Int)} (h : seqOf M d = some (ps.map prI)) (q : ∀ qs : List (Int × Int), qs.Perm ps → qs.Pairwise lexLe → Q (.lst (qs.map prI)) M) : wSortP [d] M Q := by
  unfold wSortP; dsimp only; rw [h]; dsimp only; rw [pairsD_map]; exact q
theorem sim_sortP {K : PySem.W.Frag} : SimC G K (rSortP K false) wSortP := by
  intro F M H vs ds Q P hm r w f
  unfold wSortP at w
  split at w
  · split at w
    · split at w
      · rename_i d _ xs e _ ps ep
        obtain ⟨v, rfl, r1⟩ := one_rep r
        exact sim_sortP_aux (b := false) hm r1 e ep w f
      · exact w.elim
    · exact w.elim
  · exact w.elim
/-- sorted(pairs, reverse = True) -/
@[irreducible] def wSortPR : WR1K := fun ds es M Q => match ds, es with
  | [d], [.bl true] => match seqOf M d with
    | some xs => match pairsD xs with
      | some ps => ∀ qs : List (Int × Int), qs.Perm ps → qs.reverse.Pairwise lexLe → Q (.lst (qs.map prI)) M
      | none => False
    | none => False
  | _, _ => False
theorem at_sortPR {Q : D → MM → Prop} {M : MM} {d : D} {ps : List (Int × Int)} (h : seqOf M d = some (ps.map prI)) (q : ∀ qs : List (Int × Int), qs.Perm ps → qs.reverse.Pairwise lexLe → Q (.lst (qs.map prI)) M) : wSortPR [d] [.bl true] M Q := by
  unfold wSortPR; dsimp only; rw [h]; dsimp only; rw [pairsD_map]; exact q
theorem sim_sortPR {K : PySem.W.Frag} : SimCK G K (fun vs zs H Q => zs = [.bl true] ∧ rSortP K true vs H Q) wSortPR := by
  intro F M H vs zs ds es Q P hm r rk w f
  unfold wSortPR at w
  split at w
  · split at w
    · split at w
      · rename_i d _ xs e _ ps ep
        obtain ⟨v, rfl, r1⟩ := one_rep r
        obtain ⟨z, rfl, r2⟩ := one_rep rk
        cases r2
        exact ⟨rfl, sim_sortP_aux (b := true) hm r1 e ep w f⟩
      · exact w.elim
    · exact w.elim
  · exact w.elim
end
end DL

set_option Elab.async false
set_option linter.all false
set_option maxRecDepth 100000
/-! a dict with tuples for keys: {}, d[a, b] = v, list(d), d[t] -/
namespace DL
open PySem PySem.Spec L2
open PyProof.Rows hiding St
section
variable {G : Cfg} {X : Cx} {e o i value : Expr} {es : List Expr}
def wDNewT : WE := fun _ M Q _ => ∀ p, M p = none → Q (.raw (.ref p)) (updM M p (.dcT []))
theorem de_dnewT {pos : Pos} : DE G X (.Dict [] [] pos) wDNewT := by
  refine pe_imp pe_dnewT fun σ H P ⟨F, M, δ, Q, EX, hm, rs, h, tk, f⟩ p hp => ?_
  have g := hm.newM (o := .dT []) (m := .dcT []) hp ⟨[], upd_same, .nil⟩
  exact f _ _ _ _ _ g (.raw _) (h p (hm.free hp).2)
def keysD (ds : List D) : Option (List Key) := ds.mapM keyD
theorem keysD_nil : keysD [] = some [] := rfl
theorem keysD_rep {K : PySem.W.Frag} {F : Hp} : ∀ {vs : List V} {ds : List D} {ks : List Key}, RepL G K F vs ds → keysD ds = some ks → vs = ks.map kV
  | _, _, _, .nil, e => by cases e; rfl
  | _, _, _, .cons (d := d) (ds := ds) r t, e => by
    unfold keysD at e
    rw [List.mapM_cons] at e
    cases e1 : keyD d with
    | none => rw [e1] at e; cases e
    | some k =>
      cases e2 : List.mapM keyD ds with
      | none => rw [e1, e2] at e; cases e
      | some ks =>
        rw [e1, e2] at e
        cases e
        rw [keyD_rep r e1, keysD_rep t e2]; rfl
theorem keysD_ints2 (a b : Int) : keysD [.int a, .int b] = some [.inl a, .inl b] := rfl
def valT (kvs : List (List Key × D)) (k : List Key) : Option D := (kvs.find? fun kv => decide (kv.1 = k)).map (·.2)
def putT (kvs : List (List Key × D)) (k : List Key) (v : D) : List (List Key × D) := if (kvs.any fun kv => decide (kv.1 = k)) = true then kvs.map (fun kv => if kv.1 = k then (kv.1, v) else kv) else kvs ++ [(k, v)]
theorem RepT.len {K : PySem.W.Frag} {F : Hp} : ∀ {vs : List (List Key × V)} {ds : List (List Key × D)}, RepT G K F vs ds → vs.length = ds.length
  | _, _, .nil => rfl
  | _, _, .cons _ t => congrArg Nat.succ (RepT.len t)
theorem RepT.app {K : PySem.W.Frag} {F : Hp} : ∀ {vs ws : List (List Key × V)} {ds es : List (List Key × D)}, RepT G K F vs ds → RepT G K F ws es → RepT G K F (vs ++ ws) (ds ++ es)
  | _, _, _, _, .nil, s => s
  | _, _, _, _, .cons r t, s => .cons r (RepT.app t s)
theorem RepT.any {K : PySem.W.Frag} {F : Hp} {k : List Key} : ∀ {vs : List (List Key × V)} {ds : List (List Key × D)}, RepT G K F vs ds → (vs.any fun kv => decide (kv.1 = k)) = ds.any fun kv => decide (kv.1 = k)
  | _, _, .nil => rfl
  | _, _, .cons _ t => by rw [List.any_cons, List.any_cons, RepT.any t]
theorem RepT.map {K : PySem.W.Frag} {F : Hp} {k : List Key} {v : V} {d : D} (rv : Rep G K F v d) : ∀ {vs : List (List Key × V)} {ds : List (List Key × D)}, RepT G K F vs ds → RepT G K F (vs.map fun kv => if kv.1 = k then (kv.1, v) else kv) (ds.map fun kv => if kv.1 = k then (kv.1, d) else kv)
  | _, _, .nil => .nil
  | (k', v') :: vs, (_, d') :: ds, .cons r t => by
    rw [List.map_cons, List.map_cons]
    by_cases h : k' = k
    · rw [if_pos h, if_pos h]; exact .cons rv (RepT.map rv t)
    · rw [if_neg h, if_neg h]; exact .cons r (RepT.map rv t)
theorem RepT.put {K : PySem.W.Frag} {F : Hp} {k : List Key} {v : V} {d : D} {vs : List (List Key × V)} {ds : List (List Key × D)} (r : RepT G K F vs ds) (rv : Rep G K F v d) : RepT G K F (putK vs k v) (putT ds k d) := by
  unfold putK putT
  rw [r.any]
  split
  · exact r.map rv
  · exact r.app (.cons rv .nil)
theorem RepT.val {K : PySem.W.Frag} {F : Hp} {k : List Key} : ∀ {vs : List (List Key × V)} {ds : List (List Key × D)} {d : D}, RepT G K F vs ds → valT ds k = some d → ∃ v, valV vs k = some v ∧ Rep G K F v d
  | _, _, _, .nil, e => by cases e
  | (k', v) :: vs, (_, d') :: ds, d, .cons r t, e => by
    unfold valT at e
    unfold valV
    by_cases h : k' = k
    · rw [List.find?_cons_of_pos (by simpa using h)] at e ⊢
      cases e
      exact ⟨v, rfl, r⟩
    · rw [List.find?_cons_of_neg (by simpa using h)] at e ⊢
      exact RepT.val t e
/-- d[a, b] = v -/
@[irreducible] def kDPutT (nx : MM → Prop) (v o : D) (ds : List D) (M3 : MM) : Prop := match o, keysD ds with
  | .raw (.ref a), some k => match M3 a with
    | some (.dcT kvs) => kvs.length < sizeLine ∧ ds.length ≤ sizeLine ∧ nx (updM M3 a (.dcT (putT kvs k v)))
    | _ => False
  | _, _ => False
def wDPutT (wv wo : WE) (wi : WA) : WS := fun E EX δ M => wv δ M (fun v M1 => wo δ M1 (fun o M2 => wi δ M2 (fun ds M3 => kDPutT (E.nx δ) v o ds M3) EX) EX) EX
theorem ds_dputT {wv wo : WE} {wi : WA} {pos pos' tpos : Pos} {x1} (hu : X.A.units + 1 < cLine) (he : DE G X value wv) (ho : DE G X o wo) (hi : DA G X es wi) (hs : swapsWith value (some (.Subscript o (.Tuple es x1 tpos) pos')) pos.line X.env = pure false := by rfl) : DSt G X (.Assign [.Subscript o (.Tuple es x1 tpos) pos'] value pos) (wDPutT wv wo wi) := by
  refine ps_imp (ps_dput hu ho (pe_tup hi) he hs) fun D σ H ⟨F, M, δ, E, EX, hm, rs, h, tk, n, r, b, c⟩ => ?_
  refine ⟨F, M, δ, _, EX, hm, rs, h, tk, fun v d F1 M1 H1 g1 r1 h1 => ?_⟩
  refine ⟨F1, M1, δ, _, EX, g1.hm, rs.mono g1.ext, h1, tk.imp (wX_mono g1), fun v2 d2 F2 M2 H2 g2 r2 h2 => ?_⟩
  have g12 := g1.trans g2
  refine ⟨F2, M2, δ, _, EX, g2.hm, rs.mono g12.ext, h2, tk.imp (wX_mono g12), fun vs ds F3 M3 H3 g3 r3 h3 => ?_⟩
  have g123 := g12.trans g3
  try dsimp only at h3
  unfold kDPutT at h3
  split at h3
  · rename_i a k ek
    cases r2
    split at h3
    · rename_i kvs ea
      have e4 := keysD_rep r3 ek
      subst e4
      obtain ⟨h4, h5, h6⟩ := h3
      refine ⟨by rw [r3.len]; exact h5, fun p hp => ?_⟩
      have gp := g3.hm.new (o := .tup (k.map kV)) hp
      obtain ⟨zs, hz, rz⟩ := gp.hm.mo a _ ea
      refine ⟨a, _, rfl, .inr ⟨zs, k, p, hz, rfl, upd_same, by rw [rz.len]; exact h4, rfl⟩, ?_⟩
      have g4 := gp.hm.put (o := .dT (putK zs k v)) (m' := .dcT (putT kvs k d)) ea ⟨_, upd_same, rz.put ((r1.mono ((g2.trans g3).ext)).mono gp.ext)⟩
      exact n σ δ _ _ _ ((g123.trans gp).trans g4) ((rs.mono g123.ext).mono gp.ext) h6
    · exact h3.elim
  · exact h3.elim
theorem at_dputT {nx : MM → Prop} {v : D} {a : Addr} {ds : List D} {k : List Key} {kvs : List (List Key × D)} {M : MM} (ea : M a = some (.dcT kvs)) (ek : keysD ds = some k) (h : kvs.length < sizeLine ∧ ds.length ≤ sizeLine) (q : nx (updM M a (.dcT (putT kvs k v)))) : kDPutT nx v (.raw (.ref a)) ds M := by
  unfold kDPutT
  rw [ek]
  dsimp only
  rw [ea]
  exact ⟨h.1, h.2, q⟩
/-- tuples that were not claimed are claimed -/
def claimT (F H : Hp) (bs : List Addr) : Hp := fun b => match F b with
  | some o => some o
  | none => if b ∈ bs then H b else none
theorem HM.claim {K : PySem.W.Frag} {F : Hp} {M : MM} {H : Hp} {bs : List Addr} (hm : HM G K F M H) (ht : ∀ b ∈ bs, ∃ vs, H b = some (.tup vs)) : Grow G K F M H (claimT F H bs) M H := by
  have s1 : Same F (claimT F H bs) := fun b o q => by unfold claimT; rw [q]
  have noM : ∀ b ∈ bs, M b = none := fun b hb => by
    obtain ⟨vs, e⟩ := ht b hb
    cases q : M b with
    | none => rfl
    | some m =>
      have z := hm.mo b m q
      cases m with
      | lst ds => obtain ⟨_, z1, _⟩ := z; rw [e] at z1; cases z1
      | dct ds => obtain ⟨_, z1, _⟩ := z; rw [e] at z1; cases z1
      | ins c fs => obtain ⟨_, _, z1, _⟩ := z; rw [e] at z1; cases z1
      | dcT ds => obtain ⟨_, z1, _⟩ := z; rw [e] at z1; cases z1
  have ntb : ∀ q ∈ G.tabs, q.1 ∉ bs := fun q hq hb => by
    obtain ⟨vs, e⟩ := ht _ hb
    exact hm.ntab e (fun _ z => by cases z) q hq rfl
  refine ⟨⟨fun b o q => ?_, fun b m q => ?_, fun b m q => (hm.mo b m q).mono s1 rfl, fun q hq => ?_⟩, s1, fun b o q f m => .inr ⟨q, ?_, m⟩, hm.tab0⟩
  · unfold claimT at q
    split at q
    · rename_i o' e
      cases q
      exact hm.sub _ _ e
    · split at q
      · exact q
      · cases q
  · unfold claimT
    rw [hm.dis b m q]
    dsimp only
    by_cases hb : b ∈ bs
    · rw [noM b hb] at q; cases q
    · rw [if_neg hb]
  · obtain ⟨h1, h2, h3⟩ := hm.tb q hq
    refine ⟨?_, h2, h3.mono s1 rfl⟩
    unfold claimT
    rw [h1]
    exact if_neg (ntb q hq)
  · unfold claimT
    rw [f]
    dsimp only
    by_cases hb : b ∈ bs
    · rw [if_pos hb]
      obtain ⟨vs, e⟩ := ht b hb
      exact .inr ⟨q, vs, by rw [e] at q; cases q; rfl⟩
    · rw [if_neg hb]; exact .inl rfl
theorem claim_at {K : PySem.W.Frag} {F : Hp} {M : MM} {H : Hp} {bs : List Addr} {b : Addr} {vs : List V} (hm : HM G K F M H) (hb : b ∈ bs) (h : H b = some (.tup vs)) : claimT F H bs b = some (.tup vs) := by
  unfold claimT
  cases q : F b with
  | none => dsimp only; rw [if_pos hb]; exact h
  | some o =>
    dsimp only
    have z := hm.sub _ _ q
    rw [h] at z
    exact z.symm
def kD : Key → D
  | .inl i => .int i
  | .inr x => .str x
theorem kD_rep {K : PySem.W.Frag} {F : Hp} : ∀ (ks : List Key), RepL G K F (ks.map kV) (ks.map kD)
  | [] => .nil
  | .inl i :: ks => .cons (.int i) (kD_rep ks)
  | .inr x :: ks => .cons (.str x) (kD_rep ks)
/-- list(d) -/
@[irreducible] def wKeysT : WR1 := fun ds M Q => match ds with
  | [.raw (.ref a)] => match M a with
    | some (.dcT kvs) => Q (.lst (kvs.map fun kv => .tup (kv.1.map kD))) M
    | _ => False
  | _ => False
theorem at_keysT {Q : D → MM → Prop} {M : MM} {a : Addr} {kvs : List (List Key × D)} (ea : M a = some (.dcT kvs)) (q : Q (.lst (kvs.map fun kv => .tup (kv.1.map kD))) M) : wKeysT [.raw (.ref a)] M Q := by
  unfold wKeysT; dsimp only; rw [ea]; exact q
theorem keys_rep {K : PySem.W.Frag} {F H : Hp} {F' : Hp} : ∀ {vs : List (List Key × V)} {ds : List (List Key × D)} {bs : List Addr}, RepT G K F vs ds → IsKeys H vs bs → (∀ b ∈ bs, ∀ xs, H b = some (.tup xs) → F' b = some (.tup xs)) → RepL G K F' (bs.map V.ref) (ds.map fun kv => .tup (kv.1.map kD))
  | _, _, _, .nil, .nil, _ => .nil
  | _, _, _, .cons r t, .cons h1 h2, h => .cons (.tup (h _ List.mem_cons_self _ h1) (kD_rep _)) (keys_rep t h2 fun b hb => h b (List.mem_cons_of_mem _ hb))
theorem keys_tup {H : Hp} : ∀ {vs : List (List Key × V)} {bs : List Addr}, IsKeys H vs bs → ∀ b ∈ bs, ∃ xs, H b = some (.tup xs)
  | _, _, .nil, b, h => nomatch h
  | _, _, .cons h1 h2, b, h => by
    rcases List.mem_cons.mp h with e | h
    · subst e; exact ⟨_, h1⟩
    · exact keys_tup h2 b h
abbrev rKeysT : List V → Hp → VK → Prop := fun xs H Q => ∃ d kvs, xs = [V.ref d] ∧ Rd H d (.dT kvs) ∧ ∀ p bs, H p = none → IsKeys H kvs bs → Q (.ref p) (upd H p (.lst (bs.map V.ref)))
theorem sim_keysT {K : PySem.W.Frag} : SimC G K rKeysT wKeysT := by
  intro F M H vs ds Q P hm r w f
  unfold wKeysT at w
  split at w
  · rename_i a
    split at w
    · rename_i kvs ea
      obtain ⟨v, rfl, r1⟩ := one_rep r
      cases r1
      obtain ⟨zs, hz, rz⟩ := hm.mo a _ ea
      refine ⟨a, zs, rfl, .inl hz, fun p bs hp hk => ?_⟩
      have g1 := hm.claim (keys_tup hk)
      have g2 := g1.hm.new (o := .lst (bs.map V.ref)) hp
      exact f _ _ _ _ _ (g1.trans g2) (.lst upd_same ((keys_rep rz hk fun b hb xs e => claim_at hm hb e).mono g2.ext)) w
    · exact w.elim
  · exact w.elim
end
end DL

set_option Elab.async false
set_option linter.all false
set_option maxRecDepth 100000
/-! yield from a tuple; d[t] of a dict with tuples for keys -/
namespace DL
open PySem PySem.Spec L2
open PyProof.Rows hiding St
section
variable {G : Cfg} {X : Cx} {e o i : Expr}
@[irreducible] def kgFrom (E : GED) (ys : List D) (δ : DS) (d : D) (M1 : MM) : Prop := match d with
  | .tup xs => ys.length + xs.length ≤ sizeLine ∧ E.nx (ys ++ xs) δ M1
  | _ => False
def wgFrom (we : WE) : WG := fun E ys δ M => we δ M (fun d M1 => kgFrom E ys δ d M1) noX
theorem at_gfrom {E : GED} {ys xs : List D} {δ : DS} {M1 : MM} (h : ys.length + xs.length ≤ sizeLine) (q : E.nx (ys ++ xs) δ M1) : kgFrom E ys δ (.tup xs) M1 := by unfold kgFrom; exact ⟨h, q⟩
theorem dg_from {we : WE} {yp pos : Pos} (h : DE G X e we) (hc : X.A.handled = none) (hi : interactive X.env = false := by rfl) : DG G X (.Expr (.YieldFrom e yp) pos) (wgFrom we) := by
  refine gs_imp (gs_yieldFrom (yf_tup h) hc hi) fun D ys σ H ⟨F, M, δ, E, dys, hm, rs, ry, h, n, r, b, c⟩ => ?_
  refine ⟨F, M, δ, _, noX, hm, rs, h, takes_no, fun v d F1 M1 H1 g r1 q => ?_⟩
  dsimp only at q
  unfold kgFrom at q
  split at q
  · cases r1 with
    | tup h1 r2 =>
      refine ⟨_, _, rfl, g.hm.sub _ _ h1, by rw [ry.len, r2.len]; exact q.1, ?_⟩
      exact n _ _ σ δ F1 M1 H1 g (rs.mono g.ext) ((ry.mono g.ext).app r2) q.2
  · exact q.elim
@[irreducible] def kDGetT (Q : D → MM → Prop) (o i : D) (M2 : MM) : Prop := match o, i with
  | .raw (.ref a), .tup ds => match M2 a, keysD ds with
    | some (.dcT kvs), some k => match valT kvs k with
      | some d => Q d M2
      | none => False
    | _, _ => False
  | _, _ => False
def wDGetT (wo wi : WE) : WE := fun δ M Q EX => wo δ M (fun o M1 => wi δ M1 (fun i M2 => kDGetT Q o i M2) EX) EX
theorem at_dgetT {Q : D → MM → Prop} {a : Addr} {ds : List D} {k : List Key} {kvs : List (List Key × D)} {d : D} {M2 : MM} (ea : M2 a = some (.dcT kvs)) (ek : keysD ds = some k) (ev : valT kvs k = some d) (q : Q d M2) : kDGetT Q (.raw (.ref a)) (.tup ds) M2 := by
  unfold kDGetT; dsimp only; rw [ea, ek]; dsimp only; rw [ev]; exact q
theorem de_dgetT {wo wi : WE} {pos} (hu : X.A.units + 1 < cLine) (ho : DE G X o wo) (hi : DE G X i wi) (hs : NoSl i) : DE G X (.Subscript o i pos) (wDGetT wo wi) := by
  refine pe_imp (pe_dget hu ho hi hs) fun σ H P ⟨F, M, δ, Q, EX, hm, rs, h, tk, f⟩ => ?_
  refine ⟨F, M, δ, _, EX, hm, rs, h, tk, fun v d F1 M1 H1 g1 r1 h1 => ?_⟩
  refine ⟨F1, M1, δ, _, EX, g1.hm, rs.mono g1.ext, h1, tk.imp (wX_mono g1), fun v2 d2 F2 M2 H2 g2 r2 h2 => ?_⟩
  try dsimp only at h2
  unfold kDGetT at h2
  split at h2
  · rename_i a ds
    split at h2
    · rename_i kvs k ea ek
      split at h2
      · rename_i d3 e3
        cases r1
        cases r2 with
        | tup t1 t2 =>
          have e4 := keysD_rep t2 ek
          subst e4
          obtain ⟨zs, hz, rz⟩ := g2.hm.mo a _ ea
          obtain ⟨v3, e5, r3⟩ := rz.val e3
          refine ⟨a, v3, rfl, ?_, f _ _ _ _ _ (g1.trans g2) r3 h2⟩
          rw [← e5]
          exact DGet.t hz (g2.hm.sub _ _ t1)
      · exact h2.elim
    · exact h2.elim
  · exact h2.elim
end
end DL

set_option Elab.async false
set_option linter.all false
set_option maxRecDepth 100000
/-! slices of lists with a step -/
namespace DL
open PySem PySem.Spec L2 PyProof.Rows
/-- the items that a slice picks -/
def pickL {α : Type} (xs : List α) (lo hi st : Option Int) : List α := (sliceRange (sliceBounds lo hi st xs.length).1 (sliceBounds lo hi st xs.length).2.1 (sliceBounds lo hi st xs.length).2.2).filterMap (xs[·]?)
theorem pick_arr (its : List Value) (lo hi st : Option Int) : slicePick its.toArray lo hi st = (pickL its lo hi st).toArray := by
  unfold slicePick pickL
  rw [List.size_toArray]
  have e : (fun (i : Nat) => its.toArray[i]?) = fun (i : Nat) => its[i]? := by funext i; simp
  rw [e]
theorem vals_pickR {xs : List V} {its : List Value} (r : Vals xs its) : ∀ (ks : List Nat), Vals (ks.filterMap (xs[·]?)) (ks.filterMap (its[·]?))
  | [] => .nil
  | k :: ks => by
    rw [List.filterMap_cons, List.filterMap_cons]
    cases e : xs[k]? with
    | none =>
      have e2 : its[k]? = none := by
        rw [List.getElem?_eq_none_iff] at e ⊢
        rw [← r.length]; exact e
      rw [e2]
      exact vals_pickR r ks
    | some x =>
      obtain ⟨u, hu, ru⟩ := r.get e
      rw [hu]
      exact .cons ru (vals_pickR r ks)
theorem vals_pick {xs : List V} {its : List Value} (r : Vals xs its) (lo hi st : Option Int) : Vals (pickL xs lo hi st) (pickL its lo hi st) := by
  unfold pickL
  rw [r.length]
  exact vals_pickR r _
section
variable {X : Cx} {e : Expr} {te : TE} {tl tu ts : TO} {lo hi st : Option Expr} {p2 pos : Pos}
def tPick (K : PySem.W.Frag) (te : TE) (tl tu ts : TO) : TE := fun σ H Q => te σ H fun x H1 => tl σ H1 fun l H2 => tu σ H2 fun u H3 => ts σ H3 fun s H4 => s ≠ some 0 ∧ ∃ a xs, x = .ref a ∧ SqL K H4 a xs ∧ ∀ p, H4 p = none → Q (.ref p) (upd H4 p (.lst (pickL xs l u s)))
theorem pe_pick (he : PE X e te) (hl : PO X lo tl) (hu : PO X hi tu) (hs : PO X st ts) (hn : NoSl (.Slice lo hi st p2)) : PE X (.Subscript e (.Slice lo hi st p2) pos) (tPick X.K te tl tu ts) := by
  refine ⟨fun pins s σ H Q I h => ?_⟩
  refine Subscript_ (thn (he.run pins s σ H _ I h) fun v s1 ⟨x, H1, I1, r1, q1⟩ => ?_)
  refine wpAny_Slice (thn (hl.run pins s1 σ H1 _ I1 q1) fun vl s2 ⟨l, H2, I2, pl, q2⟩ => ?_)
  refine thn (hu.run pins s2 σ H2 _ I2 q2) fun vu s3 ⟨u, H3, I3, pu, q3⟩ => ?_
  refine thn (hs.run pins s3 σ H3 _ I3 q3) fun vs s4 ⟨o, H4, I4, ps, q4⟩ => ?_
  obtain ⟨h0, a, xs, ex, hx, q⟩ := q4
  subst ex
  cases r1
  have I5 : Inv X pins σ H4 { s4 with heap := s4.heap.push { cls := .type "slice", data := .fields #[vl, vu, vs] } } := I4.kept (t' := s4.toks) fun b ob q => Heap.get?_push_of_some _ q
  obtain ⟨its, r, ht, hz⟩ := I5.list hx
  have hlen := r.length
  show wpAny (model X.prog X.w) X.A (subscriptTail e (.Slice lo hi st p2) (.ref a) (.ref s4.heap.objs.size)) (EP X pins σ Q) X.xe { s4 with heap := s4.heap.push { cls := .type "slice", data := .fields #[vl, vu, vs] } }
  refine tail_any (ops := [.ref a, .ref s4.heap.objs.size]) ht.isList.typeIs (PySem.slot_list_getitem.lookup) ?_ (hn _ _)
  refine wpAny_getItem_list_slice ht.isList (Heap.IsSliceOf.new _ vl vu vs) pl pu ps h0 ?_ (by rw [List.size_toArray]; omega)
  rw [pick_arr]
  have hz2 : (pickL xs l u o).length ≤ sizeLine := by
    have z := slicePick_size_le its.toArray l u o
    rw [pick_arr, List.size_toArray, List.size_toArray] at z
    rw [(vals_pick r l u o).length]; omega
  refine ⟨.ref _, _, I5.laid (t' := s4.toks) (o := .lst (pickL xs l u o)) (fun b ob q => Heap.get?_push_of_some _ q) (Nat.le_refl _) ?_, rfl, q _ (I5.hok.fresh (Nat.le_refl _))⟩
  exact ⟨hz2, _, 0, vals_pick r l u o, Heap.get?_push_size _ rfl⟩
end
theorem RepL.pickR {G : Cfg} {K : PySem.W.Frag} {F : Hp} {vs : List V} {ds : List D} (r : RepL G K F vs ds) : ∀ (ks : List Nat), RepL G K F (ks.filterMap (vs[·]?)) (ks.filterMap (ds[·]?))
  | [] => .nil
  | k :: ks => by
    rw [List.filterMap_cons, List.filterMap_cons]
    cases e : ds[k]? with
    | none =>
      have e2 : vs[k]? = none := by
        rw [List.getElem?_eq_none_iff] at e ⊢
        rw [r.len]; exact e
      rw [e2]
      exact RepL.pickR r ks
    | some x =>
      obtain ⟨u, hu, ru⟩ := r.get e
      rw [hu]
      exact .cons ru (RepL.pickR r ks)
theorem RepL.pick {G : Cfg} {K : PySem.W.Frag} {F : Hp} {vs : List V} {ds : List D} (r : RepL G K F vs ds) (lo hi st : Option Int) : RepL G K F (pickL vs lo hi st) (pickL ds lo hi st) := by
  unfold pickL
  rw [r.len]
  exact RepL.pickR r _
section
variable {G : Cfg} {X : Cx} {e : Expr} {lo hi st : Option Expr} {p2 pos : Pos}
@[irreducible] def kPick (Q : D → MM → Prop) (d : D) (l u s : Option Int) (M : MM) : Prop := match lstOf M d with
  | some xs => s ≠ some 0 ∧ Q (.lst (pickL xs l u s)) M
  | none => False
def wPick (we : WE) (wl wu ws : WO) : WE := fun δ M Q EX => we δ M (fun d M1 => wl δ M1 (fun l M2 => wu δ M2 (fun u M3 => ws δ M3 (fun s M4 => kPick Q d l u s M4) EX) EX) EX) EX
theorem at_pick {Q : D → MM → Prop} {d : D} {l u s : Option Int} {M : MM} {xs : List D} (h : lstOf M d = some xs) (h0 : s ≠ some 0) (q : Q (.lst (pickL xs l u s)) M) : kPick Q d l u s M := by unfold kPick; rw [h]; exact ⟨h0, q⟩
theorem de_pick {we : WE} {wl wu ws : WO} (he : DE G X e we) (hl : DO G X lo wl) (hu : DO G X hi wu) (hs : DO G X st ws) (hn : NoSl (.Slice lo hi st p2) := by intro _ _; with_unfolding_all rfl) : DE G X (.Subscript e (.Slice lo hi st p2) pos) (wPick we wl wu ws) := by
  refine pe_imp (pe_pick he hl hu hs hn) fun σ H P ⟨F, M, δ, Q, EX, hm, rs, h, tk, f⟩ => ?_
  refine ⟨F, M, δ, _, EX, hm, rs, h, tk, fun v d F1 M1 H1 g1 r1 h1 => ?_⟩
  refine ⟨F1, M1, δ, _, EX, g1.hm, rs.mono g1.ext, h1, tk.imp (wX_mono g1), fun l F2 M2 H2 g2 h2 => ?_⟩
  have g12 := g1.trans g2
  refine ⟨F2, M2, δ, _, EX, g2.hm, rs.mono g12.ext, h2, tk.imp (wX_mono g12), fun u F3 M3 H3 g3 h3 => ?_⟩
  have g123 := g12.trans g3
  refine ⟨F3, M3, δ, _, EX, g3.hm, rs.mono g123.ext, h3, tk.imp (wX_mono g123), fun s F4 M4 H4 g4 h4 => ?_⟩
  have g1234 := g123.trans g4
  unfold kPick at h4
  split at h4
  · rename_i xs ex
    obtain ⟨a, vs, rfl, hz, r⟩ := lstOf_rep g4.hm (r1.mono ((g2.trans g3).trans g4).ext) ex
    refine ⟨h4.1, a, vs, rfl, SqL.of hz, fun q hq => ?_⟩
    have g := g4.hm.new (o := .lst (pickL vs l u s)) hq
    exact f _ _ _ _ _ (g1234.trans g) (.lst upd_same ((r.pick l u s).mono g.ext)) h4.2
  · exact h4.elim
end
/-! ### what some slices pick -/
theorem pick_fwd {α : Type} (xs : List α) : pickL xs none none (some 1) = xs := by
  unfold pickL
  have e1 : sliceBounds none none (some 1) xs.length = (0, (xs.length : Int), 1) := by simp [sliceBounds]
  rw [e1]
  have e2 : sliceRange 0 (xs.length : Int) 1 = List.range xs.length := by
    unfold sliceRange
    by_cases h : 0 < xs.length
    · have : (((xs.length : Int) - 0 + 1 - 1) / 1).toNat = xs.length := by rw [Int.ediv_one]; omega
      simp only [show (1 : Int) > 0 by decide, if_true, show (0 : Int) < xs.length by omega, this]
      apply List.ext_getElem
      · simp
      · intro i h1 h2; simp
    · have : xs.length = 0 := by omega
      rw [this]; simp
  rw [e2]
  apply List.ext_getElem?
  intro i
  have z : ∀ (ys : List α), (List.range ys.length).filterMap (ys[·]?) = ys := fun ys => by
    have h := PySem.W.krv_all ys.toArray
    simpa using h
  rw [z]
theorem pick_bwd {α : Type} (xs : List α) : pickL xs none none (some (-1)) = xs.reverse := by
  unfold pickL
  rw [PySem.W.krv_bounds]
  show (sliceRange ((xs.length : Int) - 1) (-1) (-1)).filterMap (xs[·]?) = _
  rw [PySem.W.krv_sliceRange, PySem.W.krv_range, List.filterMap_reverse]
  have h := PySem.W.krv_all xs.toArray
  simp at h
  rw [h]
/-- xs[:0:-1] -/
theorem pick_but0 {α : Type} (xs : List α) : pickL xs none (some 0) (some (-1)) = (xs.drop 1).reverse := by
  cases xs with
  | nil => rfl
  | cons x xs =>
    unfold pickL
    have e1 : sliceBounds none (some 0) (some (-1)) (x :: xs).length = (((x :: xs).length : Int) - 1, 0, -1) := by
      simp [sliceBounds]; omega
    rw [e1]
    show (sliceRange (((x :: xs).length : Int) - 1) 0 (-1)).filterMap ((x :: xs)[·]?) = _
    have e2 : sliceRange (((x :: xs).length : Int) - 1) 0 (-1) = (List.range xs.length).map fun k => xs.length - k := by
      unfold sliceRange
      have h1 : ¬ ((-1 : Int) > 0) := by decide
      by_cases h : ((x :: xs).length : Int) - 1 > 0
      · have e : ((((x :: xs).length : Int) - 1 - 0 - -1 - 1) / (- -1)).toNat = xs.length := by
          rw [show (- -1 : Int) = 1 by decide, Int.ediv_one, List.length_cons]; omega
        simp only [h1, if_false, h, if_true, e]
        apply List.map_congr_left
        intro k hk
        have := List.mem_range.mp hk
        rw [List.length_cons]; omega
      · have e : xs.length = 0 := by rw [List.length_cons] at h; omega
        rw [e]; simp only [h1, if_false, h]; rfl
    rw [e2, List.drop_one, List.tail_cons]
    have e3 : (List.range xs.length).map (fun k => xs.length - k) = ((List.range xs.length).map (· + 1)).reverse := by
      apply List.ext_getElem
      · simp
      · intro i h1 h2
        simp at h1
        rw [List.getElem_map, List.getElem_reverse]; simp; omega
    rw [e3, List.filterMap_reverse, List.filterMap_map]
    have h := PySem.W.krv_all xs.toArray
    simp at h
    have e4 : ((fun (k : Nat) => (x :: xs)[k]?) ∘ (· + 1)) = fun (k : Nat) => xs[k]? := by funext k; simp
    rw [e4, h]
end DL

set_option Elab.async false
set_option linter.all false
set_option maxRecDepth 100000
/-! cls.m(..) of a class that a name holds -/
namespace DL
open PySem PySem.Spec L2
open PyProof.Rows hiding St
section
variable {G : Cfg} {X : Cx} {o e : Expr} {es : List Expr} {wo : WE} {wa : WA} {gd : Bool} {k c : Nat} {m : Str} {sp : SpD} {apos pos : Pos}
def wCmE (c : Nat) (sp : SpD) (wo : WE) (wa : WA) : WE := fun δ M Q EX => wo δ M (fun d M1 => d = .cls c ∧ wa δ M1 (fun ds M2 => sp (.cls c :: ds) M2 Q (fun xd M3 => EX xd δ M3)) EX) EX
theorem de_cmE {pl : Sem Bool} (ok : OkCm X.prog X.w X.K X.mg X.base gd k (G.cl c) m (lift G X.K sp)) (hr : Room k X.A) (hgd : gd = true → X.A.guards = some []) (ho : DE G X o wo) (ha : DA G X (e :: es) wa)
    (hst : starEach (e :: es) X.env = (false, eval e X.env) :: starEach es X.env := by rfl) (hpl : (backTo pos (starEach es X.env)).any (·.1) = false := by rfl)
    (hv : eval (.Call (.Attribute o m apos) (e :: es) [] pos) X.env = (do
      let ov ← eval o X.env
      standAt apos.atName
      let (f, first) ← holding [ov] (getMethod ov m pl)
      callWith pos f first (backTo pos (starEach (e :: es) X.env)) (backToKw pos (keywordEach [] X.env))) := by rfl) :
    DE G X (.Call (.Attribute o m apos) (e :: es) [] pos) (wCmE c sp wo wa) := by
  refine ⟨fun pins s σ H Q I ⟨F1, M1, δ, Q', EX, hm1, rs, h, tk, fin⟩ => ?_⟩
  obtain ⟨q, f, rd, cm, F⟩ := ok
  refine PySem.W.methodCall_KW (pl := pl) (thn (ho.run pins s σ H (fun v H1 => v = .ref (G.cl c) ∧ ∃ F2 M2, Grow G X.K F1 M1 H F2 M2 H1 ∧ wa δ M2 (fun ds M2 => sp (.cls c :: ds) M2 Q' (fun xd M3 => EX xd δ M3)) EX) I ⟨F1, M1, δ, _, EX, hm1, rs, h, tk, fun v d F2 M2 H2 g2 r2 h2 => ?_⟩) fun ov s1 ⟨x, H1, I1, r1, ex, F2, M2, g2, h2⟩ => ?_) hv
  · obtain ⟨ed, h2⟩ := h2
    subst ed
    cases r2
    exact ⟨rfl, F2, M2, g2, h2⟩
  subst ex
  obtain rfl : ov = Value.ref (G.cl c) := r1
  refine ClX.getmethcm_ok I1 rd cm fun s2 I2 => ?_
  refine ClX.callwith_cm I2 (ClX.base_none I1 (Nat.le_refl _)) cm.fi (thn (da_run ha pos I2 g2.hm (rs.mono g2.ext) h2 (tk.imp (wX_mono g2))) fun us s3 ⟨vs, H2, I3, r, ds, F3, M3, g, rl, q2⟩ => ⟨⟨ClX.pin_at I3, I3.kIn⟩, ?_⟩) hst hpl
  have z := PySem.W.method_call (ClX.pin_at I3) (runP_at (us := .ref (G.cl c) :: us) (vs := .ref (G.cl c) :: vs) (ds := .cls c :: ds) F hr hgd I3 (.cons rfl r) g.hm ((rs.mono g2.ext).mono g.ext) (.cons (.cls c) rl) q2 ((tk.imp (wX_mono g2)).imp (wX_mono g)) (P := Q) fun v d F4 M4 H4 g4 r4 q4 => fin v d F4 M4 H4 ((g2.trans g).trans g4) r4 q4)
  exact thn (wpAny_call z) fun _ _ y => ClX.unpinE y
end
end DL

set_option Elab.async false
set_option linter.all false
set_option maxRecDepth 100000
/-! x in o, o of an own class -/
namespace DL
open PySem PySem.Spec L2
open PyProof.Rows hiding St
section
open PySem.W in
theorem contains_K {prog : Program} {w : World} {A : Around} {E : Value → Shared → Prop} {s : Shared} {a C ff : Addr} {K : PySem.W.Frag} {ox : Obj} {od : Option Obj} {x : Value} {Q : Bool → Shared → Prop} (X : K.In s.heap) (I : PySem.W.InstAt s.heap a ox C od)
    (hs : PySem.W.findIn K (.ref C) "__contains__" = some (some (.ref ff))) (hf : PySem.W.typeIn K (.ref ff) = some (.type "function"))
    (h : wpAny (model prog w) A (call (.ref ff) [.ref a, x]) (fun v s' => ∃ r, v = .bool r ∧ Q r s') E s) : wpAny (model prog w) A (contains (.ref a) x) Q E s := by
  unfold contains
  refine wpAny_holding ?_
  have e0 : stdlibNamesSay? (.ref a) x = none := by unfold stdlibNamesSay?; rfl
  rw [e0]
  refine wpAny_bind (wpAny_bind (I.type.here ((looks_findIn X hs).here ?_)))
  show wpAny (model prog w) A (if (some (Value.ref ff) == some Value.none) = true then _ else _) Q E s
  rw [if_neg (by simp)]
  refine wpAny_bind ?_
  simp only [callSpecialUnlessNone?]
  refine wpAny_bind (wpAny_bind (I.type.here ((looks_findIn X hs).here (wpAny_holding (wpAny_bind ((bind_fn X _ hf).here ?_))))))
  show wpAny (model prog w) A (if (Value.ref ff == Value.none) = true then _ else _) _ E s
  rw [if_neg (by simp)]
  refine wpAny_bind (wpAny_mono h (fun v s' z => wpAny_pure ?_) fun _ _ z => z)
  obtain ⟨r, rfl, q⟩ := z
  exact wpAny_truthy_bool q
end
section
variable {G : Cfg} {X : Cx}
def wInO (tb : List (Nat × SpD)) : WR2X := fun x y δ M Q EX => match y with
  | .ins c _ => ∃ sp, tb.lookup c = some sp ∧ sp [y, x] M (fun d M' => ∃ b, d = .bl b ∧ Q (.bl b) M') (fun xd M3 => EX xd δ M3)
  | _ => False
theorem dop_inO (tb : List (Nat × SpD)) (h1 : ∀ p ∈ tb, ∃ (gd : Bool) (k : Nat) (ps : List Str), OkMeth X.prog X.w X.K X.mg X.base gd k (G.cl p.1) "__contains__" ps (lift G X.K p.2) ∧ Room k X.A ∧ (gd = true → X.A.guards = some [])) : DOp G X (compareOp .In) (wInO tb) := by
  intro pins s σ H x y v u F M δ dx dy Q EX P I rx ry hm rs rdx rdy h tk fin
  unfold wInO at h
  split at h
  · rename_i c fs
    obtain ⟨sp, e, q⟩ := h
    obtain ⟨gd, k, ps, ⟨f, fd, mt, b, Fn⟩, hr, hgd⟩ := h1 _ (lookup_mem e)
    obtain ⟨a, ox, od, rfl, rfl, J⟩ := inst_at I hm ry rdy (c := c) (fs := fs) (by unfold insOf; rfl)
    show wpAny (model X.prog X.w) X.A (contains (.ref a) v >>= fun r => pure (Value.bool r)) _ _ s
    refine wpAny_bind (contains_K I.kIn J mt.at_ (beq_iff_eq.mp mt.fn) ?_)
    refine wpAny_mono (callP_at (Q := fun d M' => ∃ b, d = .bl b ∧ Q (.bl b) M') (P := fun v H' => ∃ b : Bool, v = .bl b ∧ P (.bl b) H') (us := [.ref a, v]) (vs := [.ref a, x]) (ds := [.ins c fs, dx]) (Fn.pos b) hr hgd I (.cons rfl (.cons rx .nil)) hm rs (.cons rdy (.cons rdx .nil)) q tk fun v d F3 M3 H3 g3 r3 q3 => ?_) (fun v s' z => ?_) fun _ _ z => z
    · obtain ⟨b, rfl, q4⟩ := q3
      cases r3
      exact ⟨b, rfl, fin _ _ F3 M3 H3 g3 (.bl b) q4⟩
    · obtain ⟨v', H', I', rv, b, rfl, q4⟩ := z
      obtain rfl : v = Value.bool b := rv
      exact ⟨b, rfl, wpAny_pure ⟨.bl b, H', I', rfl, q4⟩⟩
  · exact h.elim
end
end DL

set_option Elab.async false
set_option linter.all false
set_option maxRecDepth 100000
/-! n += e, n -= e of ints -/
namespace DL
open PySem PySem.Spec L2
open PyProof.Rows hiding St
section
variable {G : Cfg} {X : Cx} {e : Expr}
@[irreducible] def kAug (i : Nat) (plus : Bool) (a : Int) (nx : DS → MM → Prop) (δ : DS) (d : D) (M : MM) : Prop := match d with
  | .int b => nx (δ.set i (some (.int (if plus then a + b else a - b)))) M
  | _ => False
def wAug (i : Nat) (plus : Bool) (we : WE) : WS := fun E EX δ M => ∃ a : Int, δ[i]? = some (some (.int a)) ∧ we δ M (fun d M1 => kAug i plus a E.nx δ d M1) EX
theorem at_aug {i : Nat} {plus : Bool} {a b : Int} {nx : DS → MM → Prop} {δ : DS} {M : MM} (q : nx (δ.set i (some (.int (if plus then a + b else a - b)))) M) : kAug i plus a nx δ (.int b) M := by unfold kAug; exact q
def rAug (plus : Bool) : V → V → Hp → VK → Prop := fun x y H Q => ∃ i j, x = .int i ∧ y = .int j ∧ Q (.int (if plus then i + j else i - j)) H
theorem aug_up {i : Nat} {plus : Bool} {we : WE} (D : Ends) (σ : St) (H : Hp) (h : upS G X (wAug i plus we) D σ H) : tAug i (up G X we) (rAug plus) D σ H := by
  obtain ⟨F, M, δ, E, EX, hm, rs, ⟨a, e1, h⟩, tk, n, r, b, c⟩ := h
  obtain ⟨x, ex, rx⟩ := rs.2 _ _ e1
  cases rx
  refine ⟨_, ex, F, M, δ, _, EX, hm, rs, h, tk, fun v d F1 M1 H1 g1 r1 q => ?_⟩
  have z : ∃ b : Int, d = .int b ∧ E.nx (δ.set i (some (.int (if plus then a + b else a - b)))) M1 := by
    unfold kAug at q
    cases d <;> first | exact ⟨_, rfl, q⟩ | exact q.elim
  obtain ⟨b, rfl, q2⟩ := z
  cases r1
  exact ⟨_, _, rfl, rfl, n _ _ F1 M1 H1 g1 ((rs.mono g1.ext).set i (.int _)) q2⟩
theorem ds_add (i : Nat) {x : Str} {we : WE} {pos pos' : Pos} (hN : X.N.Nodup) (he : DE G X e we) (hi : X.N[i]? = some x := by rfl) (hx : Loc X.env.scope x := by first | exact Or.inl rfl | exact Or.inr rfl)
    (hf : X.fn x = true ∨ X.env.scope.names.lookup x = some .local := by first | exact .inl rfl | exact .inr rfl) : DSt G X (.AugAssign (.Name x pos') .Add e pos) (wAug i true we) :=
  ps_imp (ps_aug (ti := rAdd) hN hi hx he in_add hf) fun D σ H h => aug_up D σ H h
theorem ds_sub (i : Nat) {x : Str} {we : WE} {pos pos' : Pos} (hN : X.N.Nodup) (he : DE G X e we) (hi : X.N[i]? = some x := by rfl) (hx : Loc X.env.scope x := by first | exact Or.inl rfl | exact Or.inr rfl)
    (hf : X.fn x = true ∨ X.env.scope.names.lookup x = some .local := by first | exact .inl rfl | exact .inr rfl) : DSt G X (.AugAssign (.Name x pos') .Sub e pos) (wAug i false we) :=
  ps_imp (ps_aug (ti := rSub) hN hi hx he in_sub hf) fun D σ H h => aug_up (plus := false) D σ H h
end
end DL

set_option Elab.async false
set_option linter.all false
set_option maxRecDepth 100000
/-! not x, x any value that is told true or not -/
namespace DL
open PySem PySem.Spec L2
open PyProof.Rows hiding St
section
variable {G : Cfg} {X : Cx} {e : Expr}
def wNotTru (we : WE) : WE := fun δ M Q EX => we δ M (kTru (fun c M1 => Q (.bl (!c)) M1)) EX
theorem de_notTru {we : WE} {pos : Pos} (h : DE G X e we) : DE G X (.UnaryOp .Not e pos) (wNotTru we) := by
  refine pe_imp (pe_notT h) fun σ H P ⟨F, M, δ, Q, EX, hm, rs, h, tk, f⟩ => ?_
  refine ⟨F, M, δ, _, EX, hm, rs, h, tk, fun v d F1 M1 H1 g r q => ?_⟩
  unfold kTru at q
  split at q
  · rename_i k ek
    exact ⟨k, truD_rep g.hm r ek, f _ _ _ _ _ g (.bl _) q⟩
  · exact q.elim
end
end DL

set_option Elab.async false
set_option linter.all false
set_option maxRecDepth 100000
/-! a body that is not reached; == of tuples of instances with their own ==, where each two are alike -/
namespace DL
open PySem PySem.Spec L2
open PyProof.Rows hiding St
section
variable {G : Cfg} {X : Cx}
theorem dss_false {sts : List Stmt} : DSs G X sts (fun _ _ _ _ => False) := ⟨fun pins s σ H D I h => by
  obtain ⟨F, M, δ, E, EX, hm, rs, z, _⟩ := h
  exact z.elim⟩
/-- an instance that is equal to its like -/
def SelfEq (c : Nat) (sp : SpD) (d : D) : Prop := ∃ fs, d = .ins c fs ∧ ∀ (M : MM) (Q : D → MM → Prop) (EX : XD → MM → Prop), Q (.bl true) M → sp [d, d] M Q EX
def AlikeR (G : Cfg) (K : PySem.W.Frag) (c : Nat) (sp : SpD) : Addr → Addr → Hp → Prop := fun a b H => ∃ (F : Hp) (d : D), Same F H ∧ Rep G K F (.ref a) d ∧ Rep G K F (.ref b) d ∧ SelfEq c sp d
theorem ext_of_grow {K : PySem.W.Frag} {F H F' H' : Hp} {M' : MM} (ht : G.tabs = []) (hs : Same F H) (g : Grow G K F (fun _ => none) H F' M' H') : Ext H H' := fun a o h => by
  cases q : F a with
  | none =>
    rcases g.kept a o h q rfl with ⟨⟨p, hp, _⟩, _⟩ | ⟨h1, _⟩
    · rw [ht] at hp; cases hp
    · exact h1
  | some u =>
    have e := hs a u q
    rw [h] at e
    cases e
    exact g.hm.sub _ _ (g.ext _ _ q)
theorem grow_of_ext {K : PySem.W.Frag} {F H H' : Hp} {M : MM} (hm : HM G K F M H) (e : Ext H H') : Grow G K F M H F M H' := by
  refine ⟨⟨fun b u q => e _ _ (hm.sub b u q), hm.dis, fun b m q => ?_, fun p hp => ?_⟩, Same.refl _, fun b o h f m => .inr ⟨e _ _ h, .inl f, m⟩, hm.tab0⟩
  case refine_2 =>
    obtain ⟨h1, h2, ps, h3, h4⟩ := hm.tb p hp
    exact ⟨h1, h2, ps, e _ _ h3, h4⟩
  have r := hm.mo b m q
  obtain ⟨o, ho⟩ := r.some
  exact r.mono (Same.refl _) (by rw [ho]; exact e _ _ ho)
theorem alike_mon {K : PySem.W.Frag} {c : Nat} {sp : SpD} (a b : Addr) (H H' : Hp) (e : Ext H H') (h : AlikeR G K c sp a b H) : AlikeR G K c sp a b H' := by
  obtain ⟨F, d, hs, r1, r2, q⟩ := h
  exact ⟨F, d, fun x u z => e _ _ (hs x u z), r1, r2, q⟩
theorem rc_alike {c k : Nat} {sp : SpD} {ps : List Str} (ht : G.tabs = []) (o : OkMeth X.prog X.w X.K X.mg X.base false k (G.cl c) "__eq__" ps (lift G X.K sp)) : RcG X k (DIns (G.cl c) (AlikeR G X.K c sp)) := by
  obtain ⟨f, fd, mt, b, Fn⟩ := o
  have F2 : FnOk X.prog X.w X.K X.mg X.base (L2.CX X.prog X.w) k f fd ps (spEq (AlikeR G X.K c sp)) := by
    have key : ∀ vs H Q E, spEq (AlikeR G X.K c sp) vs H Q E → lift G X.K sp vs H Q E := by
      rintro vs H Q E ⟨a, b, rfl, ⟨F, d, hs, r1, r2, fs, ed, hq⟩, q⟩
      refine ⟨F, fun _ => none, [d, d], fun d' _ => d' = .bl true, fun _ _ => False, ⟨hs, fun _ _ z => (nomatch z), fun _ _ z => (nomatch z), fun p hp => by rw [ht] at hp; cases hp⟩, .cons r1 (.cons r2 .nil), hq _ _ _ rfl, ?_, fun _ _ _ _ _ _ _ _ z => z.elim⟩
      intro v d' F' M' H' g r e
      subst e
      cases r
      exact q H' (ext_of_grow ht hs g)
    exact ⟨fun vs H Q E h => Fn.len vs H Q E (key vs H Q E h), fun A out s H args us vs Q E hr e0 hb hv hsp => Fn.run A out s H args us vs Q E hr (fun z => by cases z) e0 hb hv (key vs H Q E hsp)⟩
  exact rcG_ins (E := E0) F2 mt.at_ mt.fn b (fun _ _ _ _ _ _ _ z => by
    obtain ⟨_, _, _, _, _, _, _, _, _, _, _, _, z⟩ := z
    exact z.elim)
/-- t == u, two tuples of the same instances, equal to their like -/
def wEqT (c : Nat) (sp : SpD) : WR2 := fun x y M Q => match x, y with
  | .tup ds, .tup es => ds = es ∧ (∀ d ∈ ds, SelfEq c sp d) ∧ Q (.bl true) M
  | _, _ => False
theorem rep_insA {K : PySem.W.Frag} {F : Hp} {c : Nat} {v : V} {fs : List D} (r : Rep G K F v (.ins c fs)) : ∃ a dx gs, v = .ref a ∧ F a = some (.ins (G.cl c) dx gs) := by
  cases r with
  | ins h _ _ => exact ⟨_, _, _, rfl, h⟩
theorem prs_alike {K : PySem.W.Frag} {c : Nat} {sp : SpD} {F H : Hp} (hs : Same F H) : ∀ {vs us : List V} {ds : List D}, RepL G K F vs ds → RepL G K F us ds → (∀ d ∈ ds, SelfEq c sp d) → Prs (DIns (G.cl c) (AlikeR G K c sp)) vs us H
  | _, _, _, .nil, .nil, _ => Prs.nil
  | _, _, _, .cons r1 t1, .cons r2 t2, h => by
    refine Prs.cons ?_ (prs_alike hs t1 t2 fun d hd => h d (List.mem_cons_of_mem _ hd))
    have q := h _ List.mem_cons_self
    obtain ⟨fs, e, q2⟩ := id q
    subst e
    obtain ⟨a, dx, gs, rfl, e1⟩ := rep_insA r1
    obtain ⟨b, dy, gs2, rfl, e2⟩ := rep_insA r2
    have e1 := hs _ _ e1
    have e2 := hs _ _ e2
    exact ⟨a, b, dx, dy, gs, gs2, rfl, rfl, e1, e2, F, _, hs, r1, r2, q⟩
theorem sim_eqT {K : PySem.W.Frag} {c : Nat} {sp : SpD} : Sim2 G K (rEqG (DTup K (DIns (G.cl c) (AlikeR G K c sp)))) (wEqT c sp) := by
  intro F M H x y dx dy Q P hm rx ry h fin
  unfold wEqT at h
  split at h
  · obtain ⟨rfl, hd, q⟩ := h
    cases rx with
    | tup h1 t1 =>
      cases ry with
      | tup h2 t2 =>
        refine ⟨⟨_, _, _, _, rfl, rfl, SqT.of (hm.sub _ _ h1), SqT.of (hm.sub _ _ h2), prs_alike hm.sub t1 t2 hd⟩, fun H' e => ?_⟩
        exact fin _ _ F M H' (grow_of_ext hm e) (.bl true) q
  · exact h.elim
theorem op_eqT {c k n : Nat} {sp : SpD} {ps : List Str} (ht : G.tabs = []) (o : OkMeth X.prog X.w X.K X.mg X.base false k (G.cl c) "__eq__" ps (lift G X.K sp)) (hr : Room n X.A) (hk : k + 1 ≤ n) : OpR X (compareOp .Eq) (rEqG (DTup X.K (DIns (G.cl c) (AlikeR G X.K c sp)))) :=
  op_eqG (rcG_tup (mon_ins alike_mon) ((rc_alike ht o).eqG fun _ _ _ d => let ⟨a, b, _, _, _, _, hx, hy, _⟩ := d; ⟨a, b, hx, hy⟩)) (hr.mono hk)
/-- xs.extend(ys) -/
def wExtend : Addr → List D → List D → MM → (D → MM → Prop) → Prop := fun a xs ds M Q => match ds with
  | [d] => match lstOf M d with
    | some ys => xs.length + ys.length ≤ sizeLine ∧ Q .non (updM M a (.lst (xs ++ ys)))
    | none => False
  | _ => False
theorem sim_extend {K : PySem.W.Frag} : SimL G K rExtend wExtend := by
  intro F M H a xs zs vs ds Q P hm ea ha rz r w f
  unfold wExtend at w
  split at w
  · split at w
    · rename_i ys ey
      obtain ⟨v, rfl, r1⟩ := one_rep r
      obtain ⟨b, us, rfl, hb, ru⟩ := lstOf_rep hm r1 ey
      refine ⟨a, b, zs, us, rfl, rfl, ha, hb, by rw [rz.len, ru.len]; exact w.1, ?_⟩
      exact f _ _ _ _ _ (hm.put (o := .lst (zs ++ us)) (m' := .lst (xs ++ _)) ea ⟨_, upd_same, rz.app ru⟩) .non w.2
    · exact w.elim
  · exact w.elim
/-- s[i] of a text -/
def wIxS : WR2 := fun x y M Q => match x, y with
  | .str z, .int i => z.length ≤ sizeLine ∧ ∃ c, atI z.cps.toList i = some c ∧ Q (.str ⟨#[c]⟩) M
  | _, _ => False
theorem sim_ixS {K : PySem.W.Frag} : Sim2 G K rIxS wIxS := by
  intro F M H x y dx dy Q P hm rx ry h fin
  unfold wIxS at h
  split at h
  · obtain ⟨hl, c, e, q⟩ := h
    cases rx
    cases ry
    exact ⟨_, _, c, rfl, rfl, hl, e, fin _ _ F M H (.refl hm) (.str _) q⟩
  · exact h.elim
end
end DL

set_option Elab.async false
set_option linter.all false
set_option maxRecDepth 100000
/-! range(i, j, -1) -/
namespace DL
open PySem PySem.Spec L2 PyProof.Rows
def rngC (lo c : Int) (n : Nat) : List D := (List.range n).map fun k => D.int (lo + (k : Nat) * c)
theorem rngC_len (lo c : Int) (n : Nat) : (rngC lo c n).length = n := by unfold rngC; rw [List.length_map, List.length_range]
theorem rngC_get {lo c : Int} {n i : Nat} {d : D} (h : (rngC lo c n)[i]? = some d) : i < n ∧ d = .int (lo + (i : Nat) * c) := by
  have l : i < n := by
    have z := (List.getElem?_eq_some_iff.mp h).1
    rwa [rngC_len] at z
  unfold rngC at h
  rw [List.getElem?_map, List.getElem?_range l] at h
  exact ⟨l, (Option.some.inj h).symm⟩
section
variable {G : Cfg}
theorem walks_rngC {K : PySem.W.Frag} {F : Hp} {M : MM} {H : Hp} (lo c : Int) (n : Nat) : Walks G K F M H (Itc lo c n) { items := rngC lo c n } := by
  refine ⟨fun F' M' H' i d g st e => ?_, fun F' M' H' g st => ?_⟩
  · obtain ⟨l, ed⟩ := rngC_get (show (rngC lo c n)[i]? = some d from e)
    subst ed
    refine ⟨l, fun x H'' y => ?_⟩
    obtain ⟨e2, y⟩ := y
    subst e2 y
    exact ⟨F', .refl g.hm, .int _⟩
  · show n ≤ (rngC lo c n).length
    rw [rngC_len]
    exact Nat.le_refl _
def kiR3 (Q : IT → MM → Prop) (ds : List D) (M1 : MM) : Prop := match ds with
  | [.int i, .int j, .int c] => c = -1 ∧ (-(2 ^ 62) ≤ i ∧ i < 2 ^ 62 ∧ -(2 ^ 62) ≤ j ∧ j < 2 ^ 62) ∧ Q { items := rngC i (-1) (i - j).toNat } M1
  | _ => False
def wiR3 (wa : WA) : WI := fun δ M Q EX => wa δ M (kiR3 Q) EX
variable {X : Cx}
theorem di_range3 {tg a b c : Expr} {wa : WA} {p pos : Pos} (hm : X.mg "range" = none) (ha : DA G X [a, b, c] wa) (hg : Gl X "range" := by rfl) (hs : starEach [a, b, c] X.env = (false, eval a X.env) :: starEach [b, c] X.env := by rfl) (hpl : (backTo pos (starEach [b, c] X.env)).any (·.1) = false := by rfl) :
    DI G X tg (.Call (.Name "range" p) [a, b, c] [] pos) (wiR3 wa) := by
  refine pi_imp (pi_range3 hg hm ha hs hpl) fun σ H R ⟨F, M, δ, Q, EX, hm, rs, h, tk, f⟩ => ?_
  refine ⟨F, M, δ, _, EX, hm, rs, h, tk, fun vs ds F1 M1 H1 g1 r1 q => ?_⟩
  unfold kiR3 at q
  split at q
  · obtain ⟨ec, hb, q⟩ := q
    subst ec
    cases r1 with
    | cons ra t =>
      cases t with
      | cons rb t =>
        obtain ⟨v, rfl, r2⟩ := one_rep t
        cases ra
        cases rb
        cases r2
        exact ⟨_, _, _, _, rfl, RgC.neg hb.1 hb.2.1 hb.2.2.1 hb.2.2.2, f _ _ F1 M1 H1 g1 (walks_rngC _ _ _) q⟩
  · exact q.elim
/-! zip of a list that may change, not meanwhile, and of one that never changes -/
def kiZM (Q : IT → MM → Prop) (ds : List D) (M : MM) : Prop := match ds with
  | [.raw (.ref a), y] => match M a, frzOf y with
    | some (.lst xs), some ys => Q { items := pairs xs ys, src := some (a, xs) } M
    | _, _ => False
  | _ => False
def wiZM (wa : WA) : WI := fun δ M Q EX => wa δ M (kiZM Q) EX
theorem at_zipM {Q : IT → MM → Prop} {M : MM} {a : Addr} {xs ys : List D} {y : D} (h1 : M a = some (.lst xs)) (h2 : frzOf y = some ys) (q : Q { items := pairs xs ys, src := some (a, xs) } M) : kiZM Q [.raw (.ref a), y] M := by
  unfold kiZM
  dsimp only
  rw [h1, h2]
  exact q
theorem di_zipM {elts : List Expr} {kk : Nat} {e e2 : Expr} {wa : WA} {p pos tpos : Pos} (hm : X.mg "zip" = none) (ha : DA G X [e, e2] wa) (hg : Gl X "zip" := by rfl)
    (hs : starEach [e, e2] X.env = (false, eval e X.env) :: starEach [e2] X.env := by rfl) (hpl : (backTo pos (starEach [e2] X.env)).any (·.1) = false := by rfl) :
    DI G X (.Tuple elts kk tpos) (.Call (.Name "zip" p) [e, e2] [] pos) (wiZM wa) := by
  refine pi_imp (RZ.pi_zipA hg hm ha hs hpl) fun σ H R ⟨F, M, δ, Q, EX, hm1, rs, h, tk, f⟩ => ?_
  refine ⟨F, M, δ, _, EX, hm1, rs, h, tk, fun vs ds F1 M1 H1 g1 r1 q => ?_⟩
  unfold kiZM at q
  split at q
  · rename_i a y
    split at q
    · rename_i xs ys e1 e2
      cases r1 with
      | cons rx t =>
        obtain ⟨vy, rfl, ry⟩ := one_rep t
        cases rx
        obtain ⟨us, hua, ra0⟩ := g1.hm.mo a _ e1
        obtain ⟨b, ws, rfl, hb, rb⟩ := frz_rep ry e2
        refine ⟨a, b, us, ws, rfl, .inl ⟨SqL.of hua, g1.hm.sub.seq hb, f _ { items := pairs xs ys, src := some (a, xs) } F1 M1 H1 g1 ⟨fun F' M' H' i d g st e => ?_, fun F' M' H' g st => ?_⟩ q⟩⟩
        · obtain ⟨x, y, ex, ey, rfl⟩ := pairs_get e
          obtain ⟨us', hu', ra⟩ := g.hm.mo a _ st
          obtain ⟨u, eu, ru⟩ := ra.get ex
          obtain ⟨w, ew, rw'⟩ := rb.get ey
          have hsa : SqL X.K H' a us' := SqL.of hu'
          have hsb : SqL X.K H' b ws := g.hm.sub.seq (g.ext.seq hb)
          refine ⟨⟨us', ws, u, w, hsa, hsb, eu, ew⟩, fun z H'' ⟨T, u', w', ez, hT, eH, k1, k2⟩ => ?_⟩
          have e3 := k1 us' hsa
          have e4 := k2 ws hsb
          rw [eu] at e3
          rw [ew] at e4
          cases e3
          cases e4
          subst ez eH
          have gn := g.hm.new (o := .tup [u, w]) hT
          exact ⟨_, gn, .tup upd_same (.cons (ru.mono gn.ext) (.cons ((rw'.mono g.ext).mono gn.ext) .nil))⟩
        · obtain ⟨us', hu', ra⟩ := g.hm.mo a _ st
          refine ⟨us', ws, SqL.of hu', g.hm.sub.seq (g.ext.seq hb), ?_⟩
          rw [show ({ items := pairs xs ys, src := some (a, xs) } : IT).items.length = min xs.length ys.length from pairs_len _ _, ra.len, rb.len]
          omega
    · exact q.elim
  · exact q.elim
end
end DL

set_option Elab.async false
set_option linter.all false
set_option maxRecDepth 100000
/-! sorted(xs) of tuples of an int and a bool: some order of them -/
namespace DL
open PySem PySem.Spec L2 PyProof.Rows
section
variable {prog : Program} {w : World} {A : Around} {E : Value → Shared → Prop} {s : Shared}
/-- v stands for a tuple of an int and a bool -/
def IsIB (h : Heap) (v : Value) : Prop := ∃ a o t n x y, v = .ref a ∧ h.get? a = some o ∧ o.cls = .type "tuple" ∧ o.data = .seq #[.int x t, .bool y] n
theorem IsIB.up {h h' : Heap} {v : Value} (p : IsIB h v) (k : ∀ b o, h.get? b = some o → o.cls = .type "tuple" → h'.get? b = some o) : IsIB h' v := by
  obtain ⟨a, o, t, n, x, y, e, e1, e2, e3⟩ := p
  exact ⟨a, o, t, n, x, y, e, k _ _ e1 e2, e2, e3⟩
theorem ib_tot {vs : List Value} (hp : ∀ v ∈ vs, IsIB s.heap v) : Srt.Tot prog w A s (tuples' true) (fun p => p.1 ∈ vs) := by
  intro p q m1 m2
  obtain ⟨a, o, t, n, x, y, e, e1, e2, e3⟩ := hp _ m1
  obtain ⟨b, u, t', n', x', y', z, z1, z2, z3⟩ := hp _ m2
  rw [e, z]
  refine ⟨if x = x' then (if y = y' then false else decide (PyProof.Rows.b2i y < PyProof.Rows.b2i y')) else decide (x < x'), PySem.W.kat_lt e1 e3 z1 z3 ?_⟩
  show PySem.W.KatLex prog w A true (decide (2 < 2)) _ [(.int x t, .int x' t'), (.bool y, .bool y')] 0 s
  refine PySem.W.kat_cons (SeqAt.EqAt.int_int x t x' t' prog w _ _ (PySem.W.kat_go (fun c => ?_) (fun c => ?_)))
  · have ex : x = x' := by simpa using c
    rw [if_pos ex]
    refine PySem.W.kat_yes (PySem.W.kat_cons (SeqAt.EqAt.bool_bool y y' prog w _ _ (PySem.W.kat_go (fun c2 => ?_) (fun c2 => ?_))))
    · have ey : y = y' := by simpa using c2
      rw [if_pos ey]
      exact PySem.W.kat_yes (PySem.W.kat_nil ⟨rfl, rfl⟩)
    · have ey : ¬ y = y' := by simpa using c2
      rw [if_neg ey]
      exact PySem.W.kat_no (PySem.W.kat_one _ _ (PyProof.Rows.lt_bool (show s = s ∧ _ = _ from ⟨rfl, rfl⟩)))
  · have ex : ¬ x = x' := by simpa using c
    rw [if_neg ex]
    exact PySem.W.kat_no (oneLt_int ⟨rfl, rfl⟩)
theorem ib_firsts {h : Heap} : ∀ {vs : List Value}, (∀ v ∈ vs, IsIB h v) → ∃ fs : List Value, PySem.W.KatTups h vs fs ∧ fs.length = vs.length ∧ ∀ f ∈ fs, ∃ x t, f = Value.int x t
  | [], _ => ⟨[], .nil, rfl, fun _ hm => nomatch hm⟩
  | v :: vs, hp => by
    obtain ⟨fs, h1, h2, h3⟩ := ib_firsts (vs := vs) fun u hm => hp u (.tail _ hm)
    obtain ⟨a, o, t, n, x, y, e, e1, e2, e3⟩ := hp v (.head _)
    subst e
    refine ⟨.int x t :: fs, .cons e1 e2 e3 rfl h1, congrArg (· + 1) h2, fun f hm => ?_⟩
    cases hm with
    | head => exact ⟨x, t, rfl⟩
    | tail _ hm => exact h3 f hm
theorem ib_sortable {a : Addr} {vs : List Value} (h0 : 0 < vs.length) (hp : ∀ v ∈ vs, IsIB s.heap v) (ha : ∀ o, s.heap.get? a = some o → o.cls ≠ .type "tuple") : Srt.Sortable prog w A s a vs := by
  intro h' keep
  have hp' : ∀ v ∈ vs, IsIB h' v := fun v hm => (hp v hm).up fun b o e c => keep b o (fun z => ha o (z ▸ e) c) e
  obtain ⟨fs, h1, h2, h3⟩ := ib_firsts hp'
  refine ⟨tuples' true, fun Q E hq => PySem.W.kat_kind (T := .type "int") h1 (by omega) (fun f hm => ?_) (by rfl) ?_, ib_tot hp'⟩
  · obtain ⟨x, t, rfl⟩ := h3 f hm
    exact PySem.W.Looks.now
  · rw [show (Value.type "int" != Value.type "tuple") = true from by first | decide +kernel | rfl | decide]
    exact hq
theorem ib_sorted {l : Addr} {vs : List Value} {Q : Value → Shared → Prop} (hl : s.heap.IsList l vs.toArray) (hz : vs.length ≤ sizeLine) (hp : ∀ v ∈ vs, IsIB s.heap v)
    (q : ∀ (h' : Heap) (d : Addr) (out : List Value), out.Perm vs → (∀ b o, s.heap.get? b = some o → h'.get? b = some o) → s.heap.objs.size ≤ d → (∃ n, h'.get? d = some (PyProof.Rows.seqObj "list" out.toArray n)) → Q (.ref d) { s with heap := h' }) :
    wpAny (model prog w) A (call (.builtin "sorted") [.ref l]) Q E s := by
  refine Srt.sorted_any hl hz (fun h2 h₁ a ha k => ib_sortable (s := { s with heap := h₁ }) (by omega) (fun v hm => (hp v hm).up fun b o e _ => (k b o e).2) fun o e c => ?_) fun out ho => ?_
  · cases (Option.some.inj (e.symm.trans ha))
    exact absurd (Value.type.inj c) (by decide)
  · exact q _ _ out ho (fun b o => PyProof.Rows.sortedAll_old) (Nat.le_succ _) (PyProof.Rows.sortedAll_at s.heap vs out.toArray)
end
section
variable {X : Cx}
def rSortB (K : PySem.W.Frag) : List V → Hp → VK → Prop := fun vs H Q => ∃ (a : Addr) (ys : List V), vs = [V.ref a] ∧ SqL K H a ys ∧ (∀ y ∈ ys, ∃ t i j, y = .ref t ∧ SqT K H t [.int i, .bl j]) ∧
  ∀ (zs : List V) (p : Addr), zs.Perm ys → H p = none → Q (.ref p) (upd H p (.lst zs))
theorem cr_sortB : CallR X (.builtin "sorted") (rSortB X.K) := by
  intro pins s σ H vs us Q I r h
  obtain ⟨a, ys, rfl, hs, hy, q⟩ := h
  obtain rfl := Vals.ref1 r
  obtain ⟨its, rv, hl, hz⟩ := I.list hs
  obtain ⟨e1, e2⟩ := refs_back rv fun x m => by
    obtain ⟨t, _, _, e, _⟩ := hy x m
    exact ⟨t, e⟩
  refine ib_sorted hl.isList (by rw [← rv.length]; exact hz) (fun v hv => ?_) fun h' d out h1 keep hd hg => ?_
  · obtain ⟨t, rfl⟩ := e2 v hv
    have hm : V.ref t ∈ ys := by rw [e1]; exact List.mem_map.mpr ⟨_, hv, rfl⟩
    obtain ⟨t', i, j, e, ht⟩ := hy _ hm
    cases e
    obtain ⟨its2, r2, ⟨o, ho, hc, n, hd⟩, _⟩ := I.tuple ht
    obtain ⟨u1, u2, rfl, ri, rj⟩ := vals2 r2
    obtain ⟨t1, rfl⟩ := ri
    obtain rfl : u2 = Value.bool j := rj
    exact ⟨t, o, t1, n, i, j, rfl, ho, hc, hd⟩
  · obtain ⟨n, hg⟩ := hg
    have h3 : ∀ u ∈ out, ∃ a, u = Value.ref a := fun u hu => e2 u (h1.mem_iff.mp hu)
    have hb : (out.map backV).Perm ys := by
      rw [e1]
      exact h1.map backV
    have hlen : (out.map backV).length ≤ sizeLine := by rw [hb.length_eq]; exact hz
    exact ⟨.ref _, upd H d (.lst (out.map backV)), I.laid (t' := s.toks) keep hd ⟨hlen, out, n, vals_back h3, hg⟩, rfl, q _ _ hb (I.hok.fresh hd)⟩
/-! ### as trees -/
variable {G : Cfg}
abbrev ibI (p : Int × Bool) : D := .tup [.int p.1, .bl p.2]
def ibsD : List D → Option (List (Int × Bool))
  | [] => some []
  | .tup [.int i, .bl j] :: r => (ibsD r).map ((i, j) :: ·)
  | _ => none
theorem ibsD_map : ∀ (ps : List (Int × Bool)), ibsD (ps.map ibI) = some ps
  | [] => rfl
  | p :: ps => by
    show (ibsD (ps.map ibI)).map _ = _
    rw [ibsD_map ps]; rfl
theorem ibsD_of : ∀ {ds : List D} {ps : List (Int × Bool)}, ibsD ds = some ps → ds = ps.map ibI
  | [], ps, h => by cases h; rfl
  | d :: r, ps, h => by
    unfold ibsD at h
    split at h
    · rename_i e; cases e
    · rename_i i j r' e
      cases e
      cases hr : ibsD r with
      | none => rw [hr] at h; cases h
      | some qs =>
        rw [hr] at h
        cases h
        rw [ibsD_of hr]; rfl
    · cases h
theorem ib_rep {K : PySem.W.Frag} {F : Hp} {v : V} {p : Int × Bool} (r : Rep G K F v (ibI p)) : ∃ t, v = .ref t ∧ SqT K F t [.int p.1, .bl p.2] := by
  cases r with
  | tup h1 r2 =>
    cases r2 with
    | cons r3 r4 =>
      cases r4 with
      | cons r5 r6 =>
        cases r3; cases r5; cases r6
        exact ⟨_, rfl, SqT.of h1⟩
theorem perm_ibs {ps : List (Int × Bool)} {es : List D} (h : es.Perm (ps.map ibI)) : ∃ qs : List (Int × Bool), qs.Perm ps ∧ es = qs.map ibI := by
  have hall : ∀ d ∈ es, ∃ p, d = ibI p := fun d hd => by
    obtain ⟨p, _, e⟩ := List.mem_map.mp (h.mem_iff.mp hd)
    exact ⟨p, e.symm⟩
  obtain ⟨g, hg⟩ : ∃ g : D → Int × Bool, ∀ p, g (ibI p) = p := ⟨fun d => match d with | .tup [.int i, .bl j] => (i, j) | _ => (0, false), fun p => rfl⟩
  refine ⟨es.map g, ?_, ?_⟩
  · have z := h.map g
    rw [List.map_map, show (g ∘ ibI) = id from funext hg, List.map_id] at z
    exact z
  · rw [List.map_map]
    refine (List.map_id es).symm.trans (List.map_congr_left fun d hd => ?_)
    obtain ⟨p, e⟩ := hall d hd
    show d = ibI (g d)
    rw [e, hg]
/-- sorted(words): some order of the pairs -/
@[irreducible] def wSortB : WR1 := fun ds M Q => match ds with
  | [d] => match lstOf M d with
    | some xs => match ibsD xs with
      | some ps => ∀ qs : List (Int × Bool), qs.Perm ps → Q (.lst (qs.map ibI)) M
      | none => False
    | none => False
  | _ => False
theorem at_sortB {Q : D → MM → Prop} {M : MM} {d : D} {ps : List (Int × Bool)} (h : lstOf M d = some (ps.map ibI)) (q : ∀ qs : List (Int × Bool), qs.Perm ps → Q (.lst (qs.map ibI)) M) : wSortB [d] M Q := by
  unfold wSortB; dsimp only; rw [h]; dsimp only; rw [ibsD_map]; exact q
theorem sim_sortB {K : PySem.W.Frag} : SimC G K (rSortB K) wSortB := by
  intro F M H vs ds Q P hm r w f
  unfold wSortB at w
  split at w
  · split at w
    · split at w
      · rename_i d _ xs e _ ps ep
        obtain ⟨v, rfl, r1⟩ := one_rep r
        obtain ⟨a, vs, rfl, ha, rl⟩ := lstOf_rep hm r1 e
        have ed := ibsD_of ep
        subst ed
        refine ⟨a, vs, rfl, SqL.of ha, fun y hy => ?_, fun zs p hp hn => ?_⟩
        · obtain ⟨d, hd, r⟩ := rl.of_mem hy
          obtain ⟨p, _, rfl⟩ := List.mem_map.mp hd
          obtain ⟨t, e1, e2⟩ := ib_rep r
          exact ⟨t, p.1, p.2, e1, sqT_up hm.sub e2⟩
        · obtain ⟨es, pe, re⟩ := rl.perm hp
          obtain ⟨qs, pq, rfl⟩ := perm_ibs pe
          have g := hm.new (o := .lst zs) hn
          exact f _ _ _ _ _ g (.lst upd_same (re.mono g.ext)) (w qs pq)
      · exact w.elim
    · exact w.elim
  · exact w.elim
end
end DL

set_option Elab.async false
set_option linter.all false
set_option maxRecDepth 100000
set_option maxHeartbeats 4000000
namespace My
open PySem PySem.Spec L2 DL
open PyProof.Rows hiding St
theorem hu64 {A : Around} {k : Nat} (hr : Room k A) : A.units + 64 < cLine := by have := hr.un; omega
theorem hu66 {A : Around} {k : Nat} (hr : Room k A) : A.units + 66 < cLine := by have := hr.un; omega
theorem hu1 {A : Around} {k : Nat} (hr : Room k A) : A.units + 1 < cLine := by have := hr.un; omega
theorem plusR {X : Cx} : OpR X (binaryOp .Add) (orR (rI0 fun i j => .int (i + j)) (orR (fun x y H Q => ∃ a b, x = .str a ∧ y = .str b ∧ a.length + b.length ≤ sizeLine ∧ Q (.str (a ++ b)) H) (orR (rCatA X.K) rCat))) := op_or op_add (op_or op_add_str (op_or op_catA op_cat))
theorem timesR {X : Cx} : OpR X (binaryOp .Mult) (orR (orR (rI CMul fun i j => .int (i * j)) (rI CMulW fun i j => .int (i * j))) (orR (rRepT X.K) rRep)) := op_or (op_or op_mul op_mulW) (op_or op_repT op_rep)
structure Bu (K : PySem.W.Frag) (mg : Str → Option Value) (G : Cfg) : Prop where
  b_bool : mg "bool" = none
  b_enumerate : mg "enumerate" = none
  b_int : mg "int" = none
  b_isinstance : mg "isinstance" = none
  b_len : mg "len" = none
  b_list : mg "list" = none
  b_max : mg "max" = none
  b_min : mg "min" = none
  b_range : mg "range" = none
  b_repr : mg "repr" = none
  b_sorted : mg "sorted" = none
  b_sum : mg "sum" = none
  b_tuple : mg "tuple" = none
  c_MOST_NUMBERS : ∃ t, mg "MOST_NUMBERS" = some (.int 20 t)
  c_GREATEST : ∃ t, mg "GREATEST" = some (.int 999 t)
  k_Load : mg "Load" = some (.ref (G.cl 2))
  cls_Load : Cls K (G.cl 2)
  nm_Load : G.nm 2 = (["_forward", "_backward"] : List Str)
  fa_Load__forward : FldAt G K 2 0 "_forward"
  fa_Load__backward : FldAt G K 2 1 "_backward"
  kb_Load : noBlt K (.ref (G.cl 2)) = true
  cc_Load : CcOk K (G.cl 2)
  ki_Load_Load : PySem.W.kitOne K (.ref (G.cl 2)) (.ref (G.cl 2)) = some true
  ki_Load_Forward : PySem.W.kitOne K (.ref (G.cl 2)) (.ref (G.cl 4)) = some false
  ki_Load_Backward : PySem.W.kitOne K (.ref (G.cl 2)) (.ref (G.cl 5)) = some false
  ki_Load_Row : PySem.W.kitOne K (.ref (G.cl 2)) (.ref (G.cl 6)) = some false
  nn_Load_rshift : PySem.W.noNum K (G.cl 2) (PySem.dunder (PySem.Operator.RShift).info.2) (PySem.dunderR (PySem.Operator.RShift).info.2) = true
  k_Hand : mg "Hand" = some (.ref (G.cl 1))
  nm_Hand : G.nm 1 = (["_size", "_small", "_held"] : List Str)
  fa_Hand__size : FldAt G K 1 0 "_size"
  cls_Sweep : Cls K (G.cl 3)
  nm_Sweep : G.nm 3 = (["_size"] : List Str)
  fa_Sweep__size : FldAt G K 3 0 "_size"
  k_Forward : mg "Forward" = some (.ref (G.cl 4))
  cls_Forward : Cls K (G.cl 4)
  nm_Forward : G.nm 4 = (["_size"] : List Str)
  fa_Forward__size : FldAt G K 4 0 "_size"
  kb_Forward : noBlt K (.ref (G.cl 4)) = true
  cc_Forward : CcOk K (G.cl 4)
  ki_Forward_Load : PySem.W.kitOne K (.ref (G.cl 4)) (.ref (G.cl 2)) = some false
  ki_Forward_Forward : PySem.W.kitOne K (.ref (G.cl 4)) (.ref (G.cl 4)) = some true
  ki_Forward_Backward : PySem.W.kitOne K (.ref (G.cl 4)) (.ref (G.cl 5)) = some false
  ki_Forward_Row : PySem.W.kitOne K (.ref (G.cl 4)) (.ref (G.cl 6)) = some false
  nn_Forward_rshift : PySem.W.noNum K (G.cl 4) (PySem.dunder (PySem.Operator.RShift).info.2) (PySem.dunderR (PySem.Operator.RShift).info.2) = true
  k_Backward : mg "Backward" = some (.ref (G.cl 5))
  cls_Backward : Cls K (G.cl 5)
  nm_Backward : G.nm 5 = (["_size"] : List Str)
  fa_Backward__size : FldAt G K 5 0 "_size"
  kb_Backward : noBlt K (.ref (G.cl 5)) = true
  cc_Backward : CcOk K (G.cl 5)
  ki_Backward_Load : PySem.W.kitOne K (.ref (G.cl 5)) (.ref (G.cl 2)) = some false
  ki_Backward_Forward : PySem.W.kitOne K (.ref (G.cl 5)) (.ref (G.cl 4)) = some false
  ki_Backward_Backward : PySem.W.kitOne K (.ref (G.cl 5)) (.ref (G.cl 5)) = some true
  ki_Backward_Row : PySem.W.kitOne K (.ref (G.cl 5)) (.ref (G.cl 6)) = some false
  nn_Backward_rshift : PySem.W.noNum K (G.cl 5) (PySem.dunder (PySem.Operator.RShift).info.2) (PySem.dunderR (PySem.Operator.RShift).info.2) = true
  k_Row : mg "Row" = some (.ref (G.cl 6))
  cls_Row : Cls K (G.cl 6)
  nm_Row : G.nm 6 = (["_numbers"] : List Str)
  fa_Row__numbers : FldAt G K 6 0 "_numbers"
  sf_Row : PySem.W.selfFirst K (G.cl 6) = true
  kb_Row : noBlt K (.ref (G.cl 6)) = true
  cc_Row : CcOk K (G.cl 6)
  ne_Row_Load : G.cl 6 ≠ G.cl 2
  ki_Row_Load : PySem.W.kitOne K (.ref (G.cl 6)) (.ref (G.cl 2)) = some false
  ne_Row_Forward : G.cl 6 ≠ G.cl 4
  ki_Row_Forward : PySem.W.kitOne K (.ref (G.cl 6)) (.ref (G.cl 4)) = some false
  ne_Row_Backward : G.cl 6 ≠ G.cl 5
  ki_Row_Backward : PySem.W.kitOne K (.ref (G.cl 6)) (.ref (G.cl 5)) = some false
  nf_Row_Row : PySem.W.notFirst K (G.cl 6) (.ref (G.cl 6)) = true
  ki_Row_Row : PySem.W.kitOne K (.ref (G.cl 6)) (.ref (G.cl 6)) = some true
  cg : CgOk K
  ck_Load_MOST : CK G K (G.cl 2) "MOST" (.int 1200)
  ck_Hand_MOST : CK G K (G.cl 1) "MOST" (.int 20)
section
variable {P : Program} {w : World} {K : PySem.W.Frag} {mg : Str → Option Value} {base : Heap} {G : Cfg}
abbrev Nis_integer : List Str := ["value"]
theorem scis_integer : FnScope ["value"] ["value"] (defScope (tp 10)) := ⟨rfl, rfl, rfl, by decide +kernel, rfl, by decide +kernel, by decide +kernel⟩
def wis_integer : WS := (wRet (wAndV (wIsi1 (tbB .int fun _ => none) (wV 0)) (wNotV (wIsi1 (tbB .bl fun _ => none) (wV 0)))))
def sis_integer : SpD := spOf 1 1 wis_integer
theorem gois_integer (T : Bu K mg G) {f : Addr} (g : Gd K mg "is_integer" (tp 10) f ["value"]) : OkG P w K mg base false 1 "is_integer" ["value"] (lift G K sis_integer) := by
  refine okG g scis_integer fun cdv A out s H E hr hgd => ?_
  exact (dss_one (ds_ret (de_and (de_isi (.ty "int") (isi_b .int (fun _ z => Ty.noConfusion z)) T.b_isinstance (de_v 0) (de_ty T.b_int (by decide +kernel))) (de_one (de_not (de_isi (.ty "bool") (isi_b .bl (fun _ z => Ty.noConfusion z)) T.b_isinstance (de_v 0) (de_ty T.b_bool (by decide +kernel))))))))
abbrev Nis_integer_within : List Str := ["value", "low", "high"]
theorem scis_integer_within : FnScope ["value", "low", "high"] ["value", "low", "high"] (defScope (tp 11)) := ⟨rfl, rfl, rfl, by decide +kernel, rfl, by decide +kernel, by decide +kernel⟩
def wis_integer_within : WS := (wRet (wAndV (wCall sis_integer [] (wCons (wV 0) wNil)) (wChain wLe wLe (wV 1) (wV 0) (wV 2))))
def sis_integer_within : SpD := spOf 3 3 wis_integer_within
theorem gois_integer_within (T : Bu K mg G) {f : Addr} (g : Gd K mg "is_integer_within" (tp 11) f ["value", "low", "high"]) (okis_integer : OkG P w K mg base false 1 "is_integer" ["value"] (lift G K sis_integer)) : OkG P w K mg base false 2 "is_integer_within" ["value", "low", "high"] (lift G K sis_integer_within) := by
  refine okG g scis_integer_within fun cdv A out s H E hr hgd => ?_
  exact (dss_one (ds_ret (de_and (de_f okis_integer (hr.mono (by decide)) nog (da_cons (de_v 0) da_nil)) (de_one (de_chain op_le (sim_I0 bl_rep) op_le (sim_I0 bl_rep) (de_v 1) (de_v 0) (de_v 2))))))
abbrev Nlaid_down : List Str := ["numbers", "size", "held", "laid", "number"]
theorem sclaid_down : FnScope ["numbers", "size", "held", "laid", "number"] ["numbers", "size"] (defScope (tp 18)) := ⟨rfl, rfl, rfl, by decide +kernel, rfl, by decide +kernel, by decide +kernel⟩
def wlaid_down : WS := (wSeq (wSet 2 (wLst wNil))
  (wSeq (wSet 3 (wLstM wNil))
  (wSeq (wFor (wiS (wV 0)) (bNm 4) (wSeq (wSet 2 (wB wSorted (wCons (wOp wPlus (wV 2) (wLst (wCons (wV 4) wNil))) wNil)))
  (wIfS (wTst (wOp wGt (wB wLen (wCons (wV 2) wNil)) (wV 1))) (wSeq (wDrop (wM wAppend (wV 3) (wCons (wOp wIx (wV 2) (wC (.int 0))) wNil)))
  (wSet 2 (wCut (wV 2) (woS (wC (.int 1))) woN))) wNext)))
  (wRet (wOp wPlus (wV 3) (wV 2))))))
def slaid_down : SpD := spOf 2 5 wlaid_down
theorem golaid_down (T : Bu K mg G) {f : Addr} (g : Gd K mg "laid_down" (tp 18) f ["numbers", "size"]) : OkG P w K mg base false 1 "laid_down" ["numbers", "size"] (lift G K slaid_down) := by
  refine okG g sclaid_down fun cdv A out s H E hr hgd => ?_
  exact (dss_cons (ds_set 2 sclaid_down.nd (de_lst da_nil))
  (dss_cons (ds_set 3 sclaid_down.nd (de_lstM da_nil))
  (dss_cons (ds_for (passes_of rfl) rfl (di_seq (de_v 0)) (pg_name (i := 4) sclaid_down.nd rfl (by first | exact Or.inl rfl | exact Or.inr rfl)) (simG_nm 4) (dss_cons (ds_set 2 sclaid_down.nd (de_callB sim_sorted cr_sortedI T.b_sorted (by decide +kernel) (da_cons (de_op plusR sim_plus (de_v 2) (de_lst (da_cons (de_v 4) da_nil))) da_nil)))
  (dss_one (ds_if (dt_cmp op_gt (sim_I0 bl_rep) (de_callB sim_len call_len_seq T.b_len (by decide +kernel) (da_cons (de_v 2) da_nil)) (de_v 1) (nomark _)) (dss_cons (ds_expr (de_m sim_append PySem.F.plainAttrs_list PySem.F.slot_list_append PySem.F.type_list_append mt_append (de_v 3) (da_cons (de_ix (ix_or ix_list ix_tup) sim_ix (de_v 2) de_int (fun _ _ => rfl)) da_nil)))
  (dss_one (ds_set 2 sclaid_down.nd (de_cut (de_v 2) (do_some de_int) do_none)))) dss_nil))))
  (dss_one (ds_ret (de_op plusR sim_plus (de_v 3) (de_v 2)))))))
abbrev Nis_sweep : List Str := ["value"]
theorem scis_sweep : FnScope ["value"] ["value"] (defScope (tp 24)) := ⟨rfl, rfl, rfl, by decide +kernel, rfl, by decide +kernel, by decide +kernel⟩
def wis_sweep : WS := (wRet (wIsi2 (tbO [(2, false), (4, true), (5, false), (6, false)]) (tbO [(2, false), (4, false), (5, true), (6, false)]) (wV 0)))
def sis_sweep : SpD := spOf 1 1 wis_sweep
theorem gois_sweep (T : Bu K mg G) {f : Addr} (g : Gd K mg "is_sweep" (tp 24) f ["value"]) : OkG P w K mg base false 1 "is_sweep" ["value"] (lift G K sis_sweep) := by
  refine okG g scis_sweep fun cdv A out s H E hr hgd => ?_
  exact (dss_one (ds_ret (de_isi2 (.own _) (isi_o [(2, false), (4, true), (5, false), (6, false)] T.kb_Forward T.cg (tb_cons ⟨T.ki_Load_Forward, T.cls_Load, T.cc_Load⟩ (tb_cons ⟨T.ki_Forward_Forward, T.cls_Forward, T.cc_Forward⟩ (tb_cons ⟨T.ki_Backward_Forward, T.cls_Backward, T.cc_Backward⟩ (tb_cons ⟨T.ki_Row_Forward, T.cls_Row, T.cc_Row⟩ tb_nil))))) (.own _) (isi_o [(2, false), (4, false), (5, true), (6, false)] T.kb_Backward T.cg (tb_cons ⟨T.ki_Load_Backward, T.cls_Load, T.cc_Load⟩ (tb_cons ⟨T.ki_Forward_Backward, T.cls_Forward, T.cc_Forward⟩ (tb_cons ⟨T.ki_Backward_Backward, T.cls_Backward, T.cc_Backward⟩ (tb_cons ⟨T.ki_Row_Backward, T.cls_Row, T.cc_Row⟩ tb_nil))))) T.b_isinstance (de_v 0) T.k_Forward rfl T.k_Backward rfl)))
abbrev Ncheck_word : List Str := ["word", "position", "value"]
theorem sccheck_word : FnScope ["word", "position", "value"] ["word"] (defScope (tp 25)) := ⟨rfl, rfl, rfl, by decide +kernel, rfl, by decide +kernel, by decide +kernel⟩
def wcheck_word : WS := (wSeq (wIfS (wNotT (wTst (wIsi1 (tbB .tup fun _ => none) (wV 0)))) wNever wNext)
  (wFor (wiET (wCons (wV 0) wNil)) (bTup [1, 2]) (wIfS (wNotT (wTst (wCall sis_sweep [] (wCons (wV 2) wNil)))) wNever wNext)))
def scheck_word : SpD := spOf 1 3 wcheck_word
theorem gocheck_word (T : Bu K mg G) {f : Addr} (g : Gd K mg "check_word" (tp 25) f ["word"]) (okis_sweep : OkG P w K mg base false 1 "is_sweep" ["value"] (lift G K sis_sweep)) : OkG P w K mg base false 2 "check_word" ["word"] (lift G K scheck_word) := by
  refine okG g sccheck_word fun cdv A out s H E hr hgd => ?_
  exact (dss_cons (ds_if (dt_not (dt_val (de_isi (.ty "tuple") (isi_b .tup (fun _ z => Ty.noConfusion z)) T.b_isinstance (de_v 0) (de_ty T.b_tuple (by decide +kernel))))) (dss_one ds_never) dss_nil)
  (dss_one (ds_for (passes_of rfl) rfl (di_enumT T.b_enumerate (da_cons (de_v 0) da_nil)) (pg_tup rfl (pgs_cons (pg_name (i := 1) sccheck_word.nd rfl (by first | exact Or.inl rfl | exact Or.inr rfl)) (pgs_cons (pg_name (i := 2) sccheck_word.nd rfl (by first | exact Or.inl rfl | exact Or.inr rfl)) pgs_nil))) (simG_tup [1, 2]) (dss_one (ds_if (dt_not (dt_val (de_f okis_sweep (hr.mono (by decide)) nog (da_cons (de_v 2) da_nil)))) (dss_one ds_never) dss_nil)))))
abbrev Nis_count : List Str := ["value"]
theorem scis_count : FnScope ["value"] ["value"] (defScope (tp 32)) := ⟨rfl, rfl, rfl, by decide +kernel, rfl, by decide +kernel, by decide +kernel⟩
def wis_count : WS := (wRet (wCall sis_integer_within [] (wCons (wV 0) (wCons (wC (.int 1)) (wCons (wC (.int 20)) wNil)))))
def sis_count : SpD := spOf 1 1 wis_count
theorem gois_count (T : Bu K mg G) {f : Addr} (g : Gd K mg "is_count" (tp 32) f ["value"]) (okis_integer_within : OkG P w K mg base false 2 "is_integer_within" ["value", "low", "high"] (lift G K sis_integer_within)) : OkG P w K mg base false 3 "is_count" ["value"] (lift G K sis_count) := by
  refine okG g scis_count fun cdv A out s H E hr hgd => ?_
  exact (dss_one (ds_ret (de_f okis_integer_within (hr.mono (by decide)) nog (da_cons (de_v 0) (da_cons de_int (da_cons (de_glob T.c_MOST_NUMBERS) da_nil))))))
abbrev N_check_numbers : List Str := ["numbers", "position", "value"]
theorem sc_check_numbers : FnScope ["numbers", "position", "value"] ["numbers"] (defScope (tp 34)) := ⟨rfl, rfl, rfl, by decide +kernel, rfl, by decide +kernel, by decide +kernel⟩
def w_check_numbers : WS := (wSeq (wIfS (wNotT (wTst (wCall sis_count [] (wCons (wB wLen (wCons (wV 0) wNil)) wNil)))) wNever wNext)
  (wFor (wiET (wCons (wV 0) wNil)) (bTup [1, 2]) (wIfS (wNotT (wTst (wCall sis_integer_within [] (wCons (wV 2) (wCons (wNeg (wC (.int 999))) (wCons (wC (.int 999)) wNil)))))) wNever wNext)))
def s_check_numbers : SpD := spOf 1 3 w_check_numbers
theorem go_check_numbers (T : Bu K mg G) {f : Addr} (g : Gd K mg "_check_numbers" (tp 34) f ["numbers"]) (okis_count : OkG P w K mg base false 3 "is_count" ["value"] (lift G K sis_count)) (okis_integer_within : OkG P w K mg base false 2 "is_integer_within" ["value", "low", "high"] (lift G K sis_integer_within)) : OkG P w K mg base false 4 "_check_numbers" ["numbers"] (lift G K s_check_numbers) := by
  refine okG g sc_check_numbers fun cdv A out s H E hr hgd => ?_
  exact (dss_cons (ds_if (dt_not (dt_val (de_f okis_count (hr.mono (by decide)) nog (da_cons (de_callB sim_len call_len_seq T.b_len (by decide +kernel) (da_cons (de_v 0) da_nil)) da_nil)))) (dss_one ds_never) dss_nil)
  (dss_one (ds_for (passes_of rfl) rfl (di_enumT T.b_enumerate (da_cons (de_v 0) da_nil)) (pg_tup rfl (pgs_cons (pg_name (i := 1) sc_check_numbers.nd rfl (by first | exact Or.inl rfl | exact Or.inr rfl)) (pgs_cons (pg_name (i := 2) sc_check_numbers.nd rfl (by first | exact Or.inl rfl | exact Or.inr rfl)) pgs_nil))) (simG_tup [1, 2]) (dss_one (ds_if (dt_not (dt_val (de_f okis_integer_within (hr.mono (by decide)) nog (da_cons (de_v 2) (da_cons (de_neg (de_glob T.c_GREATEST)) (da_cons (de_glob T.c_GREATEST) da_nil)))))) (dss_one ds_never) dss_nil)))))
abbrev N_mirrored : List Str := ["numbers", "number"]
theorem sc_mirrored : FnScope ["numbers", "number"] ["numbers"] (defScope (tp 35)) := ⟨rfl, rfl, rfl, by decide +kernel, rfl, by decide +kernel, by decide +kernel⟩
def w_mirrored : WS := (wRet (wLc (wiS (wRev (wV 0))) (bNm 1) wYes (wNeg (wV 1)) [1]))
def s_mirrored : SpD := spOf 1 2 w_mirrored
theorem go_mirrored (T : Bu K mg G) {f : Addr} (g : Gd K mg "_mirrored" (tp 35) f ["numbers"]) : OkG P w K mg base false 1 "_mirrored" ["numbers"] (lift G K s_mirrored) := by
  refine okG g sc_mirrored fun cdv A out s H E hr hgd => ?_
  exact (dss_one (ds_ret (de_lc [("number", 1)] rfl sc_mirrored.nd (blkOk_by (N := N_mirrored) (sc := defScope (tp 35)) (by decide +kernel)) (di_seq (de_rev (de_v 0))) (simGw_nm (by decide)) (fun _ _ _ _ _ => (pg_name (i := 1) sc_mirrored.nd rfl (by first | exact Or.inl rfl | exact Or.inr rfl))) (fun _ _ _ _ _ => dpts_nil) (fun _ _ _ _ _ => (de_neg (de_v 1))))))
abbrev N_law_mixed : List Str := ["_law_cell", "_law_n", "_law_turned"]
theorem sc_law_mixed : FnScope ["_law_cell", "_law_n", "_law_turned"] ["_law_cell", "_law_n"] (defScope (tp 37)) := ⟨rfl, rfl, rfl, by decide +kernel, rfl, by decide +kernel, by decide +kernel⟩
def w_law_mixed : WS := (wSeq (wSet 2 (wOp wPlus (wOp wPlus (wOp wMod (wB wInt1 (wCons (wOp wTimes (wOp wTimes (wV 0) (wOp wPlus (wC (.int 1)) (wOp wTimes (wC (.int 2)) (wV 1)))) (wC (.int 48271))) wNil)) (wC (.int 2147483647))) (wOp wTimes (wOp wTimes (wC (.int 7919)) (wV 1)) (wV 1))) (wOp wTimes (wC (.int 104729)) (wV 1))))
  (wRet (wOp wDiv (wOp wMod (wB wInt1 (wCons (wOp wTimes (wV 2) (wC (.int 69621))) wNil)) (wC (.int 2147483629))) (wC (.int 7)))))
def s_law_mixed : SpD := spOf 2 3 w_law_mixed
theorem go_law_mixed (T : Bu K mg G) {f : Addr} (g : Gd K mg "_law_mixed" (tp 37) f ["_law_cell", "_law_n"]) : OkG P w K mg base false 1 "_law_mixed" ["_law_cell", "_law_n"] (lift G K s_law_mixed) := by
  refine okG g sc_law_mixed fun cdv A out s H E hr hgd => ?_
  exact (dss_cons (ds_set 2 sc_law_mixed.nd (de_op plusR sim_plus (de_op plusR sim_plus (de_op op_mod (sim_I int_rep) (de_callT sim_int1 call_int1 T.b_int (by decide +kernel) (da_cons (de_op timesR sim_times (de_op timesR sim_times (de_v 0) (de_op plusR sim_plus de_int (de_op timesR sim_times de_int (de_v 1)))) de_int) da_nil)) de_int) (de_op timesR sim_times (de_op timesR sim_times de_int (de_v 1)) (de_v 1))) (de_op timesR sim_times de_int (de_v 1))))
  (dss_one (ds_ret (de_op op_fdiv (sim_I int_rep) (de_op op_mod (sim_I int_rep) (de_callT sim_int1 call_int1 T.b_int (by decide +kernel) (da_cons (de_op timesR sim_times (de_v 2) de_int) da_nil)) de_int) de_int))))
abbrev N_law_folded : List Str := ["_law_script", "_law_found", "_law_n", "_law_cell", "_law_at"]
theorem sc_law_folded : FnScope ["_law_script", "_law_found", "_law_n", "_law_cell", "_law_at"] ["_law_script"] (defScope (tp 38)) := ⟨rfl, rfl, rfl, by decide +kernel, rfl, by decide +kernel, by decide +kernel⟩
def w_law_folded : WS := (wSeq (wSet 1 (wLcM (wiR1 (wCons (wC (.int 64)) wNil)) (bNm 2) wYes (wOp wPlus (wC (.int 17)) (wV 2)) [2]))
  (wSeq (wFor (wiE (wCons (wV 0) wNil)) (bTup [2, 3]) (wSeq (wSet 4 (wOp wMod (wB wInt1 (wCons (wV 2) wNil)) (wC (.int 64))))
  (wPutL (wOp wMod (wB wInt1 (wCons (wOp wPlus (wOp wTimes (wOp wIx (wV 1) (wV 4)) (wC (.int 48271))) (wV 3)) wNil)) (wC (.int 2147483647))) (wV 1) (wV 4))))
  (wSeq (wFor (wiR2 (wCons (wC (.int 1)) (wCons (wC (.int 64)) wNil))) (bNm 2) (wPutL (wOp wMod (wB wInt1 (wCons (wOp wPlus (wOp wIx (wV 1) (wV 2)) (wOp wTimes (wOp wIx (wV 1) (wOp wSub (wV 2) (wC (.int 1)))) (wC (.int 16807)))) wNil)) (wC (.int 2147483647))) (wV 1) (wV 2)))
  (wRet (wFrz (wV 1))))))
def s_law_folded : SpD := spOf 1 5 w_law_folded
theorem go_law_folded (T : Bu K mg G) {f : Addr} (g : Gd K mg "_law_folded" (tp 38) f ["_law_script"]) : OkG P w K mg base false 1 "_law_folded" ["_law_script"] (lift G K s_law_folded) := by
  refine okG g sc_law_folded fun cdv A out s H E hr hgd => ?_
  exact (dss_cons (ds_setLcM 1 [("_law_n", 2)] rfl sc_law_folded.nd (blkOk_by (N := N_law_folded) (sc := defScope (tp 38)) (by decide +kernel)) (di_range1 T.b_range (da_cons de_int da_nil)) (simGw_nm (by decide)) (fun _ _ _ _ _ => (pg_name (i := 2) sc_law_folded.nd rfl (by first | exact Or.inl rfl | exact Or.inr rfl))) (fun _ _ _ _ _ => dpts_nil) (fun _ _ _ _ _ => (de_op plusR sim_plus de_int (de_v 2))) (sw_true rfl rfl rfl (by decide +kernel)))
  (dss_cons (ds_for (passes_of rfl) rfl (di_enum T.b_enumerate (da_cons (de_v 0) da_nil)) (pg_tup rfl (pgs_cons (pg_name (i := 2) sc_law_folded.nd rfl (by first | exact Or.inl rfl | exact Or.inr rfl)) (pgs_cons (pg_name (i := 3) sc_law_folded.nd rfl (by first | exact Or.inl rfl | exact Or.inr rfl)) pgs_nil))) (simG_tup [2, 3]) (dss_cons (ds_set 4 sc_law_folded.nd (de_op op_mod (sim_I int_rep) (de_callT sim_int1 call_int1 T.b_int (by decide +kernel) (da_cons (de_v 2) da_nil)) de_int))
  (dss_one (ds_putL (de_op op_mod (sim_I int_rep) (de_callT sim_int1 call_int1 T.b_int (by decide +kernel) (da_cons (de_op plusR sim_plus (de_op timesR sim_times (de_ix (ix_or ix_list ix_tup) sim_ix (de_v 1) (de_v 4) (fun _ _ => rfl)) de_int) (de_v 3)) da_nil)) de_int) (de_v 1) (de_v 4)))))
  (dss_cons (ds_for (passes_of rfl) rfl (di_range2 T.b_range (da_cons de_int (da_cons de_int da_nil))) (pg_name (i := 2) sc_law_folded.nd rfl (by first | exact Or.inl rfl | exact Or.inr rfl)) (simG_nm 2) (dss_one (ds_putL (de_op op_mod (sim_I int_rep) (de_callT sim_int1 call_int1 T.b_int (by decide +kernel) (da_cons (de_op plusR sim_plus (de_ix (ix_or ix_list ix_tup) sim_ix (de_v 1) (de_v 2) (fun _ _ => rfl)) (de_op timesR sim_times (de_ix (ix_or ix_list ix_tup) sim_ix (de_v 1) (de_op op_sub (sim_I0 int_rep) (de_v 2) de_int) (fun _ _ => rfl)) de_int)) da_nil)) de_int) (de_v 1) (de_v 2))))
  (dss_one (ds_ret (de_frz (de_v 1)))))))
abbrev N_law_draw : List Str := ["_law_m", "_law_top", "_law_n", "_law_cell", "_law_at"]
theorem sc_law_draw : FnScope ["_law_m", "_law_top", "_law_n", "_law_cell", "_law_at"] ["_law_m", "_law_top"] (defScope (tp 39)) := ⟨rfl, rfl, rfl, by decide +kernel, rfl, by decide +kernel, by decide +kernel⟩
def w_law_draw : WS := (wSeq (wSet 2 (wDGet (wV 0) (wC (.str "spot"))))
  (wSeq (wDPut (wOp wPlus (wV 2) (wC (.int 1))) (wV 0) (wC (.str "spot")))
  (wSeq (wIfS (wTst (wOp wNe2 (wDGet (wV 0) (wC (.str "great"))) (wLst wNil))) (wSeq (wSet 4 (wOp wMod (wB wInt1 (wCons (wV 2) wNil)) (wB wLen (wCons (wDGet (wV 0) (wC (.str "great"))) wNil))))
  (wSeq (wSet 3 (wOp wIx (wDGet (wV 0) (wC (.str "great"))) (wV 4)))
  (wIfS (wTst (wOp wGt (wV 3) (wC (.int 0)))) (wSeq (wPutL (wOp wDiv (wV 3) (wV 1)) (wDGet (wV 0) (wC (.str "great"))) (wV 4))
  (wRet (wOp wMod (wB wInt1 (wCons (wV 3) wNil)) (wV 1)))) wNext))) wNext)
  (wSeq (wSet 3 (wOp wIx (wDGet (wV 0) (wC (.str "cells"))) (wOp wMod (wB wInt1 (wCons (wV 2) wNil)) (wC (.int 64)))))
  (wRet (wOp wMod (wB wInt1 (wCons (wCall s_law_mixed [] (wCons (wCall s_law_mixed [] (wCons (wOp wPlus (wV 3) (wOp wTimes (wC (.int 31)) (wOp wDiv (wV 2) (wC (.int 64))))) (wCons (wV 2) wNil))) (wCons (wOp wPlus (wV 2) (wC (.int 7))) wNil))) wNil)) (wV 1)))))))
def s_law_draw : SpD := spOf 2 5 w_law_draw
theorem go_law_draw (T : Bu K mg G) {f : Addr} (g : Gd K mg "_law_draw" (tp 39) f ["_law_m", "_law_top"]) (ok_law_mixed : OkG P w K mg base false 1 "_law_mixed" ["_law_cell", "_law_n"] (lift G K s_law_mixed)) : OkG P w K mg base false 2 "_law_draw" ["_law_m", "_law_top"] (lift G K s_law_draw) := by
  refine okG g sc_law_draw fun cdv A out s H E hr hgd => ?_
  exact (dss_cons (ds_set 2 sc_law_draw.nd (de_dget (hu1 hr) (de_v 0) de_str (fun _ _ => rfl)))
  (dss_cons (ds_dput (hu1 hr) (de_op plusR sim_plus (de_v 2) de_int) (de_v 0) de_str)
  (dss_cons (ds_if (dt_cmp (op_or op_ne (op_neD (hu64 hr))) sim_ne2 (de_dget (hu1 hr) (de_v 0) de_str (fun _ _ => rfl)) (de_lst da_nil) (nomark _)) (dss_cons (ds_set 4 sc_law_draw.nd (de_op op_mod (sim_I int_rep) (de_callT sim_int1 call_int1 T.b_int (by decide +kernel) (da_cons (de_v 2) da_nil)) (de_callB sim_len call_len_seq T.b_len (by decide +kernel) (da_cons (de_dget (hu1 hr) (de_v 0) de_str (fun _ _ => rfl)) da_nil))))
  (dss_cons (ds_set 3 sc_law_draw.nd (de_ix (ix_or ix_list ix_tup) sim_ix (de_dget (hu1 hr) (de_v 0) de_str (fun _ _ => rfl)) (de_v 4) (fun _ _ => rfl)))
  (dss_one (ds_if (dt_cmp op_gt (sim_I0 bl_rep) (de_v 3) de_int (nomark _)) (dss_cons (ds_putL (de_op op_fdiv (sim_I int_rep) (de_v 3) (de_v 1)) (de_dget (hu1 hr) (de_v 0) de_str (fun _ _ => rfl)) (de_v 4))
  (dss_one (ds_ret (de_op op_mod (sim_I int_rep) (de_callT sim_int1 call_int1 T.b_int (by decide +kernel) (da_cons (de_v 3) da_nil)) (de_v 1))))) dss_nil)))) dss_nil)
  (dss_cons (ds_set 3 sc_law_draw.nd (de_ix (ix_or ix_list ix_tup) sim_ix (de_dget (hu1 hr) (de_v 0) de_str (fun _ _ => rfl)) (de_op op_mod (sim_I int_rep) (de_callT sim_int1 call_int1 T.b_int (by decide +kernel) (da_cons (de_v 2) da_nil)) de_int) (fun _ _ => rfl)))
  (dss_one (ds_ret (de_op op_mod (sim_I int_rep) (de_callT sim_int1 call_int1 T.b_int (by decide +kernel) (da_cons (de_f ok_law_mixed (hr.mono (by decide)) nog (da_cons (de_f ok_law_mixed (hr.mono (by decide)) nog (da_cons (de_op plusR sim_plus (de_v 3) (de_op timesR sim_times de_int (de_op op_fdiv (sim_I int_rep) (de_v 2) de_int))) (da_cons (de_v 2) da_nil))) (da_cons (de_op plusR sim_plus (de_v 2) de_int) da_nil))) da_nil)) (de_v 1))))))))
abbrev N_law_begun : List Str := ["_law_script", "_law_m", "_law_cell"]
theorem sc_law_begun : FnScope ["_law_script", "_law_m", "_law_cell"] ["_law_script"] (defScope (tp 40)) := ⟨rfl, rfl, rfl, by decide +kernel, rfl, by decide +kernel, by decide +kernel⟩
def w_law_begun : WS := (wSeq (wSet 1 (wDctM [.inr "cells", .inr "great", .inr "spot"] (wCons (wCall s_law_folded [] (wCons (wV 0) wNil)) (wCons (wLstM wNil) (wCons (wC (.int 0)) wNil)))))
  (wSeq (wDPut (wLcM (wiS (wV 0)) (bNm 2) wYes (wIf (wTst (wOp wGe (wV 2) (wOp wPow (wC (.int 10)) (wC (.int 18))))) (wV 2) (wC (.int 0))) [2]) (wV 1) (wC (.str "great")))
  (wRet (wV 1))))
def s_law_begun : SpD := spOf 1 3 w_law_begun
theorem go_law_begun (T : Bu K mg G) {f : Addr} (g : Gd K mg "_law_begun" (tp 40) f ["_law_script"]) (ok_law_folded : OkG P w K mg base false 1 "_law_folded" ["_law_script"] (lift G K s_law_folded)) : OkG P w K mg base false 2 "_law_begun" ["_law_script"] (lift G K s_law_begun) := by
  refine okG g sc_law_begun fun cdv A out s H E hr hgd => ?_
  exact (dss_cons (ds_set 1 sc_law_begun.nd (de_dctM (dp_cons pe_str (de_f ok_law_folded (hr.mono (by decide)) nog (da_cons (de_v 0) da_nil)) (dp_cons pe_str (de_lstM da_nil) (dp_cons pe_str de_int dp_nil)))))
  (dss_cons (ds_dput (hu1 hr) (de_lcM [("_law_cell", 2)] rfl sc_law_begun.nd (blkOk_by (N := N_law_begun) (sc := defScope (tp 40)) (by decide +kernel)) (di_seq (de_v 0)) (simGw_nm (by decide)) (fun _ _ _ _ _ => (pg_name (i := 2) sc_law_begun.nd rfl (by first | exact Or.inl rfl | exact Or.inr rfl))) (fun _ _ _ _ _ => dpts_nil) (fun _ _ _ _ _ => (de_if (dt_cmp op_ge (sim_I0 bl_rep) (de_v 2) (de_op op_pow (sim_I int_rep) de_int de_int) (nomark _)) (de_v 2) de_int))) (de_v 1) de_str)
  (dss_one (ds_ret (de_v 1)))))
abbrev N_law_order : List Str := ["_law_m", "_law_n", "_law_step", "_law_found", "_law_some"]
theorem sc_law_order : FnScope ["_law_m", "_law_n", "_law_step", "_law_found", "_law_some"] ["_law_m", "_law_n"] (defScope (tp 42)) := ⟨rfl, rfl, rfl, by decide +kernel, rfl, by decide +kernel, by decide +kernel⟩
def w_law_order : WS := (wSeq (wPar 3 4 (wCons (wLstM wNil) (wCons (wLRgM (wCons (wV 1) wNil)) wNil)))
  (wSeq (wFor (wiR1 (wCons (wV 1) wNil)) (bNm 2) (wDrop (wM wAppend (wV 3) (wCons (wM wPopAt (wV 4) (wCons (wCall s_law_draw [] (wCons (wV 0) (wCons (wB wLen (wCons (wV 4) wNil)) wNil))) wNil)) wNil))))
  (wRet (wFrz (wV 3)))))
def s_law_order : SpD := spOf 2 5 w_law_order
theorem go_law_order (T : Bu K mg G) {f : Addr} (g : Gd K mg "_law_order" (tp 42) f ["_law_m", "_law_n"]) (ok_law_draw : OkG P w K mg base false 2 "_law_draw" ["_law_m", "_law_top"] (lift G K s_law_draw)) : OkG P w K mg base false 3 "_law_order" ["_law_m", "_law_n"] (lift G K s_law_order) := by
  refine okG g sc_law_order fun cdv A out s H E hr hgd => ?_
  exact (dss_cons (ds_par 3 4 sc_law_order.nd (da_cons (de_lstM da_nil) (da_cons (de_lrg1M T.b_list T.b_range (de_v 1)) da_nil)))
  (dss_cons (ds_for (passes_of rfl) rfl (di_range1 T.b_range (da_cons (de_v 1) da_nil)) (pg_name (i := 2) sc_law_order.nd rfl (by first | exact Or.inl rfl | exact Or.inr rfl)) (simG_nm 2) (dss_one (ds_expr (de_m sim_append PySem.F.plainAttrs_list PySem.F.slot_list_append PySem.F.type_list_append mt_append (de_v 3) (da_cons (de_m sim_popAt PySem.F.plainAttrs_list PySem.F.slot_list_pop PySem.F.type_list_pop mt_popAt (de_v 4) (da_cons (de_f ok_law_draw (hr.mono (by decide)) nog (da_cons (de_v 0) (da_cons (de_callB sim_len call_len_seq T.b_len (by decide +kernel) (da_cons (de_v 4) da_nil)) da_nil))) da_nil)) da_nil)))))
  (dss_one (ds_ret (de_frz (de_v 3))))))
abbrev N_law_word : List Str := ["_law_m", "_law_most", "_law_found", "_law_step", "_law_k"]
theorem sc_law_word : FnScope ["_law_m", "_law_most", "_law_found", "_law_step", "_law_k"] ["_law_m", "_law_most"] (defScope (tp 43)) := ⟨rfl, rfl, rfl, by decide +kernel, rfl, by decide +kernel, by decide +kernel⟩
def w_law_word : WS := (wSeq (wSet 2 (wLstM wNil))
  (wSeq (wFor (wiR1 (wCons (wCall s_law_draw [] (wCons (wV 0) (wCons (wOp wPlus (wV 1) (wC (.int 1))) wNil))) wNil)) (bNm 3) (wSeq (wSet 4 (wOp wPlus (wC (.int 1)) (wCall s_law_draw [] (wCons (wV 0) (wCons (wOp wIx (wLst (wCons (wC (.int 2)) (wCons (wC (.int 3)) (wCons (wC (.int 6)) (wCons (wC (.int 20)) wNil))))) (wCall s_law_draw [] (wCons (wV 0) (wCons (wC (.int 4)) wNil)))) wNil)))))
  (wDrop (wM wAppend (wV 2) (wCons (wTup (wCons (wV 4) (wCons (wOp wEq2 (wCall s_law_draw [] (wCons (wV 0) (wCons (wC (.int 2)) wNil))) (wC (.int 1))) wNil))) wNil)))))
  (wRet (wFrz (wV 2)))))
def s_law_word : SpD := spOf 2 5 w_law_word
theorem go_law_word (T : Bu K mg G) {f : Addr} (g : Gd K mg "_law_word" (tp 43) f ["_law_m", "_law_most"]) (ok_law_draw : OkG P w K mg base false 2 "_law_draw" ["_law_m", "_law_top"] (lift G K s_law_draw)) : OkG P w K mg base false 3 "_law_word" ["_law_m", "_law_most"] (lift G K s_law_word) := by
  refine okG g sc_law_word fun cdv A out s H E hr hgd => ?_
  exact (dss_cons (ds_set 2 sc_law_word.nd (de_lstM da_nil))
  (dss_cons (ds_for (passes_of rfl) rfl (di_range1 T.b_range (da_cons (de_f ok_law_draw (hr.mono (by decide)) nog (da_cons (de_v 0) (da_cons (de_op plusR sim_plus (de_v 1) de_int) da_nil))) da_nil)) (pg_name (i := 3) sc_law_word.nd rfl (by first | exact Or.inl rfl | exact Or.inr rfl)) (simG_nm 3) (dss_cons (ds_set 4 sc_law_word.nd (de_op plusR sim_plus de_int (de_f ok_law_draw (hr.mono (by decide)) nog (da_cons (de_v 0) (da_cons (de_ix (ix_or ix_list ix_tup) sim_ix (de_lst (da_cons de_int (da_cons de_int (da_cons de_int (da_cons de_int da_nil))))) (de_f ok_law_draw (hr.mono (by decide)) nog (da_cons (de_v 0) (da_cons de_int da_nil))) (fun _ _ => rfl)) da_nil)))))
  (dss_one (ds_expr (de_m sim_append PySem.F.plainAttrs_list PySem.F.slot_list_append PySem.F.type_list_append mt_append (de_v 2) (da_cons (de_tup (da_cons (de_v 4) (da_cons (de_cmp (op_or op_eq (op_eqD (hu64 hr))) sim_eq2 (de_f ok_law_draw (hr.mono (by decide)) nog (da_cons (de_v 0) (da_cons de_int da_nil))) de_int (nomark _)) da_nil))) da_nil))))))
  (dss_one (ds_ret (de_frz (de_v 2))))))
abbrev N_law_swept : List Str := ["_law_given_here", "_law_k", "_law_is_back", "_law_one", "_law_found", "_law_some", "_law_held_so", "_law_best"]
theorem sc_law_swept : FnScope ["_law_given_here", "_law_k", "_law_is_back", "_law_one", "_law_found", "_law_some", "_law_held_so", "_law_best"] ["_law_given_here", "_law_k", "_law_is_back"] (defScope (tp 44)) := ⟨rfl, rfl, rfl, by decide +kernel, rfl, by decide +kernel, by decide +kernel⟩
def w_law_swept : WS := (wSeq (wPar3 5 6 4 (wCons (wIf (wTst (wV 2)) (wRev (wV 0)) (wB wListOf (wCons (wV 0) wNil))) (wCons (wLstM wNil) (wCons (wLstM wNil) wNil))))
  (wSeq (wFor (wiS (wV 5)) (bNm 3) (wSeq (wDrop (wM wAppend (wV 6) (wCons (wV 3) wNil)))
  (wIfS (wTst (wOp wGt (wB wLen (wCons (wV 6) wNil)) (wV 1))) (wSeq (wSet 7 (wIf (wTst (wV 2)) (wB wMax (wCons (wV 6) wNil)) (wB wMin (wCons (wV 6) wNil))))
  (wSeq (wDrop (wM wRemove (wV 6) (wCons (wV 7) wNil)))
  (wDrop (wM wAppend (wV 4) (wCons (wV 7) wNil))))) wNext)))
  (wSeq (wSet 4 (wOp wPlus (wV 4) (wIf (wTst (wV 2)) (wRev (wB wSorted (wCons (wV 6) wNil))) (wB wSorted (wCons (wV 6) wNil)))))
  (wRet (wIf (wTst (wV 2)) (wRev (wV 4)) (wV 4))))))
def s_law_swept : SpD := spOf 3 8 w_law_swept
theorem go_law_swept (T : Bu K mg G) {f : Addr} (g : Gd K mg "_law_swept" (tp 44) f ["_law_given_here", "_law_k", "_law_is_back"]) : OkG P w K mg base false 1 "_law_swept" ["_law_given_here", "_law_k", "_law_is_back"] (lift G K s_law_swept) := by
  refine okG g sc_law_swept fun cdv A out s H E hr hgd => ?_
  exact (dss_cons (ds_par3 5 6 4 sc_law_swept.nd (da_cons (de_if (dt_val (de_v 2)) (de_rev (de_v 0)) (de_callT sim_listOf call_list_of T.b_list (by decide +kernel) (da_cons (de_v 0) da_nil))) (da_cons (de_lstM da_nil) (da_cons (de_lstM da_nil) da_nil))))
  (dss_cons (ds_for (passes_of rfl) rfl (di_seq (de_v 5)) (pg_name (i := 3) sc_law_swept.nd rfl (by first | exact Or.inl rfl | exact Or.inr rfl)) (simG_nm 3) (dss_cons (ds_expr (de_m sim_append PySem.F.plainAttrs_list PySem.F.slot_list_append PySem.F.type_list_append mt_append (de_v 6) (da_cons (de_v 3) da_nil)))
  (dss_one (ds_if (dt_cmp op_gt (sim_I0 bl_rep) (de_callB sim_len call_len_seq T.b_len (by decide +kernel) (da_cons (de_v 6) da_nil)) (de_v 1) (nomark _)) (dss_cons (ds_set 7 sc_law_swept.nd (de_if (dt_val (de_v 2)) (de_callB sim_max (cr_max rfl) T.b_max (by decide +kernel) (da_cons (de_v 6) da_nil)) (de_callB sim_min (cr_min rfl) T.b_min (by decide +kernel) (da_cons (de_v 6) da_nil))))
  (dss_cons (ds_expr (de_m sim_remove PySem.F.plainAttrs_list PySem.F.slot_list_remove PySem.F.type_list_remove mt_remove (de_v 6) (da_cons (de_v 7) da_nil)))
  (dss_one (ds_expr (de_m sim_append PySem.F.plainAttrs_list PySem.F.slot_list_append PySem.F.type_list_append mt_append (de_v 4) (da_cons (de_v 7) da_nil)))))) dss_nil))))
  (dss_cons (ds_set 4 sc_law_swept.nd (de_op plusR sim_plus (de_v 4) (de_if (dt_val (de_v 2)) (de_rev (de_callB sim_sorted cr_sortedI T.b_sorted (by decide +kernel) (da_cons (de_v 6) da_nil))) (de_callB sim_sorted cr_sortedI T.b_sorted (by decide +kernel) (da_cons (de_v 6) da_nil)))))
  (dss_one (ds_ret (de_if (dt_val (de_v 2)) (de_rev (de_v 4)) (de_v 4)))))))
abbrev N_law_swept_all : List Str := ["_law_given_here", "_law_sweeps_so", "_law_found", "_law_k", "_law_is_back"]
theorem sc_law_swept_all : FnScope ["_law_given_here", "_law_sweeps_so", "_law_found", "_law_k", "_law_is_back"] ["_law_given_here", "_law_sweeps_so"] (defScope (tp 45)) := ⟨rfl, rfl, rfl, by decide +kernel, rfl, by decide +kernel, by decide +kernel⟩
def w_law_swept_all : WS := (wSeq (wSet 2 (wB wListOf (wCons (wV 0) wNil)))
  (wSeq (wFor (wiS (wV 1)) (bTup [3, 4]) (wSet 2 (wCall s_law_swept [] (wCons (wV 2) (wCons (wV 3) (wCons (wV 4) wNil))))))
  (wRet (wV 2))))
def s_law_swept_all : SpD := spOf 2 5 w_law_swept_all
theorem go_law_swept_all (T : Bu K mg G) {f : Addr} (g : Gd K mg "_law_swept_all" (tp 45) f ["_law_given_here", "_law_sweeps_so"]) (ok_law_swept : OkG P w K mg base false 1 "_law_swept" ["_law_given_here", "_law_k", "_law_is_back"] (lift G K s_law_swept)) : OkG P w K mg base false 2 "_law_swept_all" ["_law_given_here", "_law_sweeps_so"] (lift G K s_law_swept_all) := by
  refine okG g sc_law_swept_all fun cdv A out s H E hr hgd => ?_
  exact (dss_cons (ds_set 2 sc_law_swept_all.nd (de_callT sim_listOf call_list_of T.b_list (by decide +kernel) (da_cons (de_v 0) da_nil)))
  (dss_cons (ds_for (passes_of rfl) rfl (di_seq (de_v 1)) (pg_tup rfl (pgs_cons (pg_name (i := 3) sc_law_swept_all.nd rfl (by first | exact Or.inl rfl | exact Or.inr rfl)) (pgs_cons (pg_name (i := 4) sc_law_swept_all.nd rfl (by first | exact Or.inl rfl | exact Or.inr rfl)) pgs_nil))) (simG_tup [3, 4]) (dss_one (ds_set 2 sc_law_swept_all.nd (de_f ok_law_swept (hr.mono (by decide)) nog (da_cons (de_v 2) (da_cons (de_v 3) (da_cons (de_v 4) da_nil)))))))
  (dss_one (ds_ret (de_v 2)))))
abbrev N_law_sums : List Str := ["_law_sweeps_so", "_law_k", "_law_is_back"]
theorem sc_law_sums : FnScope ["_law_sweeps_so", "_law_k", "_law_is_back"] ["_law_sweeps_so"] (defScope (tp 46)) := ⟨rfl, rfl, rfl, by decide +kernel, rfl, by decide +kernel, by decide +kernel⟩
def w_law_sums : WS := (wRet (wTup (wCons (wB wSum (wCons (wLc (wiS (wV 0)) (bTup [1, 2]) (wNotT (wTst (wV 2))) (wV 1) [1, 2]) wNil)) (wCons (wB wSum (wCons (wLc (wiS (wV 0)) (bTup [1, 2]) (wTst (wV 2)) (wV 1) [1, 2]) wNil)) wNil))))
def s_law_sums : SpD := spOf 1 3 w_law_sums
theorem go_law_sums (T : Bu K mg G) {f : Addr} (g : Gd K mg "_law_sums" (tp 46) f ["_law_sweeps_so"]) : OkG P w K mg base false 1 "_law_sums" ["_law_sweeps_so"] (lift G K s_law_sums) := by
  refine okG g sc_law_sums fun cdv A out s H E hr hgd => ?_
  exact (dss_one (ds_ret (de_tup (da_cons (de_callB sim_sum (cr_sum rfl) T.b_sum (by decide +kernel) (da_cons (de_lc [("_law_k", 1), ("_law_is_back", 2)] rfl sc_law_sums.nd (blkOk_by (N := N_law_sums) (sc := defScope (tp 46)) (by decide +kernel)) (di_seq (de_v 0)) (simGw_tup [1, 2] (by decide)) (fun _ _ _ _ _ => (pg_tup rfl (pgs_cons (pg_name (i := 1) sc_law_sums.nd rfl (by first | exact Or.inl rfl | exact Or.inr rfl)) (pgs_cons (pg_name (i := 2) sc_law_sums.nd rfl (by first | exact Or.inl rfl | exact Or.inr rfl)) pgs_nil)))) (fun _ _ _ _ _ => dpts_one (dt_not (dt_val (de_v 2)))) (fun _ _ _ _ _ => (de_v 1))) da_nil)) (da_cons (de_callB sim_sum (cr_sum rfl) T.b_sum (by decide +kernel) (da_cons (de_lc [("_law_k", 1), ("_law_is_back", 2)] rfl sc_law_sums.nd (blkOk_by (N := N_law_sums) (sc := defScope (tp 46)) (by decide +kernel)) (di_seq (de_v 0)) (simGw_tup [1, 2] (by decide)) (fun _ _ _ _ _ => (pg_tup rfl (pgs_cons (pg_name (i := 1) sc_law_sums.nd rfl (by first | exact Or.inl rfl | exact Or.inr rfl)) (pgs_cons (pg_name (i := 2) sc_law_sums.nd rfl (by first | exact Or.inl rfl | exact Or.inr rfl)) pgs_nil)))) (fun _ _ _ _ _ => dpts_one (dt_val (de_v 2))) (fun _ _ _ _ _ => (de_v 1))) da_nil)) da_nil)))))
abbrev N_law_mixed_up : List Str := ["_law_m", "_law_things", "_law_n", "_law_stock", "_law_found"]
theorem sc_law_mixed_up : FnScope ["_law_m", "_law_things", "_law_n", "_law_stock", "_law_found"] ["_law_m", "_law_things"] (defScope (tp 49)) := ⟨rfl, rfl, rfl, by decide +kernel, rfl, by decide +kernel, by decide +kernel⟩
def w_law_mixed_up : WS := (wSeq (wPar 3 4 (wCons (wB wListOfM (wCons (wV 1) wNil)) (wCons (wLstM wNil) wNil)))
  (wSeq (wFor (wiR1 (wCons (wB wLen (wCons (wV 1) wNil)) wNil)) (bNm 2) (wDrop (wM wAppend (wV 4) (wCons (wM wPopAt (wV 3) (wCons (wCall s_law_draw [] (wCons (wV 0) (wCons (wB wLen (wCons (wV 3) wNil)) wNil))) wNil)) wNil))))
  (wRet (wFrz (wV 4)))))
def s_law_mixed_up : SpD := spOf 2 5 w_law_mixed_up
theorem go_law_mixed_up (T : Bu K mg G) {f : Addr} (g : Gd K mg "_law_mixed_up" (tp 49) f ["_law_m", "_law_things"]) (ok_law_draw : OkG P w K mg base false 2 "_law_draw" ["_law_m", "_law_top"] (lift G K s_law_draw)) : OkG P w K mg base false 3 "_law_mixed_up" ["_law_m", "_law_things"] (lift G K s_law_mixed_up) := by
  refine okG g sc_law_mixed_up fun cdv A out s H E hr hgd => ?_
  exact (dss_cons (ds_par 3 4 sc_law_mixed_up.nd (da_cons (de_callT sim_listOfM call_list_of T.b_list (by decide +kernel) (da_cons (de_v 1) da_nil)) (da_cons (de_lstM da_nil) da_nil)))
  (dss_cons (ds_for (passes_of rfl) rfl (di_range1 T.b_range (da_cons (de_callB sim_len call_len_seq T.b_len (by decide +kernel) (da_cons (de_v 1) da_nil)) da_nil)) (pg_name (i := 2) sc_law_mixed_up.nd rfl (by first | exact Or.inl rfl | exact Or.inr rfl)) (simG_nm 2) (dss_one (ds_expr (de_m sim_append PySem.F.plainAttrs_list PySem.F.slot_list_append PySem.F.type_list_append mt_append (de_v 4) (da_cons (de_m sim_popAt PySem.F.plainAttrs_list PySem.F.slot_list_pop PySem.F.type_list_pop mt_popAt (de_v 3) (da_cons (de_f ok_law_draw (hr.mono (by decide)) nog (da_cons (de_v 0) (da_cons (de_callB sim_len call_len_seq T.b_len (by decide +kernel) (da_cons (de_v 3) da_nil)) da_nil))) da_nil)) da_nil)))))
  (dss_one (ds_ret (de_frz (de_v 4))))))
abbrev N_law_joined : List Str := ["_law_sweeps_so", "_law_found", "_law_is_back", "_law_rest_so", "_law_n", "_law_k", "_law_way"]
theorem sc_law_joined : FnScope ["_law_sweeps_so", "_law_found", "_law_is_back", "_law_rest_so", "_law_n", "_law_k", "_law_way"] ["_law_sweeps_so"] (defScope (tp 50)) := ⟨rfl, rfl, rfl, by decide +kernel, rfl, by decide +kernel, by decide +kernel⟩
def w_law_joined : WS := (wSeq (wSet 1 (wLstM wNil))
  (wSeq (wFor (wiS (wTup (wCons (wC (.bl false)) (wCons (wC (.bl true)) wNil)))) (bNm 2) (wSeq (wSet 3 (wB wSum (wCons (wLc (wiS (wV 0)) (bTup [5, 6]) (wTst (wOp wEq2 (wV 6) (wV 2))) (wV 5) [5, 6]) wNil)))
  (wFor (wiR1 (wCons (wB wLen (wCons (wV 0) wNil)) wNil)) (bNm 4) (wIfS (wTst (wOp wGt (wV 3) (wC (.int 0)))) (wSeq (wDrop (wM wAppend (wV 1) (wCons (wTup (wCons (wB wMin2 (wCons (wC (.int 20)) (wCons (wV 3) wNil))) (wCons (wV 2) wNil))) wNil)))
  (wSet 3 (wOp wSub (wV 3) (wB wMin2 (wCons (wC (.int 20)) (wCons (wV 3) wNil)))))) wNext))))
  (wRet (wFrz (wV 1)))))
def s_law_joined : SpD := spOf 1 7 w_law_joined
theorem go_law_joined (T : Bu K mg G) {f : Addr} (g : Gd K mg "_law_joined" (tp 50) f ["_law_sweeps_so"]) : OkG P w K mg base false 1 "_law_joined" ["_law_sweeps_so"] (lift G K s_law_joined) := by
  refine okG g sc_law_joined fun cdv A out s H E hr hgd => ?_
  exact (dss_cons (ds_set 1 sc_law_joined.nd (de_lstM da_nil))
  (dss_cons (ds_for (passes_of rfl) rfl (di_seq (de_tup (da_cons de_bl (da_cons de_bl da_nil)))) (pg_name (i := 2) sc_law_joined.nd rfl (by first | exact Or.inl rfl | exact Or.inr rfl)) (simG_nm 2) (dss_cons (ds_set 3 sc_law_joined.nd (de_callB sim_sum (cr_sum rfl) T.b_sum (by decide +kernel) (da_cons (de_lc [("_law_k", 5), ("_law_way", 6)] rfl sc_law_joined.nd (blkOk_by (N := N_law_joined) (sc := defScope (tp 50)) (by decide +kernel)) (di_seq (de_v 0)) (simGw_tup [5, 6] (by decide)) (fun _ _ _ _ _ => (pg_tup rfl (pgs_cons (pg_name (i := 5) sc_law_joined.nd rfl (by first | exact Or.inl rfl | exact Or.inr rfl)) (pgs_cons (pg_name (i := 6) sc_law_joined.nd rfl (by first | exact Or.inl rfl | exact Or.inr rfl)) pgs_nil)))) (fun _ _ _ _ _ => dpts_one (dt_cmp (op_or op_eq (op_eqD (hu64 hr))) sim_eq2 (de_v 6) (de_v 2) (nomark _))) (fun _ _ _ _ _ => (de_v 5))) da_nil)))
  (dss_one (ds_for (passes_of rfl) rfl (di_range1 T.b_range (da_cons (de_callB sim_len call_len_seq T.b_len (by decide +kernel) (da_cons (de_v 0) da_nil)) da_nil)) (pg_name (i := 4) sc_law_joined.nd rfl (by first | exact Or.inl rfl | exact Or.inr rfl)) (simG_nm 4) (dss_one (ds_if (dt_cmp op_gt (sim_I0 bl_rep) (de_v 3) de_int (nomark _)) (dss_cons (ds_expr (de_m sim_append PySem.F.plainAttrs_list PySem.F.slot_list_append PySem.F.type_list_append mt_append (de_v 1) (da_cons (de_tup (da_cons (de_callB sim_min2 (call_min2 rfl) T.b_min (by decide +kernel) (da_cons de_int (da_cons (de_v 3) da_nil))) (da_cons (de_v 2) da_nil))) da_nil)))
  (dss_one (ds_set 3 sc_law_joined.nd (de_op op_sub (sim_I0 int_rep) (de_v 3) (de_callB sim_min2 (call_min2 rfl) T.b_min (by decide +kernel) (da_cons de_int (da_cons (de_v 3) da_nil))))))) dss_nil))))))
  (dss_one (ds_ret (de_frz (de_v 1))))))
abbrev N_law_parted : List Str := ["_law_m", "_law_sweeps_so", "_law_found", "_law_k", "_law_is_back", "_law_n", "_law_part"]
theorem sc_law_parted : FnScope ["_law_m", "_law_sweeps_so", "_law_found", "_law_k", "_law_is_back", "_law_n", "_law_part"] ["_law_m", "_law_sweeps_so"] (defScope (tp 51)) := ⟨rfl, rfl, rfl, by decide +kernel, rfl, by decide +kernel, by decide +kernel⟩
def w_law_parted : WS := (wSeq (wSet 2 (wLstM wNil))
  (wSeq (wFor (wiS (wV 1)) (bTup [3, 4]) (wSeq (wFor (wiR1 (wCons (wC (.int 2)) wNil)) (bNm 5) (wIfS (wAndT (wTst (wOp wGt (wV 3) (wC (.int 1)))) (wTst (wOp wEq2 (wCall s_law_draw [] (wCons (wV 0) (wCons (wC (.int 2)) wNil))) (wC (.int 0))))) (wSeq (wSet 6 (wOp wPlus (wC (.int 1)) (wCall s_law_draw [] (wCons (wV 0) (wCons (wOp wSub (wV 3) (wC (.int 1))) wNil)))))
  (wSeq (wDrop (wM wAppend (wV 2) (wCons (wTup (wCons (wV 6) (wCons (wV 4) wNil))) wNil)))
  (wSet 3 (wOp wSub (wV 3) (wV 6))))) wNext))
  (wDrop (wM wAppend (wV 2) (wCons (wTup (wCons (wV 3) (wCons (wV 4) wNil))) wNil)))))
  (wRet (wFrz (wV 2)))))
def s_law_parted : SpD := spOf 2 7 w_law_parted
theorem go_law_parted (T : Bu K mg G) {f : Addr} (g : Gd K mg "_law_parted" (tp 51) f ["_law_m", "_law_sweeps_so"]) (ok_law_draw : OkG P w K mg base false 2 "_law_draw" ["_law_m", "_law_top"] (lift G K s_law_draw)) : OkG P w K mg base false 3 "_law_parted" ["_law_m", "_law_sweeps_so"] (lift G K s_law_parted) := by
  refine okG g sc_law_parted fun cdv A out s H E hr hgd => ?_
  exact (dss_cons (ds_set 2 sc_law_parted.nd (de_lstM da_nil))
  (dss_cons (ds_for (passes_of rfl) rfl (di_seq (de_v 1)) (pg_tup rfl (pgs_cons (pg_name (i := 3) sc_law_parted.nd rfl (by first | exact Or.inl rfl | exact Or.inr rfl)) (pgs_cons (pg_name (i := 4) sc_law_parted.nd rfl (by first | exact Or.inl rfl | exact Or.inr rfl)) pgs_nil))) (simG_tup [3, 4]) (dss_cons (ds_for (passes_of rfl) rfl (di_range1 T.b_range (da_cons de_int da_nil)) (pg_name (i := 5) sc_law_parted.nd rfl (by first | exact Or.inl rfl | exact Or.inr rfl)) (simG_nm 5) (dss_one (ds_if (dt_w (dw_and (dt_cmp op_gt (sim_I0 bl_rep) (de_v 3) de_int (nomark _)) (dw_and1 (dt_cmp (op_or op_eq (op_eqD (hu64 hr))) sim_eq2 (de_f ok_law_draw (hr.mono (by decide)) nog (da_cons (de_v 0) (da_cons de_int da_nil))) de_int (nomark _))))) (dss_cons (ds_set 6 sc_law_parted.nd (de_op plusR sim_plus de_int (de_f ok_law_draw (hr.mono (by decide)) nog (da_cons (de_v 0) (da_cons (de_op op_sub (sim_I0 int_rep) (de_v 3) de_int) da_nil)))))
  (dss_cons (ds_expr (de_m sim_append PySem.F.plainAttrs_list PySem.F.slot_list_append PySem.F.type_list_append mt_append (de_v 2) (da_cons (de_tup (da_cons (de_v 6) (da_cons (de_v 4) da_nil))) da_nil)))
  (dss_one (ds_set 3 sc_law_parted.nd (de_op op_sub (sim_I0 int_rep) (de_v 3) (de_v 6)))))) dss_nil)))
  (dss_one (ds_expr (de_m sim_append PySem.F.plainAttrs_list PySem.F.slot_list_append PySem.F.type_list_append mt_append (de_v 2) (da_cons (de_tup (da_cons (de_v 3) (da_cons (de_v 4) da_nil))) da_nil))))))
  (dss_one (ds_ret (de_frz (de_v 2))))))
abbrev NLoad_init : List Str := ["self", "forward", "backward", "value"]
theorem scLoad_init : FnScope ["self", "forward", "backward", "value"] ["self", "forward", "backward"] (defScope (cb (tp 13) 1)) := ⟨rfl, rfl, rfl, by decide +kernel, rfl, by decide +kernel, by decide +kernel⟩
def wLoad_init : WS := (wSeq (wFor (wiS (wTup (wCons (wV 1) (wCons (wV 2) wNil)))) (bNm 3) (wIfS (wNotT (wTst (wCall sis_integer_within [] (wCons (wV 3) (wCons (wC (.int 0)) (wCons (wC (.int 1200)) wNil)))))) wNever wNext))
  (wSeq (wFldPut [(2, 0)] (wV 0) (wV 1))
  (wFldPut [(2, 1)] (wV 0) (wV 2))))
def sLoad_init : SpD := spOf 3 4 wLoad_init
theorem goLoad_init (T : Bu K mg G) (g : GInit K (G.cl 2) "Load.__init__" (cb (tp 13) 1) []) (okis_integer_within : OkG P w K mg base false 2 "is_integer_within" ["value", "low", "high"] (lift G K sis_integer_within)) : OkInit P w K mg base false 3 (G.cl 2) "Load.__init__" (cb (tp 13) 1) [] ["self", "forward", "backward"] (lift G K sLoad_init) := by
  refine okInit g scLoad_init fun f cdv A out s H E hr hgd => ?_
  exact (dss_cons (ds_for (passes_of rfl) rfl (di_seq (de_tup (da_cons (de_v 1) (da_cons (de_v 2) da_nil)))) (pg_name (i := 3) scLoad_init.nd rfl (by first | exact Or.inl rfl | exact Or.inr rfl)) (simG_nm 3) (dss_one (ds_if (dt_not (dt_val (de_f okis_integer_within (hr.mono (by decide)) nog (da_cons (de_v 3) (da_cons de_int (da_cons (de_cvalN T.ck_Load_MOST T.k_Load) da_nil)))))) (dss_one ds_never) dss_nil)))
  (dss_cons (ds_fld [(2, 0)] (tb_cons ⟨T.fa_Load__forward, by rw [T.nm_Load]; decide⟩ tb_nil) (de_v 0) (de_v 1))
  (dss_one (ds_fld [(2, 1)] (tb_cons ⟨T.fa_Load__backward, by rw [T.nm_Load]; decide⟩ tb_nil) (de_v 0) (de_v 2)))))
abbrev NLoad_forward : List Str := ["self"]
theorem scLoad_forward : FnScope ["self"] ["self"] (defScope (cb (tp 13) 2)) := ⟨rfl, rfl, rfl, by decide +kernel, rfl, by decide +kernel, by decide +kernel⟩
def wLoad_forward : WS := (wRet (wFld [(2, 0)] (wV 0)))
def sLoad_forward : SpD := spOf 1 1 wLoad_forward
theorem goLoad_forward (T : Bu K mg G) (g : GProp K (G.cl 2) "forward" "Load.forward" (cb (tp 13) 2) ["self"]) : OkProp P w K mg base false 1 (G.cl 2) "forward" ["self"] (lift G K sLoad_forward) := by
  refine okProp g scLoad_forward fun f cdv A out s H E hr hgd => ?_
  exact (dss_one (ds_ret (de_fld [(2, 0)] (tb_cons T.fa_Load__forward tb_nil) (de_v 0))))
abbrev NLoad_backward : List Str := ["self"]
theorem scLoad_backward : FnScope ["self"] ["self"] (defScope (cb (tp 13) 3)) := ⟨rfl, rfl, rfl, by decide +kernel, rfl, by decide +kernel, by decide +kernel⟩
def wLoad_backward : WS := (wRet (wFld [(2, 1)] (wV 0)))
def sLoad_backward : SpD := spOf 1 1 wLoad_backward
theorem goLoad_backward (T : Bu K mg G) (g : GProp K (G.cl 2) "backward" "Load.backward" (cb (tp 13) 3) ["self"]) : OkProp P w K mg base false 1 (G.cl 2) "backward" ["self"] (lift G K sLoad_backward) := by
  refine okProp g scLoad_backward fun f cdv A out s H E hr hgd => ?_
  exact (dss_one (ds_ret (de_fld [(2, 1)] (tb_cons T.fa_Load__backward tb_nil) (de_v 0))))
abbrev NSweep_init : List Str := ["self", "size"]
theorem scSweep_init : FnScope ["self", "size"] ["self", "size"] (defScope (cb (tp 20) 0)) := ⟨rfl, rfl, rfl, by decide +kernel, rfl, by decide +kernel, by decide +kernel⟩
def wSweep_init : WS := (wSeq (wIfS (wNotT (wTst (wCall sis_integer_within [] (wCons (wV 1) (wCons (wC (.int 1)) (wCons (wC (.int 20)) wNil)))))) wNever wNext)
  (wFldPut [(1, 0), (3, 0), (4, 0), (5, 0)] (wV 0) (wV 1)))
def sSweep_init : SpD := spOf 2 2 wSweep_init
theorem goSweep_init (T : Bu K mg G) (g : GInit K (G.cl 3) "Sweep.__init__" (cb (tp 20) 0) []) (okis_integer_within : OkG P w K mg base false 2 "is_integer_within" ["value", "low", "high"] (lift G K sis_integer_within)) : OkInit P w K mg base false 3 (G.cl 3) "Sweep.__init__" (cb (tp 20) 0) [] ["self", "size"] (lift G K sSweep_init) := by
  refine okInit g scSweep_init fun f cdv A out s H E hr hgd => ?_
  exact (dss_cons (ds_if (dt_not (dt_val (de_f okis_integer_within (hr.mono (by decide)) nog (da_cons (de_v 1) (da_cons de_int (da_cons (de_cvalN T.ck_Hand_MOST T.k_Hand) da_nil)))))) (dss_one ds_never) dss_nil)
  (dss_one (ds_fld [(1, 0), (3, 0), (4, 0), (5, 0)] (tb_cons ⟨T.fa_Hand__size, by rw [T.nm_Hand]; decide⟩ (tb_cons ⟨T.fa_Sweep__size, by rw [T.nm_Sweep]; decide⟩ (tb_cons ⟨T.fa_Forward__size, by rw [T.nm_Forward]; decide⟩ (tb_cons ⟨T.fa_Backward__size, by rw [T.nm_Backward]; decide⟩ tb_nil)))) (de_v 0) (de_v 1))))
abbrev NSweep_size : List Str := ["self"]
theorem scSweep_size : FnScope ["self"] ["self"] (defScope (cb (tp 20) 1)) := ⟨rfl, rfl, rfl, by decide +kernel, rfl, by decide +kernel, by decide +kernel⟩
def wSweep_size : WS := (wRet (wFld [(1, 0), (3, 0), (4, 0), (5, 0)] (wV 0)))
def sSweep_size : SpD := spOf 1 1 wSweep_size
theorem goSweep_size (T : Bu K mg G) (g : GProp K (G.cl 3) "size" "Sweep.size" (cb (tp 20) 1) ["self"]) : OkProp P w K mg base false 1 (G.cl 3) "size" ["self"] (lift G K sSweep_size) := by
  refine okProp g scSweep_size fun f cdv A out s H E hr hgd => ?_
  exact (dss_one (ds_ret (de_fld [(1, 0), (3, 0), (4, 0), (5, 0)] (tb_cons T.fa_Hand__size (tb_cons T.fa_Sweep__size (tb_cons T.fa_Forward__size (tb_cons T.fa_Backward__size tb_nil)))) (de_v 0))))
def sForward_init : SpD := spSup 4 sSweep_init
theorem goForward_init {f f2 : Addr} (g : SupOk P K (G.cl 4) "Forward.__init__" (cb (tp 21) 1) f f2 "self" "size") (a2 : PySem.W.findIn K (.ref (G.cl 3)) "__init__" = some (some (.ref f2))) (okSweep_init : OkInit P w K mg base false 3 (G.cl 3) "Sweep.__init__" (cb (tp 20) 0) [] ["self", "size"] (lift G K sSweep_init)) : OkInitP P w K mg base false 4 (G.cl 4) (lift G K sForward_init) := by
  obtain ⟨f3, mk3, F3⟩ := okSweep_init.pos rfl (fun _ _ _ _ _ _ us hl => match us, hl with | [_, _], _ => rfl)
  cases mk3.init.symm.trans a2
  exact okInitSup g ⟨NdefX.nscope_by (by decide +kernel), rfl, ⟨_, rfl, rfl⟩, ⟨_, _, _, _, _, _, rfl, by decide +kernel⟩, by decide, by decide⟩ rfl F3
abbrev NForward_size : List Str := ["self"]
theorem scForward_size : FnScope ["self"] ["self"] (defScope (cb (tp 21) 2)) := ⟨rfl, rfl, rfl, by decide +kernel, rfl, by decide +kernel, by decide +kernel⟩
def wForward_size : WS := (wRet (wFld [(1, 0), (3, 0), (4, 0), (5, 0)] (wV 0)))
def sForward_size : SpD := spOf 1 1 wForward_size
theorem goForward_size (T : Bu K mg G) (g : GProp K (G.cl 4) "size" "Forward.size" (cb (tp 21) 2) ["self"]) : OkProp P w K mg base false 1 (G.cl 4) "size" ["self"] (lift G K sForward_size) := by
  refine okProp g scForward_size fun f cdv A out s H E hr hgd => ?_
  exact (dss_one (ds_ret (de_fld [(1, 0), (3, 0), (4, 0), (5, 0)] (tb_cons T.fa_Hand__size (tb_cons T.fa_Sweep__size (tb_cons T.fa_Forward__size (tb_cons T.fa_Backward__size tb_nil)))) (de_v 0))))
def sBackward_init : SpD := spSup 5 sSweep_init
theorem goBackward_init {f f2 : Addr} (g : SupOk P K (G.cl 5) "Backward.__init__" (cb (tp 22) 1) f f2 "self" "size") (a2 : PySem.W.findIn K (.ref (G.cl 3)) "__init__" = some (some (.ref f2))) (okSweep_init : OkInit P w K mg base false 3 (G.cl 3) "Sweep.__init__" (cb (tp 20) 0) [] ["self", "size"] (lift G K sSweep_init)) : OkInitP P w K mg base false 4 (G.cl 5) (lift G K sBackward_init) := by
  obtain ⟨f3, mk3, F3⟩ := okSweep_init.pos rfl (fun _ _ _ _ _ _ us hl => match us, hl with | [_, _], _ => rfl)
  cases mk3.init.symm.trans a2
  exact okInitSup g ⟨NdefX.nscope_by (by decide +kernel), rfl, ⟨_, rfl, rfl⟩, ⟨_, _, _, _, _, _, rfl, by decide +kernel⟩, by decide, by decide⟩ rfl F3
abbrev NBackward_size : List Str := ["self"]
theorem scBackward_size : FnScope ["self"] ["self"] (defScope (cb (tp 22) 2)) := ⟨rfl, rfl, rfl, by decide +kernel, rfl, by decide +kernel, by decide +kernel⟩
def wBackward_size : WS := (wRet (wFld [(1, 0), (3, 0), (4, 0), (5, 0)] (wV 0)))
def sBackward_size : SpD := spOf 1 1 wBackward_size
theorem goBackward_size (T : Bu K mg G) (g : GProp K (G.cl 5) "size" "Backward.size" (cb (tp 22) 2) ["self"]) : OkProp P w K mg base false 1 (G.cl 5) "size" ["self"] (lift G K sBackward_size) := by
  refine okProp g scBackward_size fun f cdv A out s H E hr hgd => ?_
  exact (dss_one (ds_ret (de_fld [(1, 0), (3, 0), (4, 0), (5, 0)] (tb_cons T.fa_Hand__size (tb_cons T.fa_Sweep__size (tb_cons T.fa_Forward__size (tb_cons T.fa_Backward__size tb_nil)))) (de_v 0))))
abbrev NRow_init : List Str := ["self", "numbers"]
theorem scRow_init : FnScope ["self", "numbers"] ["self", "numbers"] (defScope (cb (tp 31) 0)) := ⟨rfl, rfl, rfl, by decide +kernel, rfl, by decide +kernel, by decide +kernel⟩
def wRow_init : WS := (wSeq (wDrop (wCall s_check_numbers [] (wCons (wV 1) wNil)))
  (wFldPut [(6, 0)] (wV 0) (wV 1)))
def sRow_init : SpD := spStar (spOf 2 2 wRow_init)
theorem goRow_init (T : Bu K mg G) (g : GInitS K (G.cl 6) "Row.__init__" (cb (tp 31) 0) "self" "numbers") (ok_check_numbers : OkG P w K mg base false 4 "_check_numbers" ["numbers"] (lift G K s_check_numbers)) : OkInitP P w K mg base false 5 (G.cl 6) (lift G K sRow_init) := by
  refine okInitS g scRow_init fun f cdv A out s H E hr hgd => ?_
  exact (dss_cons (ds_expr (de_f ok_check_numbers (hr.mono (by decide)) nog (da_cons (de_v 1) da_nil)))
  (dss_one (ds_fld [(6, 0)] (tb_cons ⟨T.fa_Row__numbers, by rw [T.nm_Row]; decide⟩ tb_nil) (de_v 0) (de_v 1))))
abbrev NRow_of : List Str := ["cls", "numbers"]
theorem scRow_of : FnScope ["cls", "numbers"] ["cls", "numbers"] (defScope (cb (tp 31) 1)) := ⟨rfl, rfl, rfl, by decide +kernel, rfl, by decide +kernel, by decide +kernel⟩
def wRow_of : WS := (wSeq (wIfS (wNotT (wTst (wIsi1 (tbB .tup fun _ => none) (wV 1)))) wNever wNext)
  (wRet (wFrzI 6 1 (wMakeSV [(6, sRow_init)] (wV 0) (wV 1)))))
def sRow_of : SpD := spOf 2 2 wRow_of
theorem goRow_of (T : Bu K mg G) (g : GCm K (G.cl 6) "of" "Row.of" (cb (tp 31) 1) ["cls", "numbers"]) (okRow_init : OkInitP P w K mg base false 5 (G.cl 6) (lift G K sRow_init)) : OkCm P w K mg base false 7 (G.cl 6) "of" (lift G K sRow_of) := by
  refine okCm g scRow_of fun f cdv A out s H E hr hgd => ?_
  exact (dss_cons (ds_if (dt_not (dt_val (de_isi (.ty "tuple") (isi_b .tup (fun _ z => Ty.noConfusion z)) T.b_isinstance (de_v 1) (de_ty T.b_tuple (by decide +kernel))))) (dss_one ds_never) dss_nil)
  (dss_one (ds_ret (de_frzI (by rw [T.nm_Row]; rfl) (de_newSV [(6, sRow_init)] (tb_cons ⟨_, _, okRow_init, hr.mono (by decide), nog⟩ tb_nil) (de_v 0) (de_v 1))))))
abbrev NRow_numbers : List Str := ["self"]
theorem scRow_numbers : FnScope ["self"] ["self"] (defScope (cb (tp 31) 2)) := ⟨rfl, rfl, rfl, by decide +kernel, rfl, by decide +kernel, by decide +kernel⟩
def wRow_numbers : WS := (wRet (wFld [(6, 0)] (wV 0)))
def sRow_numbers : SpD := spOf 1 1 wRow_numbers
theorem goRow_numbers (T : Bu K mg G) (g : GProp K (G.cl 6) "numbers" "Row.numbers" (cb (tp 31) 2) ["self"]) : OkProp P w K mg base false 1 (G.cl 6) "numbers" ["self"] (lift G K sRow_numbers) := by
  refine okProp g scRow_numbers fun f cdv A out s H E hr hgd => ?_
  exact (dss_one (ds_ret (de_fld [(6, 0)] (tb_cons T.fa_Row__numbers tb_nil) (de_v 0))))
abbrev NRow_eq : List Str := ["self", "other"]
theorem scRow_eq : FnScope ["self", "other"] ["self", "other"] (defScope (cb (tp 31) 10)) := ⟨rfl, rfl, rfl, by decide +kernel, rfl, by decide +kernel, by decide +kernel⟩
def wRow_eq : WS := (wRet (wAndV (wIsi1 (tbO [(2, false), (4, false), (5, false), (6, true)]) (wV 1)) (wOp wEq2 (wFld [(6, 0)] (wV 0)) (wFld [(6, 0)] (wV 1)))))
def sRow_eq : SpD := spOf 2 2 wRow_eq
theorem goRow_eq (T : Bu K mg G) (g : GMeth K (G.cl 6) "__eq__" "Row.__eq__" (cb (tp 31) 10) ["self", "other"]) : OkMeth P w K mg base false 1 (G.cl 6) "__eq__" ["self", "other"] (lift G K sRow_eq) := by
  refine okMeth g scRow_eq fun f cdv A out s H E hr hgd => ?_
  exact (dss_one (ds_ret (de_and (de_isi (.own _) (isi_o [(2, false), (4, false), (5, false), (6, true)] T.kb_Row T.cg (tb_cons ⟨T.ki_Load_Row, T.cls_Load, T.cc_Load⟩ (tb_cons ⟨T.ki_Forward_Row, T.cls_Forward, T.cc_Forward⟩ (tb_cons ⟨T.ki_Backward_Row, T.cls_Backward, T.cc_Backward⟩ (tb_cons ⟨T.ki_Row_Row, T.cls_Row, T.cc_Row⟩ tb_nil))))) T.b_isinstance (de_v 1) (de_cls (v := .ref (G.cl 6)) T.k_Row rfl)) (de_one (de_cmp (op_or op_eq (op_eqD (hu64 hr))) sim_eq2 (de_fld [(6, 0)] (tb_cons T.fa_Row__numbers tb_nil) (de_v 0)) (de_fld [(6, 0)] (tb_cons T.fa_Row__numbers tb_nil) (de_v 1)) (nomark _))))))
abbrev Nload_within_limit : List Str := ["forward", "backward"]
theorem scload_within_limit : FnScope ["forward", "backward"] ["forward", "backward"] (defScope (tp 14)) := ⟨rfl, rfl, rfl, by decide +kernel, rfl, by decide +kernel, by decide +kernel⟩
def wload_within_limit : WS := (wSeq (wIfS (wTst (wOp wGt (wB wMax2 (wCons (wV 0) (wCons (wV 1) wNil))) (wC (.int 1200)))) wNever wNext)
  (wRet (wFrzI 2 2 (wMake 2 sLoad_init [] (wCons (wV 0) (wCons (wV 1) wNil))))))
def sload_within_limit : SpD := spOf 2 2 wload_within_limit
theorem goload_within_limit (T : Bu K mg G) {f : Addr} (g : Gd K mg "load_within_limit" (tp 14) f ["forward", "backward"]) (okLoad_init : OkInit P w K mg base false 3 (G.cl 2) "Load.__init__" (cb (tp 13) 1) [] ["self", "forward", "backward"] (lift G K sLoad_init)) : OkG P w K mg base false 5 "load_within_limit" ["forward", "backward"] (lift G K sload_within_limit) := by
  refine okG g scload_within_limit fun cdv A out s H E hr hgd => ?_
  exact (dss_cons (ds_if (dt_cmp op_gt (sim_I0 bl_rep) (de_callB sim_max2 (call_max2 rfl) T.b_max (by decide +kernel) (da_cons (de_v 0) (da_cons (de_v 1) da_nil))) (de_cvalN T.ck_Load_MOST T.k_Load) (nomark _)) (dss_one ds_never) dss_nil)
  (dss_one (ds_ret (de_frzI (by rw [T.nm_Load]; rfl) (de_new okLoad_init (hr.mono (by decide)) nog T.k_Load (fun _ _ _ _ _ _ us hl => match us, hl with | [_, _, _], _ => rfl) (da_cons (de_v 0) (da_cons (de_v 1) da_nil)))))))
abbrev Nsums_of : List Str := ["word", "forward", "backward", "sweep"]
theorem scsums_of : FnScope ["word", "forward", "backward", "sweep"] ["word"] (defScope (tp 27)) := ⟨rfl, rfl, rfl, by decide +kernel, rfl, by decide +kernel, by decide +kernel⟩
def wsums_of : WS := (wSeq (wSet 1 (wB wSum (wCons (wLc (wiS (wV 0)) (bNm 3) (wTst (wIsi1 (tbO [(2, false), (4, true), (5, false), (6, false)]) (wV 3))) (wProp [(3, sSweep_size), (4, sForward_size), (5, sBackward_size)] (wV 3)) [3]) wNil)))
  (wSeq (wSet 2 (wB wSum (wCons (wLc (wiS (wV 0)) (bNm 3) (wTst (wIsi1 (tbO [(2, false), (4, false), (5, true), (6, false)]) (wV 3))) (wProp [(3, sSweep_size), (4, sForward_size), (5, sBackward_size)] (wV 3)) [3]) wNil)))
  (wRet (wTup (wCons (wV 1) (wCons (wV 2) wNil))))))
def ssums_of : SpD := spOf 1 4 wsums_of
theorem gosums_of (T : Bu K mg G) {f : Addr} (g : Gd K mg "sums_of" (tp 27) f ["word"]) (okBackward_size : OkProp P w K mg base false 1 (G.cl 5) "size" ["self"] (lift G K sBackward_size)) (okForward_size : OkProp P w K mg base false 1 (G.cl 4) "size" ["self"] (lift G K sForward_size)) (okSweep_size : OkProp P w K mg base false 1 (G.cl 3) "size" ["self"] (lift G K sSweep_size)) : OkG P w K mg base false 3 "sums_of" ["word"] (lift G K ssums_of) := by
  refine okG g scsums_of fun cdv A out s H E hr hgd => ?_
  exact (dss_cons (ds_set 1 scsums_of.nd (de_callB sim_sum (cr_sum rfl) T.b_sum (by decide +kernel) (da_cons (de_lc [("sweep", 3)] rfl scsums_of.nd (blkOk_by (N := Nsums_of) (sc := defScope (tp 27)) (by decide +kernel)) (di_seq (de_v 0)) (simGw_nm (by decide)) (fun _ _ _ _ _ => (pg_name (i := 3) scsums_of.nd rfl (by first | exact Or.inl rfl | exact Or.inr rfl))) (fun _ _ _ _ _ => dpts_one (dt_val (de_isi (.own _) (isi_o [(2, false), (4, true), (5, false), (6, false)] T.kb_Forward T.cg (tb_cons ⟨T.ki_Load_Forward, T.cls_Load, T.cc_Load⟩ (tb_cons ⟨T.ki_Forward_Forward, T.cls_Forward, T.cc_Forward⟩ (tb_cons ⟨T.ki_Backward_Forward, T.cls_Backward, T.cc_Backward⟩ (tb_cons ⟨T.ki_Row_Forward, T.cls_Row, T.cc_Row⟩ tb_nil))))) T.b_isinstance (de_v 3) (de_cls (v := .ref (G.cl 4)) T.k_Forward rfl)))) (fun _ _ _ _ _ => (de_prop [(3, sSweep_size), (4, sForward_size), (5, sBackward_size)] (tb_cons (pd_of okSweep_size T.cls_Sweep (hr.mono (by decide)) nog) (tb_cons (pd_of okForward_size T.cls_Forward (hr.mono (by decide)) nog) (tb_cons (pd_of okBackward_size T.cls_Backward (hr.mono (by decide)) nog) tb_nil))) (de_v 3)))) da_nil)))
  (dss_cons (ds_set 2 scsums_of.nd (de_callB sim_sum (cr_sum rfl) T.b_sum (by decide +kernel) (da_cons (de_lc [("sweep", 3)] rfl scsums_of.nd (blkOk_by (N := Nsums_of) (sc := defScope (tp 27)) (by decide +kernel)) (di_seq (de_v 0)) (simGw_nm (by decide)) (fun _ _ _ _ _ => (pg_name (i := 3) scsums_of.nd rfl (by first | exact Or.inl rfl | exact Or.inr rfl))) (fun _ _ _ _ _ => dpts_one (dt_val (de_isi (.own _) (isi_o [(2, false), (4, false), (5, true), (6, false)] T.kb_Backward T.cg (tb_cons ⟨T.ki_Load_Backward, T.cls_Load, T.cc_Load⟩ (tb_cons ⟨T.ki_Forward_Backward, T.cls_Forward, T.cc_Forward⟩ (tb_cons ⟨T.ki_Backward_Backward, T.cls_Backward, T.cc_Backward⟩ (tb_cons ⟨T.ki_Row_Backward, T.cls_Row, T.cc_Row⟩ tb_nil))))) T.b_isinstance (de_v 3) (de_cls (v := .ref (G.cl 5)) T.k_Backward rfl)))) (fun _ _ _ _ _ => (de_prop [(3, sSweep_size), (4, sForward_size), (5, sBackward_size)] (tb_cons (pd_of okSweep_size T.cls_Sweep (hr.mono (by decide)) nog) (tb_cons (pd_of okForward_size T.cls_Forward (hr.mono (by decide)) nog) (tb_cons (pd_of okBackward_size T.cls_Backward (hr.mono (by decide)) nog) tb_nil))) (de_v 3)))) da_nil)))
  (dss_one (ds_ret (de_tup (da_cons (de_v 1) (da_cons (de_v 2) da_nil)))))))
abbrev N_forward_and_backward : List Str := ["value"]
theorem sc_forward_and_backward : FnScope ["value"] ["value"] (defScope (tp 33)) := ⟨rfl, rfl, rfl, by decide +kernel, rfl, by decide +kernel, by decide +kernel⟩
def w_forward_and_backward : WS := (wSeq (wIfS (wTst (wIsi1 (tbO [(2, false), (4, true), (5, false), (6, false)]) (wV 0))) (wRet (wTup (wCons (wProp [(3, sSweep_size), (4, sForward_size), (5, sBackward_size)] (wV 0)) (wCons (wC (.int 0)) wNil)))) wNext)
  (wSeq (wIfS (wTst (wIsi1 (tbO [(2, false), (4, false), (5, true), (6, false)]) (wV 0))) (wRet (wTup (wCons (wC (.int 0)) (wCons (wProp [(3, sSweep_size), (4, sForward_size), (5, sBackward_size)] (wV 0)) wNil)))) wNext)
  (wSeq (wIfS (wTst (wIsi1 (tbO [(2, true), (4, false), (5, false), (6, false)]) (wV 0))) (wRet (wTup (wCons (wProp [(2, sLoad_forward)] (wV 0)) (wCons (wProp [(2, sLoad_backward)] (wV 0)) wNil)))) wNext)
  wNever)))
def s_forward_and_backward : SpD := spOf 1 1 w_forward_and_backward
theorem go_forward_and_backward (T : Bu K mg G) {f : Addr} (g : Gd K mg "_forward_and_backward" (tp 33) f ["value"]) (okBackward_size : OkProp P w K mg base false 1 (G.cl 5) "size" ["self"] (lift G K sBackward_size)) (okForward_size : OkProp P w K mg base false 1 (G.cl 4) "size" ["self"] (lift G K sForward_size)) (okLoad_backward : OkProp P w K mg base false 1 (G.cl 2) "backward" ["self"] (lift G K sLoad_backward)) (okLoad_forward : OkProp P w K mg base false 1 (G.cl 2) "forward" ["self"] (lift G K sLoad_forward)) (okSweep_size : OkProp P w K mg base false 1 (G.cl 3) "size" ["self"] (lift G K sSweep_size)) : OkG P w K mg base false 3 "_forward_and_backward" ["value"] (lift G K s_forward_and_backward) := by
  refine okG g sc_forward_and_backward fun cdv A out s H E hr hgd => ?_
  exact (dss_cons (ds_if (dt_val (de_isi (.own _) (isi_o [(2, false), (4, true), (5, false), (6, false)] T.kb_Forward T.cg (tb_cons ⟨T.ki_Load_Forward, T.cls_Load, T.cc_Load⟩ (tb_cons ⟨T.ki_Forward_Forward, T.cls_Forward, T.cc_Forward⟩ (tb_cons ⟨T.ki_Backward_Forward, T.cls_Backward, T.cc_Backward⟩ (tb_cons ⟨T.ki_Row_Forward, T.cls_Row, T.cc_Row⟩ tb_nil))))) T.b_isinstance (de_v 0) (de_cls (v := .ref (G.cl 4)) T.k_Forward rfl))) (dss_one (ds_ret (de_tup (da_cons (de_prop [(3, sSweep_size), (4, sForward_size), (5, sBackward_size)] (tb_cons (pd_of okSweep_size T.cls_Sweep (hr.mono (by decide)) nog) (tb_cons (pd_of okForward_size T.cls_Forward (hr.mono (by decide)) nog) (tb_cons (pd_of okBackward_size T.cls_Backward (hr.mono (by decide)) nog) tb_nil))) (de_v 0)) (da_cons de_int da_nil))))) dss_nil)
  (dss_cons (ds_if (dt_val (de_isi (.own _) (isi_o [(2, false), (4, false), (5, true), (6, false)] T.kb_Backward T.cg (tb_cons ⟨T.ki_Load_Backward, T.cls_Load, T.cc_Load⟩ (tb_cons ⟨T.ki_Forward_Backward, T.cls_Forward, T.cc_Forward⟩ (tb_cons ⟨T.ki_Backward_Backward, T.cls_Backward, T.cc_Backward⟩ (tb_cons ⟨T.ki_Row_Backward, T.cls_Row, T.cc_Row⟩ tb_nil))))) T.b_isinstance (de_v 0) (de_cls (v := .ref (G.cl 5)) T.k_Backward rfl))) (dss_one (ds_ret (de_tup (da_cons de_int (da_cons (de_prop [(3, sSweep_size), (4, sForward_size), (5, sBackward_size)] (tb_cons (pd_of okSweep_size T.cls_Sweep (hr.mono (by decide)) nog) (tb_cons (pd_of okForward_size T.cls_Forward (hr.mono (by decide)) nog) (tb_cons (pd_of okBackward_size T.cls_Backward (hr.mono (by decide)) nog) tb_nil))) (de_v 0)) da_nil))))) dss_nil)
  (dss_cons (ds_if (dt_val (de_isi (.own _) (isi_o [(2, true), (4, false), (5, false), (6, false)] T.kb_Load T.cg (tb_cons ⟨T.ki_Load_Load, T.cls_Load, T.cc_Load⟩ (tb_cons ⟨T.ki_Forward_Load, T.cls_Forward, T.cc_Forward⟩ (tb_cons ⟨T.ki_Backward_Load, T.cls_Backward, T.cc_Backward⟩ (tb_cons ⟨T.ki_Row_Load, T.cls_Row, T.cc_Row⟩ tb_nil))))) T.b_isinstance (de_v 0) (de_cls (v := .ref (G.cl 2)) T.k_Load rfl))) (dss_one (ds_ret (de_tup (da_cons (de_prop [(2, sLoad_forward)] (tb_cons (pd_of okLoad_forward T.cls_Load (hr.mono (by decide)) nog) tb_nil) (de_v 0)) (da_cons (de_prop [(2, sLoad_backward)] (tb_cons (pd_of okLoad_backward T.cls_Load (hr.mono (by decide)) nog) tb_nil) (de_v 0)) da_nil))))) dss_nil)
  (dss_one ds_never))))
abbrev N_law_given : List Str := ["_law_m", "_law_most", "_law_n", "_law_way", "_law_found", "_law_step", "_law_top", "_law_c", "_law_kept"]
theorem sc_law_given : FnScope ["_law_m", "_law_most", "_law_n", "_law_way", "_law_found", "_law_step", "_law_top", "_law_c", "_law_kept"] ["_law_m", "_law_most"] (defScope (tp 41)) := ⟨rfl, rfl, rfl, by decide +kernel, rfl, by decide +kernel, by decide +kernel⟩
def w_law_given : WS := (wSeq (wSet 2 (wOp wPlus (wC (.int 1)) (wCall s_law_draw [] (wCons (wV 0) (wCons (wV 1) wNil)))))
  (wSeq (wSet 3 (wCall s_law_draw [] (wCons (wV 0) (wCons (wC (.int 4)) wNil))))
  (wSeq (wIfS (wTst (wOp wEq2 (wV 3) (wC (.int 0)))) (wSeq (wSet 6 (wOp wPlus (wC (.int 2)) (wCall s_law_draw [] (wCons (wV 0) (wCons (wC (.int 4)) wNil)))))
  (wRet (wLc (wiR1 (wCons (wV 2) wNil)) (bNm 5) wYes (wCall s_law_draw [] (wCons (wV 0) (wCons (wV 6) wNil))) [5]))) wNext)
  (wSeq (wIfS (wTst (wOp wEq2 (wV 3) (wC (.int 1)))) (wRet (wCall s_law_order [] (wCons (wV 0) (wCons (wV 2) wNil)))) wNext)
  (wSeq (wIfS (wTst (wOp wEq2 (wV 3) (wC (.int 2)))) (wRet (wLc (wiR1 (wCons (wV 2) wNil)) (bNm 5) wYes (wOp wSub (wCall s_law_draw [] (wCons (wV 0) (wCons (wC (.int 1999)) wNil))) (wC (.int 999))) [5])) wNext)
  (wSeq (wSet 4 (wLRgM (wCons (wV 2) wNil)))
  (wSeq (wFor (wiR1 (wCons (wOp wPlus (wC (.int 1)) (wCall s_law_draw [] (wCons (wV 0) (wCons (wC (.int 3)) wNil)))) wNil)) (bNm 5) (wSeq (wSet 7 (wCall s_law_draw [] (wCons (wV 0) (wCons (wV 2) wNil))))
  (wSeq (wSet 8 (wM wPopAt (wV 4) (wCons (wV 7) wNil)))
  (wDrop (wM wInsert (wV 4) (wCons (wCall s_law_draw [] (wCons (wV 0) (wCons (wV 2) wNil))) (wCons (wV 8) wNil)))))))
  (wRet (wFrz (wV 4))))))))))
def s_law_given : SpD := spOf 2 9 w_law_given
theorem go_law_given (T : Bu K mg G) {f : Addr} (g : Gd K mg "_law_given" (tp 41) f ["_law_m", "_law_most"]) (ok_law_draw : OkG P w K mg base false 2 "_law_draw" ["_law_m", "_law_top"] (lift G K s_law_draw)) (ok_law_order : OkG P w K mg base false 3 "_law_order" ["_law_m", "_law_n"] (lift G K s_law_order)) : OkG P w K mg base false 4 "_law_given" ["_law_m", "_law_most"] (lift G K s_law_given) := by
  refine okG g sc_law_given fun cdv A out s H E hr hgd => ?_
  exact (dss_cons (ds_set 2 sc_law_given.nd (de_op plusR sim_plus de_int (de_f ok_law_draw (hr.mono (by decide)) nog (da_cons (de_v 0) (da_cons (de_v 1) da_nil)))))
  (dss_cons (ds_set 3 sc_law_given.nd (de_f ok_law_draw (hr.mono (by decide)) nog (da_cons (de_v 0) (da_cons de_int da_nil))))
  (dss_cons (ds_if (dt_cmp (op_or op_eq (op_eqD (hu64 hr))) sim_eq2 (de_v 3) de_int (nomark _)) (dss_cons (ds_set 6 sc_law_given.nd (de_op plusR sim_plus de_int (de_f ok_law_draw (hr.mono (by decide)) nog (da_cons (de_v 0) (da_cons de_int da_nil)))))
  (dss_one (ds_ret (de_lc [("_law_step", 5)] rfl sc_law_given.nd (blkOk_by (N := N_law_given) (sc := defScope (tp 41)) (by decide +kernel)) (di_range1 T.b_range (da_cons (de_v 2) da_nil)) (simGw_nm (by decide)) (fun _ _ _ _ _ => (pg_name (i := 5) sc_law_given.nd rfl (by first | exact Or.inl rfl | exact Or.inr rfl))) (fun _ _ _ _ _ => dpts_nil) (fun _ _ _ _ _ => (de_f ok_law_draw (hr.mono (by decide)) nog (da_cons (de_v 0) (da_cons (de_v 6) da_nil)))))))) dss_nil)
  (dss_cons (ds_if (dt_cmp (op_or op_eq (op_eqD (hu64 hr))) sim_eq2 (de_v 3) de_int (nomark _)) (dss_one (ds_ret (de_f ok_law_order (hr.mono (by decide)) nog (da_cons (de_v 0) (da_cons (de_v 2) da_nil))))) dss_nil)
  (dss_cons (ds_if (dt_cmp (op_or op_eq (op_eqD (hu64 hr))) sim_eq2 (de_v 3) de_int (nomark _)) (dss_one (ds_ret (de_lc [("_law_step", 5)] rfl sc_law_given.nd (blkOk_by (N := N_law_given) (sc := defScope (tp 41)) (by decide +kernel)) (di_range1 T.b_range (da_cons (de_v 2) da_nil)) (simGw_nm (by decide)) (fun _ _ _ _ _ => (pg_name (i := 5) sc_law_given.nd rfl (by first | exact Or.inl rfl | exact Or.inr rfl))) (fun _ _ _ _ _ => dpts_nil) (fun _ _ _ _ _ => (de_op op_sub (sim_I0 int_rep) (de_f ok_law_draw (hr.mono (by decide)) nog (da_cons (de_v 0) (da_cons de_int da_nil))) de_int))))) dss_nil)
  (dss_cons (ds_set 4 sc_law_given.nd (de_lrg1M T.b_list T.b_range (de_v 2)))
  (dss_cons (ds_for (passes_of rfl) rfl (di_range1 T.b_range (da_cons (de_op plusR sim_plus de_int (de_f ok_law_draw (hr.mono (by decide)) nog (da_cons (de_v 0) (da_cons de_int da_nil)))) da_nil)) (pg_name (i := 5) sc_law_given.nd rfl (by first | exact Or.inl rfl | exact Or.inr rfl)) (simG_nm 5) (dss_cons (ds_set 7 sc_law_given.nd (de_f ok_law_draw (hr.mono (by decide)) nog (da_cons (de_v 0) (da_cons (de_v 2) da_nil))))
  (dss_cons (ds_set 8 sc_law_given.nd (de_m sim_popAt PySem.F.plainAttrs_list PySem.F.slot_list_pop PySem.F.type_list_pop mt_popAt (de_v 4) (da_cons (de_v 7) da_nil)))
  (dss_one (ds_expr (de_m sim_insert PySem.F.plainAttrs_list PySem.F.slot_list_insert PySem.F.type_list_insert mt_insert (de_v 4) (da_cons (de_f ok_law_draw (hr.mono (by decide)) nog (da_cons (de_v 0) (da_cons (de_v 2) da_nil))) (da_cons (de_v 8) da_nil))))))))
  (dss_one (ds_ret (de_frz (de_v 4)))))))))))
abbrev N_law_made : List Str := ["_law_sweeps_so", "_law_k", "_law_is_back"]
theorem sc_law_made : FnScope ["_law_sweeps_so", "_law_k", "_law_is_back"] ["_law_sweeps_so"] (defScope (tp 47)) := ⟨rfl, rfl, rfl, by decide +kernel, rfl, by decide +kernel, by decide +kernel⟩
def w_law_made : WS := (wRet (wB wTupOf (wCons (wLc (wiS (wV 0)) (bTup [1, 2]) wYes (wIf (wTst (wV 2)) (wFrzI 5 1 (wMake 5 sBackward_init [] (wCons (wV 1) wNil))) (wFrzI 4 1 (wMake 4 sForward_init [] (wCons (wV 1) wNil)))) [1, 2]) wNil)))
def s_law_made : SpD := spOf 1 3 w_law_made
theorem go_law_made (T : Bu K mg G) {f : Addr} (g : Gd K mg "_law_made" (tp 47) f ["_law_sweeps_so"]) (okBackward_init : OkInitP P w K mg base false 4 (G.cl 5) (lift G K sBackward_init)) (okForward_init : OkInitP P w K mg base false 4 (G.cl 4) (lift G K sForward_init)) : OkG P w K mg base false 6 "_law_made" ["_law_sweeps_so"] (lift G K s_law_made) := by
  refine okG g sc_law_made fun cdv A out s H E hr hgd => ?_
  exact (dss_one (ds_ret (de_callT sim_tupOf call_tuple_of T.b_tuple (by decide +kernel) (da_cons (de_lc [("_law_k", 1), ("_law_is_back", 2)] rfl sc_law_made.nd (blkOk_by (N := N_law_made) (sc := defScope (tp 47)) (by decide +kernel)) (di_seq (de_v 0)) (simGw_tup [1, 2] (by decide)) (fun _ _ _ _ _ => (pg_tup rfl (pgs_cons (pg_name (i := 1) sc_law_made.nd rfl (by first | exact Or.inl rfl | exact Or.inr rfl)) (pgs_cons (pg_name (i := 2) sc_law_made.nd rfl (by first | exact Or.inl rfl | exact Or.inr rfl)) pgs_nil)))) (fun _ _ _ _ _ => dpts_nil) (fun _ _ _ _ _ => (de_if (dt_val (de_v 2)) (de_frzI (by rw [T.nm_Backward]; rfl) (de_newP okBackward_init (hr.mono (by decide)) nog T.k_Backward (da_cons (de_v 1) da_nil))) (de_frzI (by rw [T.nm_Forward]; rfl) (de_newP okForward_init (hr.mono (by decide)) nog T.k_Forward (da_cons (de_v 1) da_nil)))))) da_nil))))
abbrev NRow_rshift : List Str := ["self", "other", "numbers", "forward", "backward"]
theorem scRow_rshift : FnScope ["self", "other", "numbers", "forward", "backward"] ["self", "other"] (defScope (cb (tp 31) 13)) := ⟨rfl, rfl, rfl, by decide +kernel, rfl, by decide +kernel, by decide +kernel⟩
def wRow_rshift : WS := (wSeq (wAsg (bTup [3, 4]) (wCall s_forward_and_backward [] (wCons (wV 1) wNil)))
  (wSeq (wSet 2 (wCall slaid_down [] (wCons (wFld [(6, 0)] (wV 0)) (wCons (wV 3) wNil))))
  (wSeq (wSet 2 (wCall s_mirrored [] (wCons (wCall slaid_down [] (wCons (wCall s_mirrored [] (wCons (wV 2) wNil)) (wCons (wV 4) wNil))) wNil)))
  (wRet (wFrzI 6 1 (wMakeS 6 sRow_init (wV 2)))))))
def sRow_rshift : SpD := spOf 2 5 wRow_rshift
theorem goRow_rshift (T : Bu K mg G) (g : GMeth K (G.cl 6) "__rshift__" "Row.__rshift__" (cb (tp 31) 13) ["self", "other"]) (okRow_init : OkInitP P w K mg base false 5 (G.cl 6) (lift G K sRow_init)) (ok_forward_and_backward : OkG P w K mg base false 3 "_forward_and_backward" ["value"] (lift G K s_forward_and_backward)) (ok_mirrored : OkG P w K mg base false 1 "_mirrored" ["numbers"] (lift G K s_mirrored)) (oklaid_down : OkG P w K mg base false 1 "laid_down" ["numbers", "size"] (lift G K slaid_down)) : OkMeth P w K mg base false 7 (G.cl 6) "__rshift__" ["self", "other"] (lift G K sRow_rshift) := by
  refine okMeth g scRow_rshift fun f cdv A out s H E hr hgd => ?_
  exact (dss_cons (ds_asg (de_f ok_forward_and_backward (hr.mono (by decide)) nog (da_cons (de_v 1) da_nil)) (pg_tup rfl (pgs_cons (pg_name (i := 3) scRow_rshift.nd rfl (by first | exact Or.inl rfl | exact Or.inr rfl)) (pgs_cons (pg_name (i := 4) scRow_rshift.nd rfl (by first | exact Or.inl rfl | exact Or.inr rfl)) pgs_nil))) (simG_tup [3, 4]))
  (dss_cons (ds_set 2 scRow_rshift.nd (de_f oklaid_down (hr.mono (by decide)) nog (da_cons (de_fld [(6, 0)] (tb_cons T.fa_Row__numbers tb_nil) (de_v 0)) (da_cons (de_v 3) da_nil))))
  (dss_cons (ds_set 2 scRow_rshift.nd (de_f ok_mirrored (hr.mono (by decide)) nog (da_cons (de_f oklaid_down (hr.mono (by decide)) nog (da_cons (de_f ok_mirrored (hr.mono (by decide)) nog (da_cons (de_v 2) da_nil)) (da_cons (de_v 4) da_nil))) da_nil)))
  (dss_one (ds_ret (de_frzI (by rw [T.nm_Row]; rfl) (de_newS okRow_init (hr.mono (by decide)) nog T.k_Row (de_v 2))))))))
abbrev Nload_of : List Str := ["word", "forward", "backward"]
theorem scload_of : FnScope ["word", "forward", "backward"] ["word"] (defScope (tp 26)) := ⟨rfl, rfl, rfl, by decide +kernel, rfl, by decide +kernel, by decide +kernel⟩
def wload_of : WS := (wSeq (wDrop (wCall scheck_word [] (wCons (wV 0) wNil)))
  (wSeq (wAsg (bTup [1, 2]) (wCall ssums_of [] (wCons (wV 0) wNil)))
  (wRet (wCall sload_within_limit [] (wCons (wV 1) (wCons (wV 2) wNil))))))
def sload_of : SpD := spOf 1 3 wload_of
theorem goload_of (T : Bu K mg G) {f : Addr} (g : Gd K mg "load_of" (tp 26) f ["word"]) (okcheck_word : OkG P w K mg base false 2 "check_word" ["word"] (lift G K scheck_word)) (okload_within_limit : OkG P w K mg base false 5 "load_within_limit" ["forward", "backward"] (lift G K sload_within_limit)) (oksums_of : OkG P w K mg base false 3 "sums_of" ["word"] (lift G K ssums_of)) : OkG P w K mg base false 6 "load_of" ["word"] (lift G K sload_of) := by
  refine okG g scload_of fun cdv A out s H E hr hgd => ?_
  exact (dss_cons (ds_expr (de_f okcheck_word (hr.mono (by decide)) nog (da_cons (de_v 0) da_nil)))
  (dss_cons (ds_asg (de_f oksums_of (hr.mono (by decide)) nog (da_cons (de_v 0) da_nil)) (pg_tup rfl (pgs_cons (pg_name (i := 1) scload_of.nd rfl (by first | exact Or.inl rfl | exact Or.inr rfl)) (pgs_cons (pg_name (i := 2) scload_of.nd rfl (by first | exact Or.inl rfl | exact Or.inr rfl)) pgs_nil))) (simG_tup [1, 2]))
  (dss_one (ds_ret (de_f okload_within_limit (hr.mono (by decide)) nog (da_cons (de_v 1) (da_cons (de_v 2) da_nil)))))))
abbrev N_law_done : List Str := ["_law_base", "_law_sweeps_so", "_law_found", "_law_step"]
theorem sc_law_done : FnScope ["_law_base", "_law_sweeps_so", "_law_found", "_law_step"] ["_law_base", "_law_sweeps_so"] (defScope (tp 48)) := ⟨rfl, rfl, rfl, by decide +kernel, rfl, by decide +kernel, by decide +kernel⟩
def w_law_done : WS := (wSeq (wSet 2 (wV 0))
  (wSeq (wFor (wiS (wCall s_law_made [] (wCons (wV 1) wNil))) (bNm 3) (wSet 2 (wOpX (wOwn [(6, (alIn [2, 4, 5, 6]), sRow_rshift)] wNo2) (wV 2) (wV 3))))
  (wRet (wV 2))))
def s_law_done : SpD := spOf 2 4 w_law_done
theorem go_law_done (T : Bu K mg G) {f : Addr} (g : Gd K mg "_law_done" (tp 48) f ["_law_base", "_law_sweeps_so"]) (okRow_rshift : OkMeth P w K mg base false 7 (G.cl 6) "__rshift__" ["self", "other"] (lift G K sRow_rshift)) (ok_law_made : OkG P w K mg base false 6 "_law_made" ["_law_sweeps_so"] (lift G K s_law_made)) : OkG P w K mg base false 8 "_law_done" ["_law_base", "_law_sweeps_so"] (lift G K s_law_done) := by
  refine okG g sc_law_done fun cdv A out s H E hr hgd => ?_
  exact (dss_cons (ds_set 2 sc_law_done.nd (de_v 0))
  (dss_cons (ds_for (passes_of rfl) rfl (di_seq (de_f ok_law_made (hr.mono (by decide)) nog (da_cons (de_v 1) da_nil))) (pg_name (i := 3) sc_law_done.nd rfl (by first | exact Or.inl rfl | exact Or.inr rfl)) (simG_nm 3) (dss_one (ds_set 2 sc_law_done.nd (de_opX (dop_own (w := wNo2) (tb := [(6, (alIn [2, 4, 5, 6]), sRow_rshift)]) dop_no2 (tb_cons (fun t ht => dop_bin okRow_rshift (by decide +kernel) T.sf_Row (hr.mono (by decide)) nog (alIn_of (tb_cons (.inr ⟨T.ne_Row_Load, T.nn_Load_rshift⟩) (tb_cons (.inr ⟨T.ne_Row_Forward, T.nn_Forward_rshift⟩) (tb_cons (.inr ⟨T.ne_Row_Backward, T.nn_Backward_rshift⟩) (tb_cons (.inl rfl) tb_nil)))) t ht)) tb_nil)) (de_v 2) (de_v 3)))))
  (dss_one (ds_ret (de_v 2)))))
abbrev N_law_right : List Str := ["_law_m", "_law_given_here", "_law_sweeps_so", "_law_some", "_law_one", "_law_found", "_law_base", "_law_due", "_law_a", "_law_b", "_law_x", "_law_y", "_law_load_so", "_law_after"]
theorem sc_law_right : FnScope ["_law_m", "_law_given_here", "_law_sweeps_so", "_law_some", "_law_one", "_law_found", "_law_base", "_law_due", "_law_a", "_law_b", "_law_x", "_law_y", "_law_load_so", "_law_after"] ["_law_m", "_law_given_here", "_law_sweeps_so"] (defScope (tp 52)) := ⟨rfl, rfl, rfl, by decide +kernel, rfl, by decide +kernel, by decide +kernel⟩
def w_law_right : WS := (wSeq (wAsg (bTup [6, 7]) (wTup (wCons (wCm 6 sRow_of (wCons (wB wTupOf (wCons (wV 1) wNil)) wNil)) (wCons (wCall s_law_swept_all [] (wCons (wV 1) (wCons (wV 2) wNil))) wNil))))
  (wSeq (wSet 3 (wLst (wCons (wV 2) (wCons (wCall s_law_mixed_up [] (wCons (wV 0) (wCons (wV 2) wNil))) (wCons (wCall s_law_joined [] (wCons (wV 2) wNil)) (wCons (wRev (wCall s_law_joined [] (wCons (wV 2) wNil))) wNil))))))
  (wSeq (wSet 3 (wOp wPlus (wV 3) (wLst (wCons (wCall s_law_mixed_up [] (wCons (wV 0) (wCons (wCall s_law_parted [] (wCons (wV 0) (wCons (wV 2) wNil))) wNil))) (wCons (wB wSortB (wCons (wV 2) wNil)) (wCons (wRev (wB wSortB (wCons (wV 2) wNil))) wNil))))))
  (wSeq (wAsg (bTup [8, 9]) (wCall s_law_sums [] (wCons (wV 2) wNil)))
  (wSeq (wFor (wiS (wV 3)) (bNm 4) (wSeq (wPar 12 13 (wCons (wCall sload_of [] (wCons (wCall s_law_made [] (wCons (wV 4) wNil)) wNil)) (wCons (wCall s_law_done [] (wCons (wV 6) (wCons (wV 4) wNil))) wNil)))
  (wSeq (wIfS (wOrT (wTst (wOp wNe2 (wB wRepr (wCons (wLst (wCons (wProp [(2, sLoad_forward)] (wV 12)) (wCons (wProp [(2, sLoad_backward)] (wV 12)) wNil))) wNil)) (wB wRepr (wCons (wLst (wCons (wV 8) (wCons (wV 9) wNil))) wNil)))) (wTst (wOp wNe2 (wB wRepr (wCons (wProp [(6, sRow_numbers)] (wV 13)) wNil)) (wB wRepr (wCons (wB wTupOf (wCons (wV 7) wNil)) wNil))))) (wRet (wC (.bl false))) wNext)
  (wIfS (wNotT (wTst (wOpX (wOwn [(6, (alIn [6]), sRow_eq)] wEq2) (wV 13) (wOpX (wOwn [(6, (alIn [2, 4, 5, 6]), sRow_rshift)] wNo2) (wV 6) (wV 12))))) (wRet (wC (.bl false))) wNext))))
  (wSeq (wPar 10 11 (wCons (wCall s_law_draw [] (wCons (wV 0) (wCons (wOp wPlus (wV 8) (wC (.int 1))) wNil))) (wCons (wCall s_law_draw [] (wCons (wV 0) (wCons (wOp wPlus (wV 9) (wC (.int 1))) wNil))) wNil)))
  (wSeq (wSet 5 (wLstM (wCons (wOpX (wOwn [(6, (alIn [2, 4, 5, 6]), sRow_rshift)] wNo2) (wOpX (wOwn [(6, (alIn [2, 4, 5, 6]), sRow_rshift)] wNo2) (wV 6) (wFrzI 2 2 (wMake 2 sLoad_init [] (wCons (wV 10) (wCons (wV 11) wNil))))) (wFrzI 2 2 (wMake 2 sLoad_init [] (wCons (wOp wSub (wV 8) (wV 10)) (wCons (wOp wSub (wV 9) (wV 11)) wNil))))) (wCons (wOpX (wOwn [(6, (alIn [2, 4, 5, 6]), sRow_rshift)] wNo2) (wOpX (wOwn [(6, (alIn [2, 4, 5, 6]), sRow_rshift)] wNo2) (wV 6) (wFrzI 2 2 (wMake 2 sLoad_init [] (wCons (wC (.int 0)) (wCons (wV 9) wNil))))) (wFrzI 2 2 (wMake 2 sLoad_init [] (wCons (wV 8) (wCons (wC (.int 0)) wNil))))) wNil))))
  (wSeq (wDrop (wM wAppend (wV 5) (wCons (wOpX (wOwn [(6, (alIn [2, 4, 5, 6]), sRow_rshift)] wNo2) (wOpX (wOwn [(6, (alIn [2, 4, 5, 6]), sRow_rshift)] wNo2) (wV 6) (wFrzI 2 2 (wMake 2 sLoad_init [] (wCons (wV 8) (wCons (wC (.int 0)) wNil))))) (wFrzI 2 2 (wMake 2 sLoad_init [] (wCons (wC (.int 0)) (wCons (wV 9) wNil))))) wNil)))
  (wRet (wAndV (wOp wEq2 (wLc (wiS (wV 5)) (bNm 4) (wTst (wOp wNe2 (wB wListOf (wCons (wProp [(6, sRow_numbers)] (wV 4)) wNil)) (wV 7))) (wV 4) [4]) (wLst wNil)) (wOp wEq2 (wProp [(6, sRow_numbers)] (wV 6)) (wB wTupOf (wCons (wV 1) wNil)))))))))))))
def s_law_right : SpD := spOf 3 14 w_law_right
theorem go_law_right (T : Bu K mg G) {f : Addr} (g : Gd K mg "_law_right" (tp 52) f ["_law_m", "_law_given_here", "_law_sweeps_so"]) (okLoad_backward : OkProp P w K mg base false 1 (G.cl 2) "backward" ["self"] (lift G K sLoad_backward)) (okLoad_forward : OkProp P w K mg base false 1 (G.cl 2) "forward" ["self"] (lift G K sLoad_forward)) (okLoad_init : OkInit P w K mg base false 3 (G.cl 2) "Load.__init__" (cb (tp 13) 1) [] ["self", "forward", "backward"] (lift G K sLoad_init)) (okRow_eq : OkMeth P w K mg base false 1 (G.cl 6) "__eq__" ["self", "other"] (lift G K sRow_eq)) (okRow_numbers : OkProp P w K mg base false 1 (G.cl 6) "numbers" ["self"] (lift G K sRow_numbers)) (okRow_of : OkCm P w K mg base false 7 (G.cl 6) "of" (lift G K sRow_of)) (okRow_rshift : OkMeth P w K mg base false 7 (G.cl 6) "__rshift__" ["self", "other"] (lift G K sRow_rshift)) (ok_law_done : OkG P w K mg base false 8 "_law_done" ["_law_base", "_law_sweeps_so"] (lift G K s_law_done)) (ok_law_draw : OkG P w K mg base false 2 "_law_draw" ["_law_m", "_law_top"] (lift G K s_law_draw)) (ok_law_joined : OkG P w K mg base false 1 "_law_joined" ["_law_sweeps_so"] (lift G K s_law_joined)) (ok_law_made : OkG P w K mg base false 6 "_law_made" ["_law_sweeps_so"] (lift G K s_law_made)) (ok_law_mixed_up : OkG P w K mg base false 3 "_law_mixed_up" ["_law_m", "_law_things"] (lift G K s_law_mixed_up)) (ok_law_parted : OkG P w K mg base false 3 "_law_parted" ["_law_m", "_law_sweeps_so"] (lift G K s_law_parted)) (ok_law_sums : OkG P w K mg base false 1 "_law_sums" ["_law_sweeps_so"] (lift G K s_law_sums)) (ok_law_swept_all : OkG P w K mg base false 2 "_law_swept_all" ["_law_given_here", "_law_sweeps_so"] (lift G K s_law_swept_all)) (okload_of : OkG P w K mg base false 6 "load_of" ["word"] (lift G K sload_of)) : OkG P w K mg base true 9 "_law_right" ["_law_m", "_law_given_here", "_law_sweeps_so"] (lift G K s_law_right) := by
  refine okG g sc_law_right fun cdv A out s H E hr hgd => ?_
  exact (dss_cons (ds_asg (de_tup (da_cons (de_cm okRow_of (hr.mono (by decide)) nog T.k_Row (da_cons (de_callT sim_tupOf call_tuple_of T.b_tuple (by decide +kernel) (da_cons (de_v 1) da_nil)) da_nil)) (da_cons (de_f ok_law_swept_all (hr.mono (by decide)) nog (da_cons (de_v 1) (da_cons (de_v 2) da_nil))) da_nil))) (pg_tup rfl (pgs_cons (pg_name (i := 6) sc_law_right.nd rfl (by first | exact Or.inl rfl | exact Or.inr rfl)) (pgs_cons (pg_name (i := 7) sc_law_right.nd rfl (by first | exact Or.inl rfl | exact Or.inr rfl)) pgs_nil))) (simG_tup [6, 7]))
  (dss_cons (ds_set 3 sc_law_right.nd (de_lst (da_cons (de_v 2) (da_cons (de_f ok_law_mixed_up (hr.mono (by decide)) nog (da_cons (de_v 0) (da_cons (de_v 2) da_nil))) (da_cons (de_f ok_law_joined (hr.mono (by decide)) nog (da_cons (de_v 2) da_nil)) (da_cons (de_rev (de_f ok_law_joined (hr.mono (by decide)) nog (da_cons (de_v 2) da_nil))) da_nil))))))
  (dss_cons (ds_set 3 sc_law_right.nd (de_op plusR sim_plus (de_v 3) (de_lst (da_cons (de_f ok_law_mixed_up (hr.mono (by decide)) nog (da_cons (de_v 0) (da_cons (de_f ok_law_parted (hr.mono (by decide)) nog (da_cons (de_v 0) (da_cons (de_v 2) da_nil))) da_nil))) (da_cons (de_callB sim_sortB cr_sortB T.b_sorted (by decide +kernel) (da_cons (de_v 2) da_nil)) (da_cons (de_rev (de_callB sim_sortB cr_sortB T.b_sorted (by decide +kernel) (da_cons (de_v 2) da_nil))) da_nil))))))
  (dss_cons (ds_asg (de_f ok_law_sums (hr.mono (by decide)) nog (da_cons (de_v 2) da_nil)) (pg_tup rfl (pgs_cons (pg_name (i := 8) sc_law_right.nd rfl (by first | exact Or.inl rfl | exact Or.inr rfl)) (pgs_cons (pg_name (i := 9) sc_law_right.nd rfl (by first | exact Or.inl rfl | exact Or.inr rfl)) pgs_nil))) (simG_tup [8, 9]))
  (dss_cons (ds_for (passes_of rfl) rfl (di_seq (de_v 3)) (pg_name (i := 4) sc_law_right.nd rfl (by first | exact Or.inl rfl | exact Or.inr rfl)) (simG_nm 4) (dss_cons (ds_par 12 13 sc_law_right.nd (da_cons (de_f okload_of (hr.mono (by decide)) nog (da_cons (de_f ok_law_made (hr.mono (by decide)) nog (da_cons (de_v 4) da_nil)) da_nil)) (da_cons (de_f ok_law_done (hr.mono (by decide)) nog (da_cons (de_v 6) (da_cons (de_v 4) da_nil))) da_nil)))
  (dss_cons (ds_if (dt_w (dw_or (dt_cmp (op_or op_ne (op_neD (hu64 hr))) sim_ne2 (de_callB sim_repr (call_reprD (hgd rfl) (hu66 hr)) T.b_repr (by decide +kernel) (da_cons (de_lst (da_cons (de_prop [(2, sLoad_forward)] (tb_cons (pd_of okLoad_forward T.cls_Load (hr.mono (by decide)) nog) tb_nil) (de_v 12)) (da_cons (de_prop [(2, sLoad_backward)] (tb_cons (pd_of okLoad_backward T.cls_Load (hr.mono (by decide)) nog) tb_nil) (de_v 12)) da_nil))) da_nil)) (de_callB sim_repr (call_reprD (hgd rfl) (hu66 hr)) T.b_repr (by decide +kernel) (da_cons (de_lst (da_cons (de_v 8) (da_cons (de_v 9) da_nil))) da_nil)) (nomark _)) (dw_or1 (dt_cmp (op_or op_ne (op_neD (hu64 hr))) sim_ne2 (de_callB sim_repr (call_reprD (hgd rfl) (hu66 hr)) T.b_repr (by decide +kernel) (da_cons (de_prop [(6, sRow_numbers)] (tb_cons (pd_of okRow_numbers T.cls_Row (hr.mono (by decide)) nog) tb_nil) (de_v 13)) da_nil)) (de_callB sim_repr (call_reprD (hgd rfl) (hu66 hr)) T.b_repr (by decide +kernel) (da_cons (de_callT sim_tupOf call_tuple_of T.b_tuple (by decide +kernel) (da_cons (de_v 7) da_nil)) da_nil)) (nomark _))))) (dss_one (ds_ret de_bl)) dss_nil)
  (dss_one (ds_if (dt_not (dt_cmpX (dop_own (w := wEq2) (tb := [(6, (alIn [6]), sRow_eq)]) (dop_of (op_or op_eq (op_eqD (hu64 hr))) sim_eq2) (tb_cons (fun t ht => dop_cmp (fun _ _ => rfl) okRow_eq (by decide +kernel) (hr.mono (by decide)) nog (alIn_plain t ht) (alIn_nf (tb_cons T.nf_Row_Row tb_nil) t ht)) tb_nil)) (de_v 13) (de_opX (dop_own (w := wNo2) (tb := [(6, (alIn [2, 4, 5, 6]), sRow_rshift)]) dop_no2 (tb_cons (fun t ht => dop_bin okRow_rshift (by decide +kernel) T.sf_Row (hr.mono (by decide)) nog (alIn_of (tb_cons (.inr ⟨T.ne_Row_Load, T.nn_Load_rshift⟩) (tb_cons (.inr ⟨T.ne_Row_Forward, T.nn_Forward_rshift⟩) (tb_cons (.inr ⟨T.ne_Row_Backward, T.nn_Backward_rshift⟩) (tb_cons (.inl rfl) tb_nil)))) t ht)) tb_nil)) (de_v 6) (de_v 12)) (nomark _))) (dss_one (ds_ret de_bl)) dss_nil)))))
  (dss_cons (ds_par 10 11 sc_law_right.nd (da_cons (de_f ok_law_draw (hr.mono (by decide)) nog (da_cons (de_v 0) (da_cons (de_op plusR sim_plus (de_v 8) de_int) da_nil))) (da_cons (de_f ok_law_draw (hr.mono (by decide)) nog (da_cons (de_v 0) (da_cons (de_op plusR sim_plus (de_v 9) de_int) da_nil))) da_nil)))
  (dss_cons (ds_set 5 sc_law_right.nd (de_lstM (da_cons (de_opX (dop_own (w := wNo2) (tb := [(6, (alIn [2, 4, 5, 6]), sRow_rshift)]) dop_no2 (tb_cons (fun t ht => dop_bin okRow_rshift (by decide +kernel) T.sf_Row (hr.mono (by decide)) nog (alIn_of (tb_cons (.inr ⟨T.ne_Row_Load, T.nn_Load_rshift⟩) (tb_cons (.inr ⟨T.ne_Row_Forward, T.nn_Forward_rshift⟩) (tb_cons (.inr ⟨T.ne_Row_Backward, T.nn_Backward_rshift⟩) (tb_cons (.inl rfl) tb_nil)))) t ht)) tb_nil)) (de_opX (dop_own (w := wNo2) (tb := [(6, (alIn [2, 4, 5, 6]), sRow_rshift)]) dop_no2 (tb_cons (fun t ht => dop_bin okRow_rshift (by decide +kernel) T.sf_Row (hr.mono (by decide)) nog (alIn_of (tb_cons (.inr ⟨T.ne_Row_Load, T.nn_Load_rshift⟩) (tb_cons (.inr ⟨T.ne_Row_Forward, T.nn_Forward_rshift⟩) (tb_cons (.inr ⟨T.ne_Row_Backward, T.nn_Backward_rshift⟩) (tb_cons (.inl rfl) tb_nil)))) t ht)) tb_nil)) (de_v 6) (de_frzI (by rw [T.nm_Load]; rfl) (de_new okLoad_init (hr.mono (by decide)) nog T.k_Load (fun _ _ _ _ _ _ us hl => match us, hl with | [_, _, _], _ => rfl) (da_cons (de_v 10) (da_cons (de_v 11) da_nil))))) (de_frzI (by rw [T.nm_Load]; rfl) (de_new okLoad_init (hr.mono (by decide)) nog T.k_Load (fun _ _ _ _ _ _ us hl => match us, hl with | [_, _, _], _ => rfl) (da_cons (de_op op_sub (sim_I0 int_rep) (de_v 8) (de_v 10)) (da_cons (de_op op_sub (sim_I0 int_rep) (de_v 9) (de_v 11)) da_nil))))) (da_cons (de_opX (dop_own (w := wNo2) (tb := [(6, (alIn [2, 4, 5, 6]), sRow_rshift)]) dop_no2 (tb_cons (fun t ht => dop_bin okRow_rshift (by decide +kernel) T.sf_Row (hr.mono (by decide)) nog (alIn_of (tb_cons (.inr ⟨T.ne_Row_Load, T.nn_Load_rshift⟩) (tb_cons (.inr ⟨T.ne_Row_Forward, T.nn_Forward_rshift⟩) (tb_cons (.inr ⟨T.ne_Row_Backward, T.nn_Backward_rshift⟩) (tb_cons (.inl rfl) tb_nil)))) t ht)) tb_nil)) (de_opX (dop_own (w := wNo2) (tb := [(6, (alIn [2, 4, 5, 6]), sRow_rshift)]) dop_no2 (tb_cons (fun t ht => dop_bin okRow_rshift (by decide +kernel) T.sf_Row (hr.mono (by decide)) nog (alIn_of (tb_cons (.inr ⟨T.ne_Row_Load, T.nn_Load_rshift⟩) (tb_cons (.inr ⟨T.ne_Row_Forward, T.nn_Forward_rshift⟩) (tb_cons (.inr ⟨T.ne_Row_Backward, T.nn_Backward_rshift⟩) (tb_cons (.inl rfl) tb_nil)))) t ht)) tb_nil)) (de_v 6) (de_frzI (by rw [T.nm_Load]; rfl) (de_new okLoad_init (hr.mono (by decide)) nog T.k_Load (fun _ _ _ _ _ _ us hl => match us, hl with | [_, _, _], _ => rfl) (da_cons de_int (da_cons (de_v 9) da_nil))))) (de_frzI (by rw [T.nm_Load]; rfl) (de_new okLoad_init (hr.mono (by decide)) nog T.k_Load (fun _ _ _ _ _ _ us hl => match us, hl with | [_, _, _], _ => rfl) (da_cons (de_v 8) (da_cons de_int da_nil))))) da_nil))))
  (dss_cons (ds_expr (de_m sim_append PySem.F.plainAttrs_list PySem.F.slot_list_append PySem.F.type_list_append mt_append (de_v 5) (da_cons (de_opX (dop_own (w := wNo2) (tb := [(6, (alIn [2, 4, 5, 6]), sRow_rshift)]) dop_no2 (tb_cons (fun t ht => dop_bin okRow_rshift (by decide +kernel) T.sf_Row (hr.mono (by decide)) nog (alIn_of (tb_cons (.inr ⟨T.ne_Row_Load, T.nn_Load_rshift⟩) (tb_cons (.inr ⟨T.ne_Row_Forward, T.nn_Forward_rshift⟩) (tb_cons (.inr ⟨T.ne_Row_Backward, T.nn_Backward_rshift⟩) (tb_cons (.inl rfl) tb_nil)))) t ht)) tb_nil)) (de_opX (dop_own (w := wNo2) (tb := [(6, (alIn [2, 4, 5, 6]), sRow_rshift)]) dop_no2 (tb_cons (fun t ht => dop_bin okRow_rshift (by decide +kernel) T.sf_Row (hr.mono (by decide)) nog (alIn_of (tb_cons (.inr ⟨T.ne_Row_Load, T.nn_Load_rshift⟩) (tb_cons (.inr ⟨T.ne_Row_Forward, T.nn_Forward_rshift⟩) (tb_cons (.inr ⟨T.ne_Row_Backward, T.nn_Backward_rshift⟩) (tb_cons (.inl rfl) tb_nil)))) t ht)) tb_nil)) (de_v 6) (de_frzI (by rw [T.nm_Load]; rfl) (de_new okLoad_init (hr.mono (by decide)) nog T.k_Load (fun _ _ _ _ _ _ us hl => match us, hl with | [_, _, _], _ => rfl) (da_cons (de_v 8) (da_cons de_int da_nil))))) (de_frzI (by rw [T.nm_Load]; rfl) (de_new okLoad_init (hr.mono (by decide)) nog T.k_Load (fun _ _ _ _ _ _ us hl => match us, hl with | [_, _, _], _ => rfl) (da_cons de_int (da_cons (de_v 9) da_nil))))) da_nil)))
  (dss_one (ds_ret (de_and (de_cmp (op_or op_eq (op_eqD (hu64 hr))) sim_eq2 (de_lc [("_law_one", 4)] rfl sc_law_right.nd (blkOk_by (N := N_law_right) (sc := defScope (tp 52)) (by decide +kernel)) (di_seq (de_v 5)) (simGw_nm (by decide)) (fun _ _ _ _ _ => (pg_name (i := 4) sc_law_right.nd rfl (by first | exact Or.inl rfl | exact Or.inr rfl))) (fun _ _ _ _ _ => dpts_one (dt_cmp (op_or op_ne (op_neD (hu64 hr))) sim_ne2 (de_callT sim_listOf call_list_of T.b_list (by decide +kernel) (da_cons (de_prop [(6, sRow_numbers)] (tb_cons (pd_of okRow_numbers T.cls_Row (hr.mono (by decide)) nog) tb_nil) (de_v 4)) da_nil)) (de_v 7) (nomark _))) (fun _ _ _ _ _ => (de_v 4))) (de_lst da_nil) (nomark _)) (de_one (de_cmp (op_or op_eq (op_eqD (hu64 hr))) sim_eq2 (de_prop [(6, sRow_numbers)] (tb_cons (pd_of okRow_numbers T.cls_Row (hr.mono (by decide)) nog) tb_nil) (de_v 6)) (de_callT sim_tupOf call_tuple_of T.b_tuple (by decide +kernel) (da_cons (de_v 1) da_nil)) (nomark _))))))))))))))
abbrev Nlaw : List Str := ["_law_script", "_law_m", "_law_turn"]
theorem sclaw : FnScope ["_law_script", "_law_m", "_law_turn"] ["_law_script"] (defScope (tp 53)) := ⟨rfl, rfl, rfl, by decide +kernel, rfl, by decide +kernel, by decide +kernel⟩
def wlaw : WS := (wSeq (wSet 1 (wCall s_law_begun [] (wCons (wV 0) wNil)))
  (wSeq (wFor (wiR1 (wCons (wC (.int 3)) wNil)) (bNm 2) (wIfS (wNotT (wTst (wCall s_law_right [] (wCons (wV 1) (wCons (wCall s_law_given [] (wCons (wV 1) (wCons (wC (.int 20)) wNil))) (wCons (wCall s_law_word [] (wCons (wV 1) (wCons (wC (.int 6)) wNil))) wNil)))))) (wRet (wC (.bl false))) wNext))
  (wRet (wC (.bl true)))))
def slaw : SpD := spOf 1 3 wlaw
theorem golaw (T : Bu K mg G) {f : Addr} (g : Gd K mg "law" (tp 53) f ["_law_script"]) (ok_law_begun : OkG P w K mg base false 2 "_law_begun" ["_law_script"] (lift G K s_law_begun)) (ok_law_given : OkG P w K mg base false 4 "_law_given" ["_law_m", "_law_most"] (lift G K s_law_given)) (ok_law_right : OkG P w K mg base true 9 "_law_right" ["_law_m", "_law_given_here", "_law_sweeps_so"] (lift G K s_law_right)) (ok_law_word : OkG P w K mg base false 3 "_law_word" ["_law_m", "_law_most"] (lift G K s_law_word)) : OkG P w K mg base true 10 "law" ["_law_script"] (lift G K slaw) := by
  refine okG g sclaw fun cdv A out s H E hr hgd => ?_
  exact (dss_cons (ds_set 1 sclaw.nd (de_f ok_law_begun (hr.mono (by decide)) nog (da_cons (de_v 0) da_nil)))
  (dss_cons (ds_for (passes_of rfl) rfl (di_range1 T.b_range (da_cons de_int da_nil)) (pg_name (i := 2) sclaw.nd rfl (by first | exact Or.inl rfl | exact Or.inr rfl)) (simG_nm 2) (dss_one (ds_if (dt_not (dt_val (de_f ok_law_right (hr.mono (by decide)) hgd (da_cons (de_v 1) (da_cons (de_f ok_law_given (hr.mono (by decide)) nog (da_cons (de_v 1) (da_cons de_int da_nil))) (da_cons (de_f ok_law_word (hr.mono (by decide)) nog (da_cons (de_v 1) (da_cons de_int da_nil))) da_nil)))))) (dss_one (ds_ret de_bl)) dss_nil)))
  (dss_one (ds_ret de_bl))))
end
end My

set_option Elab.async false
set_option linter.all false
set_option maxRecDepth 100000
set_option maxHeartbeats 1000000
namespace My
open PySem PySem.Spec L2 DL
open PyProof.Rows hiding St
theorem cm1 {i j : Int} (h : -(2 ^ 64) < i ∧ i < 2 ^ 64) : CMul i j ∨ i.natAbs.log2 + j.natAbs.log2 < 1000000 := .inl (.inl h)
theorem cm2 {i j : Int} (h : -(2 ^ 64) < j ∧ j < 2 ^ 64) : CMul i j ∨ i.natAbs.log2 + j.natAbs.log2 < 1000000 := .inl (.inr h)
theorem small_sz {n : Nat} (h : n ≤ 1000000) : n < sizeLine := by rw [sizeLine_eq]; omega
theorem mixed_spec {c n : Int} {M : MM} {Q : D → MM → Prop} {EX : XD → MM → Prop} (hc : -(2 ^ 62) < c ∧ c < 2 ^ 62) (hn : 0 ≤ n ∧ n < 2 ^ 40) (h : ∀ r : Int, 0 ≤ r → r < 2147483629 → Q (.int r) M) : s_law_mixed [.int c, .int n] M Q EX := by
  refine ⟨rfl, cm1 (by omega), cm1 (by omega), cm2 (by decide), (show (0 : Int) < 2147483647 by decide), cm1 (by decide), cm2 (by omega), cm1 (by decide), cm2 (by decide), (show (0 : Int) < 2147483629 by decide), ⟨by decide, by decide⟩, h _ ?_ ?_⟩
  · omega
  · omega
/-! ### the draws -/
def dEnt (cs : List Int) (g : Addr) (n : Int) : List (Key × D) := [(.inr "cells", .lst (cs.map D.int)), (.inr "great", .raw (.ref g)), (.inr "spot", .int n)]
/-- m draws, g its great list; f draws are left -/
structure Dr (m g : Addr) (f : Nat) (M : MM) : Prop where
  ex : ∃ (cs gs : List Int) (n : Int), M m = some (.dct (dEnt cs g n)) ∧ M g = some (.lst (gs.map D.int)) ∧ cs.length = 64 ∧ (∀ c ∈ cs, 0 ≤ c ∧ c < 2147483647) ∧ gs.length ≤ 63 ∧ 0 ≤ n ∧ n + (f : Int) < 2 ^ 39
  ne : m ≠ g
/-- all but the draws stays -/
def Sm (m g : Addr) (M M' : MM) : Prop := ∀ b, b ≠ m → b ≠ g → M' b = M b
theorem Sm.refl {m g : Addr} {M : MM} : Sm m g M M := fun _ _ _ => rfl
theorem Sm.trans {m g : Addr} {M M1 M2 : MM} (a : Sm m g M M1) (b : Sm m g M1 M2) : Sm m g M M2 := fun c h1 h2 => (b c h1 h2).trans (a c h1 h2)
theorem val_spot {cs : List Int} {g : Addr} {n : Int} : valD (dEnt cs g n) (.inr "spot") = some (.int n) := by rfl
theorem val_great {cs : List Int} {g : Addr} {n : Int} : valD (dEnt cs g n) (.inr "great") = some (.raw (.ref g)) := by rfl
theorem val_cells {cs : List Int} {g : Addr} {n : Int} : valD (dEnt cs g n) (.inr "cells") = some (.lst (cs.map D.int)) := by rfl
theorem put_spot {cs : List Int} {g : Addr} {n k : Int} : putD (dEnt cs g n) (.inr "spot") (.int k) = dEnt cs g k := by rfl
theorem draw_spec {m g : Addr} {f : Nat} {M : MM} {top : Int} {Q : D → MM → Prop} {EX : XD → MM → Prop} (hd : Dr m g (f + 1) M) (ht : 0 < top ∧ top < 1073741824) (h : ∀ (r : Int) (M' : MM), 0 ≤ r → r < top → Dr m g f M' → Sm m g M M' → Q (.int r) M') : s_law_draw [.raw (.ref m), .int top] M Q EX := by
  obtain ⟨⟨cs, gs, n, e1, e2, lc, bc, lg, n0, nf⟩, ne⟩ := hd
  refine ⟨rfl, ?_⟩
  refine at_dget (dct_mut e1) rfl val_spot ?_
  refine at_dput (k := .inr "spot") (i := .str "spot") e1 rfl (small_sz (show 3 ≤ 1000000 by decide)) ?_
  rw [put_spot]
  obtain ⟨M1, eM⟩ : ∃ M1, M1 = updM M m (.dct (dEnt cs g (n + 1))) := ⟨_, rfl⟩
  rw [← eM]
  have f1 : M1 m = some (.dct (dEnt cs g (n + 1))) := by rw [eM]; exact updM_same
  have f2 : M1 g = some (.lst (gs.map D.int)) := by rw [eM, updM_ne ne.symm]; exact e2
  have sm : Sm m g M M1 := fun b hb _ => by rw [eM]; exact updM_ne hb
  have dr : Dr m g f M1 := ⟨⟨cs, gs, n + 1, f1, f2, lc, bc, lg, by omega, by omega⟩, ne⟩
  -- the last part: a cell's own number
  have fin : ∀ d4 : Option D, (wSeq (wSet 3 (wOp wIx (wDGet (wV 0) (wC (.str "cells"))) (wOp wMod (wB wInt1 (wCons (wV 2) wNil)) (wC (.int 64)))))
      (wRet (wOp wMod (wB wInt1 (wCons (wCall s_law_mixed [] (wCons (wCall s_law_mixed [] (wCons (wOp wPlus (wV 3) (wOp wTimes (wC (.int 31)) (wOp wDiv (wV 2) (wC (.int 64))))) (wCons (wV 2) wNil))) (wCons (wOp wPlus (wV 2) (wC (.int 7))) wNil))) wNil)) (wV 1))))
      { nx := fun _ M' => Q .non M', rt := Q } (fun xd _ M' => EX xd M') [some (.raw (.ref m)), some (.int top), some (.int n), d4, none] M1 := by
    intro d4
    refine at_dget (dct_mut f1) (by rfl) val_cells ?_
    refine ⟨(show (0 : Int) < 64 by decide), ?_⟩
    obtain ⟨c, hc⟩ : ∃ c, cs[(n % 64).toNat]? = some c := ⟨_, List.getElem?_eq_getElem (by omega)⟩
    have bc' := bc c (List.mem_of_getElem? hc)
    refine at_ix (xs := cs.map D.int) (d := .int c) rfl ?_ ?_
    · rw [atD_nat (by omega) (by rw [List.length_map]; omega), List.getElem?_map, hc]; rfl
    refine ⟨⟨by decide, by decide⟩, cm1 (by decide), ?_⟩
    refine mixed_spec (by omega) (by omega) fun r1 a1 b1 => ?_
    refine mixed_spec (by omega) (by omega) fun r2 a2 b2 => ?_
    exact ⟨ht.1, h _ _ (Int.emod_nonneg _ (by omega)) (Int.emod_lt_of_pos _ ht.1) dr sm⟩
  refine at_dget (dct_mut f1) (by rfl) val_great ?_
  refine ⟨Nat.zero_le _, at_ne (p := .list (gs.map .int)) (q := .list []) ?_ rfl (shaped_ints gs) (by decide +kernel) ⟨_, rfl, ?_⟩⟩
  · rw [py_mut f2]; exact toPy_lst (toPys_ints gs)
  rw [eqv_nil]
  cases gs with
  | nil => exact fin none
  | cons z zs =>
    refine at_dget (dct_mut f1) (by rfl) val_great ?_
    refine at_len (seq_mut f2) ?_
    refine ⟨(show (0 : Int) < (((z :: zs).map D.int).length : Nat) by rw [List.length_map, List.length_cons]; omega), ?_⟩
    obtain ⟨j, ej⟩ : ∃ j : Nat, j = (n % (((z :: zs).map D.int).length : Nat)).toNat := ⟨_, rfl⟩
    have lp : (0 : Int) < (((z :: zs).map D.int).length : Nat) := by rw [List.length_map, List.length_cons]; omega
    have j0 : 0 ≤ n % (((z :: zs).map D.int).length : Nat) := Int.emod_nonneg _ (by omega)
    have j1 : n % (((z :: zs).map D.int).length : Nat) < (((z :: zs).map D.int).length : Nat) := Int.emod_lt_of_pos _ lp
    have lj : j < (z :: zs).length := by
      have el : ((z :: zs).map D.int).length = (z :: zs).length := List.length_map ..
      omega
    obtain ⟨c, hc⟩ : ∃ c, (z :: zs)[j]? = some c := ⟨_, List.getElem?_eq_getElem lj⟩
    refine at_dget (dct_mut f1) (by rfl) val_great ?_
    refine at_ix (d := .int c) (seq_mut f2) ?_ ?_
    · rw [atD_nat j0 j1, ← ej, List.getElem?_map, hc]; rfl
    refine ⟨_, rfl, ?_⟩
    refine if2 (fun hp => ?_) fun hp => ?_
    · refine ⟨ht, ?_⟩
      refine at_dget (dct_mut f1) (by rfl) val_great ?_
      refine at_putL (j := j) f2 ?_ ?_
      · rw [ixN_nat j0 j1, ← ej]
      refine ⟨ht.1, h _ _ (Int.emod_nonneg _ (by omega)) (Int.emod_lt_of_pos _ ht.1) ⟨⟨cs, (z :: zs).set j (c / top), n + 1, ?_, ?_, lc, bc, by rw [List.length_set]; exact lg, by omega, by omega⟩, ne⟩ fun b h1 h2 => ?_⟩
      · rw [updM_ne ne]; exact f1
      · rw [updM_same]; congr 2; rw [List.map_set]
      · rw [updM_ne h2]; exact sm b h1 h2
    · exact fin (some (.int c))
theorem Sm.kp {m g : Addr} {f : Nat} {M M' : MM} (s : Sm m g M M') (d : Dr m g f M') : Kp [m, g] M M' := fun b hb => by
  obtain ⟨⟨cs, gs, n, e1, e2, _⟩, _⟩ := d
  by_cases h1 : b = m
  · exact ⟨by rw [h1, e1]; simp, fun nb => absurd (by simp [h1]) nb⟩
  · by_cases h2 : b = g
    · exact ⟨by rw [h2, e2]; simp, fun nb => absurd (by simp [h2]) nb⟩
    · exact ⟨by rw [s b h1 h2]; exact hb, fun _ => s b h1 h2⟩
def Sep (A B : List Addr) : Prop := ∀ a ∈ A, a ∉ B
theorem Sep.symm {A B : List Addr} (h : Sep A B) : Sep B A := fun b hb ha => h b ha hb
def Alv (A : List Addr) (M : MM) : Prop := ∀ a ∈ A, M a ≠ none
theorem Alv.kp {A S : List Addr} {M M' : MM} (a : Alv A M) (k : Kp S M M') : Alv A M' := fun x hx => (k x (a x hx)).1
theorem Dr.alv {m g : Addr} {f : Nat} {M : MM} (d : Dr m g f M) : Alv [m, g] M := fun x hx => by
  obtain ⟨⟨cs, gs, n, e1, e2, _⟩, _⟩ := d
  simp only [List.mem_cons, List.not_mem_nil, or_false] at hx
  rcases hx with e | e
  · rw [e, e1]; simp
  · rw [e, e2]; simp
theorem Dr.kp {m g : Addr} {f : Nat} {M M' : MM} {S : List Addr} (d : Dr m g f M) (k : Kp S M M') (s : Sep [m, g] S) : Dr m g f M' := by
  obtain ⟨⟨cs, gs, n, e1, e2, h⟩, ne⟩ := d
  exact ⟨⟨cs, gs, n, k.some e1 (s m (by simp)), k.some e2 (s g (by simp)), h⟩, ne⟩
theorem not_fresh {A : List Addr} {p : Addr} (a : Alv A M) (hp : M p = none) : p ∉ A := fun z => a p z hp
theorem at_cutL {Q : D → MM → Prop} {xs : List Int} {lo hi : Option Int} {M : MM} (q : ∀ ys : List Int, ys.length ≤ xs.length → (∀ y ∈ ys, y ∈ xs) → Q (.lst (ys.map D.int)) M) : kCut Q (.lst (xs.map D.int)) lo hi M := by
  unfold kCut
  show Q (.lst (DL.cutD (xs.map D.int) lo hi)) M
  unfold DL.cutD
  rw [← List.map_drop, ← List.map_take]
  refine q _ ?_ fun y hy => List.mem_of_mem_drop (List.mem_of_mem_take hy)
  have h1 := List.length_take_le (HT.sIx (xs.map D.int).length (xs.map D.int).length hi - HT.sIx (xs.map D.int).length 0 lo) (xs.drop (HT.sIx (xs.map D.int).length 0 lo))
  have h2 : (xs.drop (HT.sIx (xs.map D.int).length 0 lo)).length ≤ xs.length := by rw [List.length_drop]; omega
  have h3 := List.length_take_le' (HT.sIx (xs.map D.int).length (xs.map D.int).length hi - HT.sIx (xs.map D.int).length 0 lo) (xs.drop (HT.sIx (xs.map D.int).length 0 lo))
  omega
theorem sep_fresh {A : List Addr} {M : MM} {p q : Addr} (a : Alv A M) (hp : M p = none) (hq : M q = none) : Sep A [p, q] := fun x hx hm => by
  simp only [List.mem_cons, List.not_mem_nil, or_false] at hm
  rcases hm with e | e
  · exact a x hx (e ▸ hp)
  · exact a x hx (e ▸ hq)
theorem sep_nil {A : List Addr} : Sep A [] := fun _ _ z => nomatch z
theorem seq_par {i j : Nat} {wa wb : WE} {B : WS} {E : ED} {EX : XK'} {δ : DS} {M : MM} (h : wa δ M (fun a M1 => wb δ M1 (fun b M2 => B E EX ((δ.set i (some a)).set j (some b)) M2) EX) EX) : wSeq (wPar i j (wCons wa (wCons wb wNil))) B E EX δ M := h
theorem seq_set {i : Nat} {wa : WE} {B : WS} {E : ED} {EX : XK'} {δ : DS} {M : MM} (h : wa δ M (fun a M1 => B E EX (δ.set i (some a)) M1) EX) : wSeq (wSet i wa) B E EX δ M := h
theorem for_r1 {n : Int} {j : Nat} {wb : WS} {E : ED} {EX : XK'} {δ : DS} {M : MM} (hn : -(2 ^ 62) ≤ n ∧ n < 2 ^ 62) (h : wLoop none (bNm j) wb (rngL 0 n.toNat) E EX δ M) : wFor (wiR1 (wCons (wC (.int n)) wNil)) (bNm j) wb E EX δ M := ⟨hn, h⟩
theorem within_spec {v lo hi : Int} {M : MM} {Q : D → MM → Prop} {EX : XD → MM → Prop} (h : lo ≤ v ∧ v ≤ hi) (hQ : Q (.bl true) M) : sis_integer_within [.int v, .int lo, .int hi] M Q EX := by
  refine ⟨rfl, rfl, ?_⟩
  refine at_isi (t := .int) (b := true) rfl rfl ⟨_, rfl, ifT rfl ?_⟩
  refine at_isi (t := .int) (b := false) rfl rfl ⟨_, rfl, ⟨_, rfl, ifT rfl ?_⟩⟩
  refine ⟨_, rfl, ?_⟩
  rw [decide_eq_true h.1]
  refine ifT rfl ?_
  show Q (.bl (decide (v ≤ hi))) M
  rw [decide_eq_true h.2]
  exact hQ
theorem folded_spec {ns : List Int} {M : MM} {Q : D → MM → Prop} {EX : XD → MM → Prop} (hl : ns.length ≤ 63) (hQ : ∀ (cs : List Int) M', cs.length = 64 → (∀ c ∈ cs, 0 ≤ c ∧ c < 2147483647) → Kp [] M M' → Q (.lst (cs.map D.int)) M') : s_law_folded [.frl (ns.map D.int)] M Q EX := by
  refine ⟨rfl, ?_⟩
  refine ⟨⟨by decide, by decide⟩, ?_⟩
  refine lc_inv (fun i acc M' => M' = M ∧ ∃ cs : List Int, acc = cs.map D.int ∧ cs.length = i ∧ i ≤ 64 ∧ ∀ c ∈ cs, 0 ≤ c ∧ c < 2147483647) ⟨rfl, [], rfl, rfl, by decide, fun _ z => nomatch z⟩ (fun _ _ _ _ => trivial) ?_ ?_
  · rintro i d acc M' hi ⟨rfl, cs, rfl, hc, hi64, hb⟩
    obtain ⟨hn, rfl⟩ := rngL_get hi
    refine ⟨_, rfl, fun nx hn' => ?_⟩
    refine ⟨small_sz (by rw [List.length_map]; omega), ?_⟩
    refine hn' _ _ ⟨rfl, cs ++ [(17 : Int) + (0 + ((i : Nat) : Int))], by rw [List.map_append]; rfl, by rw [List.length_append, hc]; rfl, by have : (64 : Int).toNat = 64 := rfl; omega, fun c hc' => ?_⟩
    rcases List.mem_append.mp hc' with z | z
    · exact hb c z
    · rw [List.mem_singleton.mp z]
      have : (64 : Int).toNat = 64 := rfl
      omega
  rintro acc M' ⟨rfl, cs, rfl, hc, _, hb⟩
  intro p hp
  have hc64 : cs.length = 64 := by rw [hc]; exact rngL_len 0 64
  refine at_enumF ?_
  refine loop_inv (fun i δ M1 => ∃ (ds : List Int) (d2 d3 d4 : Option D), δ = [some (.frl (ns.map D.int)), some (.raw (.ref p)), d2, d3, d4] ∧ M1 p = some (.lst (ds.map D.int)) ∧ ds.length = 64 ∧ (∀ c ∈ ds, 0 ≤ c ∧ c < 2147483647) ∧ ∀ b, b ≠ p → M1 b = M' b)
    ⟨cs, none, none, none, rfl, updM_same, hc64, hb, fun b nb => updM_ne nb⟩ (fun _ _ _ _ => True.intro) ?_ ?_
  · rintro i d δ M1 hi ⟨ds, d2, d3, d4, rfl, a1, dl, db, fr⟩
    obtain ⟨d1, e1, rfl⟩ := enumL_get hi
    obtain ⟨x, hx, rfl⟩ : ∃ x, ns[i]? = some x ∧ d1 = .int x := by
      rw [List.getElem?_map] at e1
      cases e : ns[i]? with
      | none => rw [e] at e1; cases e1
      | some x => rw [e] at e1; exact ⟨x, rfl, (Option.some.inj e1).symm⟩
    have li : i < ns.length := (List.getElem?_eq_some_iff.mp hx).1
    refine ⟨_, rfl, fun nx hn' => ?_⟩
    refine ⟨(show (0 : Int) < 64 by decide), ?_⟩
    have r0 : 0 ≤ (((0 + i : Nat) : Int) % 64) := Int.emod_nonneg _ (by decide)
    have r1 : (((0 + i : Nat) : Int) % 64) < 64 := Int.emod_lt_of_pos _ (by decide)
    obtain ⟨j, ej⟩ : ∃ j : Nat, j = (((0 + i : Nat) : Int) % 64).toNat := ⟨_, rfl⟩
    obtain ⟨c, hc'⟩ : ∃ c, ds[j]? = some c := ⟨_, List.getElem?_eq_getElem (by omega)⟩
    have bc := db c (List.mem_of_getElem? hc')
    refine at_ix (d := .int c) (seq_mut a1) ?_ ?_
    · rw [atD_nat r0 (by rw [List.length_map]; omega), ← ej, List.getElem?_map, hc']; rfl
    refine ⟨cm1 (by omega), (show (0 : Int) < 2147483647 by decide), ?_⟩
    refine at_putL (j := j) a1 ?_ ?_
    · rw [ixN_nat r0 (by rw [List.length_map]; omega), ← ej]
    refine hn' _ _ ⟨ds.set j ((c * 48271 + x) % 2147483647), _, _, _, rfl, ?_, by rw [List.length_set]; exact dl, fun z hz => ?_, fun b nb => by rw [updM_ne nb]; exact fr b nb⟩
    · rw [updM_same, List.map_set]
    · rcases List.mem_or_eq_of_mem_set hz with z1 | z1
      · exact db z z1
      · rw [z1]; exact ⟨Int.emod_nonneg _ (by decide), Int.emod_lt_of_pos _ (by decide)⟩
  rintro δ M1 ⟨ds, d2, d3, d4, rfl, a1, dl, db, fr⟩
  refine ⟨⟨by decide, by decide, by decide, by decide⟩, ?_⟩
  refine loop_inv (fun i δ M1 => ∃ (ds : List Int) (d2 d3 d4 : Option D), δ = [some (.frl (ns.map D.int)), some (.raw (.ref p)), d2, d3, d4] ∧ M1 p = some (.lst (ds.map D.int)) ∧ ds.length = 64 ∧ (∀ c ∈ ds, 0 ≤ c ∧ c < 2147483647) ∧ ∀ b, b ≠ p → M1 b = M' b)
    ⟨ds, d2, d3, d4, rfl, a1, dl, db, fr⟩ (fun _ _ _ _ => trivial) ?_ ?_
  · rintro i d δ M1 hi ⟨ds, d2, d3, d4, rfl, a1, dl, db, fr⟩
    obtain ⟨hn, rfl⟩ := rngL_get hi
    have hn' : i < 63 := hn
    refine ⟨_, rfl, fun nx hnx => ?_⟩
    obtain ⟨c, hc'⟩ : ∃ c, ds[1 + i]? = some c := ⟨_, List.getElem?_eq_getElem (by omega)⟩
    obtain ⟨c2, hc2⟩ : ∃ c, ds[i]? = some c := ⟨_, List.getElem?_eq_getElem (by omega)⟩
    have bc := db c (List.mem_of_getElem? hc')
    have bc2 := db c2 (List.mem_of_getElem? hc2)
    refine at_ix (d := .int c) (seq_mut a1) ?_ ?_
    · rw [atD_nat (by omega) (by rw [List.length_map]; omega), (show ((1 : Int) + (i : Nat)).toNat = 1 + i by omega), List.getElem?_map, hc']; rfl
    refine at_ix (d := .int c2) (seq_mut a1) ?_ ?_
    · rw [atD_nat (by omega) (by rw [List.length_map]; omega), (show ((1 : Int) + (i : Nat) - 1).toNat = i by omega), List.getElem?_map, hc2]; rfl
    refine ⟨cm1 (by omega), (show (0 : Int) < 2147483647 by decide), ?_⟩
    refine at_putL (j := 1 + i) a1 ?_ ?_
    · rw [ixN_nat (by omega) (by rw [List.length_map]; omega), (show ((1 : Int) + (i : Nat)).toNat = 1 + i by omega)]
    refine hnx _ _ ⟨ds.set (1 + i) ((c + c2 * 16807) % 2147483647), _, _, _, rfl, ?_, by rw [List.length_set]; exact dl, fun z hz => ?_, fun b nb => by rw [updM_ne nb]; exact fr b nb⟩
    · rw [updM_same, List.map_set]
    · rcases List.mem_or_eq_of_mem_set hz with z1 | z1
      · exact db z z1
      · rw [z1]; exact ⟨Int.emod_nonneg _ (by decide), Int.emod_lt_of_pos _ (by decide)⟩
  rintro δ M1 ⟨ds, d2, d3, d4, rfl, a1, dl, db, fr⟩
  refine at_frz a1 ?_
  refine hQ ds _ dl db fun b hb => ?_
  have nb : b ≠ p := fun z => hb (z ▸ hp)
  have e : delM M1 p b = M' b := by unfold delM; rw [if_neg nb]; exact fr b nb
  exact ⟨by rw [e]; exact hb, fun _ => e⟩
theorem at_iterR {Q : IT → MM → Prop} {M : MM} {ds : List D} (q : Q { items := ds } M) : kiS Q (.frl ds) M := by
  unfold kiS; exact q
theorem begun_spec {ns : List Int} {M : MM} {Q : D → MM → Prop} {EX : XD → MM → Prop} (hl : ns.length ≤ 63) (hQ : ∀ m g M', Dr m g 100000 M' → M m = none → M g = none → Kp [] M M' → Q (.raw (.ref m)) M') : s_law_begun [.frl (ns.map D.int)] M Q EX := by
  refine ⟨rfl, ?_⟩
  refine folded_spec hl fun cs M1 hc hb kp1 => ?_
  refine ⟨Nat.zero_le _, fun g0 hg0 => ⟨rfl, (show 3 ≤ 15 by decide), fun m hm => ?_⟩⟩
  have nm : m ≠ g0 := fun z => by rw [z, updM_same] at hm; cases hm
  have hm1 : M1 m = none := by rw [updM_ne nm] at hm; exact hm
  refine at_iterR ?_
  obtain ⟨M2, eM2⟩ : ∃ M2, M2 = updM (updM M1 g0 (.lst [])) m (.dct [(.inr "cells", .lst (cs.map D.int)), (.inr "great", .raw (.ref g0)), (.inr "spot", .int 0)]) := ⟨_, rfl⟩
  have a2 : M2 m = some (.dct (dEnt cs g0 0)) := by rw [eM2]; exact updM_same
  have kp2 : Kp [] M M2 := (kp1.trans (kp_new hg0)).trans (by rw [eM2]; exact kp_new hm)
  show wLcL _ _ _ _ _ _ _ _ (updM (updM M1 g0 (.lst [])) m (.dct [(.inr "cells", .lst (cs.map D.int)), (.inr "great", .raw (.ref g0)), (.inr "spot", .int 0)]))
  rw [← eM2]
  refine lc_inv (fun i acc M' => M' = M2 ∧ ∃ gs : List Int, acc = gs.map D.int ∧ gs.length = i ∧ i ≤ ns.length) ⟨rfl, [], rfl, rfl, Nat.zero_le _⟩ (fun _ _ _ _ => trivial) ?_ ?_
  · rintro i d acc M' hi ⟨rfl, gs, rfl, hg, hi2⟩
    obtain ⟨x, hx, rfl⟩ : ∃ x, ns[i]? = some x ∧ d = .int x := by
      rw [List.getElem?_map] at hi
      cases e : ns[i]? with
      | none => rw [e] at hi; cases hi
      | some x => rw [e] at hi; exact ⟨x, rfl, (Option.some.inj hi).symm⟩
    have li : i < ns.length := (List.getElem?_eq_some_iff.mp hx).1
    refine ⟨_, rfl, fun nx hn => ?_⟩
    have fin : ∀ z : Int, (gs.map D.int).length < sizeLine ∧ nx (gs.map D.int ++ [.int z]) M' := fun z => ⟨small_sz (by rw [List.length_map]; omega), hn _ _ ⟨rfl, gs ++ [z], by rw [List.map_append]; rfl, by rw [List.length_append, hg]; rfl, li⟩⟩
    refine ⟨⟨by decide, by decide⟩, _, rfl, if2 (fun _ => fin x) fun _ => fin 0⟩
  rintro acc M' ⟨rfl, gs, rfl, hg, hi2⟩
  intro g hg'
  have hgl : gs.length ≤ 63 := by
    have e : gs.length = ns.length := hg.trans (List.length_map ..)
    omega
  have ngm : m ≠ g := fun z => by rw [← z, a2] at hg'; cases hg'
  refine at_dput (k := .inr "great") (i := .str "great") (kvs := dEnt cs g0 0) (by rw [updM_ne ngm]; exact a2) rfl (small_sz (show 3 ≤ 1000000 by decide)) ?_
  refine hQ m g _ ⟨⟨cs, gs, 0, updM_same, ?_, hc, hb, hgl, by decide, by decide⟩, ngm⟩ (kp1.none hm1) (kp2.none hg') ?_
  · rw [updM_ne ngm.symm]; exact updM_same
  · have k3 : Kp [m] M (updM (updM M' g (.lst (gs.map D.int))) m (.dct (putD (dEnt cs g0 0) (.inr "great") (.raw (.ref g))))) := ((kp2.trans (kp_new hg')).mono (by simp)).trans (kp_upd (by simp))
    exact Kp.drop (kp1.none hm1) .refl k3
theorem Dr.le {m g : Addr} {a b : Nat} {M : MM} (h : Dr m g a M) (l : b ≤ a) : Dr m g b M := by
  obtain ⟨⟨cs, gs, n, e1, e2, lc, bc, lg, n0, nf⟩, ne⟩ := h
  exact ⟨⟨cs, gs, n, e1, e2, lc, bc, lg, n0, by omega⟩, ne⟩
/-- a comprehension over range(n) whose items are drawn -/
theorem lc_draws {we : WE} {δ0 : DS} {m g : Addr} {j f n : Nat} {M2 : MM} {fin : List D → MM → Prop} (P : Int → Prop) (hn : n ≤ 100000) (dr : Dr m g (f + n) M2)
    (hw : ∀ (i f' : Nat) (M' : MM), i < n → Dr m g (f' + 1) M' → ∀ nx : D → MM → Prop, (∀ (z : Int) M'', P z → Dr m g f' M'' → Sm m g M' M'' → nx (.int z) M'') → we (δ0.set j (some (.int (0 + ((i : Nat) : Int))))) M' nx noX)
    (hfin : ∀ (xs : List Int) M', xs.length = n → (∀ x ∈ xs, P x) → Dr m g f M' → Sm m g M2 M' → fin (xs.map D.int) M') : wLcL none (bNm j) wYes we δ0 fin (rngL 0 n) [] M2 := by
  refine lc_inv (fun i acc M' => ∃ xs : List Int, acc = xs.map D.int ∧ xs.length = i ∧ i ≤ n ∧ (∀ x ∈ xs, P x) ∧ Dr m g (f + (n - i)) M' ∧ Sm m g M2 M') ⟨[], rfl, rfl, Nat.zero_le _, fun _ z => (nomatch z), dr, .refl⟩ (fun _ _ _ _ => True.intro) ?_ ?_
  · rintro i d acc M' hi ⟨xs, rfl, hx, hi2, hb, dr', sm⟩
    obtain ⟨hi3, rfl⟩ := rngL_get hi
    refine ⟨_, rfl, fun nx hnx => ?_⟩
    refine hw i (f + (n - (i + 1))) M' hi3 (dr'.le (by omega)) _ fun z M'' hz dr2 sm2 => ?_
    exact ⟨small_sz (by rw [List.length_map]; omega), hnx _ _ ⟨xs ++ [z], by rw [List.map_append]; rfl, by rw [List.length_append, hx]; rfl, hi3, fun x hx2 => by
      rcases List.mem_append.mp hx2 with e | e
      · exact hb x e
      · rw [List.mem_singleton.mp e]; exact hz, dr2, sm.trans sm2⟩⟩
  · rintro acc M' ⟨xs, rfl, hx, hi2, hb, dr', sm⟩
    rw [rngL_len] at hx hi2 dr'
    exact hfin xs M' hx hb (dr'.le (by omega)) sm
/-- a comprehension that changes nothing -/
theorem lc_pure {src : Option (Addr × List D)} {b : BD} {wt : WT} {we : WE} {δ : DS} {fin : List D → MM → Prop} {M : MM} (gf : D → Option D) (hs : stay src M) :
    ∀ (ds acc : List D), (∀ d ∈ ds, ∃ δ', b d δ = some δ' ∧ match gf d with
      | some y => (∀ K : Bool → MM → Prop, K true M → wt δ' M K noX) ∧ ∀ K : D → MM → Prop, K y M → we δ' M K noX
      | none => ∀ K : Bool → MM → Prop, K false M → wt δ' M K noX) → acc.length + ds.length ≤ 1000000 → fin (acc ++ ds.filterMap gf) M → wLcL src b wt we δ fin ds acc M
  | [], acc, _, _, h => by
    unfold wLcL
    rw [List.filterMap_nil, List.append_nil] at h
    exact ⟨hs, h⟩
  | d :: ds, acc, hd, hl, h => by
    obtain ⟨δ', e, q⟩ := hd d (List.mem_cons_self ..)
    unfold wLcL
    refine ⟨hs, ?_⟩
    rw [e]
    have ih := fun acc => lc_pure (b := b) (wt := wt) (we := we) (δ := δ) (fin := fin) gf hs ds acc
    cases eg : gf d with
    | some y =>
      rw [eg] at q
      refine q.1 _ ?_
      rw [if_pos rfl]
      refine q.2 _ ⟨small_sz (by simp at hl; omega), ih (acc ++ [y]) (fun x hx => hd x (List.mem_cons_of_mem _ hx)) (by simp at hl ⊢; omega) ?_⟩
      rw [List.filterMap_cons, eg] at h
      rw [List.append_assoc]
      exact h
    | none =>
      rw [eg] at q
      refine q _ ?_
      rw [if_neg Bool.false_ne_true]
      refine ih acc (fun x hx => hd x (List.mem_cons_of_mem _ hx)) (by simp at hl; omega) ?_
      rw [List.filterMap_cons, eg] at h
      exact h
theorem at_append {Q : D → MM → Prop} {M : MM} {a : Addr} {xs : List D} {d : D} (h : M a = some (.lst xs)) (hl : xs.length ≤ 1000000) (q : Q .non (updM M a (.lst (xs ++ [d])))) : onL wAppend (.raw (.ref a)) [d] M Q := at_lst h ⟨small_sz hl, q⟩
theorem at_popAt {Q : D → MM → Prop} {M : MM} {a : Addr} {xs : List D} {z : Int} {d : D} (h : M a = some (.lst xs)) (h0 : 0 ≤ z) (h1 : z < xs.length) (hl : xs.length ≤ 1000000) (hd : xs[z.toNat]? = some d) (q : Q d (updM M a (.lst (xs.eraseIdx z.toNat)))) : onL wPopAt (.raw (.ref a)) [.int z] M Q := by
  refine at_lst h ⟨by omega, ?_⟩
  have e : seqIndex? z xs.length = some z.toNat := by
    have h' : ¬ z < 0 := by omega
    have h'' : z.toNat < xs.length := by omega
    first
      | (simp [seqIndex?, h', h'']; done)
      | (unfold seqIndex?; rw [if_neg h']; simp [h'', h0, h1]; done)
      | (unfold seqIndex?; simp [h', h'', h0, h1]; omega)
  rw [e]
  show match xs[z.toNat]? with
    | some d => Q d (updM M a (.lst (xs.eraseIdx z.toNat)))
    | none => False
  rw [hd]; exact q
theorem at_insert {Q : D → MM → Prop} {M : MM} {a : Addr} {xs : List D} {z : Int} {d : D} (h : M a = some (.lst xs)) (h0 : 0 ≤ z) (h1 : z < 1000000) (hl : xs.length ≤ 1000000) (q : Q .non (updM M a (.lst (xs.take z.toNat ++ [d] ++ xs.drop z.toNat)))) : onL wInsert (.raw (.ref a)) [.int z, d] M Q := at_lst h ⟨small_sz hl, ⟨h0, by omega⟩, q⟩
theorem kp_del {S : List Addr} {M0 M : MM} {p : Addr} (k : Kp S M0 M) (hp : M0 p = none) : Kp S M0 (delM M p) := fun b hb => by
  have ne : b ≠ p := fun z => hb (z ▸ hp)
  unfold delM
  rw [if_neg ne]
  exact k b hb
theorem delM_ne {M : MM} {a b : Addr} (h : b ≠ a) : delM M a b = M b := by unfold delM; rw [if_neg h]
theorem seq_drop {we : WE} {B : WS} {E : ED} {EX : XK'} {δ : DS} {M : MM} (h : we δ M (fun _ M1 => B E EX δ M1) EX) : wSeq (wDrop we) B E EX δ M := h
theorem call_of {sp : SpD} {wa : WA} {δ : DS} {M : MM} {Q : D → MM → Prop} {EX : XK'} (ds : List D) (ha : ∀ R : List D → MM → Prop, R ds M → wa δ M R EX) (h : sp ds M Q (fun xd M2 => EX xd δ M2)) : wCall sp [] wa δ M Q EX :=
  ha _ (by rw [List.append_nil]; exact h)
theorem seq_asg {b : BD} {we : WE} {B : WS} {E : ED} {EX : XK'} {δ : DS} {M : MM} (h : we δ M (kAsg b (fun δ' M' => B E EX δ' M') δ) EX) : wSeq (wAsg b we) B E EX δ M := h
theorem at_asg {b : BD} {nx : DS → MM → Prop} {δ δ' : DS} {d : D} {M : MM} (h : b d δ = some δ') (q : nx δ' M) : kAsg b nx δ d M := by unfold kAsg; rw [h]; exact q
theorem call_cons {sp : SpD} {we : WE} {wr : WA} {δ : DS} {M : MM} {Q : D → MM → Prop} {EX : XK'} (h : we δ M (fun d M1 => wr δ M1 (fun ds M2 => sp (d :: ds) M2 Q (fun xd M3 => EX xd δ M3)) EX) EX) : wCall sp [] (wCons we wr) δ M Q EX := by
  have e : (fun (ds : List D) (M1 : MM) => sp (ds ++ []) M1 Q (fun xd M2 => EX xd δ M2)) = fun ds M1 => sp ds M1 Q (fun xd M2 => EX xd δ M2) := by funext ds M1; rw [List.append_nil]
  show wCons we wr δ M (fun ds M1 => sp (ds ++ []) M1 Q (fun xd M2 => EX xd δ M2)) EX
  rw [e]
  exact h
/-- what a new instance that is settled at once asks -/
abbrev NewI (c n : Nat) (sp : SpD) (ds : List D) (M : MM) (Q : D → MM → Prop) (EX : XD → MM → Prop) : Prop :=
  ∀ p, M p = none → sp (.raw (.ref p) :: ds) (updM M p (.ins c [])) (fun d M2 => d = .non ∧ ∃ q fs, D.raw (.ref p) = .raw (.ref q) ∧ M2 q = some (.ins c fs) ∧ fs.length = n ∧ Q (.ins c fs) (delM M2 q)) EX
theorem frz_mkS {c n : Nat} {sp : SpD} {we : WE} {δ : DS} {M : MM} {Q : D → MM → Prop} {EX : XK'} (d : D) (ds : List D) (hw : ∀ K : D → MM → Prop, K d M → we δ M K EX) (hs : seqOf M d = some ds) (h : NewI c n sp ds M Q (fun xd M2 => EX xd δ M2)) : wFrzI c n (wMakeS c sp we) δ M Q EX :=
  hw _ ⟨ds, hs, h⟩
theorem frz_mkSV {c n : Nat} {sp : SpD} {wf we : WE} {δ : DS} {M : MM} {Q : D → MM → Prop} {EX : XK'} (d : D) (ds : List D) (hf : ∀ K : D → MM → Prop, K (.cls c) M → wf δ M K EX) (hw : ∀ K : D → MM → Prop, K d M → we δ M K EX) (hs : seqOf M d = some ds) (h : NewI c n sp ds M Q (fun xd M2 => EX xd δ M2)) : wFrzI c n (wMakeSV [(c, sp)] wf we) δ M Q EX :=
  hf _ ⟨c, sp, rfl, by simp [List.lookup], hw _ ⟨ds, hs, h⟩⟩
theorem frz_mk {c n : Nat} {sp : SpD} {wa : WA} {δ : DS} {M : MM} {Q : D → MM → Prop} {EX : XK'} (ds : List D) (hw : ∀ K : List D → MM → Prop, K ds M → wa δ M K EX) (h : NewI c n sp ds M Q (fun xd M2 => EX xd δ M2)) : wFrzI c n (wMake c sp [] wa) δ M Q EX :=
  hw _ (fun p hp => by rw [List.append_nil]; exact h p hp)
theorem call_cons1 {we : WE} {δ : DS} {M : MM} {R : List D → MM → Prop} {EX : XK'} (h : we δ M (fun d M1 => R [d] M1) EX) : wCons we wNil δ M R EX := h
theorem opx_of {w : WR2X} {wa wb : WE} {δ : DS} {M : MM} {Q : D → MM → Prop} {EX : XK'} (h : wa δ M (fun x M1 => wb δ M1 (fun y M2 => w x y δ M2 Q EX) EX) EX) : wOpX w wa wb δ M Q EX := h
theorem op_of {w : WR2} {wa wb : WE} {δ : DS} {M : MM} {Q : D → MM → Prop} {EX : XK'} (h : wa δ M (fun x M1 => wb δ M1 (fun y M2 => w x y M2 Q) EX) EX) : wOp w wa wb δ M Q EX := h
theorem b1_of {w : WR1} {we : WE} {δ : DS} {M : MM} {Q : D → MM → Prop} {EX : XK'} (h : we δ M (fun d M1 => w [d] M1 Q) EX) : wB w (wCons we wNil) δ M Q EX := h
theorem tst_of {we : WE} {δ : DS} {M : MM} {Q : Bool → MM → Prop} {EX : XK'} (h : we δ M (fun d M1 => ∃ c, d = .bl c ∧ Q c M1) EX) : wTst we δ M Q EX := h
theorem prop_of {tb : List (Nat × SpD)} {wo : WE} {δ : DS} {M : MM} {Q : D → MM → Prop} {EX : XK'} (h : wo δ M (fun d M1 => ∃ c fs sp, insOf M1 d = some (c, fs) ∧ tb.lookup c = some sp ∧ sp [d] M1 Q (fun _ _ => False)) EX) : wProp tb wo δ M Q EX := h
theorem if_of {p : WT} {w u : WS} {E : ED} {EX : XK'} {δ : DS} {M : MM} (h : p δ M (fun c M1 => if c = true then w E EX δ M1 else u E EX δ M1) EX) : wIfS p w u E EX δ M := h
theorem or_of {p q : WT} {δ : DS} {M : MM} {Q : Bool → MM → Prop} {EX : XK'} (h : p δ M (fun c M1 => if c = true then Q true M1 else q δ M1 Q EX) EX) : wOrT p q δ M Q EX := h
theorem and_of {p q : WT} {δ : DS} {M : MM} {Q : Bool → MM → Prop} {EX : XK'} (h : p δ M (fun c M1 => if c = true then q δ M1 Q EX else Q false M1) EX) : wAndT p q δ M Q EX := h
theorem not_of {p : WT} {δ : DS} {M : MM} {Q : Bool → MM → Prop} {EX : XK'} (h : p δ M (fun c M1 => Q (!c) M1) EX) : wNotT p δ M Q EX := h
theorem v_of {i : Nat} {d : D} {δ : DS} {M : MM} {Q : D → MM → Prop} {EX : XK'} (h : δ[i]? = some (some d)) (q : Q d M) : wV i δ M Q EX := by
  unfold wV; rw [h]; exact q
theorem ret_of {we : WE} {E : ED} {EX : XK'} {δ : DS} {M : MM} (h : we δ M (fun d M1 => E.rt d M1) EX) : wRet we E EX δ M := h
theorem seq_of {A B : WS} {E : ED} {EX : XK'} {δ : DS} {M : MM} (h : A { nx := fun δ' M' => B E EX δ' M', rt := E.rt, bk := E.bk, ct := E.ct } EX δ M) : wSeq A B E EX δ M := h
theorem at_listOf {xs : List D} {d : D} {M : MM} {Q : D → MM → Prop} (h : seqOf M d = some xs) (q : Q (.lst xs) M) : wListOf [d] M Q := by
  unfold wListOf; dsimp only; rw [h]; exact q
end My

set_option Elab.async false
set_option linter.all false
set_option maxRecDepth 100000
set_option maxHeartbeats 1000000
namespace My
open PySem PySem.Spec L2 DL
open PyProof.Rows hiding St
/-- numbers of a row -/
abbrev InR (x : Int) : Prop := -999 ≤ x ∧ x ≤ 999
structure RowOk (n : Nat) (xs : List Int) : Prop where
  pos : 1 ≤ xs.length
  top : xs.length ≤ n
  rng : ∀ x ∈ xs, InR x
theorem set_self' {α : Type} {l : List α} {i : Nat} {a : α} (h : l[i]? = some a) : l.set i a = l := by
  apply List.ext_getElem?
  intro j
  by_cases z : i = j
  · subst z; rw [List.getElem?_set_self (List.getElem?_eq_some_iff.mp h).1, h]
  · rw [List.getElem?_set_ne z]
/-- draws, changing lists beside them that are not of the ground -/
structure Loc (m g : Addr) (f : Nat) (S : List (Addr × List D)) (M0 M : MM) : Prop where
  dr : Dr m g f M
  ls : ∀ e ∈ S, M e.1 = some (.lst e.2)
  nd : (m :: g :: S.map (·.1)).Nodup
  fr : ∀ e ∈ S, M0 e.1 = none
  kp : Kp [m, g] M0 M
section
variable {m g p : Addr} {f f' i : Nat} {S : List (Addr × List D)} {xs ys : List D} {M0 M M' : MM}
theorem Loc.start (d : Dr m g f M) : Loc m g f [] M M := ⟨d, (fun _ h => nomatch h), by
  obtain ⟨_, ne⟩ := d
  simp [ne], (fun _ h => nomatch h), .refl⟩
theorem Loc.mem (l : Loc m g f S M0 M) (h : S[i]? = some (p, xs)) : (p, xs) ∈ S := List.mem_of_getElem? h
theorem Loc.at (l : Loc m g f S M0 M) (h : S[i]? = some (p, xs)) : M p = some (.lst xs) := l.ls _ (l.mem h)
theorem Loc.nm (l : Loc m g f S M0 M) {e : Addr × List D} (h : e ∈ S) : e.1 ≠ m ∧ e.1 ≠ g := by
  have z := l.nd
  simp only [List.nodup_cons, List.mem_cons, not_or] at z
  have hm : e.1 ∈ S.map (·.1) := List.mem_map_of_mem h
  exact ⟨fun q => z.1.2 (q ▸ hm), fun q => z.2.1 (q ▸ hm)⟩
theorem Dr.other (d : Dr m g f M) (h : ∀ b, b = m ∨ b = g → M' b = M b) : Dr m g f M' := by
  obtain ⟨⟨cs, gs, n, e1, e2, r⟩, ne⟩ := d
  exact ⟨⟨cs, gs, n, (h m (.inl rfl)).trans e1, (h g (.inr rfl)).trans e2, r⟩, ne⟩
theorem Loc.new (l : Loc m g f S M0 M) (hp : M p = none) : Loc m g f (S ++ [(p, xs)]) M0 (updM M p (.lst xs)) := by
  have np := not_fresh l.dr.alv hp
  simp only [List.mem_cons, List.not_mem_nil, or_false, not_or] at np
  have ns : ∀ e ∈ S, e.1 ≠ p := fun e he z => by have := l.ls e he; rw [z, hp] at this; cases this
  refine ⟨l.dr.other fun b hb => updM_ne fun z => by rcases hb with e | e <;> subst e <;> first | exact np.1 z.symm | exact np.2 z.symm, fun e he => ?_, ?_, fun e he => ?_, l.kp.trans (kp_new hp)⟩
  · rcases List.mem_append.mp he with h | h
    · rw [updM_ne (ns e h)]; exact l.ls e h
    · rw [List.mem_singleton.mp h]; exact updM_same
  · have z := l.nd
    rw [List.map_append, List.map_cons, List.map_nil, ← List.cons_append, ← List.cons_append, List.nodup_append]
    refine ⟨z, by simp, fun x hx y hy => ?_⟩
    rw [List.mem_singleton.mp hy]
    rcases List.mem_cons.mp hx with e | hx
    · rw [e]; exact Ne.symm np.1
    · rcases List.mem_cons.mp hx with e | hx
      · rw [e]; exact Ne.symm np.2
      · obtain ⟨e, he, q⟩ := List.mem_map.mp hx
        rw [← q]; exact ns e he
  · rcases List.mem_append.mp he with h | h
    · exact l.fr e h
    · rw [List.mem_singleton.mp h]; exact l.kp.none hp
theorem nodup_at {l : List Addr} (h : l.Nodup) {i j : Nat} {a : Addr} (hi : l[i]? = some a) (hj : l[j]? = some a) : i = j := by
  obtain ⟨h1, e1⟩ := List.getElem?_eq_some_iff.mp hi
  obtain ⟨h2, e2⟩ := List.getElem?_eq_some_iff.mp hj
  exact (List.getElem_inj (h₀ := h1) (h₁ := h2) h).mp (e1.trans e2.symm)
theorem Loc.one (l : Loc m g f S M0 M) (h : S[i]? = some (p, xs)) {j : Nat} {e : Addr × List D} (hj : S[j]? = some e) (ep : e.1 = p) : j = i := by
  have z := (List.nodup_cons.mp (List.nodup_cons.mp l.nd).2).2
  exact nodup_at z (by rw [List.getElem?_map, hj]; exact congrArg some ep) (by rw [List.getElem?_map, h]; rfl)
theorem Loc.set (l : Loc m g f S M0 M) (h : S[i]? = some (p, xs)) : Loc m g f (S.set i (p, ys)) M0 (updM M p (.lst ys)) := by
  have hm := l.mem h
  have np := l.nm hm
  have li : i < S.length := (List.getElem?_eq_some_iff.mp h).1
  refine ⟨l.dr.other fun b hb => updM_ne fun z => by rcases hb with e | e <;> subst e <;> first | exact np.1 z.symm | exact np.2 z.symm, fun e he => ?_, ?_, fun e he => ?_, fun b hb => ?_⟩
  · obtain ⟨j, hj⟩ := List.mem_iff_getElem?.mp he
    by_cases z : i = j
    · subst z
      rw [List.getElem?_set_self li] at hj
      cases hj; exact updM_same
    · rw [List.getElem?_set_ne z] at hj
      rw [updM_ne fun q => z (l.one h hj q).symm]
      exact l.ls e (List.mem_of_getElem? hj)
  · have e : (S.set i (p, ys)).map (·.1) = S.map (·.1) := by
      rw [List.map_set]
      have z : (S.map (·.1))[i]? = some p := by rw [List.getElem?_map, h]; rfl
      exact set_self' z
    rw [e]; exact l.nd
  · obtain ⟨j, hj⟩ := List.mem_iff_getElem?.mp he
    by_cases z : i = j
    · subst z
      rw [List.getElem?_set_self li] at hj
      cases hj; exact l.fr (p, xs) hm
    · rw [List.getElem?_set_ne z] at hj
      exact l.fr e (List.mem_of_getElem? hj)
  · have ne : b ≠ p := fun e => hb (e ▸ l.fr _ hm)
    rw [updM_ne ne]; exact l.kp b hb
theorem Loc.call (l : Loc m g f S M0 M) (d : Dr m g f' M') (k : Kp [m, g] M M') : Loc m g f' S M0 M' :=
  ⟨d, fun e he => k.some (l.ls e he) (by have := l.nm he; simp [this.1, this.2]), l.nd, l.fr, l.kp.trans k⟩
theorem Loc.draw (l : Loc m g f S M0 M) (d : Dr m g f' M') (s : Sm m g M M') : Loc m g f' S M0 M' := l.call d (s.kp d)
theorem Loc.pure (l : Loc m g f S M0 M) (k : Kp [] M M') : Loc m g f S M0 M' := l.call (l.dr.kp k sep_nil) (k.mono (fun _ h => nomatch h))
theorem Loc.le (l : Loc m g f S M0 M) (h : f' ≤ f) : Loc m g f' S M0 M := ⟨l.dr.le h, l.ls, l.nd, l.fr, l.kp⟩
theorem Loc.del (l : Loc m g f S M0 M) (h : S[i]? = some (p, xs)) : Loc m g f (S.eraseIdx i) M0 (delM M p) := by
  have hm := l.mem h
  have np := l.nm hm
  refine ⟨l.dr.other fun b hb => delM_ne fun z => by rcases hb with e | e <;> subst e <;> first | exact np.1 z.symm | exact np.2 z.symm, fun e he => ?_, ?_, fun e he => l.fr e (List.mem_of_mem_eraseIdx he), kp_del l.kp (l.fr _ hm)⟩
  · obtain ⟨j, hj⟩ := List.mem_iff_getElem?.mp (List.mem_of_mem_eraseIdx he)
    have ne : e.1 ≠ p := fun q => by
      have z := l.one h hj q
      subst z
      rw [h] at hj
      cases hj
      obtain ⟨j2, hj2⟩ := List.mem_iff_getElem?.mp he
      rw [List.getElem?_eraseIdx] at hj2
      split at hj2
      · have := l.one h hj2 rfl; omega
      · have := l.one h hj2 rfl; omega
    rw [delM_ne ne]
    exact l.ls e (List.mem_of_getElem? hj)
  · have z : ((S.eraseIdx i).map (·.1)).Sublist (S.map (·.1)) := (List.eraseIdx_sublist S i).map _
    exact l.nd.sublist ((z.cons₂ _).cons₂ _)
end
theorem rgD_ints (n : Nat) : rgD 0 n = ((List.range n).map Int.ofNat).map D.int := by
  unfold rgD
  rw [Int.sub_zero, Int.toNat_natCast, List.map_map]
  refine List.map_congr_left fun i _ => ?_
  show D.int (0 + (i : Int)) = D.int i
  rw [Int.zero_add]
theorem rg_ok {n : Int} (h0 : 0 ≤ n) (h : n ≤ 1000) : RgOk 0 n := by
  refine ⟨?_, ?_, ?_, ?_, ?_⟩ <;> first | omega | (rw [sizeLine_eq]; omega) | decide

theorem order_spec {m g : Addr} {f : Nat} {n : Int} {M : MM} {Q : D → MM → Prop} {EX : XD → MM → Prop} (hd : Dr m g (f + 30) M) (hn : 0 ≤ n ∧ n ≤ 20)
    (hQ : ∀ (xs : List Int) M', (xs.length : Int) = n → (∀ x ∈ xs, 0 ≤ x ∧ x < n) → Dr m g f M' → Kp [m, g] M M' → Q (.lst (xs.map D.int)) M') : s_law_order [.raw (.ref m), .int n] M Q EX := by
  refine ⟨rfl, Nat.zero_le _, fun p hp => ?_⟩
  have l0 := (Loc.start hd).new (xs := []) hp
  refine ⟨rg_ok hn.1 (by omega), fun q hq => ?_⟩
  obtain ⟨k, rfl⟩ : ∃ k : Nat, n = (k : Int) := ⟨n.toNat, by omega⟩
  rw [rgD_ints]
  have l1 := l0.new (xs := ((List.range k).map Int.ofNat).map D.int) hq
  refine ⟨by omega, ?_⟩
  refine loop_inv (fun i δ M' => ∃ (xs ys : List Int) (d2 : Option D), δ = [some (.raw (.ref m)), some (.int (k : Int)), d2, some (.raw (.ref p)), some (.raw (.ref q))] ∧ xs.length = i ∧ ys.length = k - i ∧ i ≤ k ∧ (∀ x ∈ xs ++ ys, 0 ≤ x ∧ x < (k : Int)) ∧
      Loc m g (f + (30 - i)) [(p, xs.map D.int), (q, ys.map D.int)] M M')
    ⟨[], _, none, rfl, rfl, by simp, Nat.zero_le _, ?_, l1⟩ (fun _ _ _ _ => True.intro) ?_ ?_
  · intro x hx
    obtain ⟨y, hy, e⟩ := List.mem_map.mp hx
    have := List.mem_range.mp hy
    subst e
    exact ⟨Int.natCast_nonneg _, by show (y : Int) < k; omega⟩
  · rintro i d δ M' hi ⟨xs, ys, d2, rfl, hx, hy, hik, hb, l⟩
    obtain ⟨hi3, rfl⟩ := rngL_get hi
    have hi4 : i < k := by simpa using hi3
    refine ⟨_, rfl, fun nx hnx => ?_⟩
    have lx := l.at (i := 0) rfl
    have ly := l.at (i := 1) rfl
    refine ⟨⟨_, _, rfl, lx⟩, ⟨_, _, rfl, ly⟩, at_len (seq_mut ly) ?_⟩
    rw [List.length_map, hy]
    refine draw_spec (f := f + (30 - (i + 1))) (l.dr.le (by omega)) (by omega) fun r M2 r0 r1 dr2 sm2 => ?_
    have l2 := l.draw dr2 sm2
    have rl : r.toNat < ys.length := by omega
    obtain ⟨y, ey⟩ : ∃ y, ys[r.toNat]? = some y := ⟨_, List.getElem?_eq_getElem rl⟩
    have ym : y ∈ ys := List.mem_of_getElem? ey
    refine at_popAt (d := .int y) (l2.at (i := 1) rfl) r0 (by rw [List.length_map, hy]; omega) (by rw [List.length_map]; omega) (by rw [List.getElem?_map, ey]; rfl) ?_
    rw [map_erase]
    have l3 := l2.set (i := 1) (ys := (ys.eraseIdx r.toNat).map D.int) rfl
    refine at_append (l3.at (i := 0) rfl) (by rw [List.length_map]; omega) ?_
    have e1 : xs.map D.int ++ [D.int y] = (xs ++ [y]).map D.int := by rw [List.map_append]; rfl
    rw [e1]
    have l4 := l3.set (i := 0) (ys := (xs ++ [y]).map D.int) rfl
    refine hnx _ _ ⟨xs ++ [y], ys.eraseIdx r.toNat, _, rfl, by simp [hx], by rw [List.length_eraseIdx, if_pos rl]; omega, by omega, fun z hz => ?_, l4⟩
    simp only [List.mem_append, List.mem_singleton] at hz
    rcases hz with (z1 | z1) | z1
    · exact hb z (List.mem_append_left _ z1)
    · subst z1; exact hb z (List.mem_append_right _ ym)
    · exact hb z (List.mem_append_right _ (List.mem_of_mem_eraseIdx z1))
  · rintro δ M' ⟨xs, ys, d2, rfl, hx, hy, hik, hb, l⟩
    rw [rngL_len, Int.toNat_natCast] at hx
    refine at_frz (l.at (i := 0) rfl) ?_
    have l2 := l.del (i := 0) rfl
    exact hQ xs _ (by omega) (fun x hx => hb x (List.mem_append_left _ hx)) (l2.dr.le (by omega)) l2.kp
theorem given_spec {m g : Addr} {f : Nat} {most : Int} {M : MM} {Q : D → MM → Prop} {EX : XD → MM → Prop} (hd : Dr m g (f + 40) M) (hm : 1 ≤ most ∧ most ≤ 20)
    (hQ : ∀ (xs : List Int) M', RowOk most.toNat xs → Dr m g f M' → Kp [m, g] M M' → Q (.lst (xs.map D.int)) M') : s_law_given [.raw (.ref m), .int most] M Q EX := by
  refine ⟨rfl, ?_⟩
  refine draw_spec (f := f + 39) hd (by omega) fun r M1 r0 r1 dr1 sm1 => ?_
  refine draw_spec (f := f + 38) dr1 (by decide) fun way M2 w0 w1 dr2 sm2 => ?_
  have k2 := (sm1.trans sm2).kp dr2
  obtain ⟨n, en⟩ : ∃ n : Nat, 1 + r = (n : Int) := ⟨(1 + r).toNat, by omega⟩
  rw [en]
  have hn : 1 ≤ n ∧ n ≤ most.toNat := by omega
  have rg : -(2 ^ 62) ≤ (n : Int) ∧ (n : Int) < 2 ^ 62 := by omega
  have nt : ((n : Int)).toNat = n := Int.toNat_natCast n
  refine ⟨_, rfl, ?_⟩
  refine if2 (fun _ => ?_) fun _ => ?_
  · refine draw_spec (f := f + 37) dr2 (by decide) fun tp M3 t0 t1 dr3 sm3 => ⟨rg, ?_⟩
    rw [nt]
    refine lc_draws (f := f) (fun x => InR x) (by omega) (dr3.le (by omega)) (fun i f' M' hi dr nx hnx => ?_) fun xs M' hx hb dr sm => ?_
    · exact draw_spec dr (by omega) fun q M'' q0 q1 dr' sm' => hnx q M'' ⟨by omega, by omega⟩ dr' sm'
    · exact hQ xs M' ⟨by omega, by omega, hb⟩ dr (((sm1.trans sm2).trans (sm3.trans sm)).kp dr)
  refine ⟨_, rfl, ?_⟩
  refine if2 (fun _ => ?_) fun _ => ?_
  · refine order_spec (f := f) (dr2.le (by omega)) (by omega) fun xs M' hx hb dr kp => ?_
    exact hQ xs M' ⟨by omega, by omega, fun x hx => ⟨by have := hb x hx; omega, by have := hb x hx; omega⟩⟩ dr (k2.trans kp)
  refine ⟨_, rfl, ?_⟩
  refine if2 (fun _ => ?_) fun _ => ?_
  · refine ⟨rg, ?_⟩
    rw [nt]
    refine lc_draws (f := f) (fun x => InR x) (by omega) (dr2.le (by omega)) (fun i f' M' hi dr nx hnx => ?_) fun xs M' hx hb dr sm => ?_
    · exact draw_spec dr (by decide) fun q M'' q0 q1 dr' sm' => hnx (q - 999) M'' ⟨by omega, by omega⟩ dr' sm'
    · exact hQ xs M' ⟨by omega, by omega, hb⟩ dr (((sm1.trans sm2).trans sm).kp dr)
  refine ⟨rg_ok (by omega) (by omega), fun p hp => ?_⟩
  rw [rgD_ints]
  have l0 := (Loc.start dr2).new (xs := ((List.range n).map Int.ofNat).map D.int) hp
  refine draw_spec (f := f + 37) l0.dr (by decide) fun st M3 s0 s1 dr3 sm3 => ?_
  have l1 := l0.draw dr3 sm3
  refine ⟨by omega, ?_⟩
  refine loop_inv (fun i δ M' => ∃ (xs : List Int) (d5 d6 d7 d8 : Option D), δ = [some (.raw (.ref m)), some (.int most), some (.int (n : Int)), some (.int way), some (.raw (.ref p)), d5, d6, d7, d8] ∧ xs.length = n ∧ i ≤ 3 ∧ (∀ x ∈ xs, 0 ≤ x ∧ x < (n : Int)) ∧
      Loc m g (f + (30 - 2 * i)) [(p, xs.map D.int)] M2 M')
    ⟨_, _, none, none, none, rfl, by simp, by omega, ?_, l1.le (by omega)⟩ (fun _ _ _ _ => True.intro) ?_ ?_
  · intro x hx
    obtain ⟨y, hy, e⟩ := List.mem_map.mp hx
    have := List.mem_range.mp hy
    subst e
    exact ⟨Int.natCast_nonneg _, by show (y : Int) < n; omega⟩
  · rintro i d δ M' hi ⟨xs, d5, d6, d7, d8, rfl, hx, hik, hb, l⟩
    obtain ⟨hi3, rfl⟩ := rngL_get hi
    refine ⟨_, rfl, fun nx hnx => ?_⟩
    refine draw_spec (f := f + (29 - 2 * i)) (l.dr.le (by omega)) (by omega) fun c M4 c0 c1 dr4 sm4 => ?_
    have l4 := l.draw dr4 sm4
    have cl : c.toNat < xs.length := by omega
    obtain ⟨y, ey⟩ : ∃ y, xs[c.toNat]? = some y := ⟨_, List.getElem?_eq_getElem cl⟩
    refine ⟨⟨_, _, rfl, l4.at (i := 0) rfl⟩, ?_⟩
    refine at_popAt (d := .int y) (l4.at (i := 0) rfl) c0 (by rw [List.length_map]; omega) (by rw [List.length_map]; omega) (by rw [List.getElem?_map, ey]; rfl) ?_
    rw [map_erase]
    have l5 := l4.set (i := 0) (ys := (xs.eraseIdx c.toNat).map D.int) rfl
    refine ⟨⟨_, _, rfl, l5.at (i := 0) rfl⟩, ?_⟩
    refine draw_spec (f := f + (28 - 2 * i)) (l5.dr.le (by omega)) (by omega) fun e M6 e0 e1 dr6 sm6 => ?_
    have l6 := l5.draw dr6 sm6
    refine at_insert (l6.at (i := 0) rfl) e0 (by omega) (by rw [List.length_map, List.length_eraseIdx, if_pos cl]; omega) ?_
    have e2 : ((xs.eraseIdx c.toNat).map D.int).take e.toNat ++ [D.int y] ++ ((xs.eraseIdx c.toNat).map D.int).drop e.toNat = ((xs.eraseIdx c.toNat).take e.toNat ++ [y] ++ (xs.eraseIdx c.toNat).drop e.toNat).map D.int := by
      rw [← List.map_take, ← List.map_drop, List.map_append, List.map_append]; rfl
    rw [e2]
    have l7 := l6.set (i := 0) (ys := ((xs.eraseIdx c.toNat).take e.toNat ++ [y] ++ (xs.eraseIdx c.toNat).drop e.toNat).map D.int) rfl
    refine hnx _ _ ⟨_, _, _, _, _, rfl, ?_, by omega, fun z hz => ?_, l7.le (by omega)⟩
    · simp only [List.length_append, List.length_take, List.length_drop, List.length_singleton, List.length_eraseIdx, if_pos cl]; omega
    · simp only [List.mem_append, List.mem_singleton] at hz
      rcases hz with (z1 | z1) | z1
      · exact hb z (List.mem_of_mem_eraseIdx (List.mem_of_mem_take z1))
      · subst z1; exact hb z (List.mem_of_getElem? ey)
      · exact hb z (List.mem_of_mem_eraseIdx (List.mem_of_mem_drop z1))
  · rintro δ M' ⟨xs, d5, d6, d7, d8, rfl, hx, hik, hb, l⟩
    refine at_frz (l.at (i := 0) rfl) ?_
    have l2 := l.del (i := 0) rfl
    exact hQ xs _ ⟨by omega, by omega, fun x hx => ⟨by have := hb x hx; omega, by have := hb x hx; omega⟩⟩ (l2.dr.le (by omega)) (k2.trans l2.kp)
end My

set_option Elab.async false
set_option linter.all false
set_option maxRecDepth 100000
/-! what a hand lays down, by letters -/
namespace Mth
/-- put into a list in order -/
def ins (x : Int) : List Int → List Int
  | [] => [x]
  | y :: ys => if x ≤ y then x :: y :: ys else y :: ins x ys
theorem ins_perm (x : Int) : ∀ l, (ins x l).Perm (x :: l)
  | [] => .refl _
  | y :: ys => by
    unfold ins
    split
    · exact .refl _
    · exact ((ins_perm x ys).cons y).trans (.swap ..)
theorem ins_len (x : Int) (l : List Int) : (ins x l).length = l.length + 1 := by rw [(ins_perm x l).length_eq]; rfl
theorem ins_sorted (x : Int) : ∀ {l : List Int}, l.Pairwise (· ≤ ·) → (ins x l).Pairwise (· ≤ ·)
  | [], _ => List.pairwise_singleton ..
  | y :: ys, h => by
    unfold ins
    obtain ⟨h1, h2⟩ := List.pairwise_cons.mp h
    split
    · rename_i hxy
      exact List.pairwise_cons.mpr ⟨fun z hz => by
        rcases List.mem_cons.mp hz with e | e
        · rw [e]; exact hxy
        · have := h1 z e; omega, h⟩
    · rename_i hxy
      refine List.pairwise_cons.mpr ⟨fun z hz => ?_, ins_sorted x h2⟩
      rcases List.mem_cons.mp ((ins_perm x ys).mem_iff.mp hz) with e | e
      · omega
      · exact h1 z e
/-- the hand of size k: what it lays down for the numbers, then what it holds -/
def ldGo (k : Nat) : List Int → List Int → List Int
  | [], held => held
  | x :: xs, held => if k < (ins x held).length then (ins x held).headD 0 :: ldGo k xs (ins x held).tail else ldGo k xs (ins x held)
abbrev ld (k : Nat) (xs : List Int) : List Int := ldGo k xs []
theorem ldGo_perm (k : Nat) : ∀ xs held, (ldGo k xs held).Perm (held ++ xs)
  | [], held => by unfold ldGo; rw [List.append_nil]
  | x :: xs, held => by
    have p := ins_perm x held
    have q : (ins x held ++ xs).Perm (held ++ x :: xs) := by
      refine (p.append_right xs).trans ?_
      exact (List.perm_middle (l₁ := held) (a := x) (l₂ := xs)).symm
    unfold ldGo
    split
    · cases e : ins x held with
      | nil => rw [e] at p; exact absurd p.length_eq (by simp)
      | cons y ys =>
        show (y :: ldGo k xs ys).Perm _
        refine ((ldGo_perm k xs ys).cons y).trans ?_
        rw [e] at q
        exact q
    · exact (ldGo_perm k xs _).trans q
theorem ld_perm (k : Nat) (xs : List Int) : (ld k xs).Perm xs := ldGo_perm k xs []
abbrev mir (xs : List Int) : List Int := xs.reverse.map (- ·)
/-- the row after a load -/
def aft (a b : Nat) (xs : List Int) : List Int := mir (ld b (mir (ld a xs)))
theorem mir_mir (xs : List Int) : mir (mir xs) = xs := by
  unfold mir
  rw [← List.map_reverse, List.reverse_reverse, List.map_map]
  have : ((- ·) ∘ (- ·) : Int → Int) = id := by funext x; simp
  rw [this, List.map_id]
theorem mir_perm {xs ys : List Int} (p : xs.Perm ys) : (mir xs).Perm (mir ys) := ((xs.reverse_perm.trans p).trans ys.reverse_perm.symm).map _
theorem aft_perm (a b : Nat) (xs : List Int) : (aft a b xs).Perm xs := by
  have h := mir_perm (ld_perm b (mir (ld a xs)))
  rw [mir_mir] at h
  exact h.trans (ld_perm a xs)
/-! ### letters -/
abbrev lets (t : Int) (xs : List Int) : List Bool := xs.map fun x => decide (t ≤ x)
/-- without the first k letters 1 -/
def dropT : Nat → List Bool → List Bool
  | 0, l => l
  | _ + 1, [] => []
  | k + 1, true :: l => dropT k l
  | k + 1, false :: l => false :: dropT (k + 1) l
theorem dropT_zero (l : List Bool) : dropT 0 l = l := by cases l <;> rfl
theorem dropT_false (k : Nat) (l : List Bool) : dropT k (false :: l) = false :: dropT k l := by
  cases k with
  | zero => rw [dropT_zero, dropT_zero]
  | succ k => rfl
theorem cft (l : List Bool) : (true :: l).count false = l.count false := List.count_cons_of_ne (by decide)
theorem ctf (l : List Bool) : (false :: l).count true = l.count true := List.count_cons_of_ne (by decide)
theorem cff (l : List Bool) : (false :: l).count false = l.count false + 1 := List.count_cons_self
theorem ctt (l : List Bool) : (true :: l).count true = l.count true + 1 := List.count_cons_self
theorem dropT_true (k : Nat) (l : List Bool) : dropT (k + 1) (true :: l) = dropT k l := rfl
def fwd (k : Nat) (l : List Bool) : List Bool := dropT k l ++ List.replicate (min k (l.count true)) true
/-- letters of a list in order: first 0, then 1 -/
theorem lets_sorted (t : Int) : ∀ {l : List Int}, l.Pairwise (· ≤ ·) → lets t l = List.replicate ((lets t l).count false) false ++ List.replicate ((lets t l).count true) true
  | [], _ => rfl
  | x :: l, h => by
    obtain ⟨h1, h2⟩ := List.pairwise_cons.mp h
    have ih := lets_sorted t h2
    show decide (t ≤ x) :: lets t l = _
    by_cases hx : t ≤ x
    · have all : lets t l = List.replicate l.length true := by
        rw [List.eq_replicate_iff]
        refine ⟨by simp, fun b hb => ?_⟩
        obtain ⟨y, hy, e⟩ := List.mem_map.mp hb
        have := h1 y hy
        rw [← e]; simp; omega
      have hd : decide (t ≤ x) = true := by simp [hx]
      rw [show lets t (x :: l) = true :: List.replicate l.length true from by show decide (t ≤ x) :: lets t l = _; rw [hd, all], hd, all]
      simp [List.count_replicate, List.replicate_succ]
    · have hd : decide (t ≤ x) = false := by simp [hx]
      rw [show lets t (x :: l) = false :: lets t l from by show decide (t ≤ x) :: lets t l = _; rw [hd], hd]
      rw [List.count_cons_self, List.count_cons_of_ne (by decide), List.replicate_succ, List.cons_append, ← ih]
theorem lets_perm (t : Int) {xs ys : List Int} (p : xs.Perm ys) : (lets t xs).Perm (lets t ys) := p.map _
theorem cnt_len (t : Int) (l : List Int) : (lets t l).count false + (lets t l).count true = l.length := by
  induction l with
  | nil => rfl
  | cons x l ih =>
    show (decide (t ≤ x) :: lets t l).count false + (decide (t ≤ x) :: lets t l).count true = _
    cases decide (t ≤ x) <;> simp at ih ⊢ <;> omega
theorem go_lets (t : Int) (k : Nat) : ∀ (xs held : List Int), held.Pairwise (· ≤ ·) → held.length ≤ k →
    lets t (ldGo k xs held) = List.replicate ((lets t held).count false) false ++ dropT (k - (lets t held).count true) (lets t xs) ++ List.replicate (min k ((lets t held).count true + (lets t xs).count true)) true
  | [], held, hs, hl => by
    have c := cnt_len t held
    have e : dropT (k - (lets t held).count true) (lets t []) = [] := by
      show dropT _ [] = []
      cases (k - (lets t held).count true) <;> rfl
    unfold ldGo
    rw [e, List.append_nil, show (lets t []).count true = 0 from rfl, Nat.add_zero, Nat.min_eq_right (by omega)]
    exact lets_sorted t hs
  | x :: xs, held, hs, hl => by
    have hp := lets_perm t (ins_perm x held)
    have hsI := ins_sorted x hs
    have cf := hp.count_eq false
    have ct := hp.count_eq true
    have il := ins_len x held
    have c := cnt_len t held
    have ci := cnt_len t (ins x held)
    have e1 : lets t (x :: held) = decide (t ≤ x) :: lets t held := rfl
    have e2 : lets t (x :: xs) = decide (t ≤ x) :: lets t xs := rfl
    rw [e1] at cf ct
    unfold ldGo
    obtain ⟨a, ha⟩ : ∃ a, a = (lets t held).count false := ⟨_, rfl⟩
    obtain ⟨b, hb⟩ : ∃ b, b = (lets t held).count true := ⟨_, rfl⟩
    rw [← ha] at c
    rw [← hb] at c
    split
    · rename_i hk
      have hk2 : held.length = k := by omega
      cases eI : ins x held with
      | nil => rw [eI] at il; cases il
      | cons y ys =>
        rw [eI] at hsI cf ct ci il
        obtain ⟨h1, h2⟩ := List.pairwise_cons.mp hsI
        have ls := lets_sorted t hsI
        have ly : ys.length ≤ k := by simp at il; omega
        have ih := go_lets t k xs ys h2 ly
        show lets t (y :: ldGo k xs ys) = _
        have e3 : lets t (y :: ldGo k xs ys) = decide (t ≤ y) :: lets t (ldGo k xs ys) := rfl
        rw [e3, ih, e2, ← ha, ← hb]
        have e4 : lets t (y :: ys) = decide (t ≤ y) :: lets t ys := rfl
        rw [e4] at cf ct ls
        by_cases hx : t ≤ x
        · have hd : decide (t ≤ x) = true := by simp [hx]
          rw [hd] at cf ct ⊢
          rw [cft, ← ha] at cf
          rw [ctt, ← hb] at ct
          by_cases hy : t ≤ y
          · have hdy : decide (t ≤ y) = true := by simp [hy]
            rw [hdy] at cf ct ls ⊢
            rw [cft] at cf
            rw [ctt] at ct
            -- the least letter is 1: no 0 is held
            have a0 : a = 0 := by
              cases a with
              | zero => rfl
              | succ a =>
                exfalso
                rw [cft, cf, List.replicate_succ] at ls
                cases ls
            have cyt : (lets t ys).count true = b := by omega
            rw [cf, cyt, a0]
            have hbk : b = k := by omega
            rw [hbk, Nat.sub_self, dropT_zero, dropT_zero]
            simp only [List.replicate_zero, List.nil_append]
            rw [ctt, Nat.min_eq_left (by omega), Nat.min_eq_left (by omega)]
            rfl
          · have hdy : decide (t ≤ y) = false := by simp [hy]
            rw [hdy] at cf ct ls ⊢
            rw [cff] at cf
            rw [ctf] at ct
            have hbk : b < k := by omega
            rw [← cf, ct, show k - b = (k - (b + 1)) + 1 from by omega, dropT_true, ctt, List.replicate_succ]
            rw [show b + 1 + (lets t xs).count true = b + ((lets t xs).count true + 1) from by omega]
            rfl
        · have hd : decide (t ≤ x) = false := by simp [hx]
          rw [hd] at cf ct ⊢
          rw [cff, ← ha] at cf
          rw [ctf, ← hb] at ct
          have hdy : decide (t ≤ y) = false := by
            cases q : decide (t ≤ y) with
            | false => rfl
            | true =>
              rw [q] at cf ls
              rw [cft] at cf
              rw [cft, cf, List.replicate_succ] at ls
              cases ls
          rw [hdy] at cf ct ⊢
          rw [cff] at cf
          rw [ctf] at ct
          have ca : (lets t ys).count false = a := by omega
          rw [ca, ct, dropT_false, ctf]
          have : (false :: (List.replicate a false ++ dropT (k - b) (lets t xs) ++ List.replicate (min k (b + (lets t xs).count true)) true)) = List.replicate (a + 1) false ++ (dropT (k - b) (lets t xs) ++ List.replicate (min k (b + (lets t xs).count true)) true) := by
            rw [List.replicate_succ, List.append_assoc]; rfl
          rw [this, List.replicate_succ']
          simp only [List.append_assoc, List.cons_append, List.nil_append]
    · rename_i hk
      have ih := go_lets t k xs (ins x held) hsI (by omega)
      rw [ih, e2, ← ha, ← hb]
      by_cases hx : t ≤ x
      · have hd : decide (t ≤ x) = true := by simp [hx]
        rw [hd] at cf ct ⊢
        rw [cft, ← ha] at cf
        rw [ctt, ← hb] at ct
        rw [cf, ct, ctt, show k - b = (k - (b + 1)) + 1 from by omega, dropT_true, show b + 1 + (lets t xs).count true = b + ((lets t xs).count true + 1) from by omega]
      · have hd : decide (t ≤ x) = false := by simp [hx]
        rw [hd] at cf ct ⊢
        rw [cff, ← ha] at cf
        rw [ctf, ← hb] at ct
        rw [cf, ct, dropT_false, ctf, List.replicate_succ']
        simp only [List.append_assoc, List.cons_append, List.nil_append]
theorem ld_lets (t : Int) (k : Nat) (xs : List Int) : lets t (ld k xs) = fwd k (lets t xs) := by
  have h := go_lets t k xs [] .nil (Nat.zero_le _)
  have e1 : (lets t []).count false = 0 := rfl
  have e2 : (lets t []).count true = 0 := rfl
  rw [e1, e2, Nat.sub_zero, Nat.zero_add] at h
  exact h
/-- .. of the mirrored list -/
def flip (l : List Bool) : List Bool := l.reverse.map (!·)
theorem lets_mir (t : Int) (xs : List Int) : lets t (mir xs) = flip (lets (1 - t) xs) := by
  unfold flip lets mir
  rw [List.map_map, ← List.map_reverse, List.map_map]
  refine List.map_congr_left fun x _ => ?_
  show decide (t ≤ -x) = !decide (1 - t ≤ x)
  by_cases h : t ≤ -x
  · have h2 : ¬ (1 - t ≤ x) := by omega
    simp [h, h2]
  · have h2 : 1 - t ≤ x := by omega
    simp [h, h2]
def bwd (k : Nat) (l : List Bool) : List Bool := flip (fwd k (flip l))
theorem aft_lets (t : Int) (a b : Nat) (xs : List Int) : lets t (aft a b xs) = bwd b (fwd a (lets t xs)) := by
  unfold aft bwd
  rw [lets_mir, ld_lets, lets_mir, ld_lets, show (1 - (1 - t)) = t from by omega]
end Mth

set_option Elab.async false
set_option linter.all false
set_option maxRecDepth 100000
/-! letters, moved by their places -/
namespace Mth
def idxT : Nat → List Bool → List Int
  | _, [] => []
  | n, true :: l => (n : Int) :: idxT (n + 1) l
  | n, false :: l => idxT (n + 1) l
def idxF : Nat → List Bool → List Int
  | _, [] => []
  | n, false :: l => (n : Int) :: idxF (n + 1) l
  | n, true :: l => idxF (n + 1) l
def mid (S : List Int) : Nat → List Bool → List Bool
  | _, [] => []
  | n, c :: l => if (n : Int) ∈ S then mid S (n + 1) l else c :: mid S (n + 1) l
def lawLet (L : List Bool) (a b : Nat) : List Bool :=
  List.replicate ((idxF 0 L).drop ((idxF 0 L).length - b)).length false ++ mid ((idxT 0 L).take a ++ (idxF 0 L).drop ((idxF 0 L).length - b)) 0 L ++ List.replicate ((idxT 0 L).take a).length true
theorem idxT_len : ∀ (n : Nat) (L : List Bool), (idxT n L).length = L.count true
  | _, [] => rfl
  | n, true :: l => by rw [ctt, ← idxT_len (n + 1) l]; rfl
  | n, false :: l => by rw [ctf, ← idxT_len (n + 1) l]; rfl
theorem idxF_len : ∀ (n : Nat) (L : List Bool), (idxF n L).length = L.count false
  | _, [] => rfl
  | n, true :: l => by rw [cft, ← idxF_len (n + 1) l]; rfl
  | n, false :: l => by rw [cff, ← idxF_len (n + 1) l]; rfl
theorem idxT_ge : ∀ (n : Nat) (L : List Bool) (x : Int), x ∈ idxT n L → (n : Int) ≤ x
  | _, [], _, h => by cases h
  | n, true :: l, x, h => by
    rcases List.mem_cons.mp h with e | e
    · omega
    · have := idxT_ge (n + 1) l x e; omega
  | n, false :: l, x, h => by have := idxT_ge (n + 1) l x h; omega
theorem idxF_ge : ∀ (n : Nat) (L : List Bool) (x : Int), x ∈ idxF n L → (n : Int) ≤ x
  | _, [], _, h => by cases h
  | n, false :: l, x, h => by
    rcases List.mem_cons.mp h with e | e
    · omega
    · have := idxF_ge (n + 1) l x e; omega
  | n, true :: l, x, h => by have := idxF_ge (n + 1) l x h; omega
theorem mid_congr {S S' : List Int} : ∀ (n : Nat) (L : List Bool), (∀ m : Int, (n : Int) ≤ m → (m ∈ S ↔ m ∈ S')) → mid S n L = mid S' n L
  | _, [], _ => rfl
  | n, c :: l, h => by
    have e := mid_congr (n + 1) l fun m hm => h m (by omega)
    unfold mid
    rw [e]
    by_cases z : (n : Int) ∈ S
    · rw [if_pos z, if_pos ((h n (by omega)).mp z)]
    · rw [if_neg z, if_neg fun y => z ((h n (by omega)).mpr y)]
/-- the first i letters 1 go, the first j letters 0 stay -/
def dTF : Nat → Nat → List Bool → List Bool
  | _, _, [] => []
  | i, j, true :: l => if i = 0 then true :: dTF 0 j l else dTF (i - 1) j l
  | i, j, false :: l => if j = 0 then dTF i 0 l else false :: dTF i (j - 1) l
theorem mid_dTF : ∀ (n i j : Nat) (L : List Bool), mid ((idxT n L).take i ++ (idxF n L).drop j) n L = dTF i j L
  | _, _, _, [] => rfl
  | n, i, j, true :: l => by
    have fT : ∀ k, (n : Int) ∉ (idxT (n + 1) l).take k := fun k h => by have := idxT_ge (n + 1) l _ (List.mem_of_mem_take h); omega
    have fF : ∀ k, (n : Int) ∉ (idxF (n + 1) l).drop k := fun k h => by have := idxF_ge (n + 1) l _ (List.mem_of_mem_drop h); omega
    show mid ((((n : Int) :: idxT (n + 1) l)).take i ++ (idxF (n + 1) l).drop j) n (true :: l) = _
    cases i with
    | zero =>
      have ih := mid_dTF (n + 1) 0 j l
      unfold mid dTF
      rw [if_pos rfl, List.take_zero, List.nil_append, if_neg (fF j)]
      rw [List.take_zero, List.nil_append] at ih
      rw [ih]
    | succ i =>
      have ih := mid_dTF (n + 1) i j l
      unfold mid dTF
      rw [List.take_succ_cons, if_pos (by simp), if_neg (by omega), Nat.add_sub_cancel, ← ih]
      refine mid_congr (n + 1) l fun m hm => ?_
      have : m ≠ n := by omega
      simp [this]
  | n, i, j, false :: l => by
    have fT : ∀ k, (n : Int) ∉ (idxT (n + 1) l).take k := fun k h => by have := idxT_ge (n + 1) l _ (List.mem_of_mem_take h); omega
    have fF : ∀ k, (n : Int) ∉ (idxF (n + 1) l).drop k := fun k h => by have := idxF_ge (n + 1) l _ (List.mem_of_mem_drop h); omega
    show mid ((idxT (n + 1) l).take i ++ ((n : Int) :: idxF (n + 1) l).drop j) n (false :: l) = _
    cases j with
    | zero =>
      have ih := mid_dTF (n + 1) i 0 l
      unfold mid dTF
      rw [if_pos rfl, List.drop_zero, if_pos (by simp), ← ih, List.drop_zero]
      refine mid_congr (n + 1) l fun m hm => ?_
      have : m ≠ n := by omega
      simp [this]
    | succ j =>
      have ih := mid_dTF (n + 1) i j l
      unfold mid dTF
      rw [List.drop_succ_cons, if_neg (fun h => (List.mem_append.mp h).elim (fT i) (fF j)), if_neg (by omega), Nat.add_sub_cancel, ← ih]
/-- the first j letters 0 stay -/
def keepF : Nat → List Bool → List Bool
  | _, [] => []
  | j, true :: l => true :: keepF j l
  | 0, false :: l => keepF 0 l
  | j + 1, false :: l => false :: keepF j l
theorem dTF_eq : ∀ (i j : Nat) (L : List Bool), dTF i j L = keepF j (dropT i L)
  | i, j, [] => by cases i <;> cases j <;> rfl
  | i, j, true :: l => by
    unfold dTF
    cases i with
    | zero => rw [if_pos rfl, dropT_zero, dTF_eq 0 j l, dropT_zero]; cases j <;> rfl
    | succ i => rw [if_neg (by omega), Nat.add_sub_cancel, dTF_eq i j l, dropT_true]
  | i, j, false :: l => by
    unfold dTF
    rw [dropT_false]
    cases j with
    | zero => rw [if_pos rfl, dTF_eq i 0 l]; rfl
    | succ j => rw [if_neg (by omega), Nat.add_sub_cancel, dTF_eq i j l]; rfl
theorem keepF_true : ∀ (j : Nat) (l : List Bool), keepF j (l ++ [true]) = keepF j l ++ [true]
  | j, [] => by cases j <;> rfl
  | j, true :: l => by
    show keepF j (true :: (l ++ [true])) = _
    rw [show keepF j (true :: (l ++ [true])) = true :: keepF j (l ++ [true]) from by cases j <;> rfl, keepF_true j l, show keepF j (true :: l) = true :: keepF j l from by cases j <;> rfl]; rfl
  | 0, false :: l => by
    show keepF 0 (false :: (l ++ [true])) = _
    rw [show keepF 0 (false :: (l ++ [true])) = keepF 0 (l ++ [true]) from rfl, keepF_true 0 l]; rfl
  | j + 1, false :: l => by
    show keepF (j + 1) (false :: (l ++ [true])) = _
    rw [show keepF (j + 1) (false :: (l ++ [true])) = false :: keepF j (l ++ [true]) from rfl, keepF_true j l]; rfl
theorem keepF_false : ∀ (j : Nat) (l : List Bool), keepF j (l ++ [false]) = if j ≤ l.count false then keepF j l else keepF j l ++ [false]
  | 0, [] => rfl
  | j + 1, [] => rfl
  | j, true :: l => by
    have h := keepF_false j l
    show keepF j (true :: (l ++ [false])) = _
    rw [show keepF j (true :: (l ++ [false])) = true :: keepF j (l ++ [false]) from by cases j <;> rfl, h, cft, show keepF j (true :: l) = true :: keepF j l from by cases j <;> rfl]
    split <;> rfl
  | 0, false :: l => by
    have h := keepF_false 0 l
    show keepF 0 (false :: (l ++ [false])) = _
    rw [show keepF 0 (false :: (l ++ [false])) = keepF 0 (l ++ [false]) from rfl, h, if_pos (Nat.zero_le _), if_pos (Nat.zero_le _)]; rfl
  | j + 1, false :: l => by
    have h := keepF_false j l
    show keepF (j + 1) (false :: (l ++ [false])) = _
    rw [show keepF (j + 1) (false :: (l ++ [false])) = false :: keepF j (l ++ [false]) from rfl, h, cff]
    by_cases z : j ≤ l.count false
    · rw [if_pos z, if_pos (by omega)]; rfl
    · rw [if_neg z, if_neg (by omega)]; rfl
theorem flip_cons (c : Bool) (l : List Bool) : flip (c :: l) = flip l ++ [!c] := by unfold flip; rw [List.reverse_cons, List.map_append]; rfl
theorem flip_app (x y : List Bool) : flip (x ++ y) = flip y ++ flip x := by unfold flip; rw [List.reverse_append, List.map_append]
theorem flip_flip (l : List Bool) : flip (flip l) = l := by
  unfold flip
  rw [← List.map_reverse, List.reverse_reverse, List.map_map]
  have : ((!·) ∘ (!·) : Bool → Bool) = id := by funext x; cases x <;> rfl
  rw [this, List.map_id]
theorem flip_rep (n : Nat) (c : Bool) : flip (List.replicate n c) = List.replicate n (!c) := by unfold flip; rw [List.reverse_replicate, List.map_replicate]
theorem flip_cnt (l : List Bool) : (flip l).count true = l.count false := by
  induction l with
  | nil => rfl
  | cons c l ih => rw [flip_cons, List.count_append, ih]; cases c <;> simp
theorem flip_cntF (l : List Bool) : (flip l).count false = l.count true := by
  have h := flip_cnt (flip l)
  rw [flip_flip] at h
  exact h.symm
theorem flip_drop : ∀ (b : Nat) (W : List Bool), flip (dropT b W) = keepF (W.count true - b) (flip W)
  | b, [] => by
    have e : dropT b [] = [] := by cases b <;> rfl
    rw [e]
    show [] = keepF _ []
    unfold keepF; rfl
  | b, true :: l => by
    rw [flip_cons, show (!true) = false from rfl, keepF_false, flip_cntF, ctt]
    cases b with
    | zero =>
      have h := flip_drop 0 l
      rw [dropT_zero, Nat.sub_zero] at h
      rw [dropT_zero, Nat.sub_zero, if_neg (by omega), flip_cons, h]
      congr 1
      -- keeping one more than there are
      have keep : ∀ (j : Nat) (m : List Bool), m.count false ≤ j → keepF j m = m := by
        intro j m
        induction m generalizing j with
        | nil => intro _; cases j <;> rfl
        | cons c m ih =>
          intro hj
          cases c with
          | true => rw [cft] at hj; rw [show keepF j (true :: m) = true :: keepF j m from by cases j <;> rfl, ih j hj]
          | false =>
            rw [cff] at hj
            cases j with
            | zero => omega
            | succ j => rw [show keepF (j + 1) (false :: m) = false :: keepF j m from rfl, ih j (by omega)]
      rw [keep _ _ (by rw [flip_cntF] <;> exact Nat.le_refl _), keep _ _ (by rw [flip_cntF] <;> omega)]
    | succ b =>
      rw [dropT_true, flip_drop b l, if_pos (by omega), show l.count true + 1 - (b + 1) = l.count true - b from by omega]
  | b, false :: l => by
    rw [dropT_false, flip_cons, flip_cons, ctf, show (!false) = true from rfl, keepF_true, flip_drop b l]
theorem dropT_rep (k g : Nat) (W : List Bool) : dropT k (List.replicate g false ++ W) = List.replicate g false ++ dropT k W := by
  induction g with
  | zero => rfl
  | succ g ih => rw [List.replicate_succ, List.cons_append, dropT_false, ih]; rfl
theorem dropT_cntF : ∀ (k : Nat) (L : List Bool), (dropT k L).count false = L.count false
  | k, [] => by cases k <;> rfl
  | 0, l => by rw [dropT_zero]
  | k + 1, true :: l => by rw [dropT_true, dropT_cntF k l, cft]
  | k + 1, false :: l => by rw [dropT_false, cff, cff, dropT_cntF (k + 1) l]
theorem lawLet_eq (L : List Bool) (a b : Nat) : lawLet L a b = bwd b (fwd a L) := by
  have lF := idxF_len 0 L
  have lT := idxT_len 0 L
  have e1 : ((idxF 0 L).drop ((idxF 0 L).length - b)).length = min b (L.count false) := by rw [List.length_drop, lF]; omega
  have e2 : ((idxT 0 L).take a).length = min a (L.count true) := by rw [List.length_take, lT]
  unfold lawLet
  rw [e1, e2, mid_dTF, dTF_eq, lF]
  unfold bwd fwd
  have e3 : flip (dropT a L ++ List.replicate (min a (L.count true)) true) = List.replicate (min a (L.count true)) false ++ flip (dropT a L) := by rw [flip_app, flip_rep]; rfl
  rw [e3, dropT_rep, List.count_append, List.count_replicate, flip_cnt, dropT_cntF]
  rw [flip_app, flip_app, flip_rep, flip_rep, flip_drop, flip_cnt, flip_flip, dropT_cntF]
  simp [List.append_assoc]
theorem ldGo_cons (k : Nat) (x : Int) (xs held : List Int) : ldGo k (x :: xs) held = if k < (ins x held).length then (ins x held).headD 0 :: ldGo k xs (ins x held).tail else ldGo k xs (ins x held) := rfl
end Mth

set_option Elab.async false
set_option linter.all false
set_option maxRecDepth 100000
set_option maxHeartbeats 1000000
namespace My
open PySem PySem.Spec L2 DL
open PyProof.Rows hiding St
/-! ### hands without an object, mirrored lists -/
theorem sorted_uniq {s t : List Int} (p : s.Perm t) (h1 : s.Pairwise (· ≤ ·)) (h2 : t.Pairwise (· ≤ ·)) : s = t := List.Perm.eq_of_pairwise (fun a b _ _ h1 h2 => Int.le_antisymm h1 h2) h1 h2 p
theorem kiS_T {Q : IT → MM → Prop} {M : MM} {ds : List D} (q : Q { items := ds } M) : kiS Q (.tup ds) M := by
  unfold kiS; exact q
theorem laid_spec {xs : List Int} {k : Int} {d : D} {M : MM} {Q : D → MM → Prop} {EX : XD → MM → Prop} (hd : d = .tup (xs.map D.int) ∨ d = .lst (xs.map D.int)) (hl : xs.length ≤ 1000) (hk : 0 ≤ k)
    (hQ : ∀ M', Kp [] M M' → Q (.lst ((Mth.ld k.toNat xs).map D.int)) M') : slaid_down [d, .int k] M Q EX := by
  refine ⟨rfl, Nat.zero_le _, Nat.zero_le _, fun p hp => ?_⟩
  have go : wLoop none (bNm 4) (wSeq (wSet 2 (wB wSorted (wCons (wOp wPlus (wV 2) (wLst (wCons (wV 4) wNil))) wNil)))
      (wIfS (wTst (wOp wGt (wB wLen (wCons (wV 2) wNil)) (wV 1))) (wSeq (wDrop (wM wAppend (wV 3) (wCons (wOp wIx (wV 2) (wC (.int 0))) wNil)))
      (wSet 2 (wCut (wV 2) (woS (wC (.int 1))) woN))) wNext)) (xs.map D.int)
      { nx := fun δ' M' => (wRet (wOp wPlus (wV 3) (wV 2))) { nx := fun _ M' => Q .non M', rt := Q } (fun xd _ M' => EX xd M') δ' M', rt := Q } (fun xd _ M' => EX xd M')
      [some d, some (.int k), some (.lst []), some (.raw (.ref p)), none] (updM M p (.lst [])) := by
    refine loop_inv (fun i δ M' => ∃ (held laid : List Int) (d4 : Option D), δ = [some d, some (.int k), some (.lst (held.map D.int)), some (.raw (.ref p)), d4] ∧ held.Pairwise (· ≤ ·) ∧ held.length ≤ i ∧ laid.length ≤ i ∧ i ≤ xs.length ∧
        Mth.ld k.toNat xs = laid ++ Mth.ldGo k.toNat (xs.drop i) held ∧ M' p = some (.lst (laid.map D.int)) ∧ Kp [] M M')
      ⟨[], [], none, rfl, .nil, Nat.le_refl _, Nat.le_refl _, Nat.zero_le _, rfl, updM_same, kp_new hp⟩ (fun _ _ _ _ => True.intro) ?_ ?_
    · rintro i d' δ M' hi ⟨held, laid, d4, rfl, hs, hh, hlaid, hil, he, hM, kp⟩
      rw [List.getElem?_map] at hi
      obtain ⟨x, hx, rfl⟩ := Option.map_eq_some_iff.mp hi
      have hi4 : i < xs.length := (List.getElem?_eq_some_iff.mp hx).1
      have hdrop : xs.drop i = x :: xs.drop (i + 1) := by
        rw [List.drop_eq_getElem_cons hi4]
        congr 1
        exact (List.getElem?_eq_some_iff.mp hx).2
      rw [hdrop] at he
      refine ⟨_, rfl, fun nx hnx => ?_⟩
      refine ⟨Nat.le_of_lt (small_sz (show 1 ≤ 1000000 by decide)), at_cat (xs := held.map D.int) (ys := [.int x]) rfl rfl (by
        simp only [List.length_map, List.length_singleton]; rw [sizeLine_eq]; omega) ?_⟩
      have e1 : held.map D.int ++ [D.int x] = (held ++ [x]).map D.int := by rw [List.map_append]; rfl
      rw [e1]
      refine at_sort (ns := held ++ [x]) lints_lst fun s sp ss => ?_
      have es : s = Mth.ins x held := sorted_uniq (sp.trans ((List.perm_append_comm (l₁ := held) (l₂ := [x])).trans (Mth.ins_perm x held).symm)) ss (Mth.ins_sorted x hs)
      subst es
      have il := Mth.ins_len x held
      refine at_len (xs := (Mth.ins x held).map D.int) rfl ?_
      rw [List.length_map]
      refine ⟨_, rfl, ?_⟩
      rw [Mth.ldGo_cons] at he
      refine if2 (fun hlt => ?_) fun hlt => ?_
      · rw [if_pos (by omega)] at he
        refine ⟨⟨_, _, rfl, hM⟩, ?_⟩
        cases eI : Mth.ins x held with
        | nil => rw [eI] at il; cases il
        | cons y ys =>
          rw [eI] at he il
          refine at_ix (xs := (y :: ys).map D.int) (d := .int y) rfl (by rw [atD_nat (by decide) (by simp)]; rfl) ?_
          refine at_append hM (by rw [List.length_map]; omega) ?_
          have e2 : laid.map D.int ++ [D.int y] = (laid ++ [y]).map D.int := by rw [List.map_append]; rfl
          rw [e2]
          have hcut : ∀ {R : D → MM → Prop} {M2 : MM}, R (.lst (ys.map D.int)) M2 → kCut R (.lst ((y :: ys).map D.int)) (some 1) none M2 := by
            intro R M2 hR
            unfold kCut
            show R (.lst (DL.cutD ((y :: ys).map D.int) (some 1) none)) M2
            have ec : DL.cutD ((y :: ys).map D.int) (some 1) none = ys.map D.int := by
              unfold DL.cutD
              have s1 : HT.sIx ((y :: ys).map D.int).length 0 (some 1) = 1 := by
                have : (1 : Nat) ≤ ((y :: ys).map D.int).length := by simp
                unfold HT.sIx; simp
              have s2 : HT.sIx ((y :: ys).map D.int).length ((y :: ys).map D.int).length none = ((y :: ys).map D.int).length := by unfold HT.sIx; simp
              rw [s1, s2]
              simp [List.take_of_length_le]
            rw [ec]; exact hR
          refine hcut ?_
          refine hnx _ _ ⟨ys, laid ++ [y], _, rfl, ?_, ?_, ?_, by omega, ?_, updM_same, ?_⟩
          · have z := Mth.ins_sorted x hs
            rw [eI] at z
            exact (List.pairwise_cons.mp z).2
          · simp at il; omega
          · simp; omega
          · rw [he]
            show laid ++ y :: _ = _
            rw [List.append_assoc]; rfl
          · exact Kp.drop hp kp (kp_upd (by simp))
      · rw [if_neg (by omega)] at he
        exact hnx _ _ ⟨_, laid, _, rfl, Mth.ins_sorted x hs, by omega, by omega, by omega, he, hM, kp⟩
    · rintro δ M' ⟨held, laid, d4, rfl, hs, hh, hlaid, hil, he, hM, kp⟩
      have e0 : Mth.ldGo k.toNat (xs.drop (xs.map D.int).length) held = held := by
        rw [List.length_map, List.drop_length]; unfold Mth.ldGo; rfl
      rw [e0] at he
      rw [List.length_map] at hh hlaid
      refine at_cat (xs := laid.map D.int) (ys := held.map D.int) (lst_mut hM) rfl (by simp only [List.length_map]; rw [sizeLine_eq]; omega) ?_
      rw [← List.map_append, ← he]
      exact hQ M' kp
  rcases hd with e | e <;> subst e
  · exact kiS_T go
  · exact at_iterF' go
end My

set_option Elab.async false
set_option linter.all false
set_option maxRecDepth 100000
set_option maxHeartbeats 1000000
namespace My
open PySem PySem.Spec L2 DL
open PyProof.Rows hiding St
/-! ### rows, values that never change -/
abbrev rowD (xs : List Int) : D := .ins 6 [.tup (xs.map D.int)]
theorem mirrored_spec {xs : List Int} {M : MM} {Q : D → MM → Prop} {EX : XD → MM → Prop} (hl : xs.length ≤ 1000) (hQ : Q (.lst ((Mth.mir xs).map D.int)) M) : s_mirrored [.lst (xs.map D.int)] M Q EX := by
  refine ⟨rfl, at_rev rfl (at_iterF' ?_)⟩
  refine lc_pure (src := none) (M := M) (fun d => match d with | .int x => some (.int (-x)) | _ => none) True.intro _ _ (fun d hd => ?_) (by simp; omega) ?_
  · rw [← List.map_reverse] at hd
    obtain ⟨x, hx, rfl⟩ := List.mem_map.mp hd
    exact ⟨_, rfl, (fun K h => h), fun K h => h⟩
  · have e : ((xs.map D.int).reverse).filterMap (fun d => match d with | .int x => some (D.int (-x)) | _ => none) = (Mth.mir xs).map D.int := by
      rw [← List.map_reverse, List.filterMap_map, List.map_map]
      induction xs.reverse with
      | nil => rfl
      | cons y ys ih => show D.int (-y) :: _ = _; rw [ih]; rfl
    show Q (.lst ([] ++ _)) M
    rw [List.nil_append, e]
    exact hQ
theorem enumL_mem {n : Nat} {ds : List D} {i : Nat} {x : D} (h : (enumL n ds)[i]? = some x) : ∃ d, ds[i]? = some d ∧ x = .tup [.int ((n + i : Nat)), d] := enumL_get h
theorem count_spec {n : Int} {M : MM} {Q : D → MM → Prop} {EX : XD → MM → Prop} (h : 1 ≤ n ∧ n ≤ 20) (hQ : Q (.bl true) M) : sis_count [.int n] M Q EX := ⟨rfl, within_spec (v := n) (lo := 1) (hi := 20) h hQ⟩
theorem check_spec {xs : List Int} {M : MM} {Q : D → MM → Prop} {EX : XD → MM → Prop} (h : RowOk 20 xs) (hQ : Q .non M) : s_check_numbers [.tup (xs.map D.int)] M Q EX := by
  refine ⟨rfl, ?_⟩
  have h1 := h.pos
  have h2 := h.top
  unfold w_check_numbers
  refine seq_of (if_of ?_)
  show wCall sis_count [] _ _ M _ _
  refine call_cons1 (b1_of (v_of (d := .tup (xs.map D.int)) rfl (at_len (xs := xs.map D.int) rfl ?_)))
  rw [List.length_map]
  refine count_spec (n := (xs.length : Int)) (by omega) ⟨_, rfl, ifF rfl ?_⟩
  refine at_enumT ?_
  refine loop_inv (fun i δ M' => ∃ d1 d2 : Option D, δ = [some (.tup (xs.map D.int)), d1, d2] ∧ M' = M) ⟨none, none, rfl, rfl⟩ (fun _ _ _ _ => True.intro) ?_ ?_
  · rintro i d δ M' hi ⟨d1, d2, rfl, rfl⟩
    obtain ⟨d3, e3, rfl⟩ := enumL_mem hi
    rw [List.getElem?_map] at e3
    obtain ⟨x, hx, rfl⟩ := Option.map_eq_some_iff.mp e3
    have hr := h.rng x (List.mem_of_getElem? hx)
    refine ⟨_, rfl, fun nx hnx => ?_⟩
    refine within_spec (v := x) (lo := -999) (hi := 999) hr ?_
    exact ⟨_, rfl, ifF rfl (hnx _ _ ⟨_, _, rfl, rfl⟩)⟩
  · rintro δ M' ⟨d1, d2, rfl, rfl⟩
    exact hQ
theorem row_init {xs : List Int} {p : Addr} {M : MM} {Q : D → MM → Prop} {EX : XD → MM → Prop} (hp : M p = some (.ins 6 [])) (h : RowOk 20 xs) (hQ : Q .non (updM M p (.ins 6 [.tup (xs.map D.int)]))) : sRow_init (.raw (.ref p) :: xs.map D.int) M Q EX := by
  show (xs.map D.int).length ≤ sizeLine ∧ spOf 2 2 wRow_init [.raw (.ref p), .tup (xs.map D.int)] M Q EX
  have hl : (xs.map D.int).length ≤ sizeLine := Nat.le_of_lt (small_sz (by rw [List.length_map]; have := h.top; omega))
  refine ⟨hl, rfl, ?_⟩
  unfold wRow_init
  refine seq_drop (call_of [.tup (xs.map D.int)] (fun R h => h) (check_spec h ?_))
  exact at_fldNew (i := 0) hp rfl rfl hQ
theorem row_make {xs : List Int} {M : MM} {Q : D → MM → Prop} {EX : XD → MM → Prop} (h : RowOk 20 xs) (hQ : ∀ M', Kp [] M M' → Q (rowD xs) M') :
    ∀ p, M p = none → sRow_init (.raw (.ref p) :: xs.map D.int) (updM M p (.ins 6 [])) (fun d M2 => d = .non ∧ ∃ q fs, D.raw (.ref p) = .raw (.ref q) ∧ M2 q = some (.ins 6 fs) ∧ fs.length = 1 ∧ Q (.ins 6 fs) (delM M2 q)) EX := by
  intro p hp
  refine row_init updM_same h ⟨rfl, p, _, rfl, updM_same, rfl, hQ _ (kp_del ?_ hp)⟩
  exact Kp.drop hp .refl ((kp_new hp : Kp [p] M _).trans (kp_upd (by simp)))
theorem RowOk.perm {n : Nat} {xs ys : List Int} (h : RowOk n xs) (p : ys.Perm xs) : RowOk n ys := ⟨by rw [p.length_eq]; exact h.pos, by rw [p.length_eq]; exact h.top, fun x hx => h.rng x (p.mem_iff.mp hx)⟩
theorem row_numbers {xs : List Int} {M : MM} {Q : D → MM → Prop} {EX : XD → MM → Prop} (hQ : Q (.tup (xs.map D.int)) M) : sRow_numbers [rowD xs] M Q EX := ⟨rfl, at_fld (i := 0) rfl rfl rfl hQ⟩
theorem row_of {xs : List Int} {M : MM} {Q : D → MM → Prop} {EX : XD → MM → Prop} (h : RowOk 20 xs) (hQ : ∀ M', Kp [] M M' → Q (rowD xs) M') : sRow_of [.cls 6, .tup (xs.map D.int)] M Q EX := by
  refine ⟨rfl, ?_⟩
  refine at_isi (t := .tup) rfl rfl ⟨_, rfl, ifF rfl ?_⟩
  change wFrzI 6 1 (wMakeSV [(6, sRow_init)] (wV 0) (wV 1)) (startD 2 [.cls 6, .tup (xs.map D.int)]) M Q (fun xd _ M' => EX xd M')
  exact frz_mkSV (wf := wV 0) (we := wV 1) (δ := startD 2 [.cls 6, .tup (xs.map D.int)]) (.tup (xs.map D.int)) (xs.map D.int) (fun K h => h) (fun K h => h) rfl (row_make h hQ)
theorem eqvAll_ints : ∀ xs ys : List Int, PyData.eqvAll (xs.map .int) (ys.map .int) = decide (xs = ys)
  | [], [] => rfl
  | [], y :: ys => by simp [PyData.eqvAll]
  | x :: xs, [] => by simp [PyData.eqvAll]
  | x :: xs, y :: ys => by
    have ih := eqvAll_ints xs ys
    simp only [List.map_cons, PyData.eqvAll, PyData.eqv, ih]
    by_cases h : x = y <;> by_cases h2 : xs = ys <;> simp [h, h2]
theorem eqv_tup {xs ys : List Int} : PyData.eqv (.tuple (xs.map .int)) (.tuple (ys.map .int)) = decide (xs = ys) := by
  simp only [PyData.eqv]
  exact eqvAll_ints xs ys
theorem eqv_lst {xs ys : List Int} : PyData.eqv (.list (xs.map .int)) (.list (ys.map .int)) = decide (xs = ys) := by
  simp only [PyData.eqv]
  exact eqvAll_ints xs ys
theorem rshift_any {xs : List Int} {v : D} {a b : Int} {M : MM} {Q : D → MM → Prop} {EX : XD → MM → Prop} (h : RowOk 20 xs) (ha : 0 ≤ a) (hb : 0 ≤ b) (hfb : ∀ {M : MM} {Q : D → MM → Prop} {EX : XD → MM → Prop}, Q (.tup [.int a, .int b]) M → s_forward_and_backward [v] M Q EX) (hQ : ∀ M', Kp [] M M' → Q (rowD (Mth.aft a.toNat b.toNat xs)) M') : sRow_rshift [rowD xs, v] M Q EX := by
  have h1 := h.top
  refine ⟨rfl, ?_⟩
  unfold wRow_rshift
  refine seq_asg (call_of [v] (fun R h => h) (hfb (at_asg rfl ?_)))
  refine seq_set ?_
  have c1 : ∀ {Q : D → MM → Prop} {EX : XK'} {M : MM} {d2 : Option D}, (∀ M', Kp [] M M' → Q (.lst ((Mth.ld a.toNat xs).map D.int)) M') →
      wCall slaid_down [] (wCons (wFld [(6, 0)] (wV 0)) (wCons (wV 3) wNil)) [some (rowD xs), some (v), d2, some (.int a), some (.int b)] M Q EX := by
    intro Q EX M d2 h
    exact call_of [.tup (xs.map D.int), .int a] (fun R h => at_fld (i := 0) (x := .tup (xs.map D.int)) rfl rfl rfl h) (laid_spec (.inl rfl) (by omega) ha h)
  refine c1 fun M1 k1 => ?_
  obtain ⟨ys, ey⟩ : ∃ ys, ys = Mth.ld a.toNat xs := ⟨_, rfl⟩
  have ly : ys.length ≤ 1000 := by rw [ey, (Mth.ld_perm _ _).length_eq]; omega
  rw [← ey]
  refine seq_set ?_
  have lm : (Mth.mir ys).length ≤ 1000 := by simp; omega
  have c2 : ∀ {Q : D → MM → Prop} {EX : XK'} {M : MM}, (∀ M', Kp [] M M' → Q (.lst ((Mth.mir (Mth.ld b.toNat (Mth.mir ys))).map D.int)) M') →
      wCall s_mirrored [] (wCons (wCall slaid_down [] (wCons (wCall s_mirrored [] (wCons (wV 2) wNil)) (wCons (wV 4) wNil))) wNil) [some (rowD xs), some (v), some (.lst (ys.map D.int)), some (.int a), some (.int b)] M Q EX := by
    intro Q EX M h
    refine call_cons (call_cons (call_of [.lst (ys.map D.int)] (fun R h => h) (mirrored_spec ly ?_)))
    refine laid_spec (xs := Mth.mir ys) (.inr rfl) lm hb fun M' k => ?_
    exact mirrored_spec (by rw [(Mth.ld_perm _ _).length_eq]; exact lm) (h M' k)
  refine c2 fun M2 k2 => ?_
  have ea : Mth.mir (Mth.ld b.toNat (Mth.mir ys)) = Mth.aft a.toNat b.toNat xs := by rw [ey]; rfl
  rw [ea]
  obtain ⟨zs, ez⟩ : ∃ zs, zs = Mth.aft a.toNat b.toNat xs := ⟨_, rfl⟩
  rw [← ez] at hQ ⊢
  have hz : RowOk 20 zs := by rw [ez]; exact h.perm (Mth.aft_perm _ _ _)
  exact frz_mkS (.lst (zs.map D.int)) (zs.map D.int) (fun K h => h) rfl (row_make hz fun M' k => hQ M' ((k1.trans k2).trans k))
end My

set_option Elab.async false
set_option linter.all false
set_option maxRecDepth 100000
set_option maxHeartbeats 1000000
namespace My
open PySem PySem.Spec L2 DL
open PyProof.Rows hiding St
/-! ### sweeps -/
abbrev fwD (k : Int) : D := .ins 4 [.int k]
abbrev bwD (k : Int) : D := .ins 5 [.int k]
theorem sweep_init4 {k : Int} {p : Addr} {M : MM} {Q : D → MM → Prop} {EX : XD → MM → Prop} (hp : M p = some (.ins 4 [])) (hk : 1 ≤ k ∧ k ≤ 20) (hQ : Q .non (updM M p (.ins 4 [.int k]))) : sSweep_init [.raw (.ref p), .int k] M Q EX := by
  refine ⟨rfl, ?_⟩
  refine within_spec hk ?_
  refine ⟨_, rfl, ifF rfl ?_⟩
  exact at_fldNew (i := 0) hp rfl rfl hQ
theorem sweep_init5 {k : Int} {p : Addr} {M : MM} {Q : D → MM → Prop} {EX : XD → MM → Prop} (hp : M p = some (.ins 5 [])) (hk : 1 ≤ k ∧ k ≤ 20) (hQ : Q .non (updM M p (.ins 5 [.int k]))) : sSweep_init [.raw (.ref p), .int k] M Q EX := by
  refine ⟨rfl, ?_⟩
  refine within_spec hk ?_
  refine ⟨_, rfl, ifF rfl ?_⟩
  exact at_fldNew (i := 0) hp rfl rfl hQ
theorem ins_upd {M : MM} {p : Addr} {c : Nat} {fs : List D} : insOf (updM M p (.ins c fs)) (.raw (.ref p)) = some (c, fs) := by
  unfold insOf; dsimp only; rw [updM_same]
theorem fw_make {k : Int} {M : MM} {Q : D → MM → Prop} {EX : XD → MM → Prop} (hk : 1 ≤ k ∧ k ≤ 20) (hQ : ∀ M', Kp [] M M' → Q (fwD k) M') : NewI 4 1 sForward_init [.int k] M Q EX := by
  intro p hp
  refine ⟨⟨_, ins_upd⟩, ?_⟩
  refine sweep_init4 updM_same hk ⟨rfl, p, _, rfl, updM_same, rfl, hQ _ (kp_del ?_ hp)⟩
  exact Kp.drop hp .refl ((kp_new hp : Kp [p] M _).trans (kp_upd (by simp)))
theorem bw_make {k : Int} {M : MM} {Q : D → MM → Prop} {EX : XD → MM → Prop} (hk : 1 ≤ k ∧ k ≤ 20) (hQ : ∀ M', Kp [] M M' → Q (bwD k) M') : NewI 5 1 sBackward_init [.int k] M Q EX := by
  intro p hp
  refine ⟨⟨_, ins_upd⟩, ?_⟩
  refine sweep_init5 updM_same hk ⟨rfl, p, _, rfl, updM_same, rfl, hQ _ (kp_del ?_ hp)⟩
  exact Kp.drop hp .refl ((kp_new hp : Kp [p] M _).trans (kp_upd (by simp)))
theorem fb_fw {k : Int} {M : MM} {Q : D → MM → Prop} {EX : XD → MM → Prop} (hQ : Q (.tup [.int k, .int 0]) M) : s_forward_and_backward [fwD k] M Q EX := by
  refine ⟨rfl, ?_⟩
  refine at_isi (t := .own 4) rfl rfl ⟨_, rfl, ifT rfl ?_⟩
  refine ⟨4, _, _, rfl, rfl, rfl, at_fld (i := 0) (x := .int k) rfl rfl rfl ?_⟩
  exact ⟨Nat.le_of_lt (small_sz (show 2 ≤ 1000000 by decide)), hQ⟩
theorem fb_bw {k : Int} {M : MM} {Q : D → MM → Prop} {EX : XD → MM → Prop} (hQ : Q (.tup [.int 0, .int k]) M) : s_forward_and_backward [bwD k] M Q EX := by
  refine ⟨rfl, ?_⟩
  refine at_isi (t := .own 5) rfl rfl ⟨_, rfl, ifF rfl ?_⟩
  refine at_isi (t := .own 5) rfl rfl ⟨_, rfl, ifT rfl ?_⟩
  refine ⟨5, _, _, rfl, rfl, rfl, at_fld (i := 0) (x := .int k) rfl rfl rfl ?_⟩
  exact ⟨Nat.le_of_lt (small_sz (show 2 ≤ 1000000 by decide)), hQ⟩
theorem rshift_fw {xs : List Int} {k : Int} {M : MM} {Q : D → MM → Prop} {EX : XD → MM → Prop} (h : RowOk 20 xs) (hk : 0 ≤ k) (hQ : ∀ M', Kp [] M M' → Q (rowD (Mth.aft k.toNat 0 xs)) M') : sRow_rshift [rowD xs, fwD k] M Q EX := rshift_any h hk (by decide) fb_fw hQ
theorem rshift_bw {xs : List Int} {k : Int} {M : MM} {Q : D → MM → Prop} {EX : XD → MM → Prop} (h : RowOk 20 xs) (hk : 0 ≤ k) (hQ : ∀ M', Kp [] M M' → Q (rowD (Mth.aft 0 k.toNat xs)) M') : sRow_rshift [rowD xs, bwD k] M Q EX := rshift_any h (by decide) hk fb_bw hQ
end My

set_option Elab.async false
set_option linter.all false
set_option maxRecDepth 100000
/-! the law's own moving of letters, one by one -/
namespace Mth
/-- letters moved to the end: how many so far, what is found so far -/
def mvStep (want : Bool) (k : Int) (s : Int × List Bool) (c : Bool) : Int × List Bool := if c = want ∧ s.1 < k then (s.1 + 1, s.2) else (s.1, s.2 ++ [c])
def asW (want : Bool) (l : List Bool) : List Bool := l.map (fun c => c == want)
theorem asW_asW (want : Bool) (l : List Bool) : asW want (asW want l) = l := by
  unfold asW
  rw [List.map_map]
  have : ((fun c => c == want) ∘ fun c => c == want : Bool → Bool) = id := by
    funext c; cases c <;> cases want <;> rfl
  rw [this, List.map_id]
theorem mv_fold (want : Bool) (k : Int) : ∀ (l : List Bool) (g : Int) (f : List Bool), g ≤ k → l.foldl (mvStep want k) (g, f) = (g + (min (k - g).toNat ((asW want l).count true) : Nat), f ++ asW want (dropT (k - g).toNat (asW want l)))
  | [], g, f, h => by
    have e : dropT (k - g).toNat [] = [] := by
      cases (k - g).toNat <;> rfl
    show (g, f) = _
    unfold asW
    rw [List.map_nil, e, List.map_nil, List.append_nil, List.count_nil, Nat.min_zero]
    simp
  | c :: l, g, f, h => by
    rw [List.foldl_cons]
    have ec : asW want (c :: l) = (c == want) :: asW want l := rfl
    rw [ec]
    have e1 : c = want ∧ g < k → mvStep want k (g, f) c = (g + 1, f) := fun z => if_pos z
    have e2 : ¬ (c = want ∧ g < k) → mvStep want k (g, f) c = (g, f ++ [c]) := fun z => if_neg z
    by_cases hc : c = want
    · have eb : (c == want) = true := by simp [hc]
      rw [eb]
      by_cases hk : g < k
      · rw [e1 ⟨hc, hk⟩, mv_fold want k l (g + 1) f (by omega)]
        obtain ⟨n, en⟩ : ∃ n : Nat, (k - g).toNat = n + 1 := ⟨(k - g).toNat - 1, by omega⟩
        have en2 : (k - (g + 1)).toNat = n := by omega
        rw [en, en2, dropT_true, ctt]
        congr 1
        omega
      · rw [e2 (fun z => hk z.2), mv_fold want k l g (f ++ [c]) h]
        have e0 : (k - g).toNat = 0 := by omega
        rw [e0, dropT_zero, dropT_zero, Nat.zero_min, Nat.zero_min]
        congr 1
        rw [asW_asW]
        show f ++ [c] ++ l = f ++ asW want (true :: asW want l)
        have : asW want (true :: asW want l) = c :: l := by
          rw [← eb]
          show asW want (asW want (c :: l)) = _
          exact asW_asW want (c :: l)
        rw [this, List.append_assoc]; rfl
    · have eb : (c == want) = false := by simp [hc]
      rw [eb, e2 (fun z => hc z.1), mv_fold want k l g (f ++ [c]) h, dropT_false, ctf]
      congr 1
      have : asW want (false :: dropT (k - g).toNat (asW want l)) = c :: asW want (dropT (k - g).toNat (asW want l)) := by
        show (false == want) :: _ = _
        have : (false == want) = c := by
          cases c <;> cases want <;> simp_all
        rw [this]; rfl
      rw [this, List.append_assoc]; rfl
theorem asW_true (l : List Bool) : asW true l = l := by
  unfold asW
  have : (fun c => c == true : Bool → Bool) = id := by funext c; cases c <;> rfl
  rw [this, List.map_id]
theorem asW_false (l : List Bool) : asW false l = l.map (!·) := by
  unfold asW
  refine List.map_congr_left fun c _ => ?_
  cases c <;> rfl
/-- all of it, forward -/
theorem mv_fwd (k : Int) (hk : 0 ≤ k) (l : List Bool) : (l.foldl (mvStep true k) (0, [])).2 ++ List.replicate (l.foldl (mvStep true k) (0, [])).1.toNat true = fwd k.toNat l := by
  rw [mv_fold true k l 0 [] hk, asW_true, asW_true]
  show [] ++ dropT (k - 0).toNat l ++ List.replicate ((0 : Int) + (min (k - 0).toNat (l.count true) : Nat)).toNat true = _
  rw [Int.sub_zero, List.nil_append, Int.zero_add, Int.toNat_natCast]; rfl
/-- .. and backward -/
theorem mv_bwd (k : Int) (hk : 0 ≤ k) (l : List Bool) : ((l.reverse.foldl (mvStep false k) (0, [])).2 ++ List.replicate (l.reverse.foldl (mvStep false k) (0, [])).1.toNat false).reverse = bwd k.toNat l := by
  rw [mv_fold false k l.reverse 0 [] hk]
  show ([] ++ asW false (dropT (k - 0).toNat (asW false l.reverse)) ++ List.replicate ((0 : Int) + (min (k - 0).toNat ((asW false l.reverse).count true) : Nat)).toNat false).reverse = _
  rw [Int.sub_zero, List.nil_append, Int.zero_add, Int.toNat_natCast]
  have ef : asW false l.reverse = flip l := asW_false _
  rw [ef, asW_false]
  unfold bwd fwd
  show _ = flip (_ ++ _)
  generalize dropT k.toNat (flip l) = u
  generalize min k.toNat ((flip l).count true) = n
  show (u.map (!·) ++ List.replicate n false).reverse = ((u ++ List.replicate n true).reverse).map (!·)
  rw [List.map_reverse, List.map_append, List.map_replicate]; rfl
def b01 (l : List Bool) : List Int := l.map fun c => if c = true then 1 else 0
end Mth

set_option Elab.async false
set_option linter.all false
set_option maxRecDepth 100000
/-! only the load counts: letters that are moved in any order -/
namespace Mth2
open Mth
theorem dropT_nil (k : Nat) : dropT k [] = [] := by cases k <;> rfl
theorem dropT_app : ∀ (u v : List Bool) (k : Nat), dropT k (u ++ v) = dropT k u ++ dropT (k - u.count true) v
  | [], v, k => by rw [dropT_nil, List.count_nil]; rfl
  | false :: u, v, k => by
    rw [List.cons_append, dropT_false, dropT_false, dropT_app u v k, ctf]; rfl
  | true :: u, v, 0 => by
    rw [dropT_zero, dropT_zero, Nat.zero_sub, dropT_zero]
  | true :: u, v, k + 1 => by
    rw [List.cons_append, dropT_true, dropT_true, dropT_app u v k, ctt, show k + 1 - (u.count true + 1) = k - u.count true from by omega]
theorem dropT_rep : ∀ (m j : Nat), dropT j (List.replicate m true) = List.replicate (m - j) true
  | 0, j => by rw [Nat.zero_sub]; exact dropT_nil j
  | m + 1, 0 => by rw [dropT_zero]; rfl
  | m + 1, j + 1 => by
    rw [List.replicate_succ, dropT_true, dropT_rep m j, show m + 1 - (j + 1) = m - j from by omega]
theorem dropT_dropT : ∀ (l : List Bool) (a k : Nat), dropT k (dropT a l) = dropT (a + k) l
  | [], a, k => by rw [dropT_nil, dropT_nil, dropT_nil]
  | false :: l, a, k => by rw [dropT_false, dropT_false, dropT_false, dropT_dropT l a k]
  | true :: l, 0, k => by rw [dropT_zero, Nat.zero_add]
  | true :: l, a + 1, k => by
    rw [dropT_true, dropT_dropT l a k, show a + 1 + k = (a + k) + 1 from by omega, dropT_true]
theorem dropT_ct : ∀ (l : List Bool) (a : Nat), (dropT a l).count true = l.count true - a
  | [], a => by rw [dropT_nil, List.count_nil, Nat.zero_sub]
  | false :: l, a => by rw [dropT_false, ctf, ctf, dropT_ct l a]
  | true :: l, 0 => by rw [dropT_zero]; rfl
  | true :: l, a + 1 => by rw [dropT_true, dropT_ct l a, ctt]; omega
theorem dropT_cf : ∀ (l : List Bool) (a : Nat), (dropT a l).count false = l.count false
  | [], a => by rw [dropT_nil]
  | false :: l, a => by rw [dropT_false, cff, cff, dropT_cf l a]
  | true :: l, 0 => by rw [dropT_zero]
  | true :: l, a + 1 => by rw [dropT_true, dropT_cf l a, cft]
theorem fwd_ct (k : Nat) (l : List Bool) : (fwd k l).count true = l.count true := by
  unfold fwd
  rw [List.count_append, dropT_ct, List.count_replicate_self]; omega
theorem fwd_cf (k : Nat) (l : List Bool) : (fwd k l).count false = l.count false := by
  unfold fwd
  rw [List.count_append, dropT_cf, List.count_replicate]; simp
theorem fwd_fwd (a k : Nat) (l : List Bool) : fwd k (fwd a l) = fwd (a + k) l := by
  have h := fwd_ct a l
  unfold fwd at h ⊢
  rw [h, dropT_app, dropT_dropT, dropT_ct, dropT_rep, List.append_assoc, List.replicate_append_replicate]
  congr 2
  omega
theorem fwd_zero (l : List Bool) : fwd 0 l = l := by
  unfold fwd
  rw [dropT_zero, Nat.zero_min]; simp
theorem flip_flip (l : List Bool) : flip (flip l) = l := by
  unfold Mth.flip
  rw [← List.map_reverse, List.reverse_reverse, List.map_map]
  have : ((fun c => !c) ∘ fun c => !c : Bool → Bool) = id := by funext c; cases c <;> rfl
  rw [this, List.map_id]
theorem bwd_bwd (a k : Nat) (l : List Bool) : bwd k (bwd a l) = bwd (a + k) l := by
  unfold bwd
  rw [flip_flip, fwd_fwd]
theorem bwd_zero (l : List Bool) : bwd 0 l = l := by
  unfold bwd
  rw [fwd_zero, flip_flip]
/-- without all letters 0 but the first n -/
def keepF : Nat → List Bool → List Bool
  | _, [] => []
  | n, true :: l => true :: keepF n l
  | 0, false :: l => keepF 0 l
  | n + 1, false :: l => false :: keepF n l
theorem keepF_true (n : Nat) (l : List Bool) : keepF n (true :: l) = true :: keepF n l := by cases n <;> rfl
theorem flip_cons (x : Bool) (l : List Bool) : flip (x :: l) = flip l ++ [!x] := by unfold Mth.flip; rw [List.reverse_cons, List.map_append]; rfl
theorem flip_app (u v : List Bool) : flip (u ++ v) = flip v ++ flip u := by unfold Mth.flip; rw [List.reverse_append, List.map_append]
theorem flip_ct (l : List Bool) : (flip l).count true = l.count false := by
  induction l with
  | nil => rfl
  | cons x l ih =>
    rw [flip_cons, List.count_append, ih]
    cases x
    · rw [cff]; rfl
    · rw [cft]; rfl
theorem flip_cf (l : List Bool) : (flip l).count false = l.count true := by
  have := flip_ct (flip l)
  rw [flip_flip] at this
  exact this.symm
theorem drop_keep : ∀ (l : List Bool) (b : Nat), flip (dropT b (flip l)) = keepF (l.count false - b) l
  | [], b => by
    show flip (dropT b []) = _
    rw [dropT_nil]; cases (List.count false [] - b) <;> rfl
  | true :: l, b => by
    rw [flip_cons, dropT_app, flip_app, drop_keep l b, cft, keepF_true]
    have : dropT (b - (flip l).count true) [!true] = [false] := by
      show dropT _ (false :: []) = _
      rw [dropT_false, dropT_nil]
    rw [this]; rfl
  | false :: l, b => by
    rw [flip_cons, dropT_app, flip_app, drop_keep l b, cff, flip_ct]
    by_cases h : b ≤ l.count false
    · rw [show b - l.count false = 0 from by omega, dropT_zero, show l.count false + 1 - b = (l.count false - b) + 1 from by omega]; rfl
    · obtain ⟨n, hn⟩ : ∃ n, b - l.count false = n + 1 := ⟨b - l.count false - 1, by omega⟩
      rw [hn]
      show flip (dropT (n + 1) (true :: [])) ++ _ = _
      rw [dropT_true, dropT_nil, show l.count false + 1 - b = 0 from by omega, show l.count false - b = 0 from by omega]; rfl
theorem drop_keepF : ∀ (l : List Bool) (k n : Nat), dropT k (keepF n l) = keepF n (dropT k l)
  | [], k, n => by rw [dropT_nil]; show dropT k (keepF n []) = keepF n []; cases n <;> exact dropT_nil k
  | true :: l, 0, n => by rw [dropT_zero, dropT_zero]
  | true :: l, k + 1, n => by rw [keepF_true, dropT_true, dropT_true, drop_keepF l k n]
  | false :: l, k, 0 => by
    rw [dropT_false]
    show dropT k (keepF 0 l) = keepF 0 (dropT k l)
    exact drop_keepF l k 0
  | false :: l, k, n + 1 => by
    rw [dropT_false]
    show dropT k (false :: keepF n l) = false :: keepF n (dropT k l)
    rw [dropT_false, drop_keepF l k n]
theorem bwd_eq (b : Nat) (l : List Bool) : bwd b l = List.replicate (min b (l.count false)) false ++ keepF (l.count false - b) l := by
  unfold bwd fwd
  rw [flip_app, drop_keep, flip_ct]
  congr 1
  unfold Mth.flip
  rw [List.reverse_replicate, List.map_replicate]; rfl
theorem keepF_ct : ∀ (l : List Bool) (n : Nat), (keepF n l).count true = l.count true
  | [], n => by cases n <;> rfl
  | true :: l, n => by rw [keepF_true, ctt, ctt, keepF_ct l n]
  | false :: l, 0 => by rw [ctf]; exact keepF_ct l 0
  | false :: l, n + 1 => by
    show (false :: keepF n l).count true = _
    rw [ctf, ctf, keepF_ct l n]
theorem dropT_repF (j : Nat) : ∀ (m : Nat) (l : List Bool), dropT j (List.replicate m false ++ l) = List.replicate m false ++ dropT j l
  | 0, l => rfl
  | m + 1, l => by rw [List.replicate_succ, List.cons_append, dropT_false, dropT_repF j m l]; rfl
theorem keepF_app_rep : ∀ (l : List Bool) (n m : Nat), keepF n (l ++ List.replicate m true) = keepF n l ++ List.replicate m true
  | [], n, 0 => by cases n <;> rfl
  | [], n, m + 1 => by
    rw [List.replicate_succ, List.nil_append, keepF_true]
    have := keepF_app_rep [] n m
    rw [List.nil_append] at this
    rw [this]; cases n <;> rfl
  | true :: l, n, m => by rw [List.cons_append, keepF_true, keepF_true, keepF_app_rep l n m]; rfl
  | false :: l, 0, m => keepF_app_rep l 0 m
  | false :: l, n + 1, m => by
    show false :: keepF n (l ++ _) = false :: keepF n l ++ _
    rw [keepF_app_rep l n m]; rfl
theorem fwd_bwd (k b : Nat) (l : List Bool) : fwd k (bwd b l) = bwd b (fwd k l) := by
  rw [bwd_eq, bwd_eq, fwd_cf]
  unfold fwd
  rw [dropT_repF, drop_keepF, keepF_app_rep, List.count_append, keepF_ct]
  have : (List.replicate (min b (l.count false)) false).count true = 0 := by rw [List.count_replicate]; simp
  rw [this, Nat.zero_add, List.append_assoc]
theorem lets_ext : ∀ (xs ys : List Int), (∀ t, lets t xs = lets t ys) → xs = ys
  | [], [], _ => rfl
  | [], y :: ys, h => by have := congrArg List.length (h 0); simp at this
  | x :: xs, [], h => by have := congrArg List.length (h 0); simp at this
  | x :: xs, y :: ys, h => by
    have h1 : ∀ t, decide (t ≤ x) = decide (t ≤ y) := fun t => (List.cons.inj (show decide (t ≤ x) :: lets t xs = decide (t ≤ y) :: lets t ys from h t)).1
    have h2 : ∀ t, lets t xs = lets t ys := fun t => (List.cons.inj (show decide (t ≤ x) :: lets t xs = decide (t ≤ y) :: lets t ys from h t)).2
    have a := h1 x
    have b := h1 y
    simp at a b
    rw [show x = y from by omega, lets_ext xs ys h2]
/-- one load behind another -/
theorem aft_aft (a b c d : Nat) (xs : List Int) : aft c d (aft a b xs) = aft (a + c) (b + d) xs := by
  refine lets_ext _ _ fun t => ?_
  rw [aft_lets, aft_lets, aft_lets, fwd_bwd, fwd_fwd, bwd_bwd]
end Mth2

set_option Elab.async false
set_option linter.all false
set_option maxRecDepth 100000
set_option maxHeartbeats 1000000
namespace My
open PySem PySem.Spec L2 DL
open PyProof.Rows hiding St
/-! ### a sweep by the law's own hand -/
def swept (k : Int) (back : Bool) (xs : List Int) : List Int := if back = true then Mth.aft 0 k.toNat xs else Mth.aft k.toNat 0 xs
theorem swept_perm (k : Int) (back : Bool) (xs : List Int) : (swept k back xs).Perm xs := by
  unfold swept
  split <;> exact Mth.aft_perm _ _ _
def sg (back : Bool) (x : Int) : Int := if back = true then -x else x
theorem sg_sg (back : Bool) (x : Int) : sg back (sg back x) = x := by cases back <;> simp [sg]
theorem map_sg (back : Bool) (l : List Int) : (l.map (sg back)).map (sg back) = l := by
  rw [List.map_map]
  have : (sg back ∘ sg back) = id := by funext x; exact sg_sg back x
  rw [this, List.map_id]
theorem ld_zero' : ∀ xs : List Int, Mth.ldGo 0 xs [] = xs
  | [] => rfl
  | x :: xs => by
    unfold Mth.ldGo
    rw [if_pos (show 0 < (Mth.ins x []).length from Nat.zero_lt_one)]
    show x :: Mth.ldGo 0 xs [] = _
    rw [ld_zero' xs]
theorem swept_fwd (k : Int) (xs : List Int) : swept k false xs = Mth.ld k.toNat (xs.map (sg false)) := by
  have : sg false = id := by funext x; rfl
  rw [this, List.map_id]
  show Mth.mir (Mth.ldGo 0 (Mth.mir _) []) = _
  rw [ld_zero', Mth.mir_mir]
theorem swept_bwd (k : Int) (xs : List Int) : swept k true xs = ((Mth.ld k.toNat (xs.reverse.map (sg true))).map (sg true)).reverse := by
  show Mth.mir (Mth.ld k.toNat (Mth.mir (Mth.ldGo 0 xs []))) = _
  rw [ld_zero', ← List.map_reverse]
  rfl
/-- the first of some equal ones is taken away -/
theorem first_at : ∀ {ns : List Int} {m : Int}, m ∈ ns → ∃ j : Nat, ns[j]? = some m ∧ (∀ l : Nat, l < j → ns[l]? ≠ some m) ∧ ns.Perm (m :: ns.eraseIdx j)
  | n :: ns, m, h => by
    by_cases e : n = m
    · subst e
      exact ⟨0, rfl, fun l hl => by omega, .refl _⟩
    · obtain ⟨j, h1, h2, h3⟩ := first_at (show m ∈ ns from by
        rcases List.mem_cons.mp h with z | z
        · exact absurd z.symm e
        · exact z)
      refine ⟨j + 1, h1, fun l hl => ?_, ?_⟩
      · cases l with
        | zero => intro z; exact e (Option.some.inj z)
        | succ l => exact h2 l (by omega)
      · show (n :: ns).Perm (m :: n :: ns.eraseIdx j)
        exact (h3.cons n).trans (.swap ..)
/-- what is laid down is the first of the hand in order -/
theorem head_sg {back : Bool} {held2 hs : List Int} {y0 m : Int} (p : (y0 :: hs).Perm (held2.map (sg back))) (s : (y0 :: hs).Pairwise (· ≤ ·)) (hm : m ∈ held2) (he : ∀ y ∈ held2, sg back m ≤ sg back y) : sg back m = y0 := by
  have h1 : sg back m ∈ y0 :: hs := p.mem_iff.mpr (List.mem_map_of_mem hm)
  have h2 : y0 ≤ sg back m := by
    rcases List.mem_cons.mp h1 with e | e
    · omega
    · exact (List.pairwise_cons.mp s).1 _ e
  obtain ⟨y, hy, e⟩ := List.mem_map.mp (p.mem_iff.mp (List.mem_cons_self ..))
  have := he y hy
  omega
theorem swept_spec {xs : List Int} {k : Int} {back : Bool} {M : MM} {Q : D → MM → Prop} {EX : XD → MM → Prop} (hl : xs.length ≤ 100) (hk : 0 ≤ k) (hQ : ∀ M', Kp [] M M' → Q (.lst ((swept k back xs).map D.int)) M') : s_law_swept [.lst (xs.map D.int), .int k, .bl back] M Q EX := by
  refine ⟨rfl, ?_⟩
  unfold w_law_swept
  obtain ⟨ys, ey⟩ : ∃ l : List Int, l = if back = true then xs.reverse else xs := ⟨_, rfl⟩
  have ly : ys.length = xs.length := by rw [ey]; cases back <;> simp
  have start : ∀ {B : WS} {E : ED} {EX : XK'}, (∀ p q, M p = none → (updM M p (.lst [])) q = none → B E EX [some (.lst (xs.map D.int)), some (.int k), some (.bl back), none, some (.raw (.ref q)), some (.lst (ys.map D.int)), some (.raw (.ref p)), none] (updM (updM M p (.lst [])) q (.lst []))) →
      wSeq (wPar3 5 6 4 (wCons (wIf (wTst (wV 2)) (wRev (wV 0)) (wB wListOf (wCons (wV 0) wNil))) (wCons (wLstM wNil) (wCons (wLstM wNil) wNil)))) B E EX (startD 8 [.lst (xs.map D.int), .int k, .bl back]) M := by
    intro B E EX h
    refine ⟨_, rfl, ?_⟩
    cases back
    · refine ifF rfl ?_
      refine at_listOf (xs := xs.map D.int) rfl ?_
      refine ⟨Nat.zero_le _, fun p hp => ⟨Nat.zero_le _, fun q hq => ?_⟩⟩
      have := h p q hp hq
      rw [ey] at this
      exact this
    · refine ifT rfl ?_
      refine at_rev rfl ?_
      rw [← List.map_reverse]
      refine ⟨Nat.zero_le _, fun p hp => ⟨Nat.zero_le _, fun q hq => ?_⟩⟩
      have := h p q hp hq
      rw [ey] at this
      exact this
  refine start fun p q hp hq => ?_
  have npq : p ≠ q := fun e => by rw [← e, updM_same] at hq; cases hq
  have hq0 : M q = none := by rw [updM_ne npq.symm] at hq; exact hq
  refine seq_of ?_
  refine at_iterF' ?_
  refine loop_inv (fun i δ M' => ∃ (held laid heldS : List Int) (d3 d7 : Option D), δ = [some (.lst (xs.map D.int)), some (.int k), some (.bl back), d3, some (.raw (.ref q)), some (.lst (ys.map D.int)), some (.raw (.ref p)), d7] ∧
      M' p = some (.lst (held.map D.int)) ∧ M' q = some (.lst (laid.map D.int)) ∧ heldS.Pairwise (· ≤ ·) ∧ heldS.Perm (held.map (sg back)) ∧
      Mth.ld k.toNat (ys.map (sg back)) = laid.map (sg back) ++ Mth.ldGo k.toNat ((ys.map (sg back)).drop i) heldS ∧ laid.length ≤ i ∧ held.length ≤ i ∧ i ≤ ys.length ∧ Kp [] M M')
    ⟨[], [], [], none, none, rfl, by rw [updM_ne npq]; exact updM_same, updM_same, .nil, .refl _, rfl, Nat.le_refl _, Nat.le_refl _, Nat.zero_le _, (kp_new hp).trans (kp_new hq)⟩ (fun _ _ _ _ => True.intro) ?_ ?_
  · rintro i d δ M' hi ⟨held, laid, heldS, d3, d7, rfl, hMp, hMq, hs, hpm, he, ll, lh, hil, kp⟩
    rw [List.getElem?_map] at hi
    obtain ⟨x, hx, rfl⟩ := Option.map_eq_some_iff.mp hi
    have hi4 : i < ys.length := (List.getElem?_eq_some_iff.mp hx).1
    have hdrop : (ys.map (sg back)).drop i = sg back x :: (ys.map (sg back)).drop (i + 1) := by
      rw [List.drop_eq_getElem_cons (by rw [List.length_map]; exact hi4)]
      congr 1
      rw [List.getElem_map, (List.getElem?_eq_some_iff.mp hx).2]
    rw [hdrop, Mth.ldGo_cons] at he
    have il := Mth.ins_len (sg back x) heldS
    have hsl : heldS.length = held.length := by rw [hpm.length_eq, List.length_map]
    have hp2 : (Mth.ins (sg back x) heldS).Perm ((held ++ [x]).map (sg back)) := by
      refine (Mth.ins_perm _ _).trans ((hpm.cons _).trans ?_)
      rw [List.map_append]
      exact List.perm_append_comm (l₁ := [sg back x])
    have hs2 := Mth.ins_sorted (sg back x) hs
    refine ⟨_, rfl, fun nx hnx => ?_⟩
    refine seq_of ⟨⟨_, _, rfl, hMp⟩, ?_⟩
    refine at_append hMp (by rw [List.length_map]; omega) ?_
    have e1 : held.map D.int ++ [D.int x] = (held ++ [x]).map D.int := by rw [List.map_append]; rfl
    rw [e1]
    obtain ⟨M1, eM⟩ : ∃ M1, M1 = updM M' p (.lst ((held ++ [x]).map D.int)) := ⟨_, rfl⟩
    rw [← eM]
    have hMp1 : M1 p = some (.lst ((held ++ [x]).map D.int)) := by rw [eM]; exact updM_same
    have hMq1 : M1 q = some (.lst (laid.map D.int)) := by rw [eM, updM_ne npq.symm]; exact hMq
    have kp1 : Kp [] M M1 := by rw [eM]; exact Kp.drop hp kp (kp_upd (by simp))
    dsimp only
    refine if_of (tst_of (op_of (b1_of (v_of (d := .raw (.ref p)) rfl ?_))))
    refine at_len (seq_mut hMp1) ?_
    rw [List.length_map, List.length_append, List.length_singleton]
    refine ⟨_, rfl, ?_⟩
    refine if2 (fun hlt => ?_) fun hlt => ?_
    · rw [if_pos (by omega)] at he
      cases eI : Mth.ins (sg back x) heldS with
      | nil => rw [eI] at il; cases il
      | cons y0 hs3 =>
        rw [eI] at he hp2 hs2
        have best : ∀ {B : WS} {E : ED} {EX : XK'} {d7 : Option D}, (∀ m, m ∈ held ++ [x] → (∀ y ∈ held ++ [x], sg back m ≤ sg back y) → B E EX [some (.lst (xs.map D.int)), some (.int k), some (.bl back), some (.int x), some (.raw (.ref q)), some (.lst (ys.map D.int)), some (.raw (.ref p)), some (.int m)] M1) →
            wSeq (wSet 7 (wIf (wTst (wV 2)) (wB wMax (wCons (wV 6) wNil)) (wB wMin (wCons (wV 6) wNil)))) B E EX [some (.lst (xs.map D.int)), some (.int k), some (.bl back), some (.int x), some (.raw (.ref q)), some (.lst (ys.map D.int)), some (.raw (.ref p)), d7] M1 := by
          intro B E EX d7 h
          refine ⟨_, rfl, ?_⟩
          cases back
          · refine ifF rfl ?_
            exact at_min (ns := held ++ [x]) (lints_mut hMp1) (by simp) fun m m1 m2 => h m m1 m2
          · refine ifT rfl ?_
            refine at_max (ns := held ++ [x]) (lints_mut hMp1) (by simp) fun m m1 m2 => h m m1 fun y hy => ?_
            have := m2 y hy
            simp only [sg, if_pos]; omega
        refine best fun m m1 m2 => ?_
        have em := head_sg hp2 hs2 m1 m2
        obtain ⟨j, j1, j2, j3⟩ := first_at m1
        refine seq_of ⟨⟨_, _, rfl, hMp1⟩, ?_⟩
        refine at_lst hMp1 ⟨held ++ [x], j, rfl, j1, j2, ?_⟩
        obtain ⟨h3, e3⟩ : ∃ h3, h3 = (held ++ [x]).eraseIdx j := ⟨_, rfl⟩
        rw [← e3] at j3 ⊢
        have l3 : h3.length = held.length := by have := j3.length_eq; simp at this; omega
        obtain ⟨M2, eM2⟩ : ∃ M2, M2 = updM M1 p (.lst (h3.map D.int)) := ⟨_, rfl⟩
        rw [← eM2]
        have hMp2 : M2 p = some (.lst (h3.map D.int)) := by rw [eM2]; exact updM_same
        have hMq2 : M2 q = some (.lst (laid.map D.int)) := by rw [eM2, updM_ne npq.symm]; exact hMq1
        have kp2 : Kp [] M M2 := by rw [eM2]; exact Kp.drop hp kp1 (kp_upd (by simp))
        refine ⟨⟨_, _, rfl, hMq2⟩, ?_⟩
        refine at_append hMq2 (by rw [List.length_map]; omega) ?_
        have e4 : laid.map D.int ++ [D.int m] = (laid ++ [m]).map D.int := by rw [List.map_append]; rfl
        rw [e4]
        have p3 : hs3.Perm (h3.map (sg back)) := by
          have z := hp2.trans (j3.map (sg back))
          rw [List.map_cons, em] at z
          exact z.cons_inv
        refine hnx _ _ ⟨h3, laid ++ [m], hs3, some (.int x), some (.int m), rfl, by rw [updM_ne npq]; exact hMp2, updM_same, (List.pairwise_cons.mp hs2).2, p3, ?_, by simp; omega, by omega, hi4, Kp.drop hq0 kp2 (kp_upd (by simp))⟩
        rw [he, List.map_append, List.append_assoc]
        show _ = _ ++ (sg back m :: _)
        rw [em]; rfl
    · rw [if_neg (by omega)] at he
      refine hnx _ _ ⟨held ++ [x], laid, Mth.ins (sg back x) heldS, some (.int x), d7, rfl, hMp1, hMq1, hs2, hp2, he, by omega, by simp; omega, hi4, kp1⟩
  · rintro δ M' ⟨held, laid, heldS, d3, d7, rfl, hMp, hMq, hs, hpm, he, ll, lh, hil, kp⟩
    have e0 : (ys.map (sg back)).drop (ys.map D.int).length = [] := by rw [List.drop_eq_nil_iff]; simp
    rw [e0] at he
    have he2 : Mth.ld k.toNat (ys.map (sg back)) = laid.map (sg back) ++ heldS := he
    rw [List.length_map] at ll lh
    dsimp only
    refine seq_set (op_of (v_of (d := .raw (.ref q)) rfl ?_))
    refine ⟨_, rfl, ?_⟩
    have hfin := hQ M' kp
    cases back
    · refine ifF rfl ?_
      refine at_sort (ns := held) (lints_mut hMp) fun s2 sp ss => ?_
      refine at_cat (xs := laid.map D.int) (ys := s2.map D.int) (seq_mut hMq) rfl (by rw [List.length_map, List.length_map, sp.length_eq, sizeLine_eq]; omega) ?_
      refine ret_of ?_
      refine ⟨_, rfl, ifF rfl ?_⟩
      have e5 : sg false = id := by funext x; rfl
      rw [e5, List.map_id] at hpm
      have e6 : heldS = s2 := sorted_uniq (hpm.trans sp.symm) hs ss
      rw [e6, e5, List.map_id, List.map_id] at he2
      have e7 : ys = xs := ey
      rw [e7] at he2
      rw [swept_fwd, e5, List.map_id, he2, List.map_append] at hfin
      exact hfin
    · refine ifT rfl ?_
      refine b1_of ?_
      refine v_of (d := .raw (.ref p)) rfl ?_
      refine at_sort (ns := held) (lints_mut hMp) fun s2 sp ss => ?_
      refine at_rev rfl ?_
      rw [← List.map_reverse]
      refine at_cat (xs := laid.map D.int) (ys := s2.reverse.map D.int) (seq_mut hMq) rfl (by rw [List.length_map, List.length_map, List.length_reverse, sp.length_eq, sizeLine_eq]; omega) ?_
      refine ret_of ?_
      refine ⟨_, rfl, ifT rfl ?_⟩
      refine at_rev rfl ?_
      have e5 : ∀ l : List Int, l.Pairwise (· ≤ ·) → (l.reverse.map (sg true)).Pairwise (· ≤ ·) := by
        intro l h
        rw [List.pairwise_map, List.pairwise_reverse]
        refine h.imp fun h => ?_
        simp only [sg, if_pos]; omega
      have e6 : heldS = s2.reverse.map (sg true) := sorted_uniq (hpm.trans ((sp.symm.trans (List.reverse_perm s2).symm).map _)) hs (e5 s2 ss)
      have e7 : ys = xs.reverse := ey
      rw [e6, e7] at he2
      rw [swept_bwd, he2, ← List.map_append, map_sg] at hfin
      rw [← List.map_append, ← List.map_reverse]
      exact hfin
end My

set_option Elab.async false
set_option linter.all false
set_option maxRecDepth 100000
set_option maxHeartbeats 1000000
namespace My
open PySem PySem.Spec L2 DL
open PyProof.Rows hiding St
/-! ### words of the law: pairs of a size and a direction -/
abbrev prD (p : Int × Bool) : D := .tup [.int p.1, .bl p.2]
abbrev swD (p : Int × Bool) : D := if p.2 = true then bwD p.1 else fwD p.1
def WordOk (w : List (Int × Bool)) : Prop := ∀ p ∈ w, 1 ≤ p.1 ∧ p.1 ≤ 20
def sweptAll (w : List (Int × Bool)) (xs : List Int) : List Int := w.foldl (fun ys p => swept p.1 p.2 ys) xs
theorem sweptAll_perm : ∀ (w : List (Int × Bool)) (xs : List Int), (sweptAll w xs).Perm xs
  | [], xs => .refl _
  | p :: w, xs => (sweptAll_perm w (swept p.1 p.2 xs)).trans (swept_perm _ _ _)
def sumOf (b : Bool) (w : List (Int × Bool)) : Int := (w.filterMap fun p => if p.2 = b then some p.1 else none).sum
theorem sumOf_nonneg {w : List (Int × Bool)} (h : WordOk w) (b : Bool) : 0 ≤ sumOf b w ∧ sumOf b w ≤ 20 * w.length := by
  induction w with
  | nil => exact ⟨Int.le_refl _, Int.le_refl _⟩
  | cons p w ih =>
    have h1 := h p (List.mem_cons_self ..)
    have h2 := ih fun q hq => h q (List.mem_cons_of_mem _ hq)
    unfold sumOf at h2 ⊢
    rw [List.filterMap_cons]
    split
    · simp only [List.length_cons]; omega
    · rename_i z hz
      split at hz
      · cases hz
        rw [List.sum_cons]
        simp only [List.length_cons]; omega
      · cases hz
theorem sumOf_cons (b : Bool) (p : Int × Bool) (w : List (Int × Bool)) : sumOf b (p :: w) = (if p.2 = b then p.1 else 0) + sumOf b w := by
  unfold sumOf
  rw [List.filterMap_cons]
  by_cases h : p.2 = b
  · rw [if_pos h, if_pos h]; rfl
  · rw [if_neg h, if_neg h, Int.zero_add]
/-- [20]: only the load counts -/
theorem sweptAll_aft : ∀ (w : List (Int × Bool)) (xs : List Int) (a b : Nat), WordOk w → sweptAll w (Mth.aft a b xs) = Mth.aft (a + (sumOf false w).toNat) (b + (sumOf true w).toNat) xs
  | [], xs, a, b, _ => rfl
  | (k, c) :: w, xs, a, b, h => by
    have h1 := h _ (List.mem_cons_self ..)
    have h2 : WordOk w := fun q hq => h q (List.mem_cons_of_mem _ hq)
    have s1 := sumOf_nonneg h2 false
    have s2 := sumOf_nonneg h2 true
    show sweptAll w (swept k c (Mth.aft a b xs)) = _
    rw [sumOf_cons, sumOf_cons]
    dsimp only at h1 ⊢
    cases c
    · show sweptAll w (Mth.aft k.toNat 0 (Mth.aft a b xs)) = _
      rw [Mth2.aft_aft, sweptAll_aft w xs _ _ h2]
      congr 1
      · rw [if_pos rfl]; omega
      · rw [if_neg (by decide)]; omega
    · show sweptAll w (Mth.aft 0 k.toNat (Mth.aft a b xs)) = _
      rw [Mth2.aft_aft, sweptAll_aft w xs _ _ h2]
      congr 1
      · rw [if_neg (by decide)]; omega
      · rw [if_pos rfl]; omega
theorem aft_none (xs : List Int) : Mth.aft 0 0 xs = xs := by
  show Mth.mir (Mth.ldGo 0 (Mth.mir (Mth.ldGo 0 xs [])) []) = xs
  rw [ld_zero', ld_zero', Mth.mir_mir]
theorem sweptAll_eq {w : List (Int × Bool)} (h : WordOk w) (xs : List Int) : sweptAll w xs = Mth.aft (sumOf false w).toNat (sumOf true w).toNat xs := by
  have := sweptAll_aft w xs 0 0 h
  rw [aft_none, Nat.zero_add, Nat.zero_add] at this
  exact this
theorem swept_all_spec {xs : List Int} {w : List (Int × Bool)} {M : MM} {Q : D → MM → Prop} {EX : XD → MM → Prop} (hl : xs.length ≤ 100) (hw : WordOk w) (hQ : ∀ M', Kp [] M M' → Q (.lst ((sweptAll w xs).map D.int)) M') : s_law_swept_all [.lst (xs.map D.int), .lst (w.map prD)] M Q EX := by
  refine ⟨rfl, ?_⟩
  unfold w_law_swept_all
  refine seq_set (b1_of (v_of (d := .lst (xs.map D.int)) rfl (at_listOf (xs := xs.map D.int) rfl ?_)))
  refine seq_of (at_iterF' ?_)
  refine loop_inv (fun i δ M' => ∃ d3 d4 : Option D, δ = [some (.lst (xs.map D.int)), some (.lst (w.map prD)), some (.lst ((sweptAll (w.take i) xs).map D.int)), d3, d4] ∧ Kp [] M M' ∧ i ≤ w.length)
    ⟨none, none, rfl, .refl, Nat.zero_le _⟩ (fun _ _ _ _ => True.intro) ?_ ?_
  · rintro i d δ M' hi ⟨d3, d4, rfl, kp, hil⟩
    rw [List.getElem?_map] at hi
    obtain ⟨⟨k, c⟩, hx, rfl⟩ := Option.map_eq_some_iff.mp hi
    have hi4 : i < w.length := (List.getElem?_eq_some_iff.mp hx).1
    have hk := hw _ (List.mem_of_getElem? hx)
    have et : w.take (i + 1) = w.take i ++ [(k, c)] := by rw [List.take_succ, hx]; rfl
    refine ⟨_, rfl, fun nx hnx => ?_⟩
    refine call_of [.lst ((sweptAll (w.take i) xs).map D.int), .int k, .bl c] (fun R h => h) (swept_spec (by rw [(sweptAll_perm _ _).length_eq]; exact hl) (by dsimp only at hk; omega) fun M2 k2 => ?_)
    have e2 : swept k c (sweptAll (w.take i) xs) = sweptAll (w.take (i + 1)) xs := by
      rw [et]; unfold sweptAll; rw [List.foldl_append]; rfl
    rw [e2]
    exact hnx _ _ ⟨_, _, rfl, kp.trans k2, hi4⟩
  · rintro δ M' ⟨d3, d4, rfl, kp, hil⟩
    have e4 : w.take (w.map prD).length = w := by rw [List.length_map, List.take_length]
    dsimp only
    rw [e4]
    exact hQ M' kp
theorem tup_of {wa : WA} {δ : DS} {M : MM} {Q : D → MM → Prop} {EX : XK'} (h : wa δ M (fun ds M1 => ds.length ≤ sizeLine ∧ Q (.tup ds) M1) EX) : wTup wa δ M Q EX := h
theorem cons_of {we : WE} {wr : WA} {δ : DS} {M : MM} {Q : List D → MM → Prop} {EX : XK'} (h : we δ M (fun d M1 => wr δ M1 (fun ds M2 => Q (d :: ds) M2) EX) EX) : wCons we wr δ M Q EX := h
theorem for_of {wi : WI} {b : BD} {wb : WS} {E : ED} {EX : XK'} {δ : DS} {M : MM} (h : wi δ M (fun it M1 => wLoop it.src b wb it.items E EX δ M1) EX) : wFor wi b wb E EX δ M := h
theorem r1_of {we : WE} {δ : DS} {M : MM} {Q : IT → MM → Prop} {EX : XK'} (h : we δ M (fun d M1 => kiR1 Q [d] M1) EX) : wiR1 (wCons we wNil) δ M Q EX := h
/-! ### the word as it is made -/
theorem word_spec {m g : Addr} {f : Nat} {most : Int} {M : MM} {Q : D → MM → Prop} {EX : XD → MM → Prop} (hd : Dr m g (f + 100) M) (hm : 0 ≤ most ∧ most ≤ 20)
    (hQ : ∀ (w : List (Int × Bool)) M', WordOk w → w.length ≤ 20 → Dr m g f M' → Kp [m, g] M M' → Q (.lst (w.map prD)) M') : s_law_word [.raw (.ref m), .int most] M Q EX := by
  refine ⟨rfl, ?_⟩
  unfold w_law_word
  refine seq_set ⟨Nat.zero_le _, fun p hp => ?_⟩
  have l0 := (Loc.start hd).new (xs := []) hp
  refine seq_of ?_
  have top : ∀ {K : D → MM → Prop} {EX : XK'} {M2 : MM} {d2 d3 d4 : Option D}, Loc m g (f + 100) [(p, [])] M M2 → (∀ (n : Nat) M3, n ≤ 20 → Loc m g (f + 99) [(p, [])] M M3 → K (.int (n : Int)) M3) →
      wCall s_law_draw [] (wCons (wV 0) (wCons (wOp wPlus (wV 1) (wC (.int 1))) wNil)) [some (.raw (.ref m)), some (.int most), d2, d3, d4] M2 K EX := by
    intro K EX M2 d2 d3 d4 l h
    refine call_of [.raw (.ref m), .int (most + 1)] (fun R h => h) ?_
    refine draw_spec (f := f + 99) (l.dr.le (by omega)) (by omega) fun r M3 r0 r1 dr sm => ?_
    have := h r.toNat M3 (by omega) (l.draw dr sm)
    rw [show ((r.toNat : Nat) : Int) = r from by omega] at this
    exact this
  refine for_of (r1_of (top l0 fun n M3 hn l1 => ?_))
  refine ⟨by omega, ?_⟩
  refine loop_inv (fun i δ M' => ∃ (w : List (Int × Bool)) (d3 d4 : Option D), δ = [some (.raw (.ref m)), some (.int most), some (.raw (.ref p)), d3, d4] ∧ WordOk w ∧ w.length = i ∧ i ≤ n ∧ Loc m g (f + (99 - 3 * i)) [(p, w.map prD)] M M')
    ⟨[], none, none, rfl, (fun _ h => nomatch h), rfl, Nat.zero_le _, l1⟩ (fun _ _ _ _ => True.intro) ?_ ?_
  · rintro i d δ M' hi ⟨w, d3, d4, rfl, hw, lw, hil, l⟩
    obtain ⟨hi3, rfl⟩ := rngL_get hi
    have hi4 : i < n := by simpa using hi3
    refine ⟨_, rfl, fun nx hnx => ?_⟩
    refine seq_set (op_of ?_)
    show wCall s_law_draw [] _ _ M' _ _
    refine call_cons (v_of (d := .raw (.ref m)) rfl ?_)
    refine call_cons1 (op_of ?_)
    refine ⟨Nat.le_of_lt (small_sz (show 4 ≤ 1000000 by decide)), ?_⟩
    refine call_cons (v_of (d := .raw (.ref m)) rfl ?_)
    show s_law_draw [.raw (.ref m), .int 4] M' _ _
    refine draw_spec (f := f + (98 - 3 * i)) (l.dr.le (by omega)) (by decide) fun r M4 r0 r1 dr4 s4 => ?_
    have l4 := l.draw dr4 s4
    obtain ⟨t, et, ht⟩ : ∃ t : Int, atD [.int 2, .int 3, .int 6, .int 20] r = some (.int t) ∧ 2 ≤ t ∧ t ≤ 20 := by
      rw [atD_nat r0 (by simpa using r1)]
      obtain ⟨j, hj⟩ : ∃ j, j = r.toNat := ⟨_, rfl⟩
      rw [← hj]
      match j, hj with
      | 0, _ => exact ⟨2, rfl, by decide⟩
      | 1, _ => exact ⟨3, rfl, by decide⟩
      | 2, _ => exact ⟨6, rfl, by decide⟩
      | 3, _ => exact ⟨20, rfl, by decide⟩
      | j + 4, hj => omega
    refine at_ix (xs := [.int 2, .int 3, .int 6, .int 20]) rfl et ?_
    refine draw_spec (f := f + (97 - 3 * i)) (top := t) (l4.dr.le (by omega)) (by omega) fun r2 M5 a2 b2 dr5 s5 => ?_
    have l5 := l4.draw dr5 s5
    refine ⟨⟨_, _, rfl, l5.at (i := 0) rfl⟩, ?_⟩
    refine call_cons1 (tup_of (cons_of (v_of (d := .int (1 + r2)) rfl (call_cons1 (op_of (call_of [.raw (.ref m), .int 2] (fun R h => h) ?_))))))
    refine draw_spec (f := f + (96 - 3 * i)) (l5.dr.le (by omega)) (by decide) fun r3 M6 a3 b3 dr6 s6 => ?_
    have l6 := l5.draw dr6 s6
    refine ⟨Nat.le_of_lt (small_sz (show 2 ≤ 1000000 by decide)), ?_⟩
    refine at_append (l6.at (i := 0) rfl) (by rw [List.length_map]; omega) ?_
    have e1 : w.map prD ++ [D.tup [.int (1 + r2), .bl (decide (r3 = 1))]] = (w ++ [(1 + r2, decide (r3 = 1))]).map prD := by rw [List.map_append]; rfl
    rw [e1]
    have l7 := l6.set (i := 0) (ys := (w ++ [(1 + r2, decide (r3 = 1))]).map prD) rfl
    refine hnx _ _ ⟨w ++ [(1 + r2, decide (r3 = 1))], _, _, rfl, fun q hq => ?_, by simp [lw], by omega, l7.le (by omega)⟩
    rcases List.mem_append.mp hq with h | h
    · exact hw q h
    · rw [List.mem_singleton.mp h]; dsimp only; omega
  · rintro δ M' ⟨w, d3, d4, rfl, hw, lw, hil, l⟩
    refine at_frz (l.at (i := 0) rfl) ?_
    have l2 := l.del (i := 0) rfl
    exact hQ w _ hw (by omega) (l2.dr.le (by omega)) l2.kp
theorem sums_fm (b : Bool) : ∀ w : List (Int × Bool), (w.map prD).filterMap (fun d => match d with | .tup [.int k, .bl c] => if c = b then some (.int k) else none | _ => none) = (w.filterMap fun p => if p.2 = b then some p.1 else none).map D.int
  | [] => rfl
  | (k, c) :: w => by
    rw [List.map_cons, List.filterMap_cons, List.filterMap_cons, sums_fm b w]
    by_cases h : c = b
    · have e1 : (match prD (k, c) with | .tup [.int k, .bl c] => if c = b then some (D.int k) else none | _ => none) = some (D.int k) := if_pos h
      rw [e1]
      dsimp only
      rw [if_pos h]; rfl
    · have e1 : (match prD (k, c) with | .tup [.int k, .bl c] => if c = b then some (D.int k) else none | _ => none) = none := if_neg h
      rw [e1]
      dsimp only
      rw [if_neg h]
end My

set_option Elab.async false
set_option linter.all false
set_option maxRecDepth 100000
set_option maxHeartbeats 1000000
namespace My
open PySem PySem.Spec L2 DL
open PyProof.Rows hiding St
abbrev loadD (a b : Int) : D := .ins 2 [.int a, .int b]
theorem load_init {a b : Int} {p : Addr} {M : MM} {Q : D → MM → Prop} {EX : XD → MM → Prop} (hp : M p = some (.ins 2 [])) (ha : 0 ≤ a ∧ a ≤ 1200) (hb : 0 ≤ b ∧ b ≤ 1200) (hQ : Q .non (updM (updM M p (.ins 2 [.int a])) p (.ins 2 [.int a, .int b]))) : sLoad_init [.raw (.ref p), .int a, .int b] M Q EX := by
  refine ⟨rfl, Nat.le_of_lt (small_sz (show 2 ≤ 1000000 by decide)), kiS_T ?_⟩
  refine loop_inv (fun i δ M' => ∃ d3 : Option D, δ = [some (.raw (.ref p)), some (.int a), some (.int b), d3] ∧ M' = M) ⟨none, rfl, rfl⟩ (fun _ _ _ _ => True.intro) ?_ ?_
  · rintro i d δ M' hi ⟨d3, rfl, rfl⟩
    refine ⟨_, rfl, fun nx hnx => ?_⟩
    have hd : ∃ x, d = .int x ∧ 0 ≤ x ∧ x ≤ 1200 := by
      match i, hi with
      | 0, hi => cases hi; exact ⟨a, rfl, ha⟩
      | 1, hi => cases hi; exact ⟨b, rfl, hb⟩
      | i + 2, hi => cases hi
    obtain ⟨x, rfl, hx⟩ := hd
    refine within_spec hx ?_
    exact ⟨_, rfl, ifF rfl (hnx _ _ ⟨_, rfl, rfl⟩)⟩
  · rintro δ M' ⟨d3, rfl, rfl⟩
    refine at_fldNew (i := 0) hp rfl rfl ?_
    exact at_fldNew (i := 1) updM_same rfl rfl hQ
theorem load_make {a b : Int} {M : MM} {Q : D → MM → Prop} {EX : XD → MM → Prop} (ha : 0 ≤ a ∧ a ≤ 1200) (hb : 0 ≤ b ∧ b ≤ 1200) (hQ : ∀ M', Kp [] M M' → Q (loadD a b) M') :
    ∀ p, M p = none → sLoad_init [.raw (.ref p), .int a, .int b] (updM M p (.ins 2 [])) (fun d M2 => d = .non ∧ ∃ q fs, D.raw (.ref p) = .raw (.ref q) ∧ M2 q = some (.ins 2 fs) ∧ fs.length = 2 ∧ Q (.ins 2 fs) (delM M2 q)) EX := by
  intro p hp
  refine load_init updM_same ha hb ⟨rfl, p, _, rfl, updM_same, rfl, hQ _ (kp_del ?_ hp)⟩
  exact Kp.drop hp .refl (((kp_new hp : Kp [p] M _).trans (kp_upd (by simp))).trans (kp_upd (by simp)))
theorem fb_load {a b : Int} {M : MM} {Q : D → MM → Prop} {EX : XD → MM → Prop} (hQ : Q (.tup [.int a, .int b]) M) : s_forward_and_backward [loadD a b] M Q EX := by
  refine ⟨rfl, ?_⟩
  refine at_isi (t := .own 2) rfl rfl ⟨_, rfl, ifF rfl ?_⟩
  refine at_isi (t := .own 2) rfl rfl ⟨_, rfl, ifF rfl ?_⟩
  refine at_isi (t := .own 2) rfl rfl ⟨_, rfl, ifT rfl ?_⟩
  refine ⟨2, _, _, rfl, rfl, rfl, at_fld (i := 0) (x := .int a) rfl rfl rfl ?_⟩
  refine ⟨2, _, _, rfl, rfl, rfl, at_fld (i := 1) (x := .int b) rfl rfl rfl ?_⟩
  exact ⟨Nat.le_of_lt (small_sz (show 2 ≤ 1000000 by decide)), hQ⟩
theorem rshift_load {xs : List Int} {a b : Int} {M : MM} {Q : D → MM → Prop} {EX : XD → MM → Prop} (h : RowOk 20 xs) (ha : 0 ≤ a) (hb : 0 ≤ b) (hQ : ∀ M', Kp [] M M' → Q (rowD (Mth.aft a.toNat b.toNat xs)) M') : sRow_rshift [rowD xs, loadD a b] M Q EX := rshift_any h ha hb fb_load hQ
end My

set_option Elab.async false
set_option linter.all false
set_option maxRecDepth 100000
set_option maxHeartbeats 400000
namespace My
open PySem PySem.Spec L2 DL
open PyProof.Rows hiding St
theorem at_sum {d : D} {M : MM} {Q : D → MM → Prop} {ns : List Int} (h : lintsOf M d = some ns) (q : Q (.int ns.sum) M) : wSum [d] M Q := by
  unfold wSum; dsimp only; rw [h]; exact q
def gS (b : Bool) (d : D) : Option D := match d with
  | .tup [.int k, .bl c] => if c = b then some (.int k) else none
  | _ => none
theorem sums_spec {w : List (Int × Bool)} {M : MM} {Q : D → MM → Prop} {EX : XD → MM → Prop} (hl : w.length ≤ 1000) (hQ : Q (.tup [.int (sumOf false w), .int (sumOf true w)]) M) : s_law_sums [.lst (w.map prD)] M Q EX := by
  refine ⟨rfl, ?_⟩
  unfold w_law_sums
  refine ret_of (tup_of (cons_of (b1_of ?_)))
  refine at_iterF' (lc_pure (src := none) (M := M) (gS false) True.intro _ _ (fun d hd => ?_) (by simp; omega) ?_)
  · obtain ⟨⟨k, c⟩, hx, rfl⟩ := List.mem_map.mp hd
    refine ⟨_, rfl, ?_⟩
    cases c
    · exact ⟨fun K h => ⟨_, rfl, h⟩, fun K h => h⟩
    · exact fun K h => ⟨_, rfl, h⟩
  rw [List.nil_append, show (w.map prD).filterMap (gS false) = _ from sums_fm false w]
  refine at_sum lints_lst ?_
  refine call_cons1 (b1_of ?_)
  refine at_iterF' (lc_pure (src := none) (M := M) (gS true) True.intro _ _ (fun d hd => ?_) (by simp; omega) ?_)
  · obtain ⟨⟨k, c⟩, hx, rfl⟩ := List.mem_map.mp hd
    refine ⟨_, rfl, ?_⟩
    cases c
    · exact fun K h => ⟨_, rfl, h⟩
    · exact ⟨fun K h => ⟨_, rfl, h⟩, fun K h => h⟩
  rw [List.nil_append, show (w.map prD).filterMap (gS true) = _ from sums_fm true w]
  refine at_sum lints_lst ?_
  exact ⟨Nat.le_of_lt (small_sz (show 2 ≤ 1000000 by decide)), hQ⟩
theorem sweeps_spec {w : List (Int × Bool)} {M : MM} {Q : D → MM → Prop} {EX : XD → MM → Prop} (hl : w.length ≤ 1000) (hw : WordOk w) (hQ : ∀ M', Kp [] M M' → Q (.tup (w.map swD)) M') : s_law_made [.lst (w.map prD)] M Q EX := by
  refine ⟨rfl, ?_⟩
  unfold w_law_made
  refine ret_of (b1_of (at_iterF' ?_))
  refine lc_inv (fun i acc M2 => acc = (w.take i).map swD ∧ Kp [] M M2 ∧ i ≤ w.length) ⟨rfl, .refl, Nat.zero_le _⟩ (fun _ _ _ _ => True.intro) ?_ ?_
  · rintro i d acc M2 hi ⟨rfl, kp, hil⟩
    rw [List.getElem?_map] at hi
    obtain ⟨⟨k, c⟩, hx, rfl⟩ := Option.map_eq_some_iff.mp hi
    have hi4 : i < w.length := (List.getElem?_eq_some_iff.mp hx).1
    have hk : 1 ≤ k ∧ k ≤ 20 := hw _ (List.mem_of_getElem? hx)
    have et : w.take (i + 1) = w.take i ++ [(k, c)] := by rw [List.take_succ, hx]; rfl
    have lt := List.length_take_le i w
    refine ⟨_, rfl, fun nx hnx => ?_⟩
    have fin : ∀ M3, Kp [] M2 M3 → ((w.take i).map swD).length < sizeLine ∧ nx ((w.take i).map swD ++ [swD (k, c)]) M3 := by
      intro M3 k3
      refine ⟨small_sz (by rw [List.length_map]; omega), hnx _ _ ⟨by rw [et, List.map_append]; rfl, kp.trans k3, hi4⟩⟩
    unfold wYes
    dsimp only
    rw [if_pos rfl]
    cases c
    · refine ⟨_, rfl, ifF rfl ?_⟩
      refine frz_mk [.int k] (fun K h => h) ?_
      exact fw_make (Q := fun y M2 => ((w.take i).map swD).length < sizeLine ∧ nx ((w.take i).map swD ++ [y]) M2) hk fin
    · refine ⟨_, rfl, ifT rfl ?_⟩
      refine frz_mk [.int k] (fun K h => h) ?_
      exact bw_make (Q := fun y M2 => ((w.take i).map swD).length < sizeLine ∧ nx ((w.take i).map swD ++ [y]) M2) hk fin
  · rintro acc M2 ⟨rfl, kp, hil⟩
    rw [List.length_map, List.take_length]
    exact at_tupOf (xs := w.map swD) rfl (hQ M2 kp)
end My

set_option Elab.async false
set_option linter.all false
set_option maxRecDepth 100000
set_option maxHeartbeats 400000
namespace My
open PySem PySem.Spec L2 DL
open PyProof.Rows hiding St
/-! ### the words of the program -/
theorem is_sweep_spec {p : Int × Bool} {M : MM} {Q : D → MM → Prop} {EX : XD → MM → Prop} (hQ : Q (.bl true) M) : sis_sweep [swD p] M Q EX := by
  refine ⟨rfl, ?_⟩
  unfold wis_sweep
  refine ret_of ?_
  obtain ⟨k, c⟩ := p
  cases c
  · exact at_isi2 (t := .own 4) rfl rfl rfl hQ
  · exact at_isi2 (t := .own 5) rfl rfl rfl hQ
theorem check_word_spec {w : List (Int × Bool)} {M : MM} {Q : D → MM → Prop} {EX : XD → MM → Prop} (hQ : Q .non M) : scheck_word [.tup (w.map swD)] M Q EX := by
  refine ⟨rfl, ?_⟩
  unfold wcheck_word
  refine seq_of (if_of (not_of (tst_of ?_)))
  refine at_isi (t := .tup) rfl rfl ⟨_, rfl, ifF rfl ?_⟩
  unfold wNext
  dsimp only
  refine at_enumT ?_
  refine loop_inv (fun i δ M' => ∃ d1 d2 : Option D, δ = [some (.tup (w.map swD)), d1, d2] ∧ M' = M) ⟨none, none, rfl, rfl⟩ (fun _ _ _ _ => True.intro) ?_ ?_
  · rintro i d δ M' hi ⟨d1, d2, rfl, rfl⟩
    obtain ⟨d3, e3, rfl⟩ := enumL_mem hi
    rw [List.getElem?_map] at e3
    obtain ⟨⟨k, c⟩, hx, rfl⟩ := Option.map_eq_some_iff.mp e3
    refine ⟨_, rfl, fun nx hnx => ?_⟩
    refine if_of (not_of (tst_of ?_))
    refine call_of [swD (k, c)] (fun R h => h) (is_sweep_spec ⟨_, rfl, ifF rfl ?_⟩)
    exact hnx _ _ ⟨_, _, rfl, rfl⟩
  · rintro δ M' ⟨d1, d2, rfl, rfl⟩
    exact hQ
def gW (b : Bool) (d : D) : Option D := match d with
  | .ins 4 [.int k] => if b = false then some (.int k) else none
  | .ins 5 [.int k] => if b = true then some (.int k) else none
  | _ => none
theorem gW_sw (b : Bool) (p : Int × Bool) : gW b (swD p) = if p.2 = b then some (.int p.1) else none := by
  obtain ⟨k, c⟩ := p
  cases c <;> cases b <;> rfl
theorem word_fm (b : Bool) : ∀ w : List (Int × Bool), (w.map swD).filterMap (gW b) = (w.filterMap fun p => if p.2 = b then some p.1 else none).map D.int
  | [] => rfl
  | p :: w => by
    rw [List.map_cons, List.filterMap_cons, List.filterMap_cons, word_fm b w, gW_sw]
    by_cases h : p.2 = b
    · rw [if_pos h, if_pos h]; rfl
    · rw [if_neg h, if_neg h]
theorem next_of {E : ED} {EX : XK'} {δ : DS} {M : MM} (h : E.nx δ M) : wNext E EX δ M := h
theorem within_limit_spec {a b : Int} {M : MM} {Q : D → MM → Prop} {EX : XD → MM → Prop} (ha : 0 ≤ a ∧ a ≤ 1200) (hb : 0 ≤ b ∧ b ≤ 1200) (hQ : ∀ M', Kp [] M M' → Q (loadD a b) M') : sload_within_limit [.int a, .int b] M Q EX := by
  refine ⟨rfl, ?_⟩
  unfold wload_within_limit
  refine seq_of (if_of (tst_of (op_of ?_)))
  refine at_max2 ⟨_, rfl, ?_⟩
  refine ifF (by simp; omega) ?_
  refine next_of ?_
  show wRet (wFrzI 2 2 (wMake 2 sLoad_init [] (wCons (wV 0) (wCons (wV 1) wNil)))) { nx := fun _ M' => Q .non M', rt := Q } (fun xd _ M' => EX xd M') (startD 2 [.int a, .int b]) M
  refine ret_of ?_
  exact frz_mk [.int a, .int b] (fun K h => h) (load_make ha hb hQ)
theorem psums_spec {w : List (Int × Bool)} {M : MM} {Q : D → MM → Prop} {EX : XD → MM → Prop} (hl : w.length ≤ 1000) (hQ : Q (.tup [.int (sumOf false w), .int (sumOf true w)]) M) : ssums_of [.tup (w.map swD)] M Q EX := by
  refine ⟨rfl, ?_⟩
  unfold wsums_of
  refine seq_set (b1_of (kiS_T (lc_pure (src := none) (M := M) (gW false) True.intro _ _ (fun d hd => ?_) (by simp; omega) ?_)))
  · obtain ⟨⟨k, c⟩, hx, rfl⟩ := List.mem_map.mp hd
    refine ⟨_, rfl, ?_⟩
    cases c
    · refine ⟨fun K h => tst_of (at_isi (t := .own 4) rfl rfl ⟨_, rfl, h⟩), fun K h => ?_⟩
      exact ⟨4, _, _, rfl, rfl, rfl, at_fld (i := 0) (x := .int k) rfl rfl rfl h⟩
    · exact fun K h => tst_of (at_isi (t := .own 5) rfl rfl ⟨_, rfl, h⟩)
  rw [List.nil_append, word_fm]
  refine at_sum lints_lst ?_
  refine seq_set (b1_of (kiS_T (lc_pure (src := none) (M := M) (gW true) True.intro _ _ (fun d hd => ?_) (by simp; omega) ?_)))
  · obtain ⟨⟨k, c⟩, hx, rfl⟩ := List.mem_map.mp hd
    refine ⟨_, rfl, ?_⟩
    cases c
    · exact fun K h => tst_of (at_isi (t := .own 4) rfl rfl ⟨_, rfl, h⟩)
    · refine ⟨fun K h => tst_of (at_isi (t := .own 5) rfl rfl ⟨_, rfl, h⟩), fun K h => ?_⟩
      exact ⟨5, _, _, rfl, rfl, rfl, at_fld (i := 0) (x := .int k) rfl rfl rfl h⟩
  rw [List.nil_append, word_fm]
  refine at_sum lints_lst ?_
  refine ret_of (tup_of (cons_of (v_of (d := .int (sumOf false w)) rfl (call_cons1 (v_of (d := .int (sumOf true w)) rfl ?_)))))
  exact ⟨Nat.le_of_lt (small_sz (show 2 ≤ 1000000 by decide)), hQ⟩
theorem load_of_spec {w : List (Int × Bool)} {M : MM} {Q : D → MM → Prop} {EX : XD → MM → Prop} (hl : w.length ≤ 60) (hw : WordOk w) (hQ : ∀ M', Kp [] M M' → Q (loadD (sumOf false w) (sumOf true w)) M') : sload_of [.tup (w.map swD)] M Q EX := by
  have n1 := sumOf_nonneg hw false
  have n2 := sumOf_nonneg hw true
  refine ⟨rfl, ?_⟩
  unfold wload_of
  refine seq_drop (call_of [.tup (w.map swD)] (fun R h => h) (check_word_spec ?_))
  refine seq_asg (call_of [.tup (w.map swD)] (fun R h => h) (psums_spec (by omega) (at_asg rfl ?_)))
  refine ret_of (call_of [.int (sumOf false w), .int (sumOf true w)] (fun R h => h) ?_)
  exact within_limit_spec (by omega) (by omega) hQ
end My

set_option Elab.async false
set_option linter.all false
set_option maxRecDepth 100000
set_option maxHeartbeats 400000
namespace My
open PySem PySem.Spec L2 DL
open PyProof.Rows hiding St
theorem andV_of {wa wb : WE} {δ : DS} {M : MM} {Q : D → MM → Prop} {EX : XK'} (h : wa δ M (fun x M1 => ∃ c, x = .bl c ∧ if c = true then wb δ M1 Q EX else Q (.bl false) M1) EX) : wAndV wa wb δ M Q EX := h
theorem so_of {we : WE} {δ : DS} {M : MM} {Q : Option Int → MM → Prop} {EX : XK'} {i : Int} (h : ∀ K : D → MM → Prop, K (.int i) M → we δ M K EX) (q : Q (some i) M) : woS we δ M Q EX := h _ q
theorem c_of {d : D} {δ : DS} {M : MM} {Q : D → MM → Prop} {EX : XK'} (h : Q d M) : wC d δ M Q EX := h
theorem yes_of {δ : DS} {M : MM} {Q : Bool → MM → Prop} {EX : XK'} (h : Q true M) : wYes δ M Q EX := h
theorem notV_of {wa : WE} {δ : DS} {M : MM} {Q : D → MM → Prop} {EX : XK'} (h : wa δ M (fun x M1 => ∃ c, x = .bl c ∧ Q (.bl (!c)) M1) EX) : wNotV wa δ M Q EX := h
theorem isi_of {tb : Ty → Option Bool} {we : WE} {δ : DS} {M : MM} {Q : D → MM → Prop} {EX : XK'} (h : we δ M (kIsi tb Q) EX) : wIsi1 tb we δ M Q EX := h
theorem lenO_of {tb : List (Nat × SpD)} {we : WE} {δ : DS} {M : MM} {Q : D → MM → Prop} {EX : XK'} (h : we δ M (kLenO tb δ Q EX) EX) : wLenO tb we δ M Q EX := h
theorem fld_of {cs : List (Nat × Nat)} {we : WE} {δ : DS} {M : MM} {Q : D → MM → Prop} {EX : XK'} (h : we δ M (kFld cs Q) EX) : wFld cs we δ M Q EX := h
theorem cut_of {wo : WE} {wl wh : WO} {δ : DS} {M : MM} {Q : D → MM → Prop} {EX : XK'} (h : wo δ M (fun d M1 => wl δ M1 (fun lo M2 => wh δ M2 (fun hi M3 => kCut Q d lo hi M3) EX) EX) EX) : wCut wo wl wh δ M Q EX := h
theorem cutD_hi (ds : List D) (c : Nat) : DL.cutD ds none (some (c : Int)) = ds.take c := by
  unfold DL.cutD
  rw [HT.sIx_nat]
  show (ds.drop 0).take (min c ds.length - 0) = _
  rw [List.drop_zero, Nat.sub_zero]
  by_cases h : c ≤ ds.length
  · rw [Nat.min_eq_left h]
  · rw [Nat.min_eq_right (by omega), List.take_length, List.take_of_length_le (by omega)]
theorem cutD_lo (ds : List D) (c : Nat) : DL.cutD ds (some (c : Int)) none = ds.drop c := by
  unfold DL.cutD
  rw [HT.sIx_nat]
  show (ds.drop (min c ds.length)).take (ds.length - min c ds.length) = _
  rw [List.take_of_length_le (by rw [List.length_drop]; omega)]
  by_cases h : c ≤ ds.length
  · rw [Nat.min_eq_left h]
  · rw [Nat.min_eq_right (by omega), List.drop_length, List.drop_of_length_le (by omega)]
theorem at_cutT {Q : D → MM → Prop} {xs : List D} {lo hi : Option Int} {M : MM} (q : Q (.tup (DL.cutD xs lo hi)) M) : kCut Q (.tup xs) lo hi M := by
  unfold kCut; exact q
theorem at_cutLs {Q : D → MM → Prop} {xs : List D} {lo hi : Option Int} {M : MM} (q : Q (.lst (DL.cutD xs lo hi)) M) : kCut Q (.lst xs) lo hi M := by
  unfold kCut; exact q
/-! ### rows -/
theorem perm_sorted {xs ys : List Int} (p : ys.Perm xs) (s : ys.Pairwise (· ≤ ·)) : xs = ys ↔ xs.Pairwise (· ≤ ·) := by
  constructor
  · intro e; rw [e]; exact s
  · intro h
    exact (p.symm.eq_of_pairwise (fun a b _ _ h1 h2 => Int.le_antisymm h1 h2) h s)
theorem p_numbers {i : Nat} {xs : List Int} {δ : DS} {M : MM} {Q : D → MM → Prop} {EX : XK'} (h : δ[i]? = some (some (rowD xs))) (hQ : Q (.tup (xs.map D.int)) M) : wProp [(6, sRow_numbers)] (wV i) δ M Q EX :=
  prop_of (v_of h ⟨6, _, _, rfl, rfl, row_numbers hQ⟩)
theorem load_forward {a b : Int} {M : MM} {Q : D → MM → Prop} {EX : XD → MM → Prop} (hQ : Q (.int a) M) : sLoad_forward [loadD a b] M Q EX := ⟨rfl, at_fld (i := 0) (x := .int a) rfl rfl rfl hQ⟩
theorem load_backward {a b : Int} {M : MM} {Q : D → MM → Prop} {EX : XD → MM → Prop} (hQ : Q (.int b) M) : sLoad_backward [loadD a b] M Q EX := ⟨rfl, at_fld (i := 1) (x := .int b) rfl rfl rfl hQ⟩
theorem p_forward {i : Nat} {a b : Int} {δ : DS} {M : MM} {Q : D → MM → Prop} {EX : XK'} (h : δ[i]? = some (some (loadD a b))) (hQ : Q (.int a) M) : wProp [(2, sLoad_forward)] (wV i) δ M Q EX :=
  prop_of (v_of h ⟨2, _, _, rfl, rfl, load_forward hQ⟩)
theorem p_backward {i : Nat} {a b : Int} {δ : DS} {M : MM} {Q : D → MM → Prop} {EX : XK'} (h : δ[i]? = some (some (loadD a b))) (hQ : Q (.int b) M) : wProp [(2, sLoad_backward)] (wV i) δ M Q EX :=
  prop_of (v_of h ⟨2, _, _, rfl, rfl, load_backward hQ⟩)
theorem map_take (c : Nat) (xs : List Int) : (xs.map D.int).take c = (xs.take c).map D.int := List.map_take.symm
theorem map_drop (c : Nat) (xs : List Int) : (xs.map D.int).drop c = (xs.drop c).map D.int := List.map_drop.symm
theorem frz_mk2 {c n : Nat} {sp : SpD} {wa : WA} {δ : DS} {M : MM} {Q : D → MM → Prop} {EX : XK'} (h : wa δ M (fun ds M1 => NewI c n sp ds M1 Q (fun xd M2 => EX xd δ M2)) EX) : wFrzI c n (wMake c sp [] wa) δ M Q EX := by
  have e : (fun (ds : List D) (M1 : MM) => ∀ p, M1 p = none → sp (.raw (.ref p) :: (ds ++ [])) (updM M1 p (.ins c [])) (fun d M2 => d = .non ∧ ∃ q fs, D.raw (.ref p) = .raw (.ref q) ∧ M2 q = some (.ins c fs) ∧ fs.length = n ∧ Q (.ins c fs) (delM M2 q)) (fun xd M2 => EX xd δ M2)) = fun ds M1 => NewI c n sp ds M1 Q (fun xd M2 => EX xd δ M2) := by
    funext ds M1; rw [List.append_nil]
  show wa δ M (fun (ds : List D) (M1 : MM) => ∀ p, M1 p = none → sp (.raw (.ref p) :: (ds ++ [])) (updM M1 p (.ins c [])) (fun d M2 => d = .non ∧ ∃ q fs, D.raw (.ref p) = .raw (.ref q) ∧ M2 q = some (.ins c fs) ∧ fs.length = n ∧ Q (.ins c fs) (delM M2 q)) (fun xd M2 => EX xd δ M2)) EX
  rw [e]
  exact h
theorem plus_int {i j : Int} {M : MM} {Q : D → MM → Prop} (h : Q (.int (i + j)) M) : wPlus (.int i) (.int j) M Q := h
theorem sub_int {i j : Int} {M : MM} {Q : D → MM → Prop} (h : Q (.int (i - j)) M) : wSub (.int i) (.int j) M Q := h
theorem lst_of {wa : WA} {δ : DS} {M : MM} {Q : D → MM → Prop} {EX : XK'} (h : wa δ M (fun ds M1 => ds.length ≤ sizeLine ∧ Q (.lst ds) M1) EX) : wLst wa δ M Q EX := h
section
variable {we wf wg : WE} {x y z : D} {δ : DS} {M : MM} {Q : D → MM → Prop} {EX : XK'}
abbrev Ev (we : WE) (x : D) (δ : DS) (M : MM) (EX : XK') : Prop := ∀ K : D → MM → Prop, K x M → we δ M K EX
theorem tup0 (h : Q (.tup []) M) : wTup wNil δ M Q EX := ⟨Nat.zero_le _, h⟩
theorem tup1 (h1 : Ev we x δ M EX) (h : Q (.tup [x]) M) : wTup (wCons we wNil) δ M Q EX := tup_of (call_cons1 (h1 _ ⟨Nat.le_of_lt (small_sz (show 1 ≤ 1000000 by decide)), h⟩))
theorem tup2 (h1 : Ev we x δ M EX) (h2 : Ev wf y δ M EX) (h : Q (.tup [x, y]) M) : wTup (wCons we (wCons wf wNil)) δ M Q EX := tup_of (cons_of (h1 _ (call_cons1 (h2 _ ⟨Nat.le_of_lt (small_sz (show 2 ≤ 1000000 by decide)), h⟩))))
theorem tup3 (h1 : Ev we x δ M EX) (h2 : Ev wf y δ M EX) (h3 : Ev wg z δ M EX) (h : Q (.tup [x, y, z]) M) : wTup (wCons we (wCons wf (wCons wg wNil))) δ M Q EX := tup_of (cons_of (h1 _ (cons_of (h2 _ (call_cons1 (h3 _ ⟨Nat.le_of_lt (small_sz (show 3 ≤ 1000000 by decide)), h⟩))))))
theorem lst2 (h1 : Ev we x δ M EX) (h2 : Ev wf y δ M EX) (h : Q (.lst [x, y]) M) : wLst (wCons we (wCons wf wNil)) δ M Q EX := lst_of (cons_of (h1 _ (call_cons1 (h2 _ ⟨Nat.le_of_lt (small_sz (show 2 ≤ 1000000 by decide)), h⟩))))
theorem ev_c {d : D} : Ev (wC d) d δ M EX := fun K h => h
theorem ev_v {i : Nat} (hd : δ[i]? = some (some x)) : Ev (wV i) x δ M EX := fun K h => v_of hd h
end
theorem cat_lst {xs ys : List D} {M : MM} {Q : D → MM → Prop} (hl : xs.length + ys.length ≤ 1000000) (h : Q (.lst (xs ++ ys)) M) : wPlus (.lst xs) (.lst ys) M Q := by
  show wCat _ _ M Q
  exact at_cat rfl rfl (Nat.le_of_lt (small_sz hl)) h
theorem sho_bl (b : Bool) : Sho (.bool b) := by cases b <;> exact ⟨by decide +kernel, by decide +kernel, by decide +kernel, by decide +kernel⟩
theorem cm_of {c : Nat} {sp : SpD} {wa : WA} {δ : DS} {M : MM} {Q : D → MM → Prop} {EX : XK'} (h : wa δ M (fun ds M1 => sp (.cls c :: ds) M1 Q (fun xd M2 => EX xd δ M2)) EX) : wCm c sp wa δ M Q EX := h
theorem mk_load {wx wy : WE} {a b : Int} {δ : DS} {M : MM} {Q : D → MM → Prop} {EX : XK'} (ha : 0 ≤ a ∧ a ≤ 1200) (hb : 0 ≤ b ∧ b ≤ 1200) (hx : Ev wx (.int a) δ M EX) (hy : Ev wy (.int b) δ M EX) (h : ∀ M', Kp [] M M' → Q (loadD a b) M') : wFrzI 2 2 (wMake 2 sLoad_init [] (wCons wx (wCons wy wNil))) δ M Q EX :=
  frz_mk2 (cons_of (hx _ (call_cons1 (hy _ (load_make (Q := Q) ha hb h)))))
theorem mk_row {we : WE} {xs : List Int} {δ : DS} {M : MM} {Q : D → MM → Prop} {EX : XK'} (hr : RowOk 20 xs) (hw : Ev we (.lst (xs.map D.int)) δ M EX) (h : ∀ M', Kp [] M M' → Q (rowD xs) M') : wCm 6 sRow_of (wCons (wB wTupOf (wCons we wNil)) wNil) δ M Q EX :=
  cm_of (call_cons1 (b1_of (hw _ (at_tupOf (xs := xs.map D.int) rfl (row_of hr h)))))
theorem repr_bl {c : Bool} {M : MM} {K : D → MM → Prop} (h : K (.str (PyData.bool c).shown) M) : wRepr [.bl c] M K := at_repr (p := .bool c) (by unfold py; rfl) (sho_bl c) h
theorem ne_strs {u v : Str} {M : MM} {Q : D → MM → Prop} (e : u = v) (h : Q (.bl false) M) : wNe2 (.str u) (.str v) M Q := by
  show Q (.bl (!decide (u = v))) M
  rw [decide_eq_true e]; exact h
theorem is_b {n a b : Bool} {M : MM} {Q : D → MM → Prop} (h : Q (.bl (if n = true then !decide (a = b) else decide (a = b))) M) : wIsB n (.bl a) (.bl b) M Q := h
end My

set_option Elab.async false
set_option linter.all false
set_option maxRecDepth 100000
set_option maxHeartbeats 1000000
namespace My
open PySem PySem.Spec L2 DL
open PyProof.Rows hiding St
theorem row_eq {xs ys : List Int} {M : MM} {Q : D → MM → Prop} {EX : XD → MM → Prop} (hQ : Q (.bl (decide (xs = ys))) M) : sRow_eq [rowD xs, rowD ys] M Q EX := by
  refine ⟨rfl, ?_⟩
  refine at_isi (t := .own 6) rfl rfl ⟨_, rfl, ifT rfl ?_⟩
  refine at_fld (i := 0) (x := .tup (xs.map D.int)) rfl rfl rfl ?_
  refine at_fld (i := 0) (x := .tup (ys.map D.int)) rfl rfl rfl ?_
  refine at_eq (py_tup (ns := xs)) (py_tup (ns := ys)) (shaped_intsT _) (shaped_intsT _) ?_
  rw [eqv_tup]
  exact hQ
end My

set_option Elab.async false
set_option linter.all false
set_option maxRecDepth 100000
set_option maxHeartbeats 1000000
namespace My
open PySem PySem.Spec L2 DL
open PyProof.Rows hiding St
theorem sumOf_perm {b : Bool} {u w : List (Int × Bool)} (p : u.Perm w) : sumOf b u = sumOf b w := by
  induction p with
  | nil => rfl
  | cons x _ ih => rw [sumOf_cons, sumOf_cons, ih]
  | swap x y l => simp only [sumOf_cons]; omega
  | trans _ _ h1 h2 => exact h1.trans h2
theorem sumOf_app (b : Bool) (u : List (Int × Bool)) : ∀ w : List (Int × Bool), sumOf b (w ++ u) = sumOf b w + sumOf b u
  | [] => (Int.zero_add _).symm
  | p :: w => by rw [List.cons_append, sumOf_cons, sumOf_cons, sumOf_app b u w]; omega
theorem sumOf_one (b : Bool) (p : Int × Bool) : sumOf b [p] = if p.2 = b then p.1 else 0 := by
  rw [sumOf_cons]; exact Int.add_zero _
theorem WordOk.perm {u w : List (Int × Bool)} (h : WordOk w) (p : u.Perm w) : WordOk u := fun q hq => h q (p.mem_iff.mp hq)
theorem WordOk.snoc {w : List (Int × Bool)} {p : Int × Bool} (h : WordOk w) (hp : 1 ≤ p.1 ∧ p.1 ≤ 20) : WordOk (w ++ [p]) := fun q hq => by
  rcases List.mem_append.mp hq with z | z
  · exact h q z
  · rw [List.mem_singleton.mp z]; exact hp
/-- u has the load of w -/
structure Like (w u : List (Int × Bool)) : Prop where
  ok : WordOk u
  sm : ∀ b, sumOf b u = sumOf b w
theorem Like.perm {w u v : List (Int × Bool)} (h : Like w u) (p : v.Perm u) : Like w v := ⟨h.ok.perm p, fun b => (sumOf_perm p).trans (h.sm b)⟩
theorem drop_of {we : WE} {E : ED} {EX : XK'} {δ : DS} {M : MM} (h : we δ M (fun _ M1 => E.nx δ M1) EX) : wDrop we E EX δ M := h
theorem wm_of {w : Addr → List D → List D → MM → (D → MM → Prop) → Prop} {i : Nat} {wa : WA} {a : Addr} {xs : List D} {δ : DS} {M : MM} {Q : D → MM → Prop} {EX : XK'} (h : δ[i]? = some (some (.raw (.ref a)))) (h2 : M a = some (.lst xs)) (q : wa δ M (fun ds M2 => onL w (.raw (.ref a)) ds M2 Q) EX) : wM w (wV i) wa δ M Q EX :=
  v_of h ⟨⟨_, _, rfl, h2⟩, q⟩
theorem at_listOfM {Q : D → MM → Prop} {M : MM} {d : D} {xs : List D} (h : seqOf M d = some xs) (q : ∀ p, M p = none → Q (.raw (.ref p)) (updM M p (.lst xs))) : wListOfM [d] M Q := by
  unfold wListOfM; dsimp only; rw [h]; exact q
theorem lstM_of {δ : DS} {M : MM} {Q : D → MM → Prop} {EX : XK'} (h : ∀ p, M p = none → Q (.raw (.ref p)) (updM M p (.lst []))) : wLstM wNil δ M Q EX := ⟨Nat.zero_le _, h⟩
theorem mapE {α β : Type} (f : α → β) : ∀ (xs : List α) (i : Nat), (xs.map f).eraseIdx i = (xs.eraseIdx i).map f
  | [], _ => rfl
  | _ :: _, 0 => rfl
  | x :: xs, i + 1 => by rw [List.map_cons, List.eraseIdx_cons_succ, mapE f xs i]; rfl
theorem er_perm {α : Type} : ∀ (l : List α) (i : Nat) (x : α), l[i]? = some x → (x :: l.eraseIdx i).Perm l
  | [], _, _, h => by simp at h
  | y :: l, 0, x, h => by
    simp only [List.getElem?_cons_zero, Option.some.injEq] at h
    rw [h]; exact .refl _
  | y :: l, i + 1, x, h => by
    rw [List.getElem?_cons_succ] at h
    rw [List.eraseIdx_cons_succ]
    exact (List.Perm.swap y x _).trans ((er_perm l i x h).cons y)
/-! ### the items in another order -/
theorem mixed_up_spec {m g : Addr} {f : Nat} {w : List (Int × Bool)} {M : MM} {Q : D → MM → Prop} {EX : XD → MM → Prop} (hd : Dr m g (f + 100) M) (hl : w.length ≤ 90)
    (hQ : ∀ (u : List (Int × Bool)) M', u.Perm w → Dr m g f M' → Kp [m, g] M M' → Q (.lst (u.map prD)) M') : s_law_mixed_up [.raw (.ref m), .lst (w.map prD)] M Q EX := by
  refine ⟨rfl, ?_⟩
  unfold w_law_mixed_up
  refine seq_par (b1_of (v_of (d := .lst (w.map prD)) rfl (at_listOfM (xs := w.map prD) rfl fun q hq => ?_)))
  have l0 := (Loc.start hd).new (xs := w.map prD) hq
  refine lstM_of fun p hp => ?_
  have l1 := l0.new (xs := []) hp
  refine seq_of (for_of (r1_of (b1_of (v_of (d := .lst (w.map prD)) rfl (at_len (xs := w.map prD) rfl ⟨by rw [List.length_map]; omega, ?_⟩)))))
  refine loop_inv (fun i δ M' => ∃ (ys xs : List (Int × Bool)) (d2 : Option D), δ = [some (.raw (.ref m)), some (.lst (w.map prD)), d2, some (.raw (.ref q)), some (.raw (.ref p))] ∧ (xs ++ ys).Perm w ∧ xs.length = i ∧ i ≤ w.length ∧ Loc m g (f + (100 - i)) [(q, ys.map prD), (p, xs.map prD)] M M')
    ⟨w, [], none, rfl, .refl _, rfl, Nat.zero_le _, l1⟩ (fun _ _ _ _ => True.intro) ?_ ?_
  · rintro i d δ M' hi ⟨ys, xs, d2, rfl, hp, hx, hiw, l⟩
    obtain ⟨hi3, rfl⟩ := rngL_get hi
    have hi4 : i < w.length := by simpa using hi3
    have hlen := hp.length_eq
    rw [List.length_append] at hlen
    refine ⟨_, rfl, fun nx hnx => ?_⟩
    have ly := l.at (i := 0) rfl
    have lx := l.at (i := 1) rfl
    refine ⟨⟨_, _, rfl, lx⟩, ⟨_, _, rfl, ly⟩, at_len (seq_mut ly) ?_⟩
    rw [List.length_map]
    refine draw_spec (f := f + (100 - (i + 1))) (l.dr.le (by omega)) (by omega) fun r M2 r0 r1 dr2 sm2 => ?_
    have l2 := l.draw dr2 sm2
    have rl : r.toNat < ys.length := by omega
    obtain ⟨y, ey⟩ : ∃ y, ys[r.toNat]? = some y := ⟨_, List.getElem?_eq_getElem rl⟩
    refine at_popAt (d := prD y) (l2.at (i := 0) rfl) r0 (by rw [List.length_map]; omega) (by rw [List.length_map]; omega) (by rw [List.getElem?_map, ey]; rfl) ?_
    rw [mapE]
    have l3 := l2.set (i := 0) (ys := (ys.eraseIdx r.toNat).map prD) rfl
    refine at_append (l3.at (i := 1) rfl) (by rw [List.length_map]; omega) ?_
    have e1 : xs.map prD ++ [prD y] = (xs ++ [y]).map prD := by rw [List.map_append]; rfl
    rw [e1]
    have l4 := l3.set (i := 1) (ys := (xs ++ [y]).map prD) rfl
    have pe : (y :: ys.eraseIdx r.toNat).Perm ys := er_perm _ _ _ ey
    refine hnx _ _ ⟨ys.eraseIdx r.toNat, xs ++ [y], _, rfl, ?_, by simp [hx], by omega, l4⟩
    rw [List.append_assoc]
    exact (pe.append_left xs).trans hp
  · rintro δ M' ⟨ys, xs, d2, rfl, hp, hx, hiw, l⟩
    rw [rngL_len, List.length_map, Int.toNat_natCast] at hx
    have hlen := hp.length_eq
    rw [List.length_append] at hlen
    have e : ys = [] := List.eq_nil_of_length_eq_zero (by omega)
    subst e
    rw [List.append_nil] at hp
    refine at_frz (l.at (i := 1) rfl) ?_
    have l2 := (l.del (i := 1) rfl)
    exact hQ xs _ hp (l2.dr.le (by omega)) (l2.kp)
end My

set_option Elab.async false
set_option linter.all false
set_option maxRecDepth 100000
set_option maxHeartbeats 1000000
namespace My
open PySem PySem.Spec L2 DL
open PyProof.Rows hiding St
theorem b_of {w : WR1} {wa : WA} {δ : DS} {M : MM} {Q : D → MM → Prop} {EX : XK'} (h : wa δ M (fun ds M1 => w ds M1 Q) EX) : wB w wa δ M Q EX := h
theorem iS_of {we : WE} {δ : DS} {M : MM} {Q : IT → MM → Prop} {EX : XK'} (h : we δ M (kiS Q) EX) : wiS we δ M Q EX := h
theorem rev_of {wo : WE} {δ : DS} {M : MM} {Q : D → MM → Prop} {EX : XK'} (h : wo δ M (kRev Q) EX) : wRev wo δ M Q EX := h
theorem set_of {i : Nat} {wa : WE} {E : ED} {EX : XK'} {δ : DS} {M : MM} (h : wa δ M (fun a M1 => E.nx (δ.set i (some a)) M1) EX) : wSet i wa E EX δ M := h
theorem eq_int {i j : Int} {M : MM} {Q : D → MM → Prop} (h : Q (.bl (decide (i = j))) M) : wEq2 (.int i) (.int j) M Q := h
theorem eq_bl {a b : Bool} {M : MM} {Q : D → MM → Prop} (h : Q (.bl (decide (a = b))) M) : wEq2 (.bl a) (.bl b) M Q := by
  show wEq (.bl a) (.bl b) M Q
  refine at_eq (p := .bool a) (q := .bool b) (by unfold py; rfl) (by unfold py; rfl) (by cases a <;> decide +kernel) (by cases b <;> decide +kernel) ?_
  rw [show PyData.eqv (.bool a) (.bool b) = decide (a = b) from by cases a <;> cases b <;> decide +kernel]
  exact h
abbrev WL (w : List (Int × Bool)) : D := .lst (w.map prD)
/-! ### a word whose hands are as great as they can be -/
theorem way_sum {w : List (Int × Bool)} {b : Bool} {d1 d3 d4 d5 d6 : Option D} {M : MM} {Q : D → MM → Prop} {EX : XK'} (hl : w.length ≤ 1000) (hQ : Q (.int (sumOf b w)) M) :
    wB wSum (wCons (wLc (wiS (wV 0)) (bTup [5, 6]) (wTst (wOp wEq2 (wV 6) (wV 2))) (wV 5) [5, 6]) wNil) [some (WL w), d1, some (.bl b), d3, d4, d5, d6] M Q EX := by
  refine b1_of ?_
  refine at_iterF' (lc_pure (src := none) (M := M) (gS b) True.intro _ _ (fun d hd => ?_) (by simp; omega) ?_)
  · obtain ⟨⟨k, c⟩, hx, rfl⟩ := List.mem_map.mp hd
    refine ⟨_, rfl, ?_⟩
    cases b <;> cases c
    · exact ⟨fun K h => tst_of (op_of (v_of (d := .bl false) rfl (v_of (d := .bl false) rfl (eq_bl ⟨_, rfl, h⟩)))), fun K h => h⟩
    · exact fun K h => tst_of (op_of (v_of (d := .bl true) rfl (v_of (d := .bl false) rfl (eq_bl ⟨_, rfl, h⟩))))
    · exact fun K h => tst_of (op_of (v_of (d := .bl false) rfl (v_of (d := .bl true) rfl (eq_bl ⟨_, rfl, h⟩))))
    · exact ⟨fun K h => tst_of (op_of (v_of (d := .bl true) rfl (v_of (d := .bl true) rfl (eq_bl ⟨_, rfl, h⟩)))), fun K h => h⟩
  rw [List.nil_append, show (w.map prD).filterMap (gS b) = _ from sums_fm b w]
  exact at_sum lints_lst hQ
theorem joined_spec {m g : Addr} {f : Nat} {w : List (Int × Bool)} {M : MM} {Q : D → MM → Prop} {EX : XD → MM → Prop} (hd : Dr m g f M) (hl : w.length ≤ 20) (hw : WordOk w)
    (hQ : ∀ (u : List (Int × Bool)) M', Like w u → u.length ≤ 40 → Dr m g f M' → Kp [m, g] M M' → Q (WL u) M') : s_law_joined [WL w] M Q EX := by
  refine ⟨rfl, ?_⟩
  unfold w_law_joined
  refine seq_set (lstM_of fun p hp => ?_)
  have l0 := (Loc.start hd).new (xs := []) hp
  refine seq_of (for_of (iS_of (tup2 ev_c ev_c (kiS_T ?_))))
  refine loop_inv (fun i δ M' => ∃ (v : List (Int × Bool)) (d2 d3 d4 d5 d6 : Option D), δ = [some (WL w), some (.raw (.ref p)), d2, d3, d4, d5, d6] ∧ WordOk v ∧ sumOf false v = (if 1 ≤ i then sumOf false w else 0) ∧ sumOf true v = (if 2 ≤ i then sumOf true w else 0) ∧
      v.length ≤ i * w.length ∧ i ≤ 2 ∧ Loc m g f [(p, v.map prD)] M M')
    ⟨[], none, none, none, none, none, rfl, (fun _ h => nomatch h), rfl, rfl, Nat.zero_le _, by decide, l0⟩ (fun _ _ _ _ => True.intro) ?_ ?_
  · rintro i d δ M' hi ⟨v, d2, d3, d4, d5, d6, rfl, hv, sf, st, lv, hi2, l⟩
    have hi4 : i < 2 := (List.getElem?_eq_some_iff.mp hi).1
    obtain ⟨c, rfl, ec⟩ : ∃ c : Bool, d = .bl c ∧ ((c = false ∧ i = 0) ∨ (c = true ∧ i = 1)) := by
      match i, hi4, hi with
      | 0, _, hi => exact ⟨false, (Option.some.inj hi).symm, .inl ⟨rfl, rfl⟩⟩
      | 1, _, hi => exact ⟨true, (Option.some.inj hi).symm, .inr ⟨rfl, rfl⟩⟩
    refine ⟨_, rfl, fun nx hnx => ?_⟩
    refine seq_set (way_sum (by omega) ?_)
    have z0 : sumOf c v = 0 := by
      rcases ec with ⟨rfl, rfl⟩ | ⟨rfl, rfl⟩
      · exact sf
      · exact st
    have nn := sumOf_nonneg hw c
    refine for_of (r1_of (b1_of (v_of (d := WL w) rfl (at_len (xs := w.map prD) rfl ⟨by rw [List.length_map]; omega, ?_⟩))))
    refine loop_inv (fun j δ M' => ∃ (u : List (Int × Bool)) (r : Int) (d4 d5 d6 : Option D), δ = [some (WL w), some (.raw (.ref p)), some (.bl c), some (.int r), d4, d5, d6] ∧ WordOk u ∧ 0 ≤ r ∧ r + 20 * (j : Int) ≤ max (20 * (j : Int)) (20 * (w.length : Int)) ∧
        sumOf c u + r = sumOf c w ∧ sumOf (!c) u = sumOf (!c) v ∧ u.length ≤ v.length + j ∧ j ≤ w.length ∧ Loc m g f [(p, u.map prD)] M M')
      ⟨v, sumOf c w, d4, d5, d6, rfl, hv, nn.1, by omega, by omega, rfl, by omega, Nat.zero_le _, l⟩ (fun _ _ _ _ => True.intro) ?_ ?_
    · rintro j d δ M' hj ⟨u, r, d4, d5, d6, rfl, hu, r0, r1, su, sn, lu, hjw, l⟩
      obtain ⟨hj3, rfl⟩ := rngL_get hj
      have hj4 : j < w.length := by simpa using hj3
      refine ⟨_, rfl, fun nx2 hnx2 => ?_⟩
      refine if_of (tst_of (op_of (v_of (d := .int r) rfl (c_of ⟨_, rfl, ?_⟩))))
      by_cases hr : r > 0
      · refine ifT (decide_eq_true hr) ?_
        refine seq_drop (wm_of rfl (l.at (i := 0) rfl) (call_cons1 (tup_of (cons_of (b_of (cons_of (c_of (call_cons1 (v_of (d := .int r) rfl (at_min2 ?_))))))))))
        refine call_cons1 (v_of (d := .bl c) rfl ⟨Nat.le_of_lt (small_sz (show 2 ≤ 1000000 by decide)), ?_⟩)
        refine at_append (l.at (i := 0) rfl) (by rw [List.length_map]; have : i * w.length ≤ 2 * w.length := Nat.mul_le_mul_right _ hi2; omega) ?_
        have e1 : u.map prD ++ [D.tup [.int (min 20 r), .bl c]] = (u ++ [(min 20 r, c)]).map prD := by rw [List.map_append]; rfl
        rw [e1]
        have l2 := l.set (i := 0) (ys := (u ++ [(min 20 r, c)]).map prD) rfl
        refine set_of (op_of (v_of (d := .int r) rfl (b_of (cons_of (c_of (call_cons1 (v_of (d := .int r) rfl (at_min2 (sub_int ?_)))))))))
        have e2 : sumOf c (u ++ [(min 20 r, c)]) = sumOf c u + min 20 r := by rw [sumOf_app, sumOf_one]; dsimp only; rw [if_pos rfl]
        have e3 : sumOf (!c) (u ++ [(min 20 r, c)]) = sumOf (!c) u := by
          rw [sumOf_app, sumOf_one]; dsimp only
          rw [if_neg (by cases c <;> decide), Int.add_zero]
        refine hnx2 _ _ ⟨u ++ [(min 20 r, c)], r - min 20 r, _, _, _, rfl, hu.snoc (by dsimp only; omega), by omega, by omega, by rw [e2]; omega, by rw [e3]; exact sn, by simp; omega, hj4, l2⟩
      · refine ifF (decide_eq_false hr) (next_of ?_)
        exact hnx2 _ _ ⟨u, r, _, _, _, rfl, hu, r0, by omega, su, sn, by omega, hj4, l⟩
    · rintro δ M' ⟨u, r, d4, d5, d6, rfl, hu, r0, r1, su, sn, lu, hjw, l⟩
      rw [rngL_len, List.length_map, Int.toNat_natCast] at r1 lu
      have rz : r = 0 := by omega
      subst rz
      rw [Int.add_zero] at su
      have lm : (i + 1) * w.length = i * w.length + w.length := Nat.succ_mul _ _
      rcases ec with ⟨rfl, rfl⟩ | ⟨rfl, rfl⟩
      · exact hnx _ _ ⟨u, _, _, _, _, _, rfl, hu, su, sn.trans st, by omega, by decide, l⟩
      · exact hnx _ _ ⟨u, _, _, _, _, _, rfl, hu, sn.trans sf, su, by omega, by decide, l⟩
  · rintro δ M' ⟨v, d2, d3, d4, d5, d6, rfl, hv, sf, st, lv, hi2, l⟩
    refine at_frz (l.at (i := 0) rfl) ?_
    have l2 := l.del (i := 0) rfl
    refine hQ v _ ⟨hv, fun b => ?_⟩ (by have : v.length ≤ 2 * w.length := lv; omega) l2.dr l2.kp
    cases b
    · exact sf
    · exact st
/-! ### sizes that are parted -/
theorem parted_spec {m g : Addr} {f : Nat} {w : List (Int × Bool)} {M : MM} {Q : D → MM → Prop} {EX : XD → MM → Prop} (hd : Dr m g (f + 80) M) (hl : w.length ≤ 20) (hw : WordOk w)
    (hQ : ∀ (u : List (Int × Bool)) M', Like w u → u.length ≤ 60 → Dr m g f M' → Kp [m, g] M M' → Q (WL u) M') : s_law_parted [.raw (.ref m), WL w] M Q EX := by
  refine ⟨rfl, ?_⟩
  unfold w_law_parted
  refine seq_set (lstM_of fun p hp => ?_)
  have l0 := (Loc.start hd).new (xs := []) hp
  refine seq_of (for_of (iS_of (v_of (d := WL w) rfl (at_iterF' ?_))))
  refine loop_inv (fun i δ M' => ∃ (v : List (Int × Bool)) (d3 d4 d5 d6 : Option D), δ = [some (.raw (.ref m)), some (WL w), some (.raw (.ref p)), d3, d4, d5, d6] ∧ WordOk v ∧ (∀ b, sumOf b v = sumOf b (w.take i)) ∧ v.length ≤ 3 * i ∧ i ≤ w.length ∧ Loc m g (f + 4 * (w.length - i)) [(p, v.map prD)] M M')
    ⟨[], none, none, none, none, rfl, (fun _ h => nomatch h), fun _ => rfl, Nat.zero_le _, Nat.zero_le _, l0.le (by omega)⟩ (fun _ _ _ _ => True.intro) ?_ ?_
  · rintro i d δ M' hi ⟨v, d3, d4, d5, d6, rfl, hv, sv, lv, hiw, l⟩
    rw [List.getElem?_map] at hi
    obtain ⟨⟨k, c⟩, hx, rfl⟩ := Option.map_eq_some_iff.mp hi
    have hi4 : i < w.length := (List.getElem?_eq_some_iff.mp hx).1
    have hk : 1 ≤ k ∧ k ≤ 20 := hw _ (List.mem_of_getElem? hx)
    have et : w.take (i + 1) = w.take i ++ [(k, c)] := by rw [List.take_succ, hx]; rfl
    have es : ∀ b, sumOf b (w.take (i + 1)) = sumOf b (w.take i) + (if c = b then k else 0) := fun b => by rw [et, sumOf_app, sumOf_one]
    refine ⟨_, rfl, fun nx hnx => ?_⟩
    refine seq_of (for_r1 (by decide) ?_)
    refine loop_inv (fun j δ M' => ∃ (u : List (Int × Bool)) (r : Int) (d5 d6 : Option D), δ = [some (.raw (.ref m)), some (WL w), some (.raw (.ref p)), some (.int r), some (.bl c), d5, d6] ∧ (1 ≤ r ∧ r ≤ 20) ∧ WordOk u ∧ (∀ b, sumOf b u + (if c = b then r else 0) = sumOf b (w.take (i + 1))) ∧
        u.length ≤ v.length + j ∧ j ≤ 2 ∧ Loc m g (f + 4 * (w.length - i) - 2 * j) [(p, u.map prD)] M M')
      ⟨v, k, d5, d6, rfl, hk, hv, fun b => by rw [es, sv], by omega, by decide, l⟩ (fun _ _ _ _ => True.intro) ?_ ?_
    · rintro j d δ M' hj ⟨u, r, d5, d6, rfl, hr, hu, su, lu, hj2, l⟩
      have hj4 : j < 2 := (List.getElem?_eq_some_iff.mp hj).1
      refine ⟨_, rfl, fun nx2 hnx2 => ?_⟩
      have stay : ∀ (d5 d6 : Option D) M2, Loc m g (f + 4 * (w.length - i) - 2 * (j + 1)) [(p, u.map prD)] M M2 → nx2 [some (.raw (.ref m)), some (WL w), some (.raw (.ref p)), some (.int r), some (.bl c), d5, d6] M2 :=
        fun d5 d6 M2 l2 => hnx2 _ _ ⟨u, r, _, _, rfl, hr, hu, su, by omega, hj4, l2⟩
      refine if_of (and_of (tst_of (op_of (v_of (d := .int r) rfl (c_of ⟨_, rfl, ?_⟩)))))
      by_cases h1 : r > 1
      · refine ifT (decide_eq_true h1) ?_
        refine tst_of (op_of (call_of [.raw (.ref m), .int 2] (fun R h => h) ?_))
        refine draw_spec (f := f + 4 * (w.length - i) - 2 * j - 1) (l.dr.le (by omega)) (by decide) fun z M2 z0 z1 dr2 sm2 => ?_
        have l2 := l.draw dr2 sm2
        refine c_of (eq_int ⟨_, rfl, ?_⟩)
        by_cases hz : z = 0
        · refine ifT (decide_eq_true hz) ?_
          refine seq_set (op_of (c_of ?_))
          refine call_of [.raw (.ref m), .int (r - 1)] (fun R h => h) ?_
          refine draw_spec (f := f + 4 * (w.length - i) - 2 * (j + 1)) (l2.dr.le (by omega)) (by omega) fun t M3 t0 t1 dr3 sm3 => plus_int ?_
          have l3 := l2.draw dr3 sm3
          refine seq_drop (wm_of rfl (l3.at (i := 0) rfl) (call_cons1 (tup2 (ev_v (x := .int (1 + t)) rfl) (ev_v (x := .bl c) rfl) ?_)))
          refine at_append (l3.at (i := 0) rfl) (by rw [List.length_map]; omega) ?_
          have e1 : u.map prD ++ [D.tup [.int (1 + t), .bl c]] = (u ++ [(1 + t, c)]).map prD := by rw [List.map_append]; rfl
          rw [e1]
          have l4 := l3.set (i := 0) (ys := (u ++ [(1 + t, c)]).map prD) rfl
          refine set_of (op_of (v_of (d := .int r) rfl (v_of (d := .int (1 + t)) rfl (sub_int ?_))))
          refine hnx2 _ _ ⟨u ++ [(1 + t, c)], r - (1 + t), _, _, rfl, by omega, hu.snoc (by dsimp only; omega), fun b => ?_, by simp; omega, hj4, l4⟩
          rw [sumOf_app, sumOf_one, ← su b]
          dsimp only
          by_cases hc : c = b
          · rw [if_pos hc, if_pos hc, if_pos hc]; omega
          · rw [if_neg hc, if_neg hc, if_neg hc]; omega
        · exact ifF (decide_eq_false hz) (next_of (stay _ _ _ (l2.le (by omega))))
      · exact ifF (decide_eq_false h1) (ifF rfl (next_of (stay _ _ _ (l.le (by omega)))))
    · rintro δ M' ⟨u, r, d5, d6, rfl, hr, hu, su, lu, hj2, l⟩
      rw [show (rngL 0 (2 : Int).toNat).length = 2 from rfl] at lu l
      try dsimp only
      refine drop_of (wm_of rfl (l.at (i := 0) rfl) (call_cons1 (tup2 (ev_v (x := .int r) rfl) (ev_v (x := .bl c) rfl) ?_)))
      refine at_append (l.at (i := 0) rfl) (by rw [List.length_map]; omega) ?_
      have e1 : u.map prD ++ [D.tup [.int r, .bl c]] = (u ++ [(r, c)]).map prD := by rw [List.map_append]; rfl
      rw [e1]
      have l4 := l.set (i := 0) (ys := (u ++ [(r, c)]).map prD) rfl
      exact hnx _ _ ⟨u ++ [(r, c)], _, _, _, _, rfl, hu.snoc hr, fun b => by rw [sumOf_app, sumOf_one, ← su b], by simp; omega, hi4, l4.le (by omega)⟩
  · rintro δ M' ⟨v, d3, d4, d5, d6, rfl, hv, sv, lv, hiw, l⟩
    rw [List.length_map] at sv lv l
    refine at_frz (l.at (i := 0) rfl) ?_
    have l2 := l.del (i := 0) rfl
    refine hQ v _ ⟨hv, fun b => by rw [sv, List.take_length]⟩ (by omega) (l2.dr.le (by omega)) l2.kp
end My

set_option Elab.async false
set_option linter.all false
set_option maxRecDepth 100000
set_option maxHeartbeats 1000000
namespace My
open PySem PySem.Spec L2 DL
open PyProof.Rows hiding St
abbrev wRs : WR2X := wOwn [(6, (alIn [2, 4, 5, 6]), sRow_rshift)] wNo2
theorem rs_load {xs : List Int} {a b : Int} {δ : DS} {M : MM} {Q : D → MM → Prop} {EX : XK'} (h : RowOk 20 xs) (ha : 0 ≤ a) (hb : 0 ≤ b) (hQ : ∀ M', Kp [] M M' → Q (rowD (Mth.aft a.toNat b.toNat xs)) M') : wRs (rowD xs) (loadD a b) δ M Q EX :=
  ⟨alIn [2, 4, 5, 6], sRow_rshift, .own 2, rfl, rfl, rfl, rshift_load h ha hb hQ⟩
theorem rs_sweep {xs : List Int} {p : Int × Bool} {δ : DS} {M : MM} {Q : D → MM → Prop} {EX : XK'} (h : RowOk 20 xs) (hp : 1 ≤ p.1 ∧ p.1 ≤ 20) (hQ : ∀ M', Kp [] M M' → Q (rowD (swept p.1 p.2 xs)) M') : wRs (rowD xs) (swD p) δ M Q EX := by
  obtain ⟨k, c⟩ := p
  dsimp only at hp
  cases c
  · exact ⟨alIn [2, 4, 5, 6], sRow_rshift, .own 4, rfl, rfl, rfl, rshift_fw h (by omega) hQ⟩
  · exact ⟨alIn [2, 4, 5, 6], sRow_rshift, .own 5, rfl, rfl, rfl, rshift_bw h (by omega) hQ⟩
theorem done_spec {xs : List Int} {w : List (Int × Bool)} {M : MM} {Q : D → MM → Prop} {EX : XD → MM → Prop} (hx : RowOk 20 xs) (hw : WordOk w) (hl : w.length ≤ 1000) (hQ : ∀ M', Kp [] M M' → Q (rowD (sweptAll w xs)) M') : s_law_done [rowD xs, WL w] M Q EX := by
  refine ⟨rfl, ?_⟩
  unfold w_law_done
  refine seq_set (v_of (d := rowD xs) rfl ?_)
  refine seq_of (for_of (iS_of (call_of [WL w] (fun R h => h) (sweeps_spec hl hw fun M1 k1 => kiS_T ?_))))
  refine loop_inv (fun i δ M' => ∃ d3 : Option D, δ = [some (rowD xs), some (WL w), some (rowD (sweptAll (w.take i) xs)), d3] ∧ Kp [] M M' ∧ i ≤ w.length)
    ⟨none, rfl, k1, Nat.zero_le _⟩ (fun _ _ _ _ => True.intro) ?_ ?_
  · rintro i d δ M' hi ⟨d3, rfl, kp, hil⟩
    rw [List.getElem?_map] at hi
    obtain ⟨p, hp, rfl⟩ := Option.map_eq_some_iff.mp hi
    have hi4 : i < w.length := (List.getElem?_eq_some_iff.mp hp).1
    have hk := hw _ (List.mem_of_getElem? hp)
    have et : w.take (i + 1) = w.take i ++ [p] := by rw [List.take_succ, hp]; rfl
    refine ⟨_, rfl, fun nx hnx => ?_⟩
    refine set_of (opx_of (v_of (d := rowD (sweptAll (w.take i) xs)) rfl (v_of (d := swD p) rfl ?_)))
    refine rs_sweep (hx.perm (sweptAll_perm _ _)) hk fun M2 k2 => ?_
    have e2 : swept p.1 p.2 (sweptAll (w.take i) xs) = sweptAll (w.take (i + 1)) xs := by
      rw [et]; unfold sweptAll; rw [List.foldl_append]; rfl
    rw [e2]
    exact hnx _ _ ⟨_, rfl, kp.trans k2, hi4⟩
  · rintro δ M' ⟨d3, rfl, kp, hil⟩
    have e4 : w.take (w.map swD).length = w := by rw [List.length_map, List.take_length]
    dsimp only
    rw [e4]
    exact ret_of (v_of rfl (hQ M' kp))
theorem ne_tup {xs : List Int} {M : MM} {Q : D → MM → Prop} (h : Q (.bl false) M) : wNe2 (.lst (xs.map D.int)) (.lst (xs.map D.int)) M Q := by
  show wNe _ _ M Q
  refine at_ne (py_lst (ns := xs)) (py_lst (ns := xs)) (shaped_ints _) (shaped_ints _) ?_
  rw [eqv_lst, decide_eq_true rfl]
  exact h
theorem eq_tupT {xs : List Int} {M : MM} {Q : D → MM → Prop} (h : Q (.bl true) M) : wEq2 (.tup (xs.map D.int)) (.tup (xs.map D.int)) M Q := by
  show wEq _ _ M Q
  refine at_eq (py_tup (ns := xs)) (py_tup (ns := xs)) (shaped_intsT _) (shaped_intsT _) ?_
  rw [eqv_tup, decide_eq_true rfl]
  exact h
theorem eq_nil {M : MM} {Q : D → MM → Prop} (h : Q (.bl true) M) : wEq2 (.lst []) (.lst []) M Q := by
  show wEq (.lst (([] : List Int).map D.int)) (.lst (([] : List Int).map D.int)) M Q
  refine at_eq (py_lst (ns := [])) (py_lst (ns := [])) (shaped_ints _) (shaped_ints _) ?_
  rw [eqv_lst, decide_eq_true rfl]
  exact h
theorem sho_two {a b : Int} (ha : 0 ≤ a ∧ a ≤ 1200) (hb : 0 ≤ b ∧ b ≤ 1200) : Sho (.list (([a, b] : List Int).map .int)) := sho_list (fun x hx => by
  rcases List.mem_cons.mp hx with e | hx
  · omega
  · rw [List.mem_singleton.mp hx]; omega) (show 2 ≤ 10000 by decide)
theorem sho_row {xs : List Int} (h : RowOk 20 xs) : Sho (.tuple (xs.map .int)) := sho_tuple (fun x hx => by
  have := h.rng x hx
  unfold InR at this
  omega) (by have := h.top; omega)
/-! one word of those with the same load -/
section
variable {m g : Addr} {xs : List Int} {w : List (Int × Bool)} {a b : Int}
abbrev rS (m : Addr) (xs : List Int) (w : List (Int × Bool)) (zs : List Int) (a b : Int) (d3 d4 d5 d10 d11 d12 d13 : Option D) : DS :=
  [some (.raw (.ref m)), some (.lst (xs.map D.int)), some (WL w), d3, d4, d5, some (rowD xs), some (.lst (zs.map D.int)), some (.int a), some (.int b), d10, d11, d12, d13]
theorem word_right {u : List (Int × Bool)} {zs : List Int} {d3 d5 d10 d11 d12 d13 : Option D} {M : MM} {E : ED} {EX : XK'} (hx : RowOk 20 xs) (hw : WordOk w) (hl : w.length ≤ 20) (hu : Like w u) (lu : u.length ≤ 60) (ea : a = sumOf false w) (eb : b = sumOf true w)
    (ez : zs = Mth.aft a.toNat b.toNat xs) (hnx : ∀ (d12 d13 : Option D) M', Kp [] M M' → E.nx (rS m xs w zs a b d3 (some (WL u)) d5 d10 d11 d12 d13) M') :
    (wSeq (wPar 12 13 (wCons (wCall sload_of [] (wCons (wCall s_law_made [] (wCons (wV 4) wNil)) wNil)) (wCons (wCall s_law_done [] (wCons (wV 6) (wCons (wV 4) wNil))) wNil)))
  (wSeq (wIfS (wOrT (wTst (wOp wNe2 (wB wRepr (wCons (wLst (wCons (wProp [(2, sLoad_forward)] (wV 12)) (wCons (wProp [(2, sLoad_backward)] (wV 12)) wNil))) wNil)) (wB wRepr (wCons (wLst (wCons (wV 8) (wCons (wV 9) wNil))) wNil)))) (wTst (wOp wNe2 (wB wRepr (wCons (wProp [(6, sRow_numbers)] (wV 13)) wNil)) (wB wRepr (wCons (wB wTupOf (wCons (wV 7) wNil)) wNil))))) (wRet (wC (.bl false))) wNext)
  (wIfS (wNotT (wTst (wOpX (wOwn [(6, (alIn [6]), sRow_eq)] wEq2) (wV 13) (wOpX (wOwn [(6, (alIn [2, 4, 5, 6]), sRow_rshift)] wNo2) (wV 6) (wV 12))))) (wRet (wC (.bl false))) wNext))) E EX (rS m xs w zs a b d3 (some (WL u)) d5 d10 d11 d12 d13) M := by
  have n1 := sumOf_nonneg hw false
  have n2 := sumOf_nonneg hw true
  refine seq_par ?_
  refine call_cons (call_of [WL u] (fun R h => h) (sweeps_spec (by omega) hu.ok fun M1 k1 => ?_))
  show sload_of [.tup (u.map swD)] M1 _ _
  refine load_of_spec lu hu.ok fun M2 k2 => ?_
  rw [hu.sm, hu.sm, ← ea, ← eb]
  refine call_of [rowD xs, WL u] (fun R h => h) (done_spec hx hu.ok (by omega) fun M3 k3 => ?_)
  rw [sweptAll_eq hu.ok, hu.sm, hu.sm, ← ea, ← eb, ← ez]
  have hz : RowOk 20 zs := by rw [ez]; exact hx.perm (Mth.aft_perm _ _ _)
  have ra : 0 ≤ a ∧ a ≤ 1200 := by omega
  have rb : 0 ≤ b ∧ b ≤ 1200 := by omega
  dsimp only [rS, List.set_cons_succ, List.set_cons_zero]
  refine seq_of (if_of (or_of (tst_of (op_of (b1_of (lst_of (cons_of (p_forward rfl (call_cons1 (p_backward rfl ⟨Nat.le_of_lt (small_sz (show 2 ≤ 1000000 by decide)), ?_⟩))))))))))
  refine at_repr (p := .list (([a, b] : List Int).map .int)) (py_lst (ns := [a, b])) (sho_two ra rb) ?_
  refine b1_of (lst2 (ev_v (x := .int a) rfl) (ev_v (x := .int b) rfl) ?_)
  refine at_repr (p := .list (([a, b] : List Int).map .int)) (py_lst (ns := [a, b])) (sho_two ra rb) ?_
  refine ne_strs rfl ⟨_, rfl, ifF rfl ?_⟩
  refine tst_of (op_of (b1_of (p_numbers rfl (at_repr py_tup (sho_row hz) ?_))))
  refine b1_of (b1_of (v_of (d := .lst (zs.map D.int)) rfl (at_tupOf (xs := zs.map D.int) rfl (at_repr py_tup (sho_row hz) ?_))))
  refine ne_strs rfl ⟨_, rfl, ifF rfl (next_of ?_)⟩
  dsimp only
  refine if_of (not_of (tst_of (opx_of (v_of (d := rowD zs) rfl (opx_of (v_of (d := rowD xs) rfl (v_of (d := loadD a b) rfl ?_)))))))
  refine rs_load hx ra.1 rb.1 fun M4 k4 => ?_
  rw [← ez]
  refine ⟨alIn [6], sRow_eq, .own 6, rfl, rfl, rfl, row_eq ⟨_, rfl, ?_⟩⟩
  refine ifF (by rw [decide_eq_true rfl]; rfl) (next_of ?_)
  exact hnx _ _ _ (((k1.trans k2).trans k3).trans k4)
end
end My

set_option Elab.async false
set_option linter.all false
set_option maxRecDepth 100000
set_option maxHeartbeats 2000000
namespace My
open PySem PySem.Spec L2 DL
open PyProof.Rows hiding St
theorem lstM2_of {we wf : WE} {δ : DS} {M : MM} {Q : D → MM → Prop} {EX : XK'} (h : we δ M (fun x M1 => wf δ M1 (fun y M2 => ∀ p, M2 p = none → Q (.raw (.ref p)) (updM M2 p (.lst [x, y]))) EX) EX) : wLstM (wCons we (wCons wf wNil)) δ M Q EX := by
  have e : (fun (x : D) (M1 : MM) => wf δ M1 (fun y M2 => ∀ p, M2 p = none → Q (.raw (.ref p)) (updM M2 p (.lst [x, y]))) EX) = fun x M1 => wf δ M1 (fun y M2 => [x, y].length ≤ sizeLine ∧ ∀ p, M2 p = none → Q (.raw (.ref p)) (updM M2 p (.lst [x, y]))) EX := by
    funext x M1
    congr 1
    funext y M2
    exact propext ⟨fun h => ⟨Nat.le_of_lt (small_sz (show 2 ≤ 1000000 by decide)), h⟩, fun h => h.2⟩
  rw [e] at h
  exact h
theorem par_of {i j : Nat} {wa wb : WE} {E : ED} {EX : XK'} {δ : DS} {M : MM} (h : wa δ M (fun a M1 => wb δ M1 (fun b M2 => E.nx ((δ.set i (some a)).set j (some b)) M2) EX) EX) : wPar i j (wCons wa (wCons wb wNil)) E EX δ M := h
/-- the row after two loads -/
theorem two_loads {xs zs : List Int} {wx wy wz wt : WE} {x y z t : Int} {i : Nat} {δ : DS} {M : MM} {Q : D → MM → Prop} {EX : XK'} (hx : RowOk 20 xs) (h6 : δ[i]? = some (some (rowD xs))) (rx : 0 ≤ x ∧ x ≤ 1200) (ry : 0 ≤ y ∧ y ≤ 1200) (rz : 0 ≤ z ∧ z ≤ 1200) (rt : 0 ≤ t ∧ t ≤ 1200)
    (ex : ∀ M, Ev wx (.int x) δ M EX) (ey : ∀ M, Ev wy (.int y) δ M EX) (eZ : ∀ M, Ev wz (.int z) δ M EX) (et : ∀ M, Ev wt (.int t) δ M EX) (e : zs = Mth.aft (x + z).toNat (y + t).toNat xs) (hQ : ∀ M', Kp [] M M' → Q (rowD zs) M') :
    wOpX (wOwn [(6, (alIn [2, 4, 5, 6]), sRow_rshift)] wNo2) (wOpX (wOwn [(6, (alIn [2, 4, 5, 6]), sRow_rshift)] wNo2) (wV i) (wFrzI 2 2 (wMake 2 sLoad_init [] (wCons wx (wCons wy wNil))))) (wFrzI 2 2 (wMake 2 sLoad_init [] (wCons wz (wCons wt wNil)))) δ M Q EX := by
  refine opx_of (opx_of (v_of (d := rowD xs) h6 ?_))
  refine mk_load rx ry (ex _) (ey _) fun M1 k1 => ?_
  refine rs_load hx rx.1 ry.1 fun M2 k2 => ?_
  refine mk_load rz rt (eZ _) (et _) fun M3 k3 => ?_
  refine rs_load (hx.perm (Mth.aft_perm _ _ _)) rz.1 rt.1 fun M4 k4 => ?_
  have e2 : Mth.aft z.toNat t.toNat (Mth.aft x.toNat y.toNat xs) = zs := by
    rw [Mth2.aft_aft, e]; congr 1 <;> omega
  rw [e2]
  exact hQ M4 (((k1.trans k2).trans k3).trans k4)
theorem right_spec {m g : Addr} {f : Nat} {xs : List Int} {w : List (Int × Bool)} {M : MM} {Q : D → MM → Prop} {EX : XD → MM → Prop} (hd : Dr m g (f + 400) M) (hx : RowOk 20 xs) (hw : WordOk w) (hl : w.length ≤ 20)
    (hQ : ∀ M', Dr m g f M' → Kp [m, g] M M' → Q (.bl true) M') : s_law_right [.raw (.ref m), .lst (xs.map D.int), WL w] M Q EX := by
  have n1 := sumOf_nonneg hw false
  have n2 := sumOf_nonneg hw true
  have me : Like w w := ⟨hw, fun _ => rfl⟩
  refine ⟨rfl, ?_⟩
  unfold w_law_right
  refine seq_asg (tup_of (cons_of (mk_row hx (ev_v rfl) fun M1 k1 => ?_)))
  refine call_cons1 (call_of [.lst (xs.map D.int), WL w] (fun R h => h) (swept_all_spec (by have := hx.top; omega) hw fun M2 k2 => ⟨Nat.le_of_lt (small_sz (show 2 ≤ 1000000 by decide)), at_asg rfl ?_⟩))
  obtain ⟨zs, ez⟩ : ∃ zs, zs = sweptAll w xs := ⟨_, rfl⟩
  rw [← ez]
  rw [sweptAll_eq hw] at ez
  have d2 : Dr m g (f + 400) M2 := (hd.kp k1 sep_nil).kp k2 sep_nil
  have kp2 : Kp [m, g] M M2 := (k1.trans k2).mono (fun _ h => nomatch h)
  try dsimp only
  refine seq_set (lst_of (cons_of (v_of (d := WL w) rfl (cons_of ?_))))
  refine call_of [.raw (.ref m), WL w] (fun R h => h) (mixed_up_spec (f := f + 300) d2 (by omega) fun u1 M3 p1 d3 k3 => ?_)
  refine cons_of (call_of [WL w] (fun R h => h) (joined_spec d3 hl hw fun u2 M4 k2' l2' d4 k4 => ?_))
  refine call_cons1 (rev_of (call_of [WL w] (fun R h => h) (joined_spec d4 hl hw fun u3 M5 k3' l3' d5 k5 => at_rev (xs := u3.map prD) rfl ?_)))
  rw [← List.map_reverse]
  refine ⟨Nat.le_of_lt (small_sz (show 4 ≤ 1000000 by decide)), ?_⟩
  refine seq_set (op_of (v_of (d := .lst [WL w, WL u1, WL u2, WL u3.reverse]) rfl (lst_of (cons_of ?_))))
  refine call_cons (v_of (d := .raw (.ref m)) rfl ?_)
  refine call_cons1 (call_of [.raw (.ref m), WL w] (fun R h => h) (parted_spec (f := f + 220) (d5.le (by omega)) hl hw fun u4 M6 k4' l4' d6 k6 => ?_))
  show s_law_mixed_up [.raw (.ref m), WL u4] M6 _ _
  refine mixed_up_spec (f := f + 100) (d6.le (by omega)) (by omega) fun u5 M7 p5 d7 k7 => ?_
  refine cons_of (b1_of (v_of (d := WL w) rfl (at_sortB (ps := w) rfl fun u6 p6 => ?_)))
  refine call_cons1 (rev_of (b1_of (v_of (d := WL w) rfl (at_sortB (ps := w) rfl fun u7 p7 => at_rev (xs := u7.map prD) rfl ?_))))
  rw [← List.map_reverse]
  refine ⟨Nat.le_of_lt (small_sz (show 3 ≤ 1000000 by decide)), cat_lst (show 4 + 3 ≤ 1000000 by decide) ?_⟩
  obtain ⟨us, eus⟩ : ∃ us : List (List (Int × Bool)), us = [w, u1, u2, u3.reverse, u5, u6, u7.reverse] := ⟨_, rfl⟩
  have eu : D.lst ([WL w, WL u1, WL u2, WL u3.reverse] ++ [WL u5, WL u6, WL u7.reverse]) = .lst (us.map WL) := by rw [eus]; rfl
  have hu : ∀ u ∈ us, Like w u ∧ u.length ≤ 60 := by
    intro u h
    rw [eus] at h
    simp only [List.mem_cons, List.mem_nil_iff, or_false] at h
    rcases h with rfl | rfl | rfl | rfl | rfl | rfl | rfl
    · exact ⟨me, by omega⟩
    · exact ⟨me.perm p1, by rw [p1.length_eq]; omega⟩
    · exact ⟨k2', by omega⟩
    · exact ⟨k3'.perm (List.reverse_perm _), by rw [List.length_reverse]; omega⟩
    · exact ⟨k4'.perm p5, by rw [p5.length_eq]; omega⟩
    · exact ⟨me.perm p6, by rw [p6.length_eq]; omega⟩
    · exact ⟨me.perm ((List.reverse_perm _).trans p7), by rw [List.length_reverse, p7.length_eq]; omega⟩
  have eu2 : D.lst ([WL w, .lst (u1.map prD), WL u2, .lst (u3.reverse.map prD)] ++ [.lst (u5.map prD), .lst (u6.map prD), .lst (u7.reverse.map prD)]) = .lst (us.map WL) := eu
  have kp7 : Kp [m, g] M M7 := ((((kp2.trans k3).trans k4).trans k5).trans k6).trans k7
  refine seq_asg (call_of [WL w] (fun R h => h) (sums_spec (by omega) (at_asg rfl ?_)))
  obtain ⟨a, ea⟩ : ∃ a, a = sumOf false w := ⟨_, rfl⟩
  obtain ⟨b, eb⟩ : ∃ b, b = sumOf true w := ⟨_, rfl⟩
  rw [← ea, ← eb] at ez ⊢
  have st : ∀ {K : IT → MM → Prop} {EX : XK'} {δ : DS} {M : MM}, δ[3]? = some (some (.lst ([WL w, .lst (u1.map prD), WL u2, .lst (u3.reverse.map prD)] ++ [.lst (u5.map prD), .lst (u6.map prD), .lst (u7.reverse.map prD)]))) → K { items := us.map WL } M → wiS (wV 3) δ M K EX := fun hd h => v_of hd (at_iterF' (by rw [show [WL w, .lst (u1.map prD), WL u2, .lst (u3.reverse.map prD)] ++ [.lst (u5.map prD), .lst (u6.map prD), .lst (u7.reverse.map prD)] = us.map WL from by rw [eus]; rfl]; exact h))
  refine seq_of (for_of (st rfl ?_))
  refine loop_inv (fun i δ M' => ∃ d3 d4 d12 d13 : Option D, δ = rS m xs w zs a b d3 d4 none none none d12 d13 ∧ Dr m g (f + 100) M' ∧ Kp [m, g] M M') ⟨_, none, none, none, rfl, d7, kp7⟩ (fun _ _ _ _ => True.intro) ?_ ?_
  · rintro i d δ M' hi ⟨d3, d4, d12, d13, rfl, dr, kp⟩
    rw [List.getElem?_map] at hi
    obtain ⟨u, hu2, rfl⟩ := Option.map_eq_some_iff.mp hi
    obtain ⟨h1, h2⟩ := hu u (List.mem_of_getElem? hu2)
    refine ⟨_, rfl, fun nx hnx => ?_⟩
    exact word_right hx hw hl h1 h2 ea eb ez fun d12 d13 M2 k => hnx _ _ ⟨_, _, _, _, rfl, dr.kp k sep_nil, kp.trans (k.mono (fun _ h => nomatch h))⟩
  · rintro δ M' ⟨d3, d4, d12, d13, rfl, dr, kp⟩
    dsimp only
    refine seq_par ?_
    have dl : ∀ {i k : Nat} {n : Int} {K : D → MM → Prop} {EX : XK'} {δ : DS} {M : MM}, δ[0]? = some (some (.raw (.ref m))) → δ[i]? = some (some (.int n)) → 0 ≤ n ∧ n ≤ 1200 → Dr m g (k + 1) M → (∀ r M', 0 ≤ r → r ≤ n → Dr m g k M' → Sm m g M M' → K (.int r) M') → wCall s_law_draw [] (wCons (wV 0) (wCons (wOp wPlus (wV i) (wC (.int 1))) wNil)) δ M K EX := fun {i k n K EX δ M} h0 h1 hn dr h =>
      call_of [.raw (.ref m), .int (n + 1)] (fun R h => cons_of (v_of h0 (call_cons1 (op_of (v_of h1 (c_of (plus_int h))))))) (draw_spec dr (by omega) fun r M' r0 r1 d s => h r M' r0 (by omega) d s)
    refine dl (i := 8) (n := a) (k := f + 99) rfl rfl (by omega) dr fun x M2 x0 x1 dr2 sm2 => ?_
    refine dl (i := 9) (n := b) (k := f + 98) rfl rfl (by omega) dr2 fun y M3 y0 y1 dr3 sm3 => ?_
    have kp3 : Kp [m, g] M M3 := kp.trans ((sm2.trans sm3).kp dr3)
    have e1 : zs = Mth.aft (x + (a - x)).toNat (y + (b - y)).toNat xs := by rw [ez]; congr 1 <;> omega
    have e2 : zs = Mth.aft (0 + a).toNat (b + 0).toNat xs := by rw [ez]; congr 1 <;> omega
    have e3 : zs = Mth.aft (a + 0).toNat (0 + b).toNat xs := by rw [ez]; congr 1 <;> omega
    refine seq_set (lstM2_of ?_)
    refine two_loads (x := x) (y := y) (z := a - x) (t := b - y) (zs := zs) hx rfl (by omega) (by omega) (by omega) (by omega) (fun M => ev_v rfl) (fun M => ev_v rfl) (fun M K h => op_of (v_of (d := .int a) rfl (v_of (d := .int x) rfl (sub_int h)))) (fun M K h => op_of (v_of (d := .int b) rfl (v_of (d := .int y) rfl (sub_int h)))) e1 fun M4 k4 => ?_
    refine two_loads (x := 0) (y := b) (z := a) (t := 0) (zs := zs) hx rfl (by omega) (by omega) (by omega) (by omega) (fun M => ev_c) (fun M => ev_v rfl) (fun M => ev_v rfl) (fun M => ev_c) e2 fun M5 k5 p hp => ?_
    have dr5 := (dr3.kp k4 sep_nil).kp k5 sep_nil
    have l0 := (Loc.start dr5).new (xs := [rowD zs, rowD zs]) hp
    refine seq_drop (wm_of rfl (l0.at (i := 0) rfl) (call_cons1 ?_))
    refine two_loads (x := a) (y := 0) (z := 0) (t := b) (zs := zs) hx rfl (by omega) (by omega) (by omega) (by omega) (fun M => ev_v rfl) (fun M => ev_c) (fun M => ev_c) (fun M => ev_v rfl) e3 fun M6 k6 => ?_
    have l1 := l0.pure k6
    refine at_append (l1.at (i := 0) rfl) (show 2 ≤ 1000000 by decide) ?_
    have l2 := l1.set (i := 0) (ys := [rowD zs, rowD zs] ++ [rowD zs]) rfl
    have fin : ∀ (M' : MM), Loc m g (f + 98) [(p, [rowD zs, rowD zs] ++ [rowD zs])] M5 M' → Q (.bl true) M' := fun M' l => hQ M' (l.dr.le (by omega)) ((kp3.trans ((k4.trans k5).mono (fun _ h => nomatch h))).trans l.kp)
    refine ret_of (andV_of (op_of (iS_of (v_of (d := .raw (.ref p)) rfl (at_iterM (l2.at (i := 0) rfl) ?_)))))
    refine lc_pure (src := some (p, [rowD zs, rowD zs] ++ [rowD zs])) (fun _ => none) (l2.at (i := 0) rfl) _ _ (fun d hd => ?_) (show 0 + 3 ≤ 1000000 by decide) ?_
    · have ed : d = rowD zs := by
        simp only [List.mem_append, List.mem_cons, List.mem_nil_iff, or_false] at hd
        rcases hd with (e | e) | e <;> exact e
      subst ed
      refine ⟨_, rfl, fun K h => tst_of (op_of (b1_of (p_numbers (xs := zs) rfl (at_listOf (xs := zs.map D.int) rfl (v_of (d := .lst (zs.map D.int)) rfl (ne_tup ⟨_, rfl, h⟩))))))⟩
    rw [show ([] : List D) ++ ([rowD zs, rowD zs] ++ [rowD zs]).filterMap (fun _ => none) = [] from rfl]
    refine (show wLst wNil _ _ _ _ from ⟨Nat.zero_le _, eq_nil ⟨_, rfl, ifT rfl ?_⟩⟩)
    refine op_of (p_numbers rfl (b1_of (v_of (d := .lst (xs.map D.int)) rfl (at_tupOf (xs := xs.map D.int) rfl (eq_tupT ?_)))))
    exact fin _ l2
theorem law_spec (ns : List Int) (hl : ns.length ≤ 63) : slaw [.frl (ns.map D.int)] (fun _ => none) (fun d _ => d = .bl true) fun _ _ => False := by
  refine ⟨rfl, ?_⟩
  unfold wlaw
  refine seq_set (call_of [.frl (ns.map D.int)] (fun R h => h) (begun_spec hl fun m g M dr hm hg k => ?_))
  refine seq_of (for_r1 (by decide) ?_)
  refine loop_inv (fun i δ M' => ∃ d2 : Option D, δ = [some (.frl (ns.map D.int)), some (.raw (.ref m)), d2] ∧ Dr m g (3000 - 700 * i) M' ∧ i ≤ 3) ⟨none, rfl, dr.le (by decide), by decide⟩ (fun _ _ _ _ => True.intro) ?_ ?_
  · rintro i d δ M' hi ⟨d2, rfl, dr', hi5⟩
    have hi1 : i < 3 := (List.getElem?_eq_some_iff.mp hi).1
    refine ⟨_, rfl, fun nx hnx => ?_⟩
    obtain ⟨F, eF⟩ : ∃ F, F = 3000 - 700 * (i + 1) := ⟨_, rfl⟩
    refine if_of (not_of (tst_of ?_))
    refine call_cons (v_of (d := .raw (.ref m)) rfl ?_)
    refine cons_of (call_of [.raw (.ref m), .int 20] (fun R h => h) (given_spec (f := F + 550) (dr'.le (by omega)) (by decide) fun xs M1 hx dr1 k1 => ?_))
    refine call_cons1 (call_of [.raw (.ref m), .int 6] (fun R h => h) (word_spec (f := F + 400) (dr1.le (by omega)) (by decide) fun w M2 hw lw dr2 k2 => ?_))
    show s_law_right [.raw (.ref m), .lst (xs.map D.int), WL w] M2 _ _
    refine right_spec (f := F) dr2 hx hw lw fun M3 dr3 k3 => ⟨_, rfl, ifF rfl (next_of ?_)⟩
    exact hnx _ _ ⟨_, rfl, eF ▸ dr3, hi1⟩
  · rintro δ M' ⟨d2, rfl, dr', hi5⟩
    try dsimp only
    exact ret_of (c_of rfl)
end My

set_option Elab.async false
set_option linter.all false
set_option maxRecDepth 100000
set_option maxHeartbeats 4000000
namespace My
open PySem PySem.Spec L2 DL
open PyProof.Rows hiding St
theorem all_mk {P : Program} {w : World} {K : PySem.W.Frag} {h : Heap} {mg : Str → Option Value} {C_Load : Addr} {tk_Load_MOST : Tok} {C_Hand : Addr} {tk_Hand_MOST : Tok} {C_Sweep : Addr} {C_Forward : Addr} {C_Backward : Addr} {C_Row : Addr} {tk_MOST_NUMBERS : Tok} {tk_GREATEST : Tok} {f__law_folded : Addr} {od__law_folded an__law_folded : Option Addr} {sl__law_folded : Array (Option Value)} {oc__law_folded dc__law_folded pm__law_folded cd__law_folded ct__law_folded : Value} {kV__law_folded : Value} {f__law_begun : Addr} {od__law_begun an__law_begun : Option Addr} {sl__law_begun : Array (Option Value)} {oc__law_begun dc__law_begun pm__law_begun cd__law_begun ct__law_begun : Value} {kV__law_begun : Value} {f__law_mixed : Addr} {od__law_mixed an__law_mixed : Option Addr} {sl__law_mixed : Array (Option Value)} {oc__law_mixed dc__law_mixed pm__law_mixed cd__law_mixed ct__law_mixed : Value} {kV__law_mixed : Value} {f__law_draw : Addr} {od__law_draw an__law_draw : Option Addr} {sl__law_draw : Array (Option Value)} {oc__law_draw dc__law_draw pm__law_draw cd__law_draw ct__law_draw : Value} {kV__law_draw : Value} {f__law_order : Addr} {od__law_order an__law_order : Option Addr} {sl__law_order : Array (Option Value)} {oc__law_order dc__law_order pm__law_order cd__law_order ct__law_order : Value} {kV__law_order : Value} {f__law_given : Addr} {od__law_given an__law_given : Option Addr} {sl__law_given : Array (Option Value)} {oc__law_given dc__law_given pm__law_given cd__law_given ct__law_given : Value} {kV__law_given : Value} {f_Load_backward : Addr} {od_Load_backward an_Load_backward : Option Addr} {sl_Load_backward : Array (Option Value)} {oc_Load_backward dc_Load_backward pm_Load_backward cd_Load_backward ct_Load_backward : Value} {kV_Load_backward : Value} {p_Load_backward : Addr} {r_Load_backward : List Value} {f_Load_forward : Addr} {od_Load_forward an_Load_forward : Option Addr} {sl_Load_forward : Array (Option Value)} {oc_Load_forward dc_Load_forward pm_Load_forward cd_Load_forward ct_Load_forward : Value} {kV_Load_forward : Value} {p_Load_forward : Addr} {r_Load_forward : List Value} {f_is_integer : Addr} {od_is_integer an_is_integer : Option Addr} {sl_is_integer : Array (Option Value)} {oc_is_integer dc_is_integer pm_is_integer cd_is_integer ct_is_integer : Value} {kV_is_integer : Value} {f_is_integer_within : Addr} {od_is_integer_within an_is_integer_within : Option Addr} {sl_is_integer_within : Array (Option Value)} {oc_is_integer_within dc_is_integer_within pm_is_integer_within cd_is_integer_within ct_is_integer_within : Value} {kV_is_integer_within : Value} {f_Load_init : Addr} {od_Load_init an_Load_init : Option Addr} {sl_Load_init : Array (Option Value)} {oc_Load_init dc_Load_init pm_Load_init cd_Load_init ct_Load_init : Value} {kV_Load_init : Value} {f_Row_eq : Addr} {od_Row_eq an_Row_eq : Option Addr} {sl_Row_eq : Array (Option Value)} {oc_Row_eq dc_Row_eq pm_Row_eq cd_Row_eq ct_Row_eq : Value} {kV_Row_eq : Value} {f_Row_numbers : Addr} {od_Row_numbers an_Row_numbers : Option Addr} {sl_Row_numbers : Array (Option Value)} {oc_Row_numbers dc_Row_numbers pm_Row_numbers cd_Row_numbers ct_Row_numbers : Value} {kV_Row_numbers : Value} {p_Row_numbers : Addr} {r_Row_numbers : List Value} {f_is_count : Addr} {od_is_count an_is_count : Option Addr} {sl_is_count : Array (Option Value)} {oc_is_count dc_is_count pm_is_count cd_is_count ct_is_count : Value} {kV_is_count : Value} {f__check_numbers : Addr} {od__check_numbers an__check_numbers : Option Addr} {sl__check_numbers : Array (Option Value)} {oc__check_numbers dc__check_numbers pm__check_numbers cd__check_numbers ct__check_numbers : Value} {kV__check_numbers : Value} {f_Row_init : Addr} {od_Row_init an_Row_init : Option Addr} {sl_Row_init : Array (Option Value)} {oc_Row_init dc_Row_init pm_Row_init cd_Row_init ct_Row_init : Value} {kV_Row_init : Value} {f_Row_of : Addr} {od_Row_of an_Row_of : Option Addr} {sl_Row_of : Array (Option Value)} {oc_Row_of dc_Row_of pm_Row_of cd_Row_of ct_Row_of : Value} {kV_Row_of : Value} {p_Row_of : Addr} {r_Row_of : List Value} {f_Backward_size : Addr} {od_Backward_size an_Backward_size : Option Addr} {sl_Backward_size : Array (Option Value)} {oc_Backward_size dc_Backward_size pm_Backward_size cd_Backward_size ct_Backward_size : Value} {kV_Backward_size : Value} {p_Backward_size : Addr} {r_Backward_size : List Value} {f_Forward_size : Addr} {od_Forward_size an_Forward_size : Option Addr} {sl_Forward_size : Array (Option Value)} {oc_Forward_size dc_Forward_size pm_Forward_size cd_Forward_size ct_Forward_size : Value} {kV_Forward_size : Value} {p_Forward_size : Addr} {r_Forward_size : List Value} {f_Sweep_size : Addr} {od_Sweep_size an_Sweep_size : Option Addr} {sl_Sweep_size : Array (Option Value)} {oc_Sweep_size dc_Sweep_size pm_Sweep_size cd_Sweep_size ct_Sweep_size : Value} {kV_Sweep_size : Value} {p_Sweep_size : Addr} {r_Sweep_size : List Value} {f__forward_and_backward : Addr} {od__forward_and_backward an__forward_and_backward : Option Addr} {sl__forward_and_backward : Array (Option Value)} {oc__forward_and_backward dc__forward_and_backward pm__forward_and_backward cd__forward_and_backward ct__forward_and_backward : Value} {kV__forward_and_backward : Value} {f__mirrored : Addr} {od__mirrored an__mirrored : Option Addr} {sl__mirrored : Array (Option Value)} {oc__mirrored dc__mirrored pm__mirrored cd__mirrored ct__mirrored : Value} {kV__mirrored : Value} {f_laid_down : Addr} {od_laid_down an_laid_down : Option Addr} {sl_laid_down : Array (Option Value)} {oc_laid_down dc_laid_down pm_laid_down cd_laid_down ct_laid_down : Value} {kV_laid_down : Value} {f_Row_rshift : Addr} {od_Row_rshift an_Row_rshift : Option Addr} {sl_Row_rshift : Array (Option Value)} {oc_Row_rshift dc_Row_rshift pm_Row_rshift cd_Row_rshift ct_Row_rshift : Value} {kV_Row_rshift : Value} {f_Sweep_init : Addr} {od_Sweep_init an_Sweep_init : Option Addr} {sl_Sweep_init : Array (Option Value)} {oc_Sweep_init dc_Sweep_init pm_Sweep_init cd_Sweep_init ct_Sweep_init : Value} {kV_Sweep_init : Value} {f_Backward_init : Addr} {od_Backward_init an_Backward_init : Option Addr} {sl_Backward_init : Array (Option Value)} {oc_Backward_init dc_Backward_init pm_Backward_init ct_Backward_init : Value} {kV_Backward_init : Value} {cda_Backward_init cc_Backward_init : Addr} {ccl_Backward_init cl_Backward_init : Value} {cdd_Backward_init cld_Backward_init : Option Addr} {vs_Backward_init : Array Value} {ccs_Backward_init csl_Backward_init : Array (Option Value)} {file_Backward_init : Str} {tf_Backward_init : Tok} {cdt_Backward_init : ClassData} {f_Forward_init : Addr} {od_Forward_init an_Forward_init : Option Addr} {sl_Forward_init : Array (Option Value)} {oc_Forward_init dc_Forward_init pm_Forward_init ct_Forward_init : Value} {kV_Forward_init : Value} {cda_Forward_init cc_Forward_init : Addr} {ccl_Forward_init cl_Forward_init : Value} {cdd_Forward_init cld_Forward_init : Option Addr} {vs_Forward_init : Array Value} {ccs_Forward_init csl_Forward_init : Array (Option Value)} {file_Forward_init : Str} {tf_Forward_init : Tok} {cdt_Forward_init : ClassData} {f__law_made : Addr} {od__law_made an__law_made : Option Addr} {sl__law_made : Array (Option Value)} {oc__law_made dc__law_made pm__law_made cd__law_made ct__law_made : Value} {kV__law_made : Value} {f__law_done : Addr} {od__law_done an__law_done : Option Addr} {sl__law_done : Array (Option Value)} {oc__law_done dc__law_done pm__law_done cd__law_done ct__law_done : Value} {kV__law_done : Value} {f__law_joined : Addr} {od__law_joined an__law_joined : Option Addr} {sl__law_joined : Array (Option Value)} {oc__law_joined dc__law_joined pm__law_joined cd__law_joined ct__law_joined : Value} {kV__law_joined : Value} {f__law_mixed_up : Addr} {od__law_mixed_up an__law_mixed_up : Option Addr} {sl__law_mixed_up : Array (Option Value)} {oc__law_mixed_up dc__law_mixed_up pm__law_mixed_up cd__law_mixed_up ct__law_mixed_up : Value} {kV__law_mixed_up : Value} {f__law_parted : Addr} {od__law_parted an__law_parted : Option Addr} {sl__law_parted : Array (Option Value)} {oc__law_parted dc__law_parted pm__law_parted cd__law_parted ct__law_parted : Value} {kV__law_parted : Value} {f__law_sums : Addr} {od__law_sums an__law_sums : Option Addr} {sl__law_sums : Array (Option Value)} {oc__law_sums dc__law_sums pm__law_sums cd__law_sums ct__law_sums : Value} {kV__law_sums : Value} {f__law_swept : Addr} {od__law_swept an__law_swept : Option Addr} {sl__law_swept : Array (Option Value)} {oc__law_swept dc__law_swept pm__law_swept cd__law_swept ct__law_swept : Value} {kV__law_swept : Value} {f__law_swept_all : Addr} {od__law_swept_all an__law_swept_all : Option Addr} {sl__law_swept_all : Array (Option Value)} {oc__law_swept_all dc__law_swept_all pm__law_swept_all cd__law_swept_all ct__law_swept_all : Value} {kV__law_swept_all : Value} {f_is_sweep : Addr} {od_is_sweep an_is_sweep : Option Addr} {sl_is_sweep : Array (Option Value)} {oc_is_sweep dc_is_sweep pm_is_sweep cd_is_sweep ct_is_sweep : Value} {kV_is_sweep : Value} {f_check_word : Addr} {od_check_word an_check_word : Option Addr} {sl_check_word : Array (Option Value)} {oc_check_word dc_check_word pm_check_word cd_check_word ct_check_word : Value} {kV_check_word : Value} {f_load_within_limit : Addr} {od_load_within_limit an_load_within_limit : Option Addr} {sl_load_within_limit : Array (Option Value)} {oc_load_within_limit dc_load_within_limit pm_load_within_limit cd_load_within_limit ct_load_within_limit : Value} {kV_load_within_limit : Value} {f_sums_of : Addr} {od_sums_of an_sums_of : Option Addr} {sl_sums_of : Array (Option Value)} {oc_sums_of dc_sums_of pm_sums_of cd_sums_of ct_sums_of : Value} {kV_sums_of : Value} {f_load_of : Addr} {od_load_of an_load_of : Option Addr} {sl_load_of : Array (Option Value)} {oc_load_of dc_load_of pm_load_of cd_load_of ct_load_of : Value} {kV_load_of : Value} {f__law_right : Addr} {od__law_right an__law_right : Option Addr} {sl__law_right : Array (Option Value)} {oc__law_right dc__law_right pm__law_right cd__law_right ct__law_right : Value} {kV__law_right : Value} {f__law_word : Addr} {od__law_word an__law_word : Option Addr} {sl__law_word : Array (Option Value)} {oc__law_word dc__law_word pm__law_word cd__law_word ct__law_word : Value} {kV__law_word : Value} {f_law : Addr} {od_law an_law : Option Addr} {sl_law : Array (Option Value)} {oc_law dc_law pm_law cd_law ct_law : Value} {kV_law : Value} (X : K.In h) (N : h.Ns mainGlobals mg)
    (aC_Load : PySem.W.nsIn K mainGlobals "Load" = some (some (.ref C_Load)))
    (pg_Load : PySem.W.plainGet K C_Load Str.empty = true)
    (hd_Load : PySem.W.hasDictIn K C_Load = true)
    (po_Load : PySem.W.plainOver K C_Load = true)
    (sa_Load : PySem.W.findIn K (.ref C_Load) "__setattr__" = some (some (.builtin "object.__setattr__")))
    (n_Load__forward : PySem.W.findIn K (.ref C_Load) "_forward" = some none)
    (n_Load__backward : PySem.W.findIn K (.ref C_Load) "_backward" = some none)
    (ykb_Load : noBlt K (.ref C_Load) = true)
    (yca_Load : PySem.W.findIn K (.ref C_Load) "__class__" = some (some (.builtin "object.__class__")))
    (ymo_Load : PySem.W.mroIn K C_Load (.type "object") = some true)
    (yki_Load_Load : PySem.W.kitOne K (.ref C_Load) (.ref C_Load) = some true)
    (yki_Load_Forward : PySem.W.kitOne K (.ref C_Load) (.ref C_Forward) = some false)
    (yki_Load_Backward : PySem.W.kitOne K (.ref C_Load) (.ref C_Backward) = some false)
    (yki_Load_Row : PySem.W.kitOne K (.ref C_Load) (.ref C_Row) = some false)
    (ynn_Load_rshift : PySem.W.noNum K C_Load (PySem.dunder (PySem.Operator.RShift).info.2) (PySem.dunderR (PySem.Operator.RShift).info.2) = true)
    (rd_Load : PySem.W.readsIn K C_Load (.type "type") = true)
    (ga_Load : PySem.W.specialIn K (.ref C_Load) "__getattribute__" = some (some (.builtin "type.__getattribute__")))
    (cv_Load_MOST : PySem.W.findCls K (.ref C_Load) (.type "type") "MOST" = some (.val (.int 1200 tk_Load_MOST)))
    (aC_Hand : PySem.W.nsIn K mainGlobals "Hand" = some (some (.ref C_Hand)))
    (pg_Hand : PySem.W.plainGet K C_Hand Str.empty = true)
    (hd_Hand : PySem.W.hasDictIn K C_Hand = true)
    (po_Hand : PySem.W.plainOver K C_Hand = true)
    (sa_Hand : PySem.W.findIn K (.ref C_Hand) "__setattr__" = some (some (.builtin "object.__setattr__")))
    (n_Hand__size : PySem.W.findIn K (.ref C_Hand) "_size" = some none)
    (rd_Hand : PySem.W.readsIn K C_Hand (.type "type") = true)
    (ga_Hand : PySem.W.specialIn K (.ref C_Hand) "__getattribute__" = some (some (.builtin "type.__getattribute__")))
    (cv_Hand_MOST : PySem.W.findCls K (.ref C_Hand) (.type "type") "MOST" = some (.val (.int 20 tk_Hand_MOST)))
    (aC_Sweep : PySem.W.nsIn K mainGlobals "Sweep" = some (some (.ref C_Sweep)))
    (pg_Sweep : PySem.W.plainGet K C_Sweep Str.empty = true)
    (hd_Sweep : PySem.W.hasDictIn K C_Sweep = true)
    (po_Sweep : PySem.W.plainOver K C_Sweep = true)
    (sa_Sweep : PySem.W.findIn K (.ref C_Sweep) "__setattr__" = some (some (.builtin "object.__setattr__")))
    (n_Sweep__size : PySem.W.findIn K (.ref C_Sweep) "_size" = some none)
    (aC_Forward : PySem.W.nsIn K mainGlobals "Forward" = some (some (.ref C_Forward)))
    (pg_Forward : PySem.W.plainGet K C_Forward Str.empty = true)
    (hd_Forward : PySem.W.hasDictIn K C_Forward = true)
    (po_Forward : PySem.W.plainOver K C_Forward = true)
    (sa_Forward : PySem.W.findIn K (.ref C_Forward) "__setattr__" = some (some (.builtin "object.__setattr__")))
    (n_Forward__size : PySem.W.findIn K (.ref C_Forward) "_size" = some none)
    (ykb_Forward : noBlt K (.ref C_Forward) = true)
    (yca_Forward : PySem.W.findIn K (.ref C_Forward) "__class__" = some (some (.builtin "object.__class__")))
    (ymo_Forward : PySem.W.mroIn K C_Forward (.type "object") = some true)
    (yki_Forward_Load : PySem.W.kitOne K (.ref C_Forward) (.ref C_Load) = some false)
    (yki_Forward_Forward : PySem.W.kitOne K (.ref C_Forward) (.ref C_Forward) = some true)
    (yki_Forward_Backward : PySem.W.kitOne K (.ref C_Forward) (.ref C_Backward) = some false)
    (yki_Forward_Row : PySem.W.kitOne K (.ref C_Forward) (.ref C_Row) = some false)
    (ynn_Forward_rshift : PySem.W.noNum K C_Forward (PySem.dunder (PySem.Operator.RShift).info.2) (PySem.dunderR (PySem.Operator.RShift).info.2) = true)
    (aC_Backward : PySem.W.nsIn K mainGlobals "Backward" = some (some (.ref C_Backward)))
    (pg_Backward : PySem.W.plainGet K C_Backward Str.empty = true)
    (hd_Backward : PySem.W.hasDictIn K C_Backward = true)
    (po_Backward : PySem.W.plainOver K C_Backward = true)
    (sa_Backward : PySem.W.findIn K (.ref C_Backward) "__setattr__" = some (some (.builtin "object.__setattr__")))
    (n_Backward__size : PySem.W.findIn K (.ref C_Backward) "_size" = some none)
    (ykb_Backward : noBlt K (.ref C_Backward) = true)
    (yca_Backward : PySem.W.findIn K (.ref C_Backward) "__class__" = some (some (.builtin "object.__class__")))
    (ymo_Backward : PySem.W.mroIn K C_Backward (.type "object") = some true)
    (yki_Backward_Load : PySem.W.kitOne K (.ref C_Backward) (.ref C_Load) = some false)
    (yki_Backward_Forward : PySem.W.kitOne K (.ref C_Backward) (.ref C_Forward) = some false)
    (yki_Backward_Backward : PySem.W.kitOne K (.ref C_Backward) (.ref C_Backward) = some true)
    (yki_Backward_Row : PySem.W.kitOne K (.ref C_Backward) (.ref C_Row) = some false)
    (ynn_Backward_rshift : PySem.W.noNum K C_Backward (PySem.dunder (PySem.Operator.RShift).info.2) (PySem.dunderR (PySem.Operator.RShift).info.2) = true)
    (aC_Row : PySem.W.nsIn K mainGlobals "Row" = some (some (.ref C_Row)))
    (pg_Row : PySem.W.plainGet K C_Row Str.empty = true)
    (hd_Row : PySem.W.hasDictIn K C_Row = true)
    (po_Row : PySem.W.plainOver K C_Row = true)
    (sa_Row : PySem.W.findIn K (.ref C_Row) "__setattr__" = some (some (.builtin "object.__setattr__")))
    (n_Row__numbers : PySem.W.findIn K (.ref C_Row) "_numbers" = some none)
    (ysf_Row : PySem.W.selfFirst K C_Row = true)
    (ykb_Row : noBlt K (.ref C_Row) = true)
    (yca_Row : PySem.W.findIn K (.ref C_Row) "__class__" = some (some (.builtin "object.__class__")))
    (ymo_Row : PySem.W.mroIn K C_Row (.type "object") = some true)
    (yne_Row_Load : C_Row ≠ C_Load)
    (yki_Row_Load : PySem.W.kitOne K (.ref C_Row) (.ref C_Load) = some false)
    (yne_Row_Forward : C_Row ≠ C_Forward)
    (yki_Row_Forward : PySem.W.kitOne K (.ref C_Row) (.ref C_Forward) = some false)
    (yne_Row_Backward : C_Row ≠ C_Backward)
    (yki_Row_Backward : PySem.W.kitOne K (.ref C_Row) (.ref C_Backward) = some false)
    (ynf_Row_Row : PySem.W.notFirst K C_Row (.ref C_Row) = true)
    (yki_Row_Row : PySem.W.kitOne K (.ref C_Row) (.ref C_Row) = some true)
    (z_bool : PySem.W.nsIn K mainGlobals "bool" = some none)
    (z_enumerate : PySem.W.nsIn K mainGlobals "enumerate" = some none)
    (z_int : PySem.W.nsIn K mainGlobals "int" = some none)
    (z_isinstance : PySem.W.nsIn K mainGlobals "isinstance" = some none)
    (z_len : PySem.W.nsIn K mainGlobals "len" = some none)
    (z_list : PySem.W.nsIn K mainGlobals "list" = some none)
    (z_max : PySem.W.nsIn K mainGlobals "max" = some none)
    (z_min : PySem.W.nsIn K mainGlobals "min" = some none)
    (z_range : PySem.W.nsIn K mainGlobals "range" = some none)
    (z_repr : PySem.W.nsIn K mainGlobals "repr" = some none)
    (z_sorted : PySem.W.nsIn K mainGlobals "sorted" = some none)
    (z_sum : PySem.W.nsIn K mainGlobals "sum" = some none)
    (z_tuple : PySem.W.nsIn K mainGlobals "tuple" = some none)
    (g_MOST_NUMBERS : PySem.W.nsIn K mainGlobals "MOST_NUMBERS" = some (some (.int 20 tk_MOST_NUMBERS)))
    (g_GREATEST : PySem.W.nsIn K mainGlobals "GREATEST" = some (some (.int 999 tk_GREATEST)))
    (ycg1 : PySem.W.specialIn K (.builtin "object.__class__") "__get__" = some (some (.builtin "getset_descriptor.__get__")))
    (ycg2 : PySem.W.takesIn K (.builtin "object.__class__") = some true)
    (a__law_folded : PySem.W.nsIn K mainGlobals "_law_folded" = some (some (.ref f__law_folded)))
    (l__law_folded : K.lookup f__law_folded = some ⟨oc__law_folded, od__law_folded, .func (PySem.W.fnOf "_law_folded" "_law_folded" (defArgs (tp 38)) (defBody (tp 38)) (defScope (tp 38)) .none kV__law_folded dc__law_folded pm__law_folded an__law_folded cd__law_folded ct__law_folded), sl__law_folded⟩)
    (c__law_folded : PySem.W.codeIn K cd__law_folded "_law_folded" = true)
    (k__law_folded : PySem.W.keepIn K (.ref f__law_folded) = true)
    (a__law_begun : PySem.W.nsIn K mainGlobals "_law_begun" = some (some (.ref f__law_begun)))
    (l__law_begun : K.lookup f__law_begun = some ⟨oc__law_begun, od__law_begun, .func (PySem.W.fnOf "_law_begun" "_law_begun" (defArgs (tp 40)) (defBody (tp 40)) (defScope (tp 40)) .none kV__law_begun dc__law_begun pm__law_begun an__law_begun cd__law_begun ct__law_begun), sl__law_begun⟩)
    (c__law_begun : PySem.W.codeIn K cd__law_begun "_law_begun" = true)
    (k__law_begun : PySem.W.keepIn K (.ref f__law_begun) = true)
    (a__law_mixed : PySem.W.nsIn K mainGlobals "_law_mixed" = some (some (.ref f__law_mixed)))
    (l__law_mixed : K.lookup f__law_mixed = some ⟨oc__law_mixed, od__law_mixed, .func (PySem.W.fnOf "_law_mixed" "_law_mixed" (defArgs (tp 37)) (defBody (tp 37)) (defScope (tp 37)) .none kV__law_mixed dc__law_mixed pm__law_mixed an__law_mixed cd__law_mixed ct__law_mixed), sl__law_mixed⟩)
    (c__law_mixed : PySem.W.codeIn K cd__law_mixed "_law_mixed" = true)
    (k__law_mixed : PySem.W.keepIn K (.ref f__law_mixed) = true)
    (a__law_draw : PySem.W.nsIn K mainGlobals "_law_draw" = some (some (.ref f__law_draw)))
    (l__law_draw : K.lookup f__law_draw = some ⟨oc__law_draw, od__law_draw, .func (PySem.W.fnOf "_law_draw" "_law_draw" (defArgs (tp 39)) (defBody (tp 39)) (defScope (tp 39)) .none kV__law_draw dc__law_draw pm__law_draw an__law_draw cd__law_draw ct__law_draw), sl__law_draw⟩)
    (c__law_draw : PySem.W.codeIn K cd__law_draw "_law_draw" = true)
    (k__law_draw : PySem.W.keepIn K (.ref f__law_draw) = true)
    (a__law_order : PySem.W.nsIn K mainGlobals "_law_order" = some (some (.ref f__law_order)))
    (l__law_order : K.lookup f__law_order = some ⟨oc__law_order, od__law_order, .func (PySem.W.fnOf "_law_order" "_law_order" (defArgs (tp 42)) (defBody (tp 42)) (defScope (tp 42)) .none kV__law_order dc__law_order pm__law_order an__law_order cd__law_order ct__law_order), sl__law_order⟩)
    (c__law_order : PySem.W.codeIn K cd__law_order "_law_order" = true)
    (k__law_order : PySem.W.keepIn K (.ref f__law_order) = true)
    (a__law_given : PySem.W.nsIn K mainGlobals "_law_given" = some (some (.ref f__law_given)))
    (l__law_given : K.lookup f__law_given = some ⟨oc__law_given, od__law_given, .func (PySem.W.fnOf "_law_given" "_law_given" (defArgs (tp 41)) (defBody (tp 41)) (defScope (tp 41)) .none kV__law_given dc__law_given pm__law_given an__law_given cd__law_given ct__law_given), sl__law_given⟩)
    (c__law_given : PySem.W.codeIn K cd__law_given "_law_given" = true)
    (k__law_given : PySem.W.keepIn K (.ref f__law_given) = true)
    (a_Load_backward : PySem.W.findIn K (.ref C_Load) "backward" = some (some (.ref p_Load_backward)))
    (gt_Load_backward : PySem.W.specialIn K (.ref p_Load_backward) "__get__" = some (some (.builtin "property.__get__")))
    (tk_Load_backward : PySem.W.takesIn K (.ref p_Load_backward) = some true)
    (rc_Load_backward : PySem.W.recIn K p_Load_backward "property" = some (.ref f_Load_backward :: r_Load_backward))
    (l_Load_backward : K.lookup f_Load_backward = some ⟨oc_Load_backward, od_Load_backward, .func (PySem.W.fnOf "backward" "Load.backward" (defArgs (cb (tp 13) 3)) (defBody (cb (tp 13) 3)) (defScope (cb (tp 13) 3)) .none kV_Load_backward dc_Load_backward pm_Load_backward an_Load_backward cd_Load_backward ct_Load_backward), sl_Load_backward⟩)
    (c_Load_backward : PySem.W.codeIn K cd_Load_backward "Load.backward" = true)
    (k_Load_backward : PySem.W.keepIn K (.ref f_Load_backward) = true)
    (a_Load_forward : PySem.W.findIn K (.ref C_Load) "forward" = some (some (.ref p_Load_forward)))
    (gt_Load_forward : PySem.W.specialIn K (.ref p_Load_forward) "__get__" = some (some (.builtin "property.__get__")))
    (tk_Load_forward : PySem.W.takesIn K (.ref p_Load_forward) = some true)
    (rc_Load_forward : PySem.W.recIn K p_Load_forward "property" = some (.ref f_Load_forward :: r_Load_forward))
    (l_Load_forward : K.lookup f_Load_forward = some ⟨oc_Load_forward, od_Load_forward, .func (PySem.W.fnOf "forward" "Load.forward" (defArgs (cb (tp 13) 2)) (defBody (cb (tp 13) 2)) (defScope (cb (tp 13) 2)) .none kV_Load_forward dc_Load_forward pm_Load_forward an_Load_forward cd_Load_forward ct_Load_forward), sl_Load_forward⟩)
    (c_Load_forward : PySem.W.codeIn K cd_Load_forward "Load.forward" = true)
    (k_Load_forward : PySem.W.keepIn K (.ref f_Load_forward) = true)
    (a_is_integer : PySem.W.nsIn K mainGlobals "is_integer" = some (some (.ref f_is_integer)))
    (l_is_integer : K.lookup f_is_integer = some ⟨oc_is_integer, od_is_integer, .func (PySem.W.fnOf "is_integer" "is_integer" (defArgs (tp 10)) (defBody (tp 10)) (defScope (tp 10)) .none kV_is_integer dc_is_integer pm_is_integer an_is_integer cd_is_integer ct_is_integer), sl_is_integer⟩)
    (c_is_integer : PySem.W.codeIn K cd_is_integer "is_integer" = true)
    (k_is_integer : PySem.W.keepIn K (.ref f_is_integer) = true)
    (a_is_integer_within : PySem.W.nsIn K mainGlobals "is_integer_within" = some (some (.ref f_is_integer_within)))
    (l_is_integer_within : K.lookup f_is_integer_within = some ⟨oc_is_integer_within, od_is_integer_within, .func (PySem.W.fnOf "is_integer_within" "is_integer_within" (defArgs (tp 11)) (defBody (tp 11)) (defScope (tp 11)) .none kV_is_integer_within dc_is_integer_within pm_is_integer_within an_is_integer_within cd_is_integer_within ct_is_integer_within), sl_is_integer_within⟩)
    (c_is_integer_within : PySem.W.codeIn K cd_is_integer_within "is_integer_within" = true)
    (k_is_integer_within : PySem.W.keepIn K (.ref f_is_integer_within) = true)
    (a_Load_init : PySem.W.findIn K (.ref C_Load) "__init__" = some (some (.ref f_Load_init)))
    (i_Load_init : PySem.W.isFn K (.ref f_Load_init) = true)
    (l_Load_init : K.lookup f_Load_init = some ⟨oc_Load_init, od_Load_init, .func (PySem.W.fnOf "__init__" "Load.__init__" (defArgs (cb (tp 13) 1)) (defBody (cb (tp 13) 1)) (defScope (cb (tp 13) 1)) .none kV_Load_init dc_Load_init pm_Load_init an_Load_init cd_Load_init ct_Load_init), sl_Load_init⟩)
    (c_Load_init : PySem.W.codeIn K cd_Load_init "Load.__init__" = true)
    (k_Load_init : PySem.W.keepIn K (.ref f_Load_init) = true)
    (mk_Load_init : PySem.W.makesIn K C_Load = true)
    (kc_Load_init : PySem.W.keepIn K (.ref C_Load) = true)
    (a_Row_eq : PySem.W.findIn K (.ref C_Row) "__eq__" = some (some (.ref f_Row_eq)))
    (i_Row_eq : PySem.W.isFn K (.ref f_Row_eq) = true)
    (l_Row_eq : K.lookup f_Row_eq = some ⟨oc_Row_eq, od_Row_eq, .func (PySem.W.fnOf "__eq__" "Row.__eq__" (defArgs (cb (tp 31) 10)) (defBody (cb (tp 31) 10)) (defScope (cb (tp 31) 10)) .none kV_Row_eq dc_Row_eq pm_Row_eq an_Row_eq cd_Row_eq ct_Row_eq), sl_Row_eq⟩)
    (c_Row_eq : PySem.W.codeIn K cd_Row_eq "Row.__eq__" = true)
    (k_Row_eq : PySem.W.keepIn K (.ref f_Row_eq) = true)
    (a_Row_numbers : PySem.W.findIn K (.ref C_Row) "numbers" = some (some (.ref p_Row_numbers)))
    (gt_Row_numbers : PySem.W.specialIn K (.ref p_Row_numbers) "__get__" = some (some (.builtin "property.__get__")))
    (tk_Row_numbers : PySem.W.takesIn K (.ref p_Row_numbers) = some true)
    (rc_Row_numbers : PySem.W.recIn K p_Row_numbers "property" = some (.ref f_Row_numbers :: r_Row_numbers))
    (l_Row_numbers : K.lookup f_Row_numbers = some ⟨oc_Row_numbers, od_Row_numbers, .func (PySem.W.fnOf "numbers" "Row.numbers" (defArgs (cb (tp 31) 2)) (defBody (cb (tp 31) 2)) (defScope (cb (tp 31) 2)) .none kV_Row_numbers dc_Row_numbers pm_Row_numbers an_Row_numbers cd_Row_numbers ct_Row_numbers), sl_Row_numbers⟩)
    (c_Row_numbers : PySem.W.codeIn K cd_Row_numbers "Row.numbers" = true)
    (k_Row_numbers : PySem.W.keepIn K (.ref f_Row_numbers) = true)
    (a_is_count : PySem.W.nsIn K mainGlobals "is_count" = some (some (.ref f_is_count)))
    (l_is_count : K.lookup f_is_count = some ⟨oc_is_count, od_is_count, .func (PySem.W.fnOf "is_count" "is_count" (defArgs (tp 32)) (defBody (tp 32)) (defScope (tp 32)) .none kV_is_count dc_is_count pm_is_count an_is_count cd_is_count ct_is_count), sl_is_count⟩)
    (c_is_count : PySem.W.codeIn K cd_is_count "is_count" = true)
    (k_is_count : PySem.W.keepIn K (.ref f_is_count) = true)
    (a__check_numbers : PySem.W.nsIn K mainGlobals "_check_numbers" = some (some (.ref f__check_numbers)))
    (l__check_numbers : K.lookup f__check_numbers = some ⟨oc__check_numbers, od__check_numbers, .func (PySem.W.fnOf "_check_numbers" "_check_numbers" (defArgs (tp 34)) (defBody (tp 34)) (defScope (tp 34)) .none kV__check_numbers dc__check_numbers pm__check_numbers an__check_numbers cd__check_numbers ct__check_numbers), sl__check_numbers⟩)
    (c__check_numbers : PySem.W.codeIn K cd__check_numbers "_check_numbers" = true)
    (k__check_numbers : PySem.W.keepIn K (.ref f__check_numbers) = true)
    (a_Row_init : PySem.W.findIn K (.ref C_Row) "__init__" = some (some (.ref f_Row_init)))
    (i_Row_init : PySem.W.isFn K (.ref f_Row_init) = true)
    (l_Row_init : K.lookup f_Row_init = some ⟨oc_Row_init, od_Row_init, .func (PySem.W.fnOf "__init__" "Row.__init__" (defArgs (cb (tp 31) 0)) (defBody (cb (tp 31) 0)) (defScope (cb (tp 31) 0)) .none kV_Row_init dc_Row_init pm_Row_init an_Row_init cd_Row_init ct_Row_init), sl_Row_init⟩)
    (c_Row_init : PySem.W.codeIn K cd_Row_init "Row.__init__" = true)
    (k_Row_init : PySem.W.keepIn K (.ref f_Row_init) = true)
    (mk_Row_init : PySem.W.makesIn K C_Row = true)
    (kc_Row_init : PySem.W.keepIn K (.ref C_Row) = true)
    (rd_Row : PySem.W.readsIn K C_Row (.type "type") = true)
    (ga_Row : PySem.W.specialIn K (.ref C_Row) "__getattribute__" = some (some (.builtin "type.__getattribute__")))
    (a_Row_of : PySem.W.findCls K (.ref C_Row) (.type "type") "of" = some (.get (.builtin "classmethod.__get__") (.ref p_Row_of) .none (.ref C_Row)))
    (rc_Row_of : PySem.W.recIn K p_Row_of "classmethod" = some (.ref f_Row_of :: r_Row_of))
    (fi_Row_of : PySem.W.fnIn K f_Row_of = true)
    (l_Row_of : K.lookup f_Row_of = some ⟨oc_Row_of, od_Row_of, .func (PySem.W.fnOf "of" "Row.of" (defArgs (cb (tp 31) 1)) (defBody (cb (tp 31) 1)) (defScope (cb (tp 31) 1)) .none kV_Row_of dc_Row_of pm_Row_of an_Row_of cd_Row_of ct_Row_of), sl_Row_of⟩)
    (c_Row_of : PySem.W.codeIn K cd_Row_of "Row.of" = true)
    (k_Row_of : PySem.W.keepIn K (.ref f_Row_of) = true)
    (a_Backward_size : PySem.W.findIn K (.ref C_Backward) "size" = some (some (.ref p_Backward_size)))
    (gt_Backward_size : PySem.W.specialIn K (.ref p_Backward_size) "__get__" = some (some (.builtin "property.__get__")))
    (tk_Backward_size : PySem.W.takesIn K (.ref p_Backward_size) = some true)
    (rc_Backward_size : PySem.W.recIn K p_Backward_size "property" = some (.ref f_Backward_size :: r_Backward_size))
    (l_Backward_size : K.lookup f_Backward_size = some ⟨oc_Backward_size, od_Backward_size, .func (PySem.W.fnOf "size" "Backward.size" (defArgs (cb (tp 22) 2)) (defBody (cb (tp 22) 2)) (defScope (cb (tp 22) 2)) .none kV_Backward_size dc_Backward_size pm_Backward_size an_Backward_size cd_Backward_size ct_Backward_size), sl_Backward_size⟩)
    (c_Backward_size : PySem.W.codeIn K cd_Backward_size "Backward.size" = true)
    (k_Backward_size : PySem.W.keepIn K (.ref f_Backward_size) = true)
    (a_Forward_size : PySem.W.findIn K (.ref C_Forward) "size" = some (some (.ref p_Forward_size)))
    (gt_Forward_size : PySem.W.specialIn K (.ref p_Forward_size) "__get__" = some (some (.builtin "property.__get__")))
    (tk_Forward_size : PySem.W.takesIn K (.ref p_Forward_size) = some true)
    (rc_Forward_size : PySem.W.recIn K p_Forward_size "property" = some (.ref f_Forward_size :: r_Forward_size))
    (l_Forward_size : K.lookup f_Forward_size = some ⟨oc_Forward_size, od_Forward_size, .func (PySem.W.fnOf "size" "Forward.size" (defArgs (cb (tp 21) 2)) (defBody (cb (tp 21) 2)) (defScope (cb (tp 21) 2)) .none kV_Forward_size dc_Forward_size pm_Forward_size an_Forward_size cd_Forward_size ct_Forward_size), sl_Forward_size⟩)
    (c_Forward_size : PySem.W.codeIn K cd_Forward_size "Forward.size" = true)
    (k_Forward_size : PySem.W.keepIn K (.ref f_Forward_size) = true)
    (a_Sweep_size : PySem.W.findIn K (.ref C_Sweep) "size" = some (some (.ref p_Sweep_size)))
    (gt_Sweep_size : PySem.W.specialIn K (.ref p_Sweep_size) "__get__" = some (some (.builtin "property.__get__")))
    (tk_Sweep_size : PySem.W.takesIn K (.ref p_Sweep_size) = some true)
    (rc_Sweep_size : PySem.W.recIn K p_Sweep_size "property" = some (.ref f_Sweep_size :: r_Sweep_size))
    (l_Sweep_size : K.lookup f_Sweep_size = some ⟨oc_Sweep_size, od_Sweep_size, .func (PySem.W.fnOf "size" "Sweep.size" (defArgs (cb (tp 20) 1)) (defBody (cb (tp 20) 1)) (defScope (cb (tp 20) 1)) .none kV_Sweep_size dc_Sweep_size pm_Sweep_size an_Sweep_size cd_Sweep_size ct_Sweep_size), sl_Sweep_size⟩)
    (c_Sweep_size : PySem.W.codeIn K cd_Sweep_size "Sweep.size" = true)
    (k_Sweep_size : PySem.W.keepIn K (.ref f_Sweep_size) = true)
    (a__forward_and_backward : PySem.W.nsIn K mainGlobals "_forward_and_backward" = some (some (.ref f__forward_and_backward)))
    (l__forward_and_backward : K.lookup f__forward_and_backward = some ⟨oc__forward_and_backward, od__forward_and_backward, .func (PySem.W.fnOf "_forward_and_backward" "_forward_and_backward" (defArgs (tp 33)) (defBody (tp 33)) (defScope (tp 33)) .none kV__forward_and_backward dc__forward_and_backward pm__forward_and_backward an__forward_and_backward cd__forward_and_backward ct__forward_and_backward), sl__forward_and_backward⟩)
    (c__forward_and_backward : PySem.W.codeIn K cd__forward_and_backward "_forward_and_backward" = true)
    (k__forward_and_backward : PySem.W.keepIn K (.ref f__forward_and_backward) = true)
    (a__mirrored : PySem.W.nsIn K mainGlobals "_mirrored" = some (some (.ref f__mirrored)))
    (l__mirrored : K.lookup f__mirrored = some ⟨oc__mirrored, od__mirrored, .func (PySem.W.fnOf "_mirrored" "_mirrored" (defArgs (tp 35)) (defBody (tp 35)) (defScope (tp 35)) .none kV__mirrored dc__mirrored pm__mirrored an__mirrored cd__mirrored ct__mirrored), sl__mirrored⟩)
    (c__mirrored : PySem.W.codeIn K cd__mirrored "_mirrored" = true)
    (k__mirrored : PySem.W.keepIn K (.ref f__mirrored) = true)
    (a_laid_down : PySem.W.nsIn K mainGlobals "laid_down" = some (some (.ref f_laid_down)))
    (l_laid_down : K.lookup f_laid_down = some ⟨oc_laid_down, od_laid_down, .func (PySem.W.fnOf "laid_down" "laid_down" (defArgs (tp 18)) (defBody (tp 18)) (defScope (tp 18)) .none kV_laid_down dc_laid_down pm_laid_down an_laid_down cd_laid_down ct_laid_down), sl_laid_down⟩)
    (c_laid_down : PySem.W.codeIn K cd_laid_down "laid_down" = true)
    (k_laid_down : PySem.W.keepIn K (.ref f_laid_down) = true)
    (a_Row_rshift : PySem.W.findIn K (.ref C_Row) "__rshift__" = some (some (.ref f_Row_rshift)))
    (i_Row_rshift : PySem.W.isFn K (.ref f_Row_rshift) = true)
    (l_Row_rshift : K.lookup f_Row_rshift = some ⟨oc_Row_rshift, od_Row_rshift, .func (PySem.W.fnOf "__rshift__" "Row.__rshift__" (defArgs (cb (tp 31) 13)) (defBody (cb (tp 31) 13)) (defScope (cb (tp 31) 13)) .none kV_Row_rshift dc_Row_rshift pm_Row_rshift an_Row_rshift cd_Row_rshift ct_Row_rshift), sl_Row_rshift⟩)
    (c_Row_rshift : PySem.W.codeIn K cd_Row_rshift "Row.__rshift__" = true)
    (k_Row_rshift : PySem.W.keepIn K (.ref f_Row_rshift) = true)
    (a_Sweep_init : PySem.W.findIn K (.ref C_Sweep) "__init__" = some (some (.ref f_Sweep_init)))
    (i_Sweep_init : PySem.W.isFn K (.ref f_Sweep_init) = true)
    (l_Sweep_init : K.lookup f_Sweep_init = some ⟨oc_Sweep_init, od_Sweep_init, .func (PySem.W.fnOf "__init__" "Sweep.__init__" (defArgs (cb (tp 20) 0)) (defBody (cb (tp 20) 0)) (defScope (cb (tp 20) 0)) .none kV_Sweep_init dc_Sweep_init pm_Sweep_init an_Sweep_init cd_Sweep_init ct_Sweep_init), sl_Sweep_init⟩)
    (c_Sweep_init : PySem.W.codeIn K cd_Sweep_init "Sweep.__init__" = true)
    (k_Sweep_init : PySem.W.keepIn K (.ref f_Sweep_init) = true)
    (mk_Sweep_init : PySem.W.makesIn K C_Sweep = true)
    (kc_Sweep_init : PySem.W.keepIn K (.ref C_Sweep) = true)
    (a_Backward_init : PySem.W.findIn K (.ref C_Backward) "__init__" = some (some (.ref f_Backward_init)))
    (i_Backward_init : PySem.W.isFn K (.ref f_Backward_init) = true)
    (l_Backward_init : K.lookup f_Backward_init = some ⟨oc_Backward_init, od_Backward_init, .func (PySem.W.fnX "__init__" "Backward.__init__" (defArgs (cb (tp 22) 1)) (defBody (cb (tp 22) 1)) (defScope (cb (tp 22) 1)) [("__class__", cc_Backward_init)] .none kV_Backward_init dc_Backward_init pm_Backward_init an_Backward_init (.ref cda_Backward_init) ct_Backward_init), sl_Backward_init⟩)
    (c_Backward_init : PySem.W.codeIn K (.ref cda_Backward_init) "Backward.__init__" = true)
    (lcd_Backward_init : K.lookup cda_Backward_init = some ⟨ccl_Backward_init, cdd_Backward_init, .fields vs_Backward_init, ccs_Backward_init⟩)
    (ufv_Backward_init : vs_Backward_init[2]? = some (.str file_Backward_init tf_Backward_init))
    (umf_Backward_init : (P.main.file == file_Backward_init) = true)
    (lcc_Backward_init : K.lookup cc_Backward_init = some ⟨cl_Backward_init, cld_Backward_init, .cell (some (.ref C_Backward)), csl_Backward_init⟩)
    (kd_Backward_init : PySem.W.clsIn K C_Backward = some cdt_Backward_init)
    (ymu_Backward_init : PySem.W.mroIn K C_Backward (.ref C_Backward) = some true)
    (z_super : PySem.W.nsIn K mainGlobals "super" = some none)
    (z_any3 : PySem.W.nsIn K cStatics "thirdparty.any" = some none)
    (su_Backward_init : PySem.W.ks_superIn K C_Backward C_Backward "__init__" = some (some (.ref f_Sweep_init)))
    (uoc_Sweep_init : oc_Sweep_init = .type "function")
    (upm : (List.lookup ("super" : Str) P.main.scope.names).isSome = false)
    (mk_Backward_init : PySem.W.makesIn K C_Backward = true)
    (kc_Backward_init : PySem.W.keepIn K (.ref C_Backward) = true)
    (a_Forward_init : PySem.W.findIn K (.ref C_Forward) "__init__" = some (some (.ref f_Forward_init)))
    (i_Forward_init : PySem.W.isFn K (.ref f_Forward_init) = true)
    (l_Forward_init : K.lookup f_Forward_init = some ⟨oc_Forward_init, od_Forward_init, .func (PySem.W.fnX "__init__" "Forward.__init__" (defArgs (cb (tp 21) 1)) (defBody (cb (tp 21) 1)) (defScope (cb (tp 21) 1)) [("__class__", cc_Forward_init)] .none kV_Forward_init dc_Forward_init pm_Forward_init an_Forward_init (.ref cda_Forward_init) ct_Forward_init), sl_Forward_init⟩)
    (c_Forward_init : PySem.W.codeIn K (.ref cda_Forward_init) "Forward.__init__" = true)
    (lcd_Forward_init : K.lookup cda_Forward_init = some ⟨ccl_Forward_init, cdd_Forward_init, .fields vs_Forward_init, ccs_Forward_init⟩)
    (ufv_Forward_init : vs_Forward_init[2]? = some (.str file_Forward_init tf_Forward_init))
    (umf_Forward_init : (P.main.file == file_Forward_init) = true)
    (lcc_Forward_init : K.lookup cc_Forward_init = some ⟨cl_Forward_init, cld_Forward_init, .cell (some (.ref C_Forward)), csl_Forward_init⟩)
    (kd_Forward_init : PySem.W.clsIn K C_Forward = some cdt_Forward_init)
    (ymu_Forward_init : PySem.W.mroIn K C_Forward (.ref C_Forward) = some true)
    (su_Forward_init : PySem.W.ks_superIn K C_Forward C_Forward "__init__" = some (some (.ref f_Sweep_init)))
    (mk_Forward_init : PySem.W.makesIn K C_Forward = true)
    (kc_Forward_init : PySem.W.keepIn K (.ref C_Forward) = true)
    (a__law_made : PySem.W.nsIn K mainGlobals "_law_made" = some (some (.ref f__law_made)))
    (l__law_made : K.lookup f__law_made = some ⟨oc__law_made, od__law_made, .func (PySem.W.fnOf "_law_made" "_law_made" (defArgs (tp 47)) (defBody (tp 47)) (defScope (tp 47)) .none kV__law_made dc__law_made pm__law_made an__law_made cd__law_made ct__law_made), sl__law_made⟩)
    (c__law_made : PySem.W.codeIn K cd__law_made "_law_made" = true)
    (k__law_made : PySem.W.keepIn K (.ref f__law_made) = true)
    (a__law_done : PySem.W.nsIn K mainGlobals "_law_done" = some (some (.ref f__law_done)))
    (l__law_done : K.lookup f__law_done = some ⟨oc__law_done, od__law_done, .func (PySem.W.fnOf "_law_done" "_law_done" (defArgs (tp 48)) (defBody (tp 48)) (defScope (tp 48)) .none kV__law_done dc__law_done pm__law_done an__law_done cd__law_done ct__law_done), sl__law_done⟩)
    (c__law_done : PySem.W.codeIn K cd__law_done "_law_done" = true)
    (k__law_done : PySem.W.keepIn K (.ref f__law_done) = true)
    (a__law_joined : PySem.W.nsIn K mainGlobals "_law_joined" = some (some (.ref f__law_joined)))
    (l__law_joined : K.lookup f__law_joined = some ⟨oc__law_joined, od__law_joined, .func (PySem.W.fnOf "_law_joined" "_law_joined" (defArgs (tp 50)) (defBody (tp 50)) (defScope (tp 50)) .none kV__law_joined dc__law_joined pm__law_joined an__law_joined cd__law_joined ct__law_joined), sl__law_joined⟩)
    (c__law_joined : PySem.W.codeIn K cd__law_joined "_law_joined" = true)
    (k__law_joined : PySem.W.keepIn K (.ref f__law_joined) = true)
    (a__law_mixed_up : PySem.W.nsIn K mainGlobals "_law_mixed_up" = some (some (.ref f__law_mixed_up)))
    (l__law_mixed_up : K.lookup f__law_mixed_up = some ⟨oc__law_mixed_up, od__law_mixed_up, .func (PySem.W.fnOf "_law_mixed_up" "_law_mixed_up" (defArgs (tp 49)) (defBody (tp 49)) (defScope (tp 49)) .none kV__law_mixed_up dc__law_mixed_up pm__law_mixed_up an__law_mixed_up cd__law_mixed_up ct__law_mixed_up), sl__law_mixed_up⟩)
    (c__law_mixed_up : PySem.W.codeIn K cd__law_mixed_up "_law_mixed_up" = true)
    (k__law_mixed_up : PySem.W.keepIn K (.ref f__law_mixed_up) = true)
    (a__law_parted : PySem.W.nsIn K mainGlobals "_law_parted" = some (some (.ref f__law_parted)))
    (l__law_parted : K.lookup f__law_parted = some ⟨oc__law_parted, od__law_parted, .func (PySem.W.fnOf "_law_parted" "_law_parted" (defArgs (tp 51)) (defBody (tp 51)) (defScope (tp 51)) .none kV__law_parted dc__law_parted pm__law_parted an__law_parted cd__law_parted ct__law_parted), sl__law_parted⟩)
    (c__law_parted : PySem.W.codeIn K cd__law_parted "_law_parted" = true)
    (k__law_parted : PySem.W.keepIn K (.ref f__law_parted) = true)
    (a__law_sums : PySem.W.nsIn K mainGlobals "_law_sums" = some (some (.ref f__law_sums)))
    (l__law_sums : K.lookup f__law_sums = some ⟨oc__law_sums, od__law_sums, .func (PySem.W.fnOf "_law_sums" "_law_sums" (defArgs (tp 46)) (defBody (tp 46)) (defScope (tp 46)) .none kV__law_sums dc__law_sums pm__law_sums an__law_sums cd__law_sums ct__law_sums), sl__law_sums⟩)
    (c__law_sums : PySem.W.codeIn K cd__law_sums "_law_sums" = true)
    (k__law_sums : PySem.W.keepIn K (.ref f__law_sums) = true)
    (a__law_swept : PySem.W.nsIn K mainGlobals "_law_swept" = some (some (.ref f__law_swept)))
    (l__law_swept : K.lookup f__law_swept = some ⟨oc__law_swept, od__law_swept, .func (PySem.W.fnOf "_law_swept" "_law_swept" (defArgs (tp 44)) (defBody (tp 44)) (defScope (tp 44)) .none kV__law_swept dc__law_swept pm__law_swept an__law_swept cd__law_swept ct__law_swept), sl__law_swept⟩)
    (c__law_swept : PySem.W.codeIn K cd__law_swept "_law_swept" = true)
    (k__law_swept : PySem.W.keepIn K (.ref f__law_swept) = true)
    (a__law_swept_all : PySem.W.nsIn K mainGlobals "_law_swept_all" = some (some (.ref f__law_swept_all)))
    (l__law_swept_all : K.lookup f__law_swept_all = some ⟨oc__law_swept_all, od__law_swept_all, .func (PySem.W.fnOf "_law_swept_all" "_law_swept_all" (defArgs (tp 45)) (defBody (tp 45)) (defScope (tp 45)) .none kV__law_swept_all dc__law_swept_all pm__law_swept_all an__law_swept_all cd__law_swept_all ct__law_swept_all), sl__law_swept_all⟩)
    (c__law_swept_all : PySem.W.codeIn K cd__law_swept_all "_law_swept_all" = true)
    (k__law_swept_all : PySem.W.keepIn K (.ref f__law_swept_all) = true)
    (a_is_sweep : PySem.W.nsIn K mainGlobals "is_sweep" = some (some (.ref f_is_sweep)))
    (l_is_sweep : K.lookup f_is_sweep = some ⟨oc_is_sweep, od_is_sweep, .func (PySem.W.fnOf "is_sweep" "is_sweep" (defArgs (tp 24)) (defBody (tp 24)) (defScope (tp 24)) .none kV_is_sweep dc_is_sweep pm_is_sweep an_is_sweep cd_is_sweep ct_is_sweep), sl_is_sweep⟩)
    (c_is_sweep : PySem.W.codeIn K cd_is_sweep "is_sweep" = true)
    (k_is_sweep : PySem.W.keepIn K (.ref f_is_sweep) = true)
    (a_check_word : PySem.W.nsIn K mainGlobals "check_word" = some (some (.ref f_check_word)))
    (l_check_word : K.lookup f_check_word = some ⟨oc_check_word, od_check_word, .func (PySem.W.fnOf "check_word" "check_word" (defArgs (tp 25)) (defBody (tp 25)) (defScope (tp 25)) .none kV_check_word dc_check_word pm_check_word an_check_word cd_check_word ct_check_word), sl_check_word⟩)
    (c_check_word : PySem.W.codeIn K cd_check_word "check_word" = true)
    (k_check_word : PySem.W.keepIn K (.ref f_check_word) = true)
    (a_load_within_limit : PySem.W.nsIn K mainGlobals "load_within_limit" = some (some (.ref f_load_within_limit)))
    (l_load_within_limit : K.lookup f_load_within_limit = some ⟨oc_load_within_limit, od_load_within_limit, .func (PySem.W.fnOf "load_within_limit" "load_within_limit" (defArgs (tp 14)) (defBody (tp 14)) (defScope (tp 14)) .none kV_load_within_limit dc_load_within_limit pm_load_within_limit an_load_within_limit cd_load_within_limit ct_load_within_limit), sl_load_within_limit⟩)
    (c_load_within_limit : PySem.W.codeIn K cd_load_within_limit "load_within_limit" = true)
    (k_load_within_limit : PySem.W.keepIn K (.ref f_load_within_limit) = true)
    (a_sums_of : PySem.W.nsIn K mainGlobals "sums_of" = some (some (.ref f_sums_of)))
    (l_sums_of : K.lookup f_sums_of = some ⟨oc_sums_of, od_sums_of, .func (PySem.W.fnOf "sums_of" "sums_of" (defArgs (tp 27)) (defBody (tp 27)) (defScope (tp 27)) .none kV_sums_of dc_sums_of pm_sums_of an_sums_of cd_sums_of ct_sums_of), sl_sums_of⟩)
    (c_sums_of : PySem.W.codeIn K cd_sums_of "sums_of" = true)
    (k_sums_of : PySem.W.keepIn K (.ref f_sums_of) = true)
    (a_load_of : PySem.W.nsIn K mainGlobals "load_of" = some (some (.ref f_load_of)))
    (l_load_of : K.lookup f_load_of = some ⟨oc_load_of, od_load_of, .func (PySem.W.fnOf "load_of" "load_of" (defArgs (tp 26)) (defBody (tp 26)) (defScope (tp 26)) .none kV_load_of dc_load_of pm_load_of an_load_of cd_load_of ct_load_of), sl_load_of⟩)
    (c_load_of : PySem.W.codeIn K cd_load_of "load_of" = true)
    (k_load_of : PySem.W.keepIn K (.ref f_load_of) = true)
    (a__law_right : PySem.W.nsIn K mainGlobals "_law_right" = some (some (.ref f__law_right)))
    (l__law_right : K.lookup f__law_right = some ⟨oc__law_right, od__law_right, .func (PySem.W.fnOf "_law_right" "_law_right" (defArgs (tp 52)) (defBody (tp 52)) (defScope (tp 52)) .none kV__law_right dc__law_right pm__law_right an__law_right cd__law_right ct__law_right), sl__law_right⟩)
    (c__law_right : PySem.W.codeIn K cd__law_right "_law_right" = true)
    (k__law_right : PySem.W.keepIn K (.ref f__law_right) = true)
    (a__law_word : PySem.W.nsIn K mainGlobals "_law_word" = some (some (.ref f__law_word)))
    (l__law_word : K.lookup f__law_word = some ⟨oc__law_word, od__law_word, .func (PySem.W.fnOf "_law_word" "_law_word" (defArgs (tp 43)) (defBody (tp 43)) (defScope (tp 43)) .none kV__law_word dc__law_word pm__law_word an__law_word cd__law_word ct__law_word), sl__law_word⟩)
    (c__law_word : PySem.W.codeIn K cd__law_word "_law_word" = true)
    (k__law_word : PySem.W.keepIn K (.ref f__law_word) = true)
    (a_law : PySem.W.nsIn K mainGlobals "law" = some (some (.ref f_law)))
    (l_law : K.lookup f_law = some ⟨oc_law, od_law, .func (PySem.W.fnOf "law" "law" (defArgs (tp 53)) (defBody (tp 53)) (defScope (tp 53)) .none kV_law dc_law pm_law an_law cd_law ct_law), sl_law⟩)
    (c_law : PySem.W.codeIn K cd_law "law" = true)
    (k_law : PySem.W.keepIn K (.ref f_law) = true) :
    ∃ G : Cfg, G.tabs = [] ∧ ∀ base : Heap, K.In base → base.Ns mainGlobals mg → OkG P w K mg base true 10 "law" ["_law_script"] (lift G K slaw) := by
  refine ⟨⟨fun c => match c with | 2 => C_Load | 1 => C_Hand | 3 => C_Sweep | 4 => C_Forward | 5 => C_Backward | 6 => C_Row | _ => 0, fun c => match c with | 2 => ["_forward", "_backward"] | 1 => ["_size", "_small", "_held"] | 3 => ["_size"] | 4 => ["_size"] | 5 => ["_size"] | 6 => ["_numbers"] | _ => [], []⟩, rfl, fun base _ _ => ?_⟩
  have T : Bu K mg ⟨fun c => match c with | 2 => C_Load | 1 => C_Hand | 3 => C_Sweep | 4 => C_Forward | 5 => C_Backward | 6 => C_Row | _ => 0, fun c => match c with | 2 => ["_forward", "_backward"] | 1 => ["_size", "_small", "_held"] | 3 => ["_size"] | 4 => ["_size"] | 5 => ["_size"] | 6 => ["_numbers"] | _ => [], []⟩ := { k_Load := PySem.W.mg_of X N aC_Load, cls_Load := ⟨pg_Load, hd_Load, po_Load, sa_Load⟩, fa_Load__forward := ⟨⟨pg_Load, hd_Load, po_Load, sa_Load⟩, n_Load__forward, (show List.Nodup (["_forward", "_backward"] : List Str) by decide +kernel), rfl⟩, fa_Load__backward := ⟨⟨pg_Load, hd_Load, po_Load, sa_Load⟩, n_Load__backward, (show List.Nodup (["_forward", "_backward"] : List Str) by decide +kernel), rfl⟩, nm_Load := rfl, kb_Load := ykb_Load, cc_Load := ⟨yca_Load, ymo_Load⟩, ki_Load_Load := yki_Load_Load, ki_Load_Forward := yki_Load_Forward, ki_Load_Backward := yki_Load_Backward, ki_Load_Row := yki_Load_Row, nn_Load_rshift := ynn_Load_rshift, ck_Load_MOST := ⟨.type "type", .int 1200, _, ⟨rd_Load, ga_Load⟩, ⟨cv_Load_MOST, ⟨_, rfl⟩⟩, fun _ => .int 1200⟩, k_Hand := PySem.W.mg_of X N aC_Hand, fa_Hand__size := ⟨⟨pg_Hand, hd_Hand, po_Hand, sa_Hand⟩, n_Hand__size, (show List.Nodup (["_size", "_small", "_held"] : List Str) by decide +kernel), rfl⟩, nm_Hand := rfl, ck_Hand_MOST := ⟨.type "type", .int 20, _, ⟨rd_Hand, ga_Hand⟩, ⟨cv_Hand_MOST, ⟨_, rfl⟩⟩, fun _ => .int 20⟩, cls_Sweep := ⟨pg_Sweep, hd_Sweep, po_Sweep, sa_Sweep⟩, fa_Sweep__size := ⟨⟨pg_Sweep, hd_Sweep, po_Sweep, sa_Sweep⟩, n_Sweep__size, (show List.Nodup (["_size"] : List Str) by decide +kernel), rfl⟩, nm_Sweep := rfl, k_Forward := PySem.W.mg_of X N aC_Forward, cls_Forward := ⟨pg_Forward, hd_Forward, po_Forward, sa_Forward⟩, fa_Forward__size := ⟨⟨pg_Forward, hd_Forward, po_Forward, sa_Forward⟩, n_Forward__size, (show List.Nodup (["_size"] : List Str) by decide +kernel), rfl⟩, nm_Forward := rfl, kb_Forward := ykb_Forward, cc_Forward := ⟨yca_Forward, ymo_Forward⟩, ki_Forward_Load := yki_Forward_Load, ki_Forward_Forward := yki_Forward_Forward, ki_Forward_Backward := yki_Forward_Backward, ki_Forward_Row := yki_Forward_Row, nn_Forward_rshift := ynn_Forward_rshift, k_Backward := PySem.W.mg_of X N aC_Backward, cls_Backward := ⟨pg_Backward, hd_Backward, po_Backward, sa_Backward⟩, fa_Backward__size := ⟨⟨pg_Backward, hd_Backward, po_Backward, sa_Backward⟩, n_Backward__size, (show List.Nodup (["_size"] : List Str) by decide +kernel), rfl⟩, nm_Backward := rfl, kb_Backward := ykb_Backward, cc_Backward := ⟨yca_Backward, ymo_Backward⟩, ki_Backward_Load := yki_Backward_Load, ki_Backward_Forward := yki_Backward_Forward, ki_Backward_Backward := yki_Backward_Backward, ki_Backward_Row := yki_Backward_Row, nn_Backward_rshift := ynn_Backward_rshift, k_Row := PySem.W.mg_of X N aC_Row, cls_Row := ⟨pg_Row, hd_Row, po_Row, sa_Row⟩, fa_Row__numbers := ⟨⟨pg_Row, hd_Row, po_Row, sa_Row⟩, n_Row__numbers, (show List.Nodup (["_numbers"] : List Str) by decide +kernel), rfl⟩, nm_Row := rfl, sf_Row := ysf_Row, kb_Row := ykb_Row, cc_Row := ⟨yca_Row, ymo_Row⟩, ne_Row_Load := yne_Row_Load, ki_Row_Load := yki_Row_Load, ne_Row_Forward := yne_Row_Forward, ki_Row_Forward := yki_Row_Forward, ne_Row_Backward := yne_Row_Backward, ki_Row_Backward := yki_Row_Backward, nf_Row_Row := ynf_Row_Row, ki_Row_Row := yki_Row_Row, b_bool := PySem.W.mg_none_of X N z_bool, b_enumerate := PySem.W.mg_none_of X N z_enumerate, b_int := PySem.W.mg_none_of X N z_int, b_isinstance := PySem.W.mg_none_of X N z_isinstance, b_len := PySem.W.mg_none_of X N z_len, b_list := PySem.W.mg_none_of X N z_list, b_max := PySem.W.mg_none_of X N z_max, b_min := PySem.W.mg_none_of X N z_min, b_range := PySem.W.mg_none_of X N z_range, b_repr := PySem.W.mg_none_of X N z_repr, b_sorted := PySem.W.mg_none_of X N z_sorted, b_sum := PySem.W.mg_none_of X N z_sum, b_tuple := PySem.W.mg_none_of X N z_tuple, c_MOST_NUMBERS := ⟨_, PySem.W.mg_of X N g_MOST_NUMBERS⟩, c_GREATEST := ⟨_, PySem.W.mg_of X N g_GREATEST⟩, cg := ⟨ycg1, ycg2⟩ }
  have ok_law_folded := go_law_folded (P := P) (w := w) (base := base) T ⟨PySem.W.mg_of X N a__law_folded, _, fun_mk (st := (tp 38)) l__law_folded c__law_folded k__law_folded, ((fun_mk (st := (tp 38)) l__law_folded c__law_folded k__law_folded).binds (ps := ["_law_script"]) fun _ _ _ _ _ _ us hl => match us, hl with | [_], _ => rfl)⟩ 
  have ok_law_begun := go_law_begun (P := P) (w := w) (base := base) T ⟨PySem.W.mg_of X N a__law_begun, _, fun_mk (st := (tp 40)) l__law_begun c__law_begun k__law_begun, ((fun_mk (st := (tp 40)) l__law_begun c__law_begun k__law_begun).binds (ps := ["_law_script"]) fun _ _ _ _ _ _ us hl => match us, hl with | [_], _ => rfl)⟩ ok_law_folded
  have ok_law_mixed := go_law_mixed (P := P) (w := w) (base := base) T ⟨PySem.W.mg_of X N a__law_mixed, _, fun_mk (st := (tp 37)) l__law_mixed c__law_mixed k__law_mixed, ((fun_mk (st := (tp 37)) l__law_mixed c__law_mixed k__law_mixed).binds (ps := ["_law_cell", "_law_n"]) fun _ _ _ _ _ _ us hl => match us, hl with | [_, _], _ => rfl)⟩ 
  have ok_law_draw := go_law_draw (P := P) (w := w) (base := base) T ⟨PySem.W.mg_of X N a__law_draw, _, fun_mk (st := (tp 39)) l__law_draw c__law_draw k__law_draw, ((fun_mk (st := (tp 39)) l__law_draw c__law_draw k__law_draw).binds (ps := ["_law_m", "_law_top"]) fun _ _ _ _ _ _ us hl => match us, hl with | [_, _], _ => rfl)⟩ ok_law_mixed
  have ok_law_order := go_law_order (P := P) (w := w) (base := base) T ⟨PySem.W.mg_of X N a__law_order, _, fun_mk (st := (tp 42)) l__law_order c__law_order k__law_order, ((fun_mk (st := (tp 42)) l__law_order c__law_order k__law_order).binds (ps := ["_law_m", "_law_n"]) fun _ _ _ _ _ _ us hl => match us, hl with | [_, _], _ => rfl)⟩ ok_law_draw
  have ok_law_given := go_law_given (P := P) (w := w) (base := base) T ⟨PySem.W.mg_of X N a__law_given, _, fun_mk (st := (tp 41)) l__law_given c__law_given k__law_given, ((fun_mk (st := (tp 41)) l__law_given c__law_given k__law_given).binds (ps := ["_law_m", "_law_most"]) fun _ _ _ _ _ _ us hl => match us, hl with | [_, _], _ => rfl)⟩ ok_law_draw ok_law_order
  have okLoad_backward := goLoad_backward (P := P) (w := w) (base := base) T ⟨_, _, _, ⟨a_Load_backward, gt_Load_backward, tk_Load_backward, ⟨_, rc_Load_backward⟩⟩, fun_mk (st := (cb (tp 13) 3)) l_Load_backward c_Load_backward k_Load_backward, ((fun_mk (st := (cb (tp 13) 3)) l_Load_backward c_Load_backward k_Load_backward).binds (ps := ["self"]) fun _ _ _ _ _ _ us hl => match us, hl with | [_], _ => rfl)⟩ 
  have okLoad_forward := goLoad_forward (P := P) (w := w) (base := base) T ⟨_, _, _, ⟨a_Load_forward, gt_Load_forward, tk_Load_forward, ⟨_, rc_Load_forward⟩⟩, fun_mk (st := (cb (tp 13) 2)) l_Load_forward c_Load_forward k_Load_forward, ((fun_mk (st := (cb (tp 13) 2)) l_Load_forward c_Load_forward k_Load_forward).binds (ps := ["self"]) fun _ _ _ _ _ _ us hl => match us, hl with | [_], _ => rfl)⟩ 
  have okis_integer := gois_integer (P := P) (w := w) (base := base) T ⟨PySem.W.mg_of X N a_is_integer, _, fun_mk (st := (tp 10)) l_is_integer c_is_integer k_is_integer, ((fun_mk (st := (tp 10)) l_is_integer c_is_integer k_is_integer).binds (ps := ["value"]) fun _ _ _ _ _ _ us hl => match us, hl with | [_], _ => rfl)⟩ 
  have okis_integer_within := gois_integer_within (P := P) (w := w) (base := base) T ⟨PySem.W.mg_of X N a_is_integer_within, _, fun_mk (st := (tp 11)) l_is_integer_within c_is_integer_within k_is_integer_within, ((fun_mk (st := (tp 11)) l_is_integer_within c_is_integer_within k_is_integer_within).binds (ps := ["value", "low", "high"]) fun _ _ _ _ _ _ us hl => match us, hl with | [_, _, _], _ => rfl)⟩ okis_integer
  have okLoad_init := goLoad_init (P := P) (w := w) (base := base) T ⟨_, _, ⟨mk_Load_init, a_Load_init, i_Load_init, kc_Load_init⟩, ⟨⟨_, _, _, _, _, _, _, _, _, _, rfl, l_Load_init, c_Load_init, .inl ⟨rfl, rfl⟩, .inl rfl⟩, k_Load_init⟩⟩ okis_integer_within
  have okRow_eq := goRow_eq (P := P) (w := w) (base := base) T ⟨_, _, ⟨a_Row_eq, i_Row_eq, k_Row_eq⟩, fun_mk (st := (cb (tp 31) 10)) l_Row_eq c_Row_eq k_Row_eq, ((fun_mk (st := (cb (tp 31) 10)) l_Row_eq c_Row_eq k_Row_eq).binds (ps := ["self", "other"]) fun _ _ _ _ _ _ us hl => match us, hl with | [_, _], _ => rfl)⟩ 
  have okRow_numbers := goRow_numbers (P := P) (w := w) (base := base) T ⟨_, _, _, ⟨a_Row_numbers, gt_Row_numbers, tk_Row_numbers, ⟨_, rc_Row_numbers⟩⟩, fun_mk (st := (cb (tp 31) 2)) l_Row_numbers c_Row_numbers k_Row_numbers, ((fun_mk (st := (cb (tp 31) 2)) l_Row_numbers c_Row_numbers k_Row_numbers).binds (ps := ["self"]) fun _ _ _ _ _ _ us hl => match us, hl with | [_], _ => rfl)⟩ 
  have okis_count := gois_count (P := P) (w := w) (base := base) T ⟨PySem.W.mg_of X N a_is_count, _, fun_mk (st := (tp 32)) l_is_count c_is_count k_is_count, ((fun_mk (st := (tp 32)) l_is_count c_is_count k_is_count).binds (ps := ["value"]) fun _ _ _ _ _ _ us hl => match us, hl with | [_], _ => rfl)⟩ okis_integer_within
  have ok_check_numbers := go_check_numbers (P := P) (w := w) (base := base) T ⟨PySem.W.mg_of X N a__check_numbers, _, fun_mk (st := (tp 34)) l__check_numbers c__check_numbers k__check_numbers, ((fun_mk (st := (tp 34)) l__check_numbers c__check_numbers k__check_numbers).binds (ps := ["numbers"]) fun _ _ _ _ _ _ us hl => match us, hl with | [_], _ => rfl)⟩ okis_count okis_integer_within
  have okRow_init := goRow_init (P := P) (w := w) (base := base) T ⟨_, _, ⟨mk_Row_init, a_Row_init, i_Row_init, kc_Row_init⟩, fun_mk (st := (cb (tp 31) 0)) l_Row_init c_Row_init k_Row_init, StX.bind_star1 (B := fun l => bindArgs _ ⟨l, []⟩) (fun _ => rfl) (fun _ _ _ => rfl)⟩ ok_check_numbers
  have okRow_of := goRow_of (P := P) (w := w) (base := base) T ⟨p_Row_of, _, _, ⟨rd_Row, ga_Row⟩, ⟨a_Row_of, ⟨_, rc_Row_of⟩, fi_Row_of⟩, fun_mk (st := (cb (tp 31) 1)) l_Row_of c_Row_of k_Row_of, ((fun_mk (st := (cb (tp 31) 1)) l_Row_of c_Row_of k_Row_of).binds (ps := ["cls", "numbers"]) fun _ _ _ _ _ _ us hl => match us, hl with | [_, _], _ => rfl)⟩ okRow_init
  have okBackward_size := goBackward_size (P := P) (w := w) (base := base) T ⟨_, _, _, ⟨a_Backward_size, gt_Backward_size, tk_Backward_size, ⟨_, rc_Backward_size⟩⟩, fun_mk (st := (cb (tp 22) 2)) l_Backward_size c_Backward_size k_Backward_size, ((fun_mk (st := (cb (tp 22) 2)) l_Backward_size c_Backward_size k_Backward_size).binds (ps := ["self"]) fun _ _ _ _ _ _ us hl => match us, hl with | [_], _ => rfl)⟩ 
  have okForward_size := goForward_size (P := P) (w := w) (base := base) T ⟨_, _, _, ⟨a_Forward_size, gt_Forward_size, tk_Forward_size, ⟨_, rc_Forward_size⟩⟩, fun_mk (st := (cb (tp 21) 2)) l_Forward_size c_Forward_size k_Forward_size, ((fun_mk (st := (cb (tp 21) 2)) l_Forward_size c_Forward_size k_Forward_size).binds (ps := ["self"]) fun _ _ _ _ _ _ us hl => match us, hl with | [_], _ => rfl)⟩ 
  have okSweep_size := goSweep_size (P := P) (w := w) (base := base) T ⟨_, _, _, ⟨a_Sweep_size, gt_Sweep_size, tk_Sweep_size, ⟨_, rc_Sweep_size⟩⟩, fun_mk (st := (cb (tp 20) 1)) l_Sweep_size c_Sweep_size k_Sweep_size, ((fun_mk (st := (cb (tp 20) 1)) l_Sweep_size c_Sweep_size k_Sweep_size).binds (ps := ["self"]) fun _ _ _ _ _ _ us hl => match us, hl with | [_], _ => rfl)⟩ 
  have ok_forward_and_backward := go_forward_and_backward (P := P) (w := w) (base := base) T ⟨PySem.W.mg_of X N a__forward_and_backward, _, fun_mk (st := (tp 33)) l__forward_and_backward c__forward_and_backward k__forward_and_backward, ((fun_mk (st := (tp 33)) l__forward_and_backward c__forward_and_backward k__forward_and_backward).binds (ps := ["value"]) fun _ _ _ _ _ _ us hl => match us, hl with | [_], _ => rfl)⟩ okBackward_size okForward_size okLoad_backward okLoad_forward okSweep_size
  have ok_mirrored := go_mirrored (P := P) (w := w) (base := base) T ⟨PySem.W.mg_of X N a__mirrored, _, fun_mk (st := (tp 35)) l__mirrored c__mirrored k__mirrored, ((fun_mk (st := (tp 35)) l__mirrored c__mirrored k__mirrored).binds (ps := ["numbers"]) fun _ _ _ _ _ _ us hl => match us, hl with | [_], _ => rfl)⟩ 
  have oklaid_down := golaid_down (P := P) (w := w) (base := base) T ⟨PySem.W.mg_of X N a_laid_down, _, fun_mk (st := (tp 18)) l_laid_down c_laid_down k_laid_down, ((fun_mk (st := (tp 18)) l_laid_down c_laid_down k_laid_down).binds (ps := ["numbers", "size"]) fun _ _ _ _ _ _ us hl => match us, hl with | [_, _], _ => rfl)⟩ 
  have okRow_rshift := goRow_rshift (P := P) (w := w) (base := base) T ⟨_, _, ⟨a_Row_rshift, i_Row_rshift, k_Row_rshift⟩, fun_mk (st := (cb (tp 31) 13)) l_Row_rshift c_Row_rshift k_Row_rshift, ((fun_mk (st := (cb (tp 31) 13)) l_Row_rshift c_Row_rshift k_Row_rshift).binds (ps := ["self", "other"]) fun _ _ _ _ _ _ us hl => match us, hl with | [_, _], _ => rfl)⟩ okRow_init ok_forward_and_backward ok_mirrored oklaid_down
  have okSweep_init := goSweep_init (P := P) (w := w) (base := base) T ⟨_, _, ⟨mk_Sweep_init, a_Sweep_init, i_Sweep_init, kc_Sweep_init⟩, ⟨⟨_, _, _, _, _, _, _, _, _, _, rfl, l_Sweep_init, c_Sweep_init, .inl ⟨rfl, rfl⟩, .inl rfl⟩, k_Sweep_init⟩⟩ okis_integer_within
  have okBackward_init := goBackward_init (P := P) (w := w) (base := base) (G := ⟨fun c => match c with | 2 => C_Load | 1 => C_Hand | 3 => C_Sweep | 4 => C_Forward | 5 => C_Backward | 6 => C_Row | _ => 0, fun c => match c with | 2 => ["_forward", "_backward"] | 1 => ["_size", "_small", "_held"] | 3 => ["_size"] | 4 => ["_size"] | 5 => ["_size"] | 6 => ["_numbers"] | _ => [], []⟩) ⟨⟨mk_Backward_init, a_Backward_init, i_Backward_init, kc_Backward_init⟩, ⟨_, _, _, _, _, _, _, _, _, _, l_Backward_init, c_Backward_init, ⟨_, _, _, _, _, _, lcd_Backward_init, ufv_Backward_init, umf_Backward_init⟩, ⟨_, _, _, lcc_Backward_init⟩, fun us hl => match us, hl with | [_, _], _ => rfl⟩, ⟨_, kd_Backward_init⟩, ymu_Backward_init, z_super, z_any3, su_Backward_init, ⟨_, _, _, l_Sweep_init.trans (by rw [uoc_Sweep_init])⟩, upm⟩ a_Sweep_init okSweep_init
  have okForward_init := goForward_init (P := P) (w := w) (base := base) (G := ⟨fun c => match c with | 2 => C_Load | 1 => C_Hand | 3 => C_Sweep | 4 => C_Forward | 5 => C_Backward | 6 => C_Row | _ => 0, fun c => match c with | 2 => ["_forward", "_backward"] | 1 => ["_size", "_small", "_held"] | 3 => ["_size"] | 4 => ["_size"] | 5 => ["_size"] | 6 => ["_numbers"] | _ => [], []⟩) ⟨⟨mk_Forward_init, a_Forward_init, i_Forward_init, kc_Forward_init⟩, ⟨_, _, _, _, _, _, _, _, _, _, l_Forward_init, c_Forward_init, ⟨_, _, _, _, _, _, lcd_Forward_init, ufv_Forward_init, umf_Forward_init⟩, ⟨_, _, _, lcc_Forward_init⟩, fun us hl => match us, hl with | [_, _], _ => rfl⟩, ⟨_, kd_Forward_init⟩, ymu_Forward_init, z_super, z_any3, su_Forward_init, ⟨_, _, _, l_Sweep_init.trans (by rw [uoc_Sweep_init])⟩, upm⟩ a_Sweep_init okSweep_init
  have ok_law_made := go_law_made (P := P) (w := w) (base := base) T ⟨PySem.W.mg_of X N a__law_made, _, fun_mk (st := (tp 47)) l__law_made c__law_made k__law_made, ((fun_mk (st := (tp 47)) l__law_made c__law_made k__law_made).binds (ps := ["_law_sweeps_so"]) fun _ _ _ _ _ _ us hl => match us, hl with | [_], _ => rfl)⟩ okBackward_init okForward_init
  have ok_law_done := go_law_done (P := P) (w := w) (base := base) T ⟨PySem.W.mg_of X N a__law_done, _, fun_mk (st := (tp 48)) l__law_done c__law_done k__law_done, ((fun_mk (st := (tp 48)) l__law_done c__law_done k__law_done).binds (ps := ["_law_base", "_law_sweeps_so"]) fun _ _ _ _ _ _ us hl => match us, hl with | [_, _], _ => rfl)⟩ okRow_rshift ok_law_made
  have ok_law_joined := go_law_joined (P := P) (w := w) (base := base) T ⟨PySem.W.mg_of X N a__law_joined, _, fun_mk (st := (tp 50)) l__law_joined c__law_joined k__law_joined, ((fun_mk (st := (tp 50)) l__law_joined c__law_joined k__law_joined).binds (ps := ["_law_sweeps_so"]) fun _ _ _ _ _ _ us hl => match us, hl with | [_], _ => rfl)⟩ 
  have ok_law_mixed_up := go_law_mixed_up (P := P) (w := w) (base := base) T ⟨PySem.W.mg_of X N a__law_mixed_up, _, fun_mk (st := (tp 49)) l__law_mixed_up c__law_mixed_up k__law_mixed_up, ((fun_mk (st := (tp 49)) l__law_mixed_up c__law_mixed_up k__law_mixed_up).binds (ps := ["_law_m", "_law_things"]) fun _ _ _ _ _ _ us hl => match us, hl with | [_, _], _ => rfl)⟩ ok_law_draw
  have ok_law_parted := go_law_parted (P := P) (w := w) (base := base) T ⟨PySem.W.mg_of X N a__law_parted, _, fun_mk (st := (tp 51)) l__law_parted c__law_parted k__law_parted, ((fun_mk (st := (tp 51)) l__law_parted c__law_parted k__law_parted).binds (ps := ["_law_m", "_law_sweeps_so"]) fun _ _ _ _ _ _ us hl => match us, hl with | [_, _], _ => rfl)⟩ ok_law_draw
  have ok_law_sums := go_law_sums (P := P) (w := w) (base := base) T ⟨PySem.W.mg_of X N a__law_sums, _, fun_mk (st := (tp 46)) l__law_sums c__law_sums k__law_sums, ((fun_mk (st := (tp 46)) l__law_sums c__law_sums k__law_sums).binds (ps := ["_law_sweeps_so"]) fun _ _ _ _ _ _ us hl => match us, hl with | [_], _ => rfl)⟩ 
  have ok_law_swept := go_law_swept (P := P) (w := w) (base := base) T ⟨PySem.W.mg_of X N a__law_swept, _, fun_mk (st := (tp 44)) l__law_swept c__law_swept k__law_swept, ((fun_mk (st := (tp 44)) l__law_swept c__law_swept k__law_swept).binds (ps := ["_law_given_here", "_law_k", "_law_is_back"]) fun _ _ _ _ _ _ us hl => match us, hl with | [_, _, _], _ => rfl)⟩ 
  have ok_law_swept_all := go_law_swept_all (P := P) (w := w) (base := base) T ⟨PySem.W.mg_of X N a__law_swept_all, _, fun_mk (st := (tp 45)) l__law_swept_all c__law_swept_all k__law_swept_all, ((fun_mk (st := (tp 45)) l__law_swept_all c__law_swept_all k__law_swept_all).binds (ps := ["_law_given_here", "_law_sweeps_so"]) fun _ _ _ _ _ _ us hl => match us, hl with | [_, _], _ => rfl)⟩ ok_law_swept
  have okis_sweep := gois_sweep (P := P) (w := w) (base := base) T ⟨PySem.W.mg_of X N a_is_sweep, _, fun_mk (st := (tp 24)) l_is_sweep c_is_sweep k_is_sweep, ((fun_mk (st := (tp 24)) l_is_sweep c_is_sweep k_is_sweep).binds (ps := ["value"]) fun _ _ _ _ _ _ us hl => match us, hl with | [_], _ => rfl)⟩ 
  have okcheck_word := gocheck_word (P := P) (w := w) (base := base) T ⟨PySem.W.mg_of X N a_check_word, _, fun_mk (st := (tp 25)) l_check_word c_check_word k_check_word, ((fun_mk (st := (tp 25)) l_check_word c_check_word k_check_word).binds (ps := ["word"]) fun _ _ _ _ _ _ us hl => match us, hl with | [_], _ => rfl)⟩ okis_sweep
  have okload_within_limit := goload_within_limit (P := P) (w := w) (base := base) T ⟨PySem.W.mg_of X N a_load_within_limit, _, fun_mk (st := (tp 14)) l_load_within_limit c_load_within_limit k_load_within_limit, ((fun_mk (st := (tp 14)) l_load_within_limit c_load_within_limit k_load_within_limit).binds (ps := ["forward", "backward"]) fun _ _ _ _ _ _ us hl => match us, hl with | [_, _], _ => rfl)⟩ okLoad_init
  have oksums_of := gosums_of (P := P) (w := w) (base := base) T ⟨PySem.W.mg_of X N a_sums_of, _, fun_mk (st := (tp 27)) l_sums_of c_sums_of k_sums_of, ((fun_mk (st := (tp 27)) l_sums_of c_sums_of k_sums_of).binds (ps := ["word"]) fun _ _ _ _ _ _ us hl => match us, hl with | [_], _ => rfl)⟩ okBackward_size okForward_size okSweep_size
  have okload_of := goload_of (P := P) (w := w) (base := base) T ⟨PySem.W.mg_of X N a_load_of, _, fun_mk (st := (tp 26)) l_load_of c_load_of k_load_of, ((fun_mk (st := (tp 26)) l_load_of c_load_of k_load_of).binds (ps := ["word"]) fun _ _ _ _ _ _ us hl => match us, hl with | [_], _ => rfl)⟩ okcheck_word okload_within_limit oksums_of
  have ok_law_right := go_law_right (P := P) (w := w) (base := base) T ⟨PySem.W.mg_of X N a__law_right, _, fun_mk (st := (tp 52)) l__law_right c__law_right k__law_right, ((fun_mk (st := (tp 52)) l__law_right c__law_right k__law_right).binds (ps := ["_law_m", "_law_given_here", "_law_sweeps_so"]) fun _ _ _ _ _ _ us hl => match us, hl with | [_, _, _], _ => rfl)⟩ okLoad_backward okLoad_forward okLoad_init okRow_eq okRow_numbers okRow_of okRow_rshift ok_law_done ok_law_draw ok_law_joined ok_law_made ok_law_mixed_up ok_law_parted ok_law_sums ok_law_swept_all okload_of
  have ok_law_word := go_law_word (P := P) (w := w) (base := base) T ⟨PySem.W.mg_of X N a__law_word, _, fun_mk (st := (tp 43)) l__law_word c__law_word k__law_word, ((fun_mk (st := (tp 43)) l__law_word c__law_word k__law_word).binds (ps := ["_law_m", "_law_most"]) fun _ _ _ _ _ _ us hl => match us, hl with | [_, _], _ => rfl)⟩ ok_law_draw
  have oklaw := golaw (P := P) (w := w) (base := base) T ⟨PySem.W.mg_of X N a_law, _, fun_mk (st := (tp 53)) l_law c_law k_law, ((fun_mk (st := (tp 53)) l_law c_law k_law).binds (ps := ["_law_script"]) fun _ _ _ _ _ _ us hl => match us, hl with | [_], _ => rfl)⟩ ok_law_begun ok_law_given ok_law_right ok_law_word
  exact oklaw
theorem all_of {w : World} {K : PySem.W.Frag} {h : Heap} {mg : Str → Option Value} (X : K.In h) (N : h.Ns mainGlobals mg) (c : ((fcts K).all fun l => l.all id) = true) (d : fns K = fvs) :
    ∃ G : Cfg, G.tabs = [] ∧ ∀ base : Heap, K.In base → base.Ns mainGlobals mg → OkG PySem.Challenge.rw_handsweeps_k11_whole_only_the_load_count.prog w K mg base true 10 "law" ["_law_script"] (lift G K slaw) :=
  all_mk (C_Load := (ad_C_Load K)) (tk_Load_MOST := (DH.tokC (PySem.W.findCls K (.ref (ad_C_Load K)) (.type "type") "MOST"))) (C_Hand := (ad_C_Hand K)) (tk_Hand_MOST := (DH.tokC (PySem.W.findCls K (.ref (ad_C_Hand K)) (.type "type") "MOST"))) (C_Sweep := (ad_C_Sweep K)) (C_Forward := (ad_C_Forward K)) (C_Backward := (ad_C_Backward K)) (C_Row := (ad_C_Row K)) (tk_MOST_NUMBERS := (DH.tokO (PySem.W.nsIn K mainGlobals "MOST_NUMBERS"))) (tk_GREATEST := (DH.tokO (PySem.W.nsIn K mainGlobals "GREATEST"))) (f__law_folded := (ad_f__law_folded K)) (od__law_folded := (DH.oDct (K.lookup (ad_f__law_folded K)))) (an__law_folded := ((DH.oFd (K.lookup (ad_f__law_folded K))).annotations)) (sl__law_folded := (DH.oSlt (K.lookup (ad_f__law_folded K)))) (oc__law_folded := (DH.oCls (K.lookup (ad_f__law_folded K)))) (dc__law_folded := ((DH.oFd (K.lookup (ad_f__law_folded K))).doc)) (pm__law_folded := ((DH.oFd (K.lookup (ad_f__law_folded K))).pyModule)) (cd__law_folded := ((DH.oFd (K.lookup (ad_f__law_folded K))).code)) (ct__law_folded := ((DH.oFd (K.lookup (ad_f__law_folded K))).closureTuple)) (kV__law_folded := ((DH.oFd (K.lookup (ad_f__law_folded K))).kwdefaults)) (f__law_begun := (ad_f__law_begun K)) (od__law_begun := (DH.oDct (K.lookup (ad_f__law_begun K)))) (an__law_begun := ((DH.oFd (K.lookup (ad_f__law_begun K))).annotations)) (sl__law_begun := (DH.oSlt (K.lookup (ad_f__law_begun K)))) (oc__law_begun := (DH.oCls (K.lookup (ad_f__law_begun K)))) (dc__law_begun := ((DH.oFd (K.lookup (ad_f__law_begun K))).doc)) (pm__law_begun := ((DH.oFd (K.lookup (ad_f__law_begun K))).pyModule)) (cd__law_begun := ((DH.oFd (K.lookup (ad_f__law_begun K))).code)) (ct__law_begun := ((DH.oFd (K.lookup (ad_f__law_begun K))).closureTuple)) (kV__law_begun := ((DH.oFd (K.lookup (ad_f__law_begun K))).kwdefaults)) (f__law_mixed := (ad_f__law_mixed K)) (od__law_mixed := (DH.oDct (K.lookup (ad_f__law_mixed K)))) (an__law_mixed := ((DH.oFd (K.lookup (ad_f__law_mixed K))).annotations)) (sl__law_mixed := (DH.oSlt (K.lookup (ad_f__law_mixed K)))) (oc__law_mixed := (DH.oCls (K.lookup (ad_f__law_mixed K)))) (dc__law_mixed := ((DH.oFd (K.lookup (ad_f__law_mixed K))).doc)) (pm__law_mixed := ((DH.oFd (K.lookup (ad_f__law_mixed K))).pyModule)) (cd__law_mixed := ((DH.oFd (K.lookup (ad_f__law_mixed K))).code)) (ct__law_mixed := ((DH.oFd (K.lookup (ad_f__law_mixed K))).closureTuple)) (kV__law_mixed := ((DH.oFd (K.lookup (ad_f__law_mixed K))).kwdefaults)) (f__law_draw := (ad_f__law_draw K)) (od__law_draw := (DH.oDct (K.lookup (ad_f__law_draw K)))) (an__law_draw := ((DH.oFd (K.lookup (ad_f__law_draw K))).annotations)) (sl__law_draw := (DH.oSlt (K.lookup (ad_f__law_draw K)))) (oc__law_draw := (DH.oCls (K.lookup (ad_f__law_draw K)))) (dc__law_draw := ((DH.oFd (K.lookup (ad_f__law_draw K))).doc)) (pm__law_draw := ((DH.oFd (K.lookup (ad_f__law_draw K))).pyModule)) (cd__law_draw := ((DH.oFd (K.lookup (ad_f__law_draw K))).code)) (ct__law_draw := ((DH.oFd (K.lookup (ad_f__law_draw K))).closureTuple)) (kV__law_draw := ((DH.oFd (K.lookup (ad_f__law_draw K))).kwdefaults)) (f__law_order := (ad_f__law_order K)) (od__law_order := (DH.oDct (K.lookup (ad_f__law_order K)))) (an__law_order := ((DH.oFd (K.lookup (ad_f__law_order K))).annotations)) (sl__law_order := (DH.oSlt (K.lookup (ad_f__law_order K)))) (oc__law_order := (DH.oCls (K.lookup (ad_f__law_order K)))) (dc__law_order := ((DH.oFd (K.lookup (ad_f__law_order K))).doc)) (pm__law_order := ((DH.oFd (K.lookup (ad_f__law_order K))).pyModule)) (cd__law_order := ((DH.oFd (K.lookup (ad_f__law_order K))).code)) (ct__law_order := ((DH.oFd (K.lookup (ad_f__law_order K))).closureTuple)) (kV__law_order := ((DH.oFd (K.lookup (ad_f__law_order K))).kwdefaults)) (f__law_given := (ad_f__law_given K)) (od__law_given := (DH.oDct (K.lookup (ad_f__law_given K)))) (an__law_given := ((DH.oFd (K.lookup (ad_f__law_given K))).annotations)) (sl__law_given := (DH.oSlt (K.lookup (ad_f__law_given K)))) (oc__law_given := (DH.oCls (K.lookup (ad_f__law_given K)))) (dc__law_given := ((DH.oFd (K.lookup (ad_f__law_given K))).doc)) (pm__law_given := ((DH.oFd (K.lookup (ad_f__law_given K))).pyModule)) (cd__law_given := ((DH.oFd (K.lookup (ad_f__law_given K))).code)) (ct__law_given := ((DH.oFd (K.lookup (ad_f__law_given K))).closureTuple)) (kV__law_given := ((DH.oFd (K.lookup (ad_f__law_given K))).kwdefaults)) (f_Load_backward := (ad_f_Load_backward K)) (od_Load_backward := (DH.oDct (K.lookup (ad_f_Load_backward K)))) (an_Load_backward := ((DH.oFd (K.lookup (ad_f_Load_backward K))).annotations)) (sl_Load_backward := (DH.oSlt (K.lookup (ad_f_Load_backward K)))) (oc_Load_backward := (DH.oCls (K.lookup (ad_f_Load_backward K)))) (dc_Load_backward := ((DH.oFd (K.lookup (ad_f_Load_backward K))).doc)) (pm_Load_backward := ((DH.oFd (K.lookup (ad_f_Load_backward K))).pyModule)) (cd_Load_backward := ((DH.oFd (K.lookup (ad_f_Load_backward K))).code)) (ct_Load_backward := ((DH.oFd (K.lookup (ad_f_Load_backward K))).closureTuple)) (kV_Load_backward := ((DH.oFd (K.lookup (ad_f_Load_backward K))).kwdefaults)) (p_Load_backward := (ad_p_Load_backward K)) (r_Load_backward := (DH.tlR (PySem.W.recIn K (ad_p_Load_backward K) "property"))) (f_Load_forward := (ad_f_Load_forward K)) (od_Load_forward := (DH.oDct (K.lookup (ad_f_Load_forward K)))) (an_Load_forward := ((DH.oFd (K.lookup (ad_f_Load_forward K))).annotations)) (sl_Load_forward := (DH.oSlt (K.lookup (ad_f_Load_forward K)))) (oc_Load_forward := (DH.oCls (K.lookup (ad_f_Load_forward K)))) (dc_Load_forward := ((DH.oFd (K.lookup (ad_f_Load_forward K))).doc)) (pm_Load_forward := ((DH.oFd (K.lookup (ad_f_Load_forward K))).pyModule)) (cd_Load_forward := ((DH.oFd (K.lookup (ad_f_Load_forward K))).code)) (ct_Load_forward := ((DH.oFd (K.lookup (ad_f_Load_forward K))).closureTuple)) (kV_Load_forward := ((DH.oFd (K.lookup (ad_f_Load_forward K))).kwdefaults)) (p_Load_forward := (ad_p_Load_forward K)) (r_Load_forward := (DH.tlR (PySem.W.recIn K (ad_p_Load_forward K) "property"))) (f_is_integer := (ad_f_is_integer K)) (od_is_integer := (DH.oDct (K.lookup (ad_f_is_integer K)))) (an_is_integer := ((DH.oFd (K.lookup (ad_f_is_integer K))).annotations)) (sl_is_integer := (DH.oSlt (K.lookup (ad_f_is_integer K)))) (oc_is_integer := (DH.oCls (K.lookup (ad_f_is_integer K)))) (dc_is_integer := ((DH.oFd (K.lookup (ad_f_is_integer K))).doc)) (pm_is_integer := ((DH.oFd (K.lookup (ad_f_is_integer K))).pyModule)) (cd_is_integer := ((DH.oFd (K.lookup (ad_f_is_integer K))).code)) (ct_is_integer := ((DH.oFd (K.lookup (ad_f_is_integer K))).closureTuple)) (kV_is_integer := ((DH.oFd (K.lookup (ad_f_is_integer K))).kwdefaults)) (f_is_integer_within := (ad_f_is_integer_within K)) (od_is_integer_within := (DH.oDct (K.lookup (ad_f_is_integer_within K)))) (an_is_integer_within := ((DH.oFd (K.lookup (ad_f_is_integer_within K))).annotations)) (sl_is_integer_within := (DH.oSlt (K.lookup (ad_f_is_integer_within K)))) (oc_is_integer_within := (DH.oCls (K.lookup (ad_f_is_integer_within K)))) (dc_is_integer_within := ((DH.oFd (K.lookup (ad_f_is_integer_within K))).doc)) (pm_is_integer_within := ((DH.oFd (K.lookup (ad_f_is_integer_within K))).pyModule)) (cd_is_integer_within := ((DH.oFd (K.lookup (ad_f_is_integer_within K))).code)) (ct_is_integer_within := ((DH.oFd (K.lookup (ad_f_is_integer_within K))).closureTuple)) (kV_is_integer_within := ((DH.oFd (K.lookup (ad_f_is_integer_within K))).kwdefaults)) (f_Load_init := (ad_f_Load_init K)) (od_Load_init := (DH.oDct (K.lookup (ad_f_Load_init K)))) (an_Load_init := ((DH.oFd (K.lookup (ad_f_Load_init K))).annotations)) (sl_Load_init := (DH.oSlt (K.lookup (ad_f_Load_init K)))) (oc_Load_init := (DH.oCls (K.lookup (ad_f_Load_init K)))) (dc_Load_init := ((DH.oFd (K.lookup (ad_f_Load_init K))).doc)) (pm_Load_init := ((DH.oFd (K.lookup (ad_f_Load_init K))).pyModule)) (cd_Load_init := ((DH.oFd (K.lookup (ad_f_Load_init K))).code)) (ct_Load_init := ((DH.oFd (K.lookup (ad_f_Load_init K))).closureTuple)) (kV_Load_init := ((DH.oFd (K.lookup (ad_f_Load_init K))).kwdefaults)) (f_Row_eq := (ad_f_Row_eq K)) (od_Row_eq := (DH.oDct (K.lookup (ad_f_Row_eq K)))) (an_Row_eq := ((DH.oFd (K.lookup (ad_f_Row_eq K))).annotations)) (sl_Row_eq := (DH.oSlt (K.lookup (ad_f_Row_eq K)))) (oc_Row_eq := (DH.oCls (K.lookup (ad_f_Row_eq K)))) (dc_Row_eq := ((DH.oFd (K.lookup (ad_f_Row_eq K))).doc)) (pm_Row_eq := ((DH.oFd (K.lookup (ad_f_Row_eq K))).pyModule)) (cd_Row_eq := ((DH.oFd (K.lookup (ad_f_Row_eq K))).code)) (ct_Row_eq := ((DH.oFd (K.lookup (ad_f_Row_eq K))).closureTuple)) (kV_Row_eq := ((DH.oFd (K.lookup (ad_f_Row_eq K))).kwdefaults)) (f_Row_numbers := (ad_f_Row_numbers K)) (od_Row_numbers := (DH.oDct (K.lookup (ad_f_Row_numbers K)))) (an_Row_numbers := ((DH.oFd (K.lookup (ad_f_Row_numbers K))).annotations)) (sl_Row_numbers := (DH.oSlt (K.lookup (ad_f_Row_numbers K)))) (oc_Row_numbers := (DH.oCls (K.lookup (ad_f_Row_numbers K)))) (dc_Row_numbers := ((DH.oFd (K.lookup (ad_f_Row_numbers K))).doc)) (pm_Row_numbers := ((DH.oFd (K.lookup (ad_f_Row_numbers K))).pyModule)) (cd_Row_numbers := ((DH.oFd (K.lookup (ad_f_Row_numbers K))).code)) (ct_Row_numbers := ((DH.oFd (K.lookup (ad_f_Row_numbers K))).closureTuple)) (kV_Row_numbers := ((DH.oFd (K.lookup (ad_f_Row_numbers K))).kwdefaults)) (p_Row_numbers := (ad_p_Row_numbers K)) (r_Row_numbers := (DH.tlR (PySem.W.recIn K (ad_p_Row_numbers K) "property"))) (f_is_count := (ad_f_is_count K)) (od_is_count := (DH.oDct (K.lookup (ad_f_is_count K)))) (an_is_count := ((DH.oFd (K.lookup (ad_f_is_count K))).annotations)) (sl_is_count := (DH.oSlt (K.lookup (ad_f_is_count K)))) (oc_is_count := (DH.oCls (K.lookup (ad_f_is_count K)))) (dc_is_count := ((DH.oFd (K.lookup (ad_f_is_count K))).doc)) (pm_is_count := ((DH.oFd (K.lookup (ad_f_is_count K))).pyModule)) (cd_is_count := ((DH.oFd (K.lookup (ad_f_is_count K))).code)) (ct_is_count := ((DH.oFd (K.lookup (ad_f_is_count K))).closureTuple)) (kV_is_count := ((DH.oFd (K.lookup (ad_f_is_count K))).kwdefaults)) (f__check_numbers := (ad_f__check_numbers K)) (od__check_numbers := (DH.oDct (K.lookup (ad_f__check_numbers K)))) (an__check_numbers := ((DH.oFd (K.lookup (ad_f__check_numbers K))).annotations)) (sl__check_numbers := (DH.oSlt (K.lookup (ad_f__check_numbers K)))) (oc__check_numbers := (DH.oCls (K.lookup (ad_f__check_numbers K)))) (dc__check_numbers := ((DH.oFd (K.lookup (ad_f__check_numbers K))).doc)) (pm__check_numbers := ((DH.oFd (K.lookup (ad_f__check_numbers K))).pyModule)) (cd__check_numbers := ((DH.oFd (K.lookup (ad_f__check_numbers K))).code)) (ct__check_numbers := ((DH.oFd (K.lookup (ad_f__check_numbers K))).closureTuple)) (kV__check_numbers := ((DH.oFd (K.lookup (ad_f__check_numbers K))).kwdefaults)) (f_Row_init := (ad_f_Row_init K)) (od_Row_init := (DH.oDct (K.lookup (ad_f_Row_init K)))) (an_Row_init := ((DH.oFd (K.lookup (ad_f_Row_init K))).annotations)) (sl_Row_init := (DH.oSlt (K.lookup (ad_f_Row_init K)))) (oc_Row_init := (DH.oCls (K.lookup (ad_f_Row_init K)))) (dc_Row_init := ((DH.oFd (K.lookup (ad_f_Row_init K))).doc)) (pm_Row_init := ((DH.oFd (K.lookup (ad_f_Row_init K))).pyModule)) (cd_Row_init := ((DH.oFd (K.lookup (ad_f_Row_init K))).code)) (ct_Row_init := ((DH.oFd (K.lookup (ad_f_Row_init K))).closureTuple)) (kV_Row_init := ((DH.oFd (K.lookup (ad_f_Row_init K))).kwdefaults)) (f_Row_of := (ad_f_Row_of K)) (od_Row_of := (DH.oDct (K.lookup (ad_f_Row_of K)))) (an_Row_of := ((DH.oFd (K.lookup (ad_f_Row_of K))).annotations)) (sl_Row_of := (DH.oSlt (K.lookup (ad_f_Row_of K)))) (oc_Row_of := (DH.oCls (K.lookup (ad_f_Row_of K)))) (dc_Row_of := ((DH.oFd (K.lookup (ad_f_Row_of K))).doc)) (pm_Row_of := ((DH.oFd (K.lookup (ad_f_Row_of K))).pyModule)) (cd_Row_of := ((DH.oFd (K.lookup (ad_f_Row_of K))).code)) (ct_Row_of := ((DH.oFd (K.lookup (ad_f_Row_of K))).closureTuple)) (kV_Row_of := ((DH.oFd (K.lookup (ad_f_Row_of K))).kwdefaults)) (p_Row_of := (ad_p_Row_of K)) (r_Row_of := (DH.tlR (PySem.W.recIn K (ad_p_Row_of K) "classmethod"))) (f_Backward_size := (ad_f_Backward_size K)) (od_Backward_size := (DH.oDct (K.lookup (ad_f_Backward_size K)))) (an_Backward_size := ((DH.oFd (K.lookup (ad_f_Backward_size K))).annotations)) (sl_Backward_size := (DH.oSlt (K.lookup (ad_f_Backward_size K)))) (oc_Backward_size := (DH.oCls (K.lookup (ad_f_Backward_size K)))) (dc_Backward_size := ((DH.oFd (K.lookup (ad_f_Backward_size K))).doc)) (pm_Backward_size := ((DH.oFd (K.lookup (ad_f_Backward_size K))).pyModule)) (cd_Backward_size := ((DH.oFd (K.lookup (ad_f_Backward_size K))).code)) (ct_Backward_size := ((DH.oFd (K.lookup (ad_f_Backward_size K))).closureTuple)) (kV_Backward_size := ((DH.oFd (K.lookup (ad_f_Backward_size K))).kwdefaults)) (p_Backward_size := (ad_p_Backward_size K)) (r_Backward_size := (DH.tlR (PySem.W.recIn K (ad_p_Backward_size K) "property"))) (f_Forward_size := (ad_f_Forward_size K)) (od_Forward_size := (DH.oDct (K.lookup (ad_f_Forward_size K)))) (an_Forward_size := ((DH.oFd (K.lookup (ad_f_Forward_size K))).annotations)) (sl_Forward_size := (DH.oSlt (K.lookup (ad_f_Forward_size K)))) (oc_Forward_size := (DH.oCls (K.lookup (ad_f_Forward_size K)))) (dc_Forward_size := ((DH.oFd (K.lookup (ad_f_Forward_size K))).doc)) (pm_Forward_size := ((DH.oFd (K.lookup (ad_f_Forward_size K))).pyModule)) (cd_Forward_size := ((DH.oFd (K.lookup (ad_f_Forward_size K))).code)) (ct_Forward_size := ((DH.oFd (K.lookup (ad_f_Forward_size K))).closureTuple)) (kV_Forward_size := ((DH.oFd (K.lookup (ad_f_Forward_size K))).kwdefaults)) (p_Forward_size := (ad_p_Forward_size K)) (r_Forward_size := (DH.tlR (PySem.W.recIn K (ad_p_Forward_size K) "property"))) (f_Sweep_size := (ad_f_Sweep_size K)) (od_Sweep_size := (DH.oDct (K.lookup (ad_f_Sweep_size K)))) (an_Sweep_size := ((DH.oFd (K.lookup (ad_f_Sweep_size K))).annotations)) (sl_Sweep_size := (DH.oSlt (K.lookup (ad_f_Sweep_size K)))) (oc_Sweep_size := (DH.oCls (K.lookup (ad_f_Sweep_size K)))) (dc_Sweep_size := ((DH.oFd (K.lookup (ad_f_Sweep_size K))).doc)) (pm_Sweep_size := ((DH.oFd (K.lookup (ad_f_Sweep_size K))).pyModule)) (cd_Sweep_size := ((DH.oFd (K.lookup (ad_f_Sweep_size K))).code)) (ct_Sweep_size := ((DH.oFd (K.lookup (ad_f_Sweep_size K))).closureTuple)) (kV_Sweep_size := ((DH.oFd (K.lookup (ad_f_Sweep_size K))).kwdefaults)) (p_Sweep_size := (ad_p_Sweep_size K)) (r_Sweep_size := (DH.tlR (PySem.W.recIn K (ad_p_Sweep_size K) "property"))) (f__forward_and_backward := (ad_f__forward_and_backward K)) (od__forward_and_backward := (DH.oDct (K.lookup (ad_f__forward_and_backward K)))) (an__forward_and_backward := ((DH.oFd (K.lookup (ad_f__forward_and_backward K))).annotations)) (sl__forward_and_backward := (DH.oSlt (K.lookup (ad_f__forward_and_backward K)))) (oc__forward_and_backward := (DH.oCls (K.lookup (ad_f__forward_and_backward K)))) (dc__forward_and_backward := ((DH.oFd (K.lookup (ad_f__forward_and_backward K))).doc)) (pm__forward_and_backward := ((DH.oFd (K.lookup (ad_f__forward_and_backward K))).pyModule)) (cd__forward_and_backward := ((DH.oFd (K.lookup (ad_f__forward_and_backward K))).code)) (ct__forward_and_backward := ((DH.oFd (K.lookup (ad_f__forward_and_backward K))).closureTuple)) (kV__forward_and_backward := ((DH.oFd (K.lookup (ad_f__forward_and_backward K))).kwdefaults)) (f__mirrored := (ad_f__mirrored K)) (od__mirrored := (DH.oDct (K.lookup (ad_f__mirrored K)))) (an__mirrored := ((DH.oFd (K.lookup (ad_f__mirrored K))).annotations)) (sl__mirrored := (DH.oSlt (K.lookup (ad_f__mirrored K)))) (oc__mirrored := (DH.oCls (K.lookup (ad_f__mirrored K)))) (dc__mirrored := ((DH.oFd (K.lookup (ad_f__mirrored K))).doc)) (pm__mirrored := ((DH.oFd (K.lookup (ad_f__mirrored K))).pyModule)) (cd__mirrored := ((DH.oFd (K.lookup (ad_f__mirrored K))).code)) (ct__mirrored := ((DH.oFd (K.lookup (ad_f__mirrored K))).closureTuple)) (kV__mirrored := ((DH.oFd (K.lookup (ad_f__mirrored K))).kwdefaults)) (f_laid_down := (ad_f_laid_down K)) (od_laid_down := (DH.oDct (K.lookup (ad_f_laid_down K)))) (an_laid_down := ((DH.oFd (K.lookup (ad_f_laid_down K))).annotations)) (sl_laid_down := (DH.oSlt (K.lookup (ad_f_laid_down K)))) (oc_laid_down := (DH.oCls (K.lookup (ad_f_laid_down K)))) (dc_laid_down := ((DH.oFd (K.lookup (ad_f_laid_down K))).doc)) (pm_laid_down := ((DH.oFd (K.lookup (ad_f_laid_down K))).pyModule)) (cd_laid_down := ((DH.oFd (K.lookup (ad_f_laid_down K))).code)) (ct_laid_down := ((DH.oFd (K.lookup (ad_f_laid_down K))).closureTuple)) (kV_laid_down := ((DH.oFd (K.lookup (ad_f_laid_down K))).kwdefaults)) (f_Row_rshift := (ad_f_Row_rshift K)) (od_Row_rshift := (DH.oDct (K.lookup (ad_f_Row_rshift K)))) (an_Row_rshift := ((DH.oFd (K.lookup (ad_f_Row_rshift K))).annotations)) (sl_Row_rshift := (DH.oSlt (K.lookup (ad_f_Row_rshift K)))) (oc_Row_rshift := (DH.oCls (K.lookup (ad_f_Row_rshift K)))) (dc_Row_rshift := ((DH.oFd (K.lookup (ad_f_Row_rshift K))).doc)) (pm_Row_rshift := ((DH.oFd (K.lookup (ad_f_Row_rshift K))).pyModule)) (cd_Row_rshift := ((DH.oFd (K.lookup (ad_f_Row_rshift K))).code)) (ct_Row_rshift := ((DH.oFd (K.lookup (ad_f_Row_rshift K))).closureTuple)) (kV_Row_rshift := ((DH.oFd (K.lookup (ad_f_Row_rshift K))).kwdefaults)) (f_Sweep_init := (ad_f_Sweep_init K)) (od_Sweep_init := (DH.oDct (K.lookup (ad_f_Sweep_init K)))) (an_Sweep_init := ((DH.oFd (K.lookup (ad_f_Sweep_init K))).annotations)) (sl_Sweep_init := (DH.oSlt (K.lookup (ad_f_Sweep_init K)))) (oc_Sweep_init := (DH.oCls (K.lookup (ad_f_Sweep_init K)))) (dc_Sweep_init := ((DH.oFd (K.lookup (ad_f_Sweep_init K))).doc)) (pm_Sweep_init := ((DH.oFd (K.lookup (ad_f_Sweep_init K))).pyModule)) (cd_Sweep_init := ((DH.oFd (K.lookup (ad_f_Sweep_init K))).code)) (ct_Sweep_init := ((DH.oFd (K.lookup (ad_f_Sweep_init K))).closureTuple)) (kV_Sweep_init := ((DH.oFd (K.lookup (ad_f_Sweep_init K))).kwdefaults)) (f_Backward_init := (ad_f_Backward_init K)) (od_Backward_init := (DH.oDct (K.lookup (ad_f_Backward_init K)))) (an_Backward_init := ((DH.oFd (K.lookup (ad_f_Backward_init K))).annotations)) (sl_Backward_init := (DH.oSlt (K.lookup (ad_f_Backward_init K)))) (oc_Backward_init := (DH.oCls (K.lookup (ad_f_Backward_init K)))) (dc_Backward_init := ((DH.oFd (K.lookup (ad_f_Backward_init K))).doc)) (pm_Backward_init := ((DH.oFd (K.lookup (ad_f_Backward_init K))).pyModule)) (ct_Backward_init := ((DH.oFd (K.lookup (ad_f_Backward_init K))).closureTuple)) (kV_Backward_init := ((DH.oFd (K.lookup (ad_f_Backward_init K))).kwdefaults)) (cda_Backward_init := (DH.vRef (DH.oFd (K.lookup (ad_f_Backward_init K))).code)) (cc_Backward_init := (DH.oCl1 (K.lookup (ad_f_Backward_init K)))) (ccl_Backward_init := (DH.oCls (K.lookup (DH.vRef (DH.oFd (K.lookup (ad_f_Backward_init K))).code)))) (cl_Backward_init := (DH.oCls (K.lookup (DH.oCl1 (K.lookup (ad_f_Backward_init K)))))) (cdd_Backward_init := (DH.oDct (K.lookup (DH.vRef (DH.oFd (K.lookup (ad_f_Backward_init K))).code)))) (cld_Backward_init := (DH.oDct (K.lookup (DH.oCl1 (K.lookup (ad_f_Backward_init K)))))) (vs_Backward_init := (DH.oFlds (K.lookup (DH.vRef (DH.oFd (K.lookup (ad_f_Backward_init K))).code)))) (ccs_Backward_init := (DH.oSlt (K.lookup (DH.vRef (DH.oFd (K.lookup (ad_f_Backward_init K))).code)))) (csl_Backward_init := (DH.oSlt (K.lookup (DH.oCl1 (K.lookup (ad_f_Backward_init K)))))) (file_Backward_init := (DH.vStr ((DH.oFlds (K.lookup (DH.vRef (DH.oFd (K.lookup (ad_f_Backward_init K))).code)))[2]?))) (tf_Backward_init := (DH.vStrT ((DH.oFlds (K.lookup (DH.vRef (DH.oFd (K.lookup (ad_f_Backward_init K))).code)))[2]?))) (cdt_Backward_init := (DH.oCd (PySem.W.clsIn K (ad_C_Backward K)))) (f_Forward_init := (ad_f_Forward_init K)) (od_Forward_init := (DH.oDct (K.lookup (ad_f_Forward_init K)))) (an_Forward_init := ((DH.oFd (K.lookup (ad_f_Forward_init K))).annotations)) (sl_Forward_init := (DH.oSlt (K.lookup (ad_f_Forward_init K)))) (oc_Forward_init := (DH.oCls (K.lookup (ad_f_Forward_init K)))) (dc_Forward_init := ((DH.oFd (K.lookup (ad_f_Forward_init K))).doc)) (pm_Forward_init := ((DH.oFd (K.lookup (ad_f_Forward_init K))).pyModule)) (ct_Forward_init := ((DH.oFd (K.lookup (ad_f_Forward_init K))).closureTuple)) (kV_Forward_init := ((DH.oFd (K.lookup (ad_f_Forward_init K))).kwdefaults)) (cda_Forward_init := (DH.vRef (DH.oFd (K.lookup (ad_f_Forward_init K))).code)) (cc_Forward_init := (DH.oCl1 (K.lookup (ad_f_Forward_init K)))) (ccl_Forward_init := (DH.oCls (K.lookup (DH.vRef (DH.oFd (K.lookup (ad_f_Forward_init K))).code)))) (cl_Forward_init := (DH.oCls (K.lookup (DH.oCl1 (K.lookup (ad_f_Forward_init K)))))) (cdd_Forward_init := (DH.oDct (K.lookup (DH.vRef (DH.oFd (K.lookup (ad_f_Forward_init K))).code)))) (cld_Forward_init := (DH.oDct (K.lookup (DH.oCl1 (K.lookup (ad_f_Forward_init K)))))) (vs_Forward_init := (DH.oFlds (K.lookup (DH.vRef (DH.oFd (K.lookup (ad_f_Forward_init K))).code)))) (ccs_Forward_init := (DH.oSlt (K.lookup (DH.vRef (DH.oFd (K.lookup (ad_f_Forward_init K))).code)))) (csl_Forward_init := (DH.oSlt (K.lookup (DH.oCl1 (K.lookup (ad_f_Forward_init K)))))) (file_Forward_init := (DH.vStr ((DH.oFlds (K.lookup (DH.vRef (DH.oFd (K.lookup (ad_f_Forward_init K))).code)))[2]?))) (tf_Forward_init := (DH.vStrT ((DH.oFlds (K.lookup (DH.vRef (DH.oFd (K.lookup (ad_f_Forward_init K))).code)))[2]?))) (cdt_Forward_init := (DH.oCd (PySem.W.clsIn K (ad_C_Forward K)))) (f__law_made := (ad_f__law_made K)) (od__law_made := (DH.oDct (K.lookup (ad_f__law_made K)))) (an__law_made := ((DH.oFd (K.lookup (ad_f__law_made K))).annotations)) (sl__law_made := (DH.oSlt (K.lookup (ad_f__law_made K)))) (oc__law_made := (DH.oCls (K.lookup (ad_f__law_made K)))) (dc__law_made := ((DH.oFd (K.lookup (ad_f__law_made K))).doc)) (pm__law_made := ((DH.oFd (K.lookup (ad_f__law_made K))).pyModule)) (cd__law_made := ((DH.oFd (K.lookup (ad_f__law_made K))).code)) (ct__law_made := ((DH.oFd (K.lookup (ad_f__law_made K))).closureTuple)) (kV__law_made := ((DH.oFd (K.lookup (ad_f__law_made K))).kwdefaults)) (f__law_done := (ad_f__law_done K)) (od__law_done := (DH.oDct (K.lookup (ad_f__law_done K)))) (an__law_done := ((DH.oFd (K.lookup (ad_f__law_done K))).annotations)) (sl__law_done := (DH.oSlt (K.lookup (ad_f__law_done K)))) (oc__law_done := (DH.oCls (K.lookup (ad_f__law_done K)))) (dc__law_done := ((DH.oFd (K.lookup (ad_f__law_done K))).doc)) (pm__law_done := ((DH.oFd (K.lookup (ad_f__law_done K))).pyModule)) (cd__law_done := ((DH.oFd (K.lookup (ad_f__law_done K))).code)) (ct__law_done := ((DH.oFd (K.lookup (ad_f__law_done K))).closureTuple)) (kV__law_done := ((DH.oFd (K.lookup (ad_f__law_done K))).kwdefaults)) (f__law_joined := (ad_f__law_joined K)) (od__law_joined := (DH.oDct (K.lookup (ad_f__law_joined K)))) (an__law_joined := ((DH.oFd (K.lookup (ad_f__law_joined K))).annotations)) (sl__law_joined := (DH.oSlt (K.lookup (ad_f__law_joined K)))) (oc__law_joined := (DH.oCls (K.lookup (ad_f__law_joined K)))) (dc__law_joined := ((DH.oFd (K.lookup (ad_f__law_joined K))).doc)) (pm__law_joined := ((DH.oFd (K.lookup (ad_f__law_joined K))).pyModule)) (cd__law_joined := ((DH.oFd (K.lookup (ad_f__law_joined K))).code)) (ct__law_joined := ((DH.oFd (K.lookup (ad_f__law_joined K))).closureTuple)) (kV__law_joined := ((DH.oFd (K.lookup (ad_f__law_joined K))).kwdefaults)) (f__law_mixed_up := (ad_f__law_mixed_up K)) (od__law_mixed_up := (DH.oDct (K.lookup (ad_f__law_mixed_up K)))) (an__law_mixed_up := ((DH.oFd (K.lookup (ad_f__law_mixed_up K))).annotations)) (sl__law_mixed_up := (DH.oSlt (K.lookup (ad_f__law_mixed_up K)))) (oc__law_mixed_up := (DH.oCls (K.lookup (ad_f__law_mixed_up K)))) (dc__law_mixed_up := ((DH.oFd (K.lookup (ad_f__law_mixed_up K))).doc)) (pm__law_mixed_up := ((DH.oFd (K.lookup (ad_f__law_mixed_up K))).pyModule)) (cd__law_mixed_up := ((DH.oFd (K.lookup (ad_f__law_mixed_up K))).code)) (ct__law_mixed_up := ((DH.oFd (K.lookup (ad_f__law_mixed_up K))).closureTuple)) (kV__law_mixed_up := ((DH.oFd (K.lookup (ad_f__law_mixed_up K))).kwdefaults)) (f__law_parted := (ad_f__law_parted K)) (od__law_parted := (DH.oDct (K.lookup (ad_f__law_parted K)))) (an__law_parted := ((DH.oFd (K.lookup (ad_f__law_parted K))).annotations)) (sl__law_parted := (DH.oSlt (K.lookup (ad_f__law_parted K)))) (oc__law_parted := (DH.oCls (K.lookup (ad_f__law_parted K)))) (dc__law_parted := ((DH.oFd (K.lookup (ad_f__law_parted K))).doc)) (pm__law_parted := ((DH.oFd (K.lookup (ad_f__law_parted K))).pyModule)) (cd__law_parted := ((DH.oFd (K.lookup (ad_f__law_parted K))).code)) (ct__law_parted := ((DH.oFd (K.lookup (ad_f__law_parted K))).closureTuple)) (kV__law_parted := ((DH.oFd (K.lookup (ad_f__law_parted K))).kwdefaults)) (f__law_sums := (ad_f__law_sums K)) (od__law_sums := (DH.oDct (K.lookup (ad_f__law_sums K)))) (an__law_sums := ((DH.oFd (K.lookup (ad_f__law_sums K))).annotations)) (sl__law_sums := (DH.oSlt (K.lookup (ad_f__law_sums K)))) (oc__law_sums := (DH.oCls (K.lookup (ad_f__law_sums K)))) (dc__law_sums := ((DH.oFd (K.lookup (ad_f__law_sums K))).doc)) (pm__law_sums := ((DH.oFd (K.lookup (ad_f__law_sums K))).pyModule)) (cd__law_sums := ((DH.oFd (K.lookup (ad_f__law_sums K))).code)) (ct__law_sums := ((DH.oFd (K.lookup (ad_f__law_sums K))).closureTuple)) (kV__law_sums := ((DH.oFd (K.lookup (ad_f__law_sums K))).kwdefaults)) (f__law_swept := (ad_f__law_swept K)) (od__law_swept := (DH.oDct (K.lookup (ad_f__law_swept K)))) (an__law_swept := ((DH.oFd (K.lookup (ad_f__law_swept K))).annotations)) (sl__law_swept := (DH.oSlt (K.lookup (ad_f__law_swept K)))) (oc__law_swept := (DH.oCls (K.lookup (ad_f__law_swept K)))) (dc__law_swept := ((DH.oFd (K.lookup (ad_f__law_swept K))).doc)) (pm__law_swept := ((DH.oFd (K.lookup (ad_f__law_swept K))).pyModule)) (cd__law_swept := ((DH.oFd (K.lookup (ad_f__law_swept K))).code)) (ct__law_swept := ((DH.oFd (K.lookup (ad_f__law_swept K))).closureTuple)) (kV__law_swept := ((DH.oFd (K.lookup (ad_f__law_swept K))).kwdefaults)) (f__law_swept_all := (ad_f__law_swept_all K)) (od__law_swept_all := (DH.oDct (K.lookup (ad_f__law_swept_all K)))) (an__law_swept_all := ((DH.oFd (K.lookup (ad_f__law_swept_all K))).annotations)) (sl__law_swept_all := (DH.oSlt (K.lookup (ad_f__law_swept_all K)))) (oc__law_swept_all := (DH.oCls (K.lookup (ad_f__law_swept_all K)))) (dc__law_swept_all := ((DH.oFd (K.lookup (ad_f__law_swept_all K))).doc)) (pm__law_swept_all := ((DH.oFd (K.lookup (ad_f__law_swept_all K))).pyModule)) (cd__law_swept_all := ((DH.oFd (K.lookup (ad_f__law_swept_all K))).code)) (ct__law_swept_all := ((DH.oFd (K.lookup (ad_f__law_swept_all K))).closureTuple)) (kV__law_swept_all := ((DH.oFd (K.lookup (ad_f__law_swept_all K))).kwdefaults)) (f_is_sweep := (ad_f_is_sweep K)) (od_is_sweep := (DH.oDct (K.lookup (ad_f_is_sweep K)))) (an_is_sweep := ((DH.oFd (K.lookup (ad_f_is_sweep K))).annotations)) (sl_is_sweep := (DH.oSlt (K.lookup (ad_f_is_sweep K)))) (oc_is_sweep := (DH.oCls (K.lookup (ad_f_is_sweep K)))) (dc_is_sweep := ((DH.oFd (K.lookup (ad_f_is_sweep K))).doc)) (pm_is_sweep := ((DH.oFd (K.lookup (ad_f_is_sweep K))).pyModule)) (cd_is_sweep := ((DH.oFd (K.lookup (ad_f_is_sweep K))).code)) (ct_is_sweep := ((DH.oFd (K.lookup (ad_f_is_sweep K))).closureTuple)) (kV_is_sweep := ((DH.oFd (K.lookup (ad_f_is_sweep K))).kwdefaults)) (f_check_word := (ad_f_check_word K)) (od_check_word := (DH.oDct (K.lookup (ad_f_check_word K)))) (an_check_word := ((DH.oFd (K.lookup (ad_f_check_word K))).annotations)) (sl_check_word := (DH.oSlt (K.lookup (ad_f_check_word K)))) (oc_check_word := (DH.oCls (K.lookup (ad_f_check_word K)))) (dc_check_word := ((DH.oFd (K.lookup (ad_f_check_word K))).doc)) (pm_check_word := ((DH.oFd (K.lookup (ad_f_check_word K))).pyModule)) (cd_check_word := ((DH.oFd (K.lookup (ad_f_check_word K))).code)) (ct_check_word := ((DH.oFd (K.lookup (ad_f_check_word K))).closureTuple)) (kV_check_word := ((DH.oFd (K.lookup (ad_f_check_word K))).kwdefaults)) (f_load_within_limit := (ad_f_load_within_limit K)) (od_load_within_limit := (DH.oDct (K.lookup (ad_f_load_within_limit K)))) (an_load_within_limit := ((DH.oFd (K.lookup (ad_f_load_within_limit K))).annotations)) (sl_load_within_limit := (DH.oSlt (K.lookup (ad_f_load_within_limit K)))) (oc_load_within_limit := (DH.oCls (K.lookup (ad_f_load_within_limit K)))) (dc_load_within_limit := ((DH.oFd (K.lookup (ad_f_load_within_limit K))).doc)) (pm_load_within_limit := ((DH.oFd (K.lookup (ad_f_load_within_limit K))).pyModule)) (cd_load_within_limit := ((DH.oFd (K.lookup (ad_f_load_within_limit K))).code)) (ct_load_within_limit := ((DH.oFd (K.lookup (ad_f_load_within_limit K))).closureTuple)) (kV_load_within_limit := ((DH.oFd (K.lookup (ad_f_load_within_limit K))).kwdefaults)) (f_sums_of := (ad_f_sums_of K)) (od_sums_of := (DH.oDct (K.lookup (ad_f_sums_of K)))) (an_sums_of := ((DH.oFd (K.lookup (ad_f_sums_of K))).annotations)) (sl_sums_of := (DH.oSlt (K.lookup (ad_f_sums_of K)))) (oc_sums_of := (DH.oCls (K.lookup (ad_f_sums_of K)))) (dc_sums_of := ((DH.oFd (K.lookup (ad_f_sums_of K))).doc)) (pm_sums_of := ((DH.oFd (K.lookup (ad_f_sums_of K))).pyModule)) (cd_sums_of := ((DH.oFd (K.lookup (ad_f_sums_of K))).code)) (ct_sums_of := ((DH.oFd (K.lookup (ad_f_sums_of K))).closureTuple)) (kV_sums_of := ((DH.oFd (K.lookup (ad_f_sums_of K))).kwdefaults)) (f_load_of := (ad_f_load_of K)) (od_load_of := (DH.oDct (K.lookup (ad_f_load_of K)))) (an_load_of := ((DH.oFd (K.lookup (ad_f_load_of K))).annotations)) (sl_load_of := (DH.oSlt (K.lookup (ad_f_load_of K)))) (oc_load_of := (DH.oCls (K.lookup (ad_f_load_of K)))) (dc_load_of := ((DH.oFd (K.lookup (ad_f_load_of K))).doc)) (pm_load_of := ((DH.oFd (K.lookup (ad_f_load_of K))).pyModule)) (cd_load_of := ((DH.oFd (K.lookup (ad_f_load_of K))).code)) (ct_load_of := ((DH.oFd (K.lookup (ad_f_load_of K))).closureTuple)) (kV_load_of := ((DH.oFd (K.lookup (ad_f_load_of K))).kwdefaults)) (f__law_right := (ad_f__law_right K)) (od__law_right := (DH.oDct (K.lookup (ad_f__law_right K)))) (an__law_right := ((DH.oFd (K.lookup (ad_f__law_right K))).annotations)) (sl__law_right := (DH.oSlt (K.lookup (ad_f__law_right K)))) (oc__law_right := (DH.oCls (K.lookup (ad_f__law_right K)))) (dc__law_right := ((DH.oFd (K.lookup (ad_f__law_right K))).doc)) (pm__law_right := ((DH.oFd (K.lookup (ad_f__law_right K))).pyModule)) (cd__law_right := ((DH.oFd (K.lookup (ad_f__law_right K))).code)) (ct__law_right := ((DH.oFd (K.lookup (ad_f__law_right K))).closureTuple)) (kV__law_right := ((DH.oFd (K.lookup (ad_f__law_right K))).kwdefaults)) (f__law_word := (ad_f__law_word K)) (od__law_word := (DH.oDct (K.lookup (ad_f__law_word K)))) (an__law_word := ((DH.oFd (K.lookup (ad_f__law_word K))).annotations)) (sl__law_word := (DH.oSlt (K.lookup (ad_f__law_word K)))) (oc__law_word := (DH.oCls (K.lookup (ad_f__law_word K)))) (dc__law_word := ((DH.oFd (K.lookup (ad_f__law_word K))).doc)) (pm__law_word := ((DH.oFd (K.lookup (ad_f__law_word K))).pyModule)) (cd__law_word := ((DH.oFd (K.lookup (ad_f__law_word K))).code)) (ct__law_word := ((DH.oFd (K.lookup (ad_f__law_word K))).closureTuple)) (kV__law_word := ((DH.oFd (K.lookup (ad_f__law_word K))).kwdefaults)) (f_law := (ad_f_law K)) (od_law := (DH.oDct (K.lookup (ad_f_law K)))) (an_law := ((DH.oFd (K.lookup (ad_f_law K))).annotations)) (sl_law := (DH.oSlt (K.lookup (ad_f_law K)))) (oc_law := (DH.oCls (K.lookup (ad_f_law K)))) (dc_law := ((DH.oFd (K.lookup (ad_f_law K))).doc)) (pm_law := ((DH.oFd (K.lookup (ad_f_law K))).pyModule)) (cd_law := ((DH.oFd (K.lookup (ad_f_law K))).code)) (ct_law := ((DH.oFd (K.lookup (ad_f_law K))).closureTuple)) (kV_law := ((DH.oFd (K.lookup (ad_f_law K))).kwdefaults)) X N
    (DH.isRef_ok (DH.at_ c 0 0 rfl rfl))
    (DH.at_ c 2 18 rfl rfl)
    (DH.at_ c 2 19 rfl rfl)
    (DH.at_ c 3 0 rfl rfl)
    (DH.eqO_ok (DH.at_ c 3 1 rfl rfl))
    (DH.eqO_ok (DH.at_ c 3 2 rfl rfl))
    (DH.eqO_ok (DH.at_ c 3 3 rfl rfl))
    (DH.at_ c 3 4 rfl rfl)
    (DH.eqO_ok (DH.at_ c 3 5 rfl rfl))
    (DH.eqB_ok (DH.at_ c 3 6 rfl rfl))
    (DH.eqB_ok (DH.at_ c 3 7 rfl rfl))
    (DH.eqB_ok (DH.at_ c 3 8 rfl rfl))
    (DH.eqB_ok (DH.at_ c 3 9 rfl rfl))
    (DH.eqB_ok (DH.at_ c 3 10 rfl rfl))
    (DH.at_ c 3 11 rfl rfl)
    (DH.at_ c 3 12 rfl rfl)
    (DH.eqO_ok (DH.at_ c 3 13 rfl rfl))
    (DH.isCInt_ok (DH.at_ c 3 14 rfl rfl))
    (DH.isRef_ok (DH.at_ c 0 1 rfl rfl))
    (DH.at_ c 3 15 rfl rfl)
    (DH.at_ c 3 16 rfl rfl)
    (DH.at_ c 3 17 rfl rfl)
    (DH.eqO_ok (DH.at_ c 3 18 rfl rfl))
    (DH.eqO_ok (DH.at_ c 3 19 rfl rfl))
    (DH.at_ c 4 0 rfl rfl)
    (DH.eqO_ok (DH.at_ c 4 1 rfl rfl))
    (DH.isCInt_ok (DH.at_ c 4 2 rfl rfl))
    (DH.isRef_ok (DH.at_ c 0 2 rfl rfl))
    (DH.at_ c 4 3 rfl rfl)
    (DH.at_ c 4 4 rfl rfl)
    (DH.at_ c 4 5 rfl rfl)
    (DH.eqO_ok (DH.at_ c 4 6 rfl rfl))
    (DH.eqO_ok (DH.at_ c 4 7 rfl rfl))
    (DH.isRef_ok (DH.at_ c 0 3 rfl rfl))
    (DH.at_ c 4 8 rfl rfl)
    (DH.at_ c 4 9 rfl rfl)
    (DH.at_ c 4 10 rfl rfl)
    (DH.eqO_ok (DH.at_ c 4 11 rfl rfl))
    (DH.eqO_ok (DH.at_ c 4 12 rfl rfl))
    (DH.at_ c 4 13 rfl rfl)
    (DH.eqO_ok (DH.at_ c 4 14 rfl rfl))
    (DH.eqB_ok (DH.at_ c 4 15 rfl rfl))
    (DH.eqB_ok (DH.at_ c 4 16 rfl rfl))
    (DH.eqB_ok (DH.at_ c 4 17 rfl rfl))
    (DH.eqB_ok (DH.at_ c 4 18 rfl rfl))
    (DH.eqB_ok (DH.at_ c 4 19 rfl rfl))
    (DH.at_ c 5 0 rfl rfl)
    (DH.isRef_ok (DH.at_ c 0 4 rfl rfl))
    (DH.at_ c 5 1 rfl rfl)
    (DH.at_ c 5 2 rfl rfl)
    (DH.at_ c 5 3 rfl rfl)
    (DH.eqO_ok (DH.at_ c 5 4 rfl rfl))
    (DH.eqO_ok (DH.at_ c 5 5 rfl rfl))
    (DH.at_ c 5 6 rfl rfl)
    (DH.eqO_ok (DH.at_ c 5 7 rfl rfl))
    (DH.eqB_ok (DH.at_ c 5 8 rfl rfl))
    (DH.eqB_ok (DH.at_ c 5 9 rfl rfl))
    (DH.eqB_ok (DH.at_ c 5 10 rfl rfl))
    (DH.eqB_ok (DH.at_ c 5 11 rfl rfl))
    (DH.eqB_ok (DH.at_ c 5 12 rfl rfl))
    (DH.at_ c 5 13 rfl rfl)
    (DH.isRef_ok (DH.at_ c 0 5 rfl rfl))
    (DH.at_ c 5 14 rfl rfl)
    (DH.at_ c 5 15 rfl rfl)
    (DH.at_ c 5 16 rfl rfl)
    (DH.eqO_ok (DH.at_ c 5 17 rfl rfl))
    (DH.eqO_ok (DH.at_ c 5 18 rfl rfl))
    (DH.at_ c 5 19 rfl rfl)
    (DH.at_ c 6 0 rfl rfl)
    (DH.eqO_ok (DH.at_ c 6 1 rfl rfl))
    (DH.eqB_ok (DH.at_ c 6 2 rfl rfl))
    (DH.neA_ok (DH.at_ c 6 3 rfl rfl))
    (DH.eqB_ok (DH.at_ c 6 4 rfl rfl))
    (DH.neA_ok (DH.at_ c 6 5 rfl rfl))
    (DH.eqB_ok (DH.at_ c 6 6 rfl rfl))
    (DH.neA_ok (DH.at_ c 6 7 rfl rfl))
    (DH.eqB_ok (DH.at_ c 6 8 rfl rfl))
    (DH.at_ c 6 9 rfl rfl)
    (DH.eqB_ok (DH.at_ c 6 10 rfl rfl))
    (DH.eqO_ok (DH.at_ c 6 11 rfl rfl))
    (DH.eqO_ok (DH.at_ c 6 12 rfl rfl))
    (DH.eqO_ok (DH.at_ c 6 13 rfl rfl))
    (DH.eqO_ok (DH.at_ c 6 14 rfl rfl))
    (DH.eqO_ok (DH.at_ c 6 15 rfl rfl))
    (DH.eqO_ok (DH.at_ c 6 16 rfl rfl))
    (DH.eqO_ok (DH.at_ c 6 17 rfl rfl))
    (DH.eqO_ok (DH.at_ c 6 18 rfl rfl))
    (DH.eqO_ok (DH.at_ c 6 19 rfl rfl))
    (DH.eqO_ok (DH.at_ c 7 0 rfl rfl))
    (DH.eqO_ok (DH.at_ c 7 1 rfl rfl))
    (DH.eqO_ok (DH.at_ c 7 2 rfl rfl))
    (DH.eqO_ok (DH.at_ c 7 3 rfl rfl))
    (DH.isInt_ok (DH.at_ c 7 4 rfl rfl))
    (DH.isInt_ok (DH.at_ c 7 5 rfl rfl))
    (DH.eqO_ok (DH.at_ c 7 6 rfl rfl))
    (DH.eqB_ok (DH.at_ c 7 7 rfl rfl))
    (DH.isRef_ok (DH.at_ c 0 6 rfl rfl))
    (DH.fnV_ok (DH.fat_ d 0 0 rfl rfl rfl rfl))
    (DH.at_ c 7 8 rfl rfl)
    (DH.at_ c 7 9 rfl rfl)
    (DH.isRef_ok (DH.at_ c 0 7 rfl rfl))
    (DH.fnV_ok (DH.fat_ d 0 1 rfl rfl rfl rfl))
    (DH.at_ c 7 10 rfl rfl)
    (DH.at_ c 7 11 rfl rfl)
    (DH.isRef_ok (DH.at_ c 0 8 rfl rfl))
    (DH.fnV_ok (DH.fat_ d 0 2 rfl rfl rfl rfl))
    (DH.at_ c 7 12 rfl rfl)
    (DH.at_ c 7 13 rfl rfl)
    (DH.isRef_ok (DH.at_ c 0 9 rfl rfl))
    (DH.fnV_ok (DH.fat_ d 0 3 rfl rfl rfl rfl))
    (DH.at_ c 7 14 rfl rfl)
    (DH.at_ c 7 15 rfl rfl)
    (DH.isRef_ok (DH.at_ c 0 10 rfl rfl))
    (DH.fnV_ok (DH.fat_ d 0 4 rfl rfl rfl rfl))
    (DH.at_ c 7 16 rfl rfl)
    (DH.at_ c 7 17 rfl rfl)
    (DH.isRef_ok (DH.at_ c 0 11 rfl rfl))
    (DH.fnV_ok (DH.fat_ d 0 5 rfl rfl rfl rfl))
    (DH.at_ c 7 18 rfl rfl)
    (DH.at_ c 7 19 rfl rfl)
    (DH.isRef_ok (DH.at_ c 0 12 rfl rfl))
    (DH.eqO_ok (DH.at_ c 8 0 rfl rfl))
    (DH.eqB_ok (DH.at_ c 8 1 rfl rfl))
    (DH.isRec_ok (DH.at_ c 2 9 rfl rfl))
    (DH.fnV_ok (DH.fat_ d 0 6 rfl rfl rfl rfl))
    (DH.at_ c 8 2 rfl rfl)
    (DH.at_ c 8 3 rfl rfl)
    (DH.isRef_ok (DH.at_ c 0 13 rfl rfl))
    (DH.eqO_ok (DH.at_ c 8 4 rfl rfl))
    (DH.eqB_ok (DH.at_ c 8 5 rfl rfl))
    (DH.isRec_ok (DH.at_ c 2 10 rfl rfl))
    (DH.fnV_ok (DH.fat_ d 0 7 rfl rfl rfl rfl))
    (DH.at_ c 8 6 rfl rfl)
    (DH.at_ c 8 7 rfl rfl)
    (DH.isRef_ok (DH.at_ c 0 14 rfl rfl))
    (DH.fnV_ok (DH.fat_ d 0 8 rfl rfl rfl rfl))
    (DH.at_ c 8 8 rfl rfl)
    (DH.at_ c 8 9 rfl rfl)
    (DH.isRef_ok (DH.at_ c 0 15 rfl rfl))
    (DH.fnV_ok (DH.fat_ d 0 9 rfl rfl rfl rfl))
    (DH.at_ c 8 10 rfl rfl)
    (DH.at_ c 8 11 rfl rfl)
    (DH.isRef_ok (DH.at_ c 0 16 rfl rfl))
    (DH.at_ c 8 12 rfl rfl)
    (DH.fnV_ok (DH.fat_ d 0 10 rfl rfl rfl rfl))
    (DH.at_ c 8 13 rfl rfl)
    (DH.at_ c 8 14 rfl rfl)
    (DH.at_ c 8 15 rfl rfl)
    (DH.at_ c 8 16 rfl rfl)
    (DH.isRef_ok (DH.at_ c 0 17 rfl rfl))
    (DH.at_ c 8 17 rfl rfl)
    (DH.fnV_ok (DH.fat_ d 0 11 rfl rfl rfl rfl))
    (DH.at_ c 8 18 rfl rfl)
    (DH.at_ c 8 19 rfl rfl)
    (DH.isRef_ok (DH.at_ c 0 18 rfl rfl))
    (DH.eqO_ok (DH.at_ c 9 0 rfl rfl))
    (DH.eqB_ok (DH.at_ c 9 1 rfl rfl))
    (DH.isRec_ok (DH.at_ c 2 11 rfl rfl))
    (DH.fnV_ok (DH.fat_ d 0 12 rfl rfl rfl rfl))
    (DH.at_ c 9 2 rfl rfl)
    (DH.at_ c 9 3 rfl rfl)
    (DH.isRef_ok (DH.at_ c 0 19 rfl rfl))
    (DH.fnV_ok (DH.fat_ d 0 13 rfl rfl rfl rfl))
    (DH.at_ c 9 4 rfl rfl)
    (DH.at_ c 9 5 rfl rfl)
    (DH.isRef_ok (DH.at_ c 1 0 rfl rfl))
    (DH.fnV_ok (DH.fat_ d 0 14 rfl rfl rfl rfl))
    (DH.at_ c 9 6 rfl rfl)
    (DH.at_ c 9 7 rfl rfl)
    (DH.isRef_ok (DH.at_ c 1 1 rfl rfl))
    (DH.at_ c 9 8 rfl rfl)
    (DH.fnV_ok (DH.fat_ d 0 15 rfl rfl rfl rfl))
    (DH.at_ c 9 9 rfl rfl)
    (DH.at_ c 9 10 rfl rfl)
    (DH.at_ c 9 11 rfl rfl)
    (DH.at_ c 9 12 rfl rfl)
    (DH.at_ c 9 13 rfl rfl)
    (DH.eqO_ok (DH.at_ c 9 14 rfl rfl))
    (DH.isGet_ok (DH.at_ c 1 2 rfl rfl))
    (DH.isRec_ok (DH.at_ c 2 12 rfl rfl))
    (DH.at_ c 9 15 rfl rfl)
    (DH.fnV_ok (DH.fat_ d 0 16 rfl rfl rfl rfl))
    (DH.at_ c 9 16 rfl rfl)
    (DH.at_ c 9 17 rfl rfl)
    (DH.isRef_ok (DH.at_ c 1 3 rfl rfl))
    (DH.eqO_ok (DH.at_ c 9 18 rfl rfl))
    (DH.eqB_ok (DH.at_ c 9 19 rfl rfl))
    (DH.isRec_ok (DH.at_ c 2 13 rfl rfl))
    (DH.fnV_ok (DH.fat_ d 0 17 rfl rfl rfl rfl))
    (DH.at_ c 10 0 rfl rfl)
    (DH.at_ c 10 1 rfl rfl)
    (DH.isRef_ok (DH.at_ c 1 4 rfl rfl))
    (DH.eqO_ok (DH.at_ c 10 2 rfl rfl))
    (DH.eqB_ok (DH.at_ c 10 3 rfl rfl))
    (DH.isRec_ok (DH.at_ c 2 14 rfl rfl))
    (DH.fnV_ok (DH.fat_ d 0 18 rfl rfl rfl rfl))
    (DH.at_ c 10 4 rfl rfl)
    (DH.at_ c 10 5 rfl rfl)
    (DH.isRef_ok (DH.at_ c 1 5 rfl rfl))
    (DH.eqO_ok (DH.at_ c 10 6 rfl rfl))
    (DH.eqB_ok (DH.at_ c 10 7 rfl rfl))
    (DH.isRec_ok (DH.at_ c 2 15 rfl rfl))
    (DH.fnV_ok (DH.fat_ d 0 19 rfl rfl rfl rfl))
    (DH.at_ c 10 8 rfl rfl)
    (DH.at_ c 10 9 rfl rfl)
    (DH.isRef_ok (DH.at_ c 1 6 rfl rfl))
    (DH.fnV_ok (DH.fat_ d 1 0 rfl rfl rfl rfl))
    (DH.at_ c 10 10 rfl rfl)
    (DH.at_ c 10 11 rfl rfl)
    (DH.isRef_ok (DH.at_ c 1 7 rfl rfl))
    (DH.fnV_ok (DH.fat_ d 1 1 rfl rfl rfl rfl))
    (DH.at_ c 10 12 rfl rfl)
    (DH.at_ c 10 13 rfl rfl)
    (DH.isRef_ok (DH.at_ c 1 8 rfl rfl))
    (DH.fnV_ok (DH.fat_ d 1 2 rfl rfl rfl rfl))
    (DH.at_ c 10 14 rfl rfl)
    (DH.at_ c 10 15 rfl rfl)
    (DH.isRef_ok (DH.at_ c 1 9 rfl rfl))
    (DH.at_ c 10 16 rfl rfl)
    (DH.fnV_ok (DH.fat_ d 1 3 rfl rfl rfl rfl))
    (DH.at_ c 10 17 rfl rfl)
    (DH.at_ c 10 18 rfl rfl)
    (DH.isRef_ok (DH.at_ c 1 10 rfl rfl))
    (DH.at_ c 10 19 rfl rfl)
    (DH.fnV_ok (DH.fat_ d 1 4 rfl rfl rfl rfl))
    (DH.at_ c 11 0 rfl rfl)
    (DH.at_ c 11 1 rfl rfl)
    (DH.at_ c 11 2 rfl rfl)
    (DH.at_ c 11 3 rfl rfl)
    (DH.isRef_ok (DH.at_ c 1 11 rfl rfl))
    (DH.at_ c 11 4 rfl rfl)
    (DH.fnVC_ok (DH.fat_ d 1 5 rfl rfl rfl rfl) (DH.at_ c 2 16 rfl rfl))
    (DH.at_ c 11 5 rfl rfl)
    (DH.isFlds_ok (DH.at_ c 11 6 rfl rfl))
    (DH.isVStr_ok (DH.at_ c 11 7 rfl rfl))
    (DH.at_ c 11 8 rfl rfl)
    (DH.isCell_ok (DH.at_ c 11 9 rfl rfl))
    (DH.oCd_ok (DH.at_ c 11 10 rfl rfl))
    (DH.eqB_ok (DH.at_ c 11 11 rfl rfl))
    (DH.eqO_ok (DH.at_ c 11 12 rfl rfl))
    (DH.eqO_ok (DH.at_ c 11 13 rfl rfl))
    (DH.eqO_ok (DH.at_ c 11 14 rfl rfl))
    (DH.isTyp_ok (DH.at_ c 11 15 rfl rfl))
    (by kernel_rfl)
    (DH.at_ c 11 16 rfl rfl)
    (DH.at_ c 11 17 rfl rfl)
    (DH.isRef_ok (DH.at_ c 1 12 rfl rfl))
    (DH.at_ c 11 18 rfl rfl)
    (DH.fnVC_ok (DH.fat_ d 1 6 rfl rfl rfl rfl) (DH.at_ c 2 17 rfl rfl))
    (DH.at_ c 11 19 rfl rfl)
    (DH.isFlds_ok (DH.at_ c 12 0 rfl rfl))
    (DH.isVStr_ok (DH.at_ c 12 1 rfl rfl))
    (DH.at_ c 12 2 rfl rfl)
    (DH.isCell_ok (DH.at_ c 12 3 rfl rfl))
    (DH.oCd_ok (DH.at_ c 12 4 rfl rfl))
    (DH.eqB_ok (DH.at_ c 12 5 rfl rfl))
    (DH.eqO_ok (DH.at_ c 12 6 rfl rfl))
    (DH.at_ c 12 7 rfl rfl)
    (DH.at_ c 12 8 rfl rfl)
    (DH.isRef_ok (DH.at_ c 1 13 rfl rfl))
    (DH.fnV_ok (DH.fat_ d 1 7 rfl rfl rfl rfl))
    (DH.at_ c 12 9 rfl rfl)
    (DH.at_ c 12 10 rfl rfl)
    (DH.isRef_ok (DH.at_ c 1 14 rfl rfl))
    (DH.fnV_ok (DH.fat_ d 1 8 rfl rfl rfl rfl))
    (DH.at_ c 12 11 rfl rfl)
    (DH.at_ c 12 12 rfl rfl)
    (DH.isRef_ok (DH.at_ c 1 15 rfl rfl))
    (DH.fnV_ok (DH.fat_ d 1 9 rfl rfl rfl rfl))
    (DH.at_ c 12 13 rfl rfl)
    (DH.at_ c 12 14 rfl rfl)
    (DH.isRef_ok (DH.at_ c 1 16 rfl rfl))
    (DH.fnV_ok (DH.fat_ d 1 10 rfl rfl rfl rfl))
    (DH.at_ c 12 15 rfl rfl)
    (DH.at_ c 12 16 rfl rfl)
    (DH.isRef_ok (DH.at_ c 1 17 rfl rfl))
    (DH.fnV_ok (DH.fat_ d 1 11 rfl rfl rfl rfl))
    (DH.at_ c 12 17 rfl rfl)
    (DH.at_ c 12 18 rfl rfl)
    (DH.isRef_ok (DH.at_ c 1 18 rfl rfl))
    (DH.fnV_ok (DH.fat_ d 1 12 rfl rfl rfl rfl))
    (DH.at_ c 12 19 rfl rfl)
    (DH.at_ c 13 0 rfl rfl)
    (DH.isRef_ok (DH.at_ c 1 19 rfl rfl))
    (DH.fnV_ok (DH.fat_ d 1 13 rfl rfl rfl rfl))
    (DH.at_ c 13 1 rfl rfl)
    (DH.at_ c 13 2 rfl rfl)
    (DH.isRef_ok (DH.at_ c 2 0 rfl rfl))
    (DH.fnV_ok (DH.fat_ d 1 14 rfl rfl rfl rfl))
    (DH.at_ c 13 3 rfl rfl)
    (DH.at_ c 13 4 rfl rfl)
    (DH.isRef_ok (DH.at_ c 2 1 rfl rfl))
    (DH.fnV_ok (DH.fat_ d 1 15 rfl rfl rfl rfl))
    (DH.at_ c 13 5 rfl rfl)
    (DH.at_ c 13 6 rfl rfl)
    (DH.isRef_ok (DH.at_ c 2 2 rfl rfl))
    (DH.fnV_ok (DH.fat_ d 1 16 rfl rfl rfl rfl))
    (DH.at_ c 13 7 rfl rfl)
    (DH.at_ c 13 8 rfl rfl)
    (DH.isRef_ok (DH.at_ c 2 3 rfl rfl))
    (DH.fnV_ok (DH.fat_ d 1 17 rfl rfl rfl rfl))
    (DH.at_ c 13 9 rfl rfl)
    (DH.at_ c 13 10 rfl rfl)
    (DH.isRef_ok (DH.at_ c 2 4 rfl rfl))
    (DH.fnV_ok (DH.fat_ d 1 18 rfl rfl rfl rfl))
    (DH.at_ c 13 11 rfl rfl)
    (DH.at_ c 13 12 rfl rfl)
    (DH.isRef_ok (DH.at_ c 2 5 rfl rfl))
    (DH.fnV_ok (DH.fat_ d 1 19 rfl rfl rfl rfl))
    (DH.at_ c 13 13 rfl rfl)
    (DH.at_ c 13 14 rfl rfl)
    (DH.isRef_ok (DH.at_ c 2 6 rfl rfl))
    (DH.fnV_ok (DH.fat_ d 2 0 rfl rfl rfl rfl))
    (DH.at_ c 13 15 rfl rfl)
    (DH.at_ c 13 16 rfl rfl)
    (DH.isRef_ok (DH.at_ c 2 7 rfl rfl))
    (DH.fnV_ok (DH.fat_ d 2 1 rfl rfl rfl rfl))
    (DH.at_ c 13 17 rfl rfl)
    (DH.at_ c 13 18 rfl rfl)
    (DH.isRef_ok (DH.at_ c 2 8 rfl rfl))
    (DH.fnV_ok (DH.fat_ d 2 2 rfl rfl rfl rfl))
    (DH.at_ c 13 19 rfl rfl)
    (DH.at_ c 14 0 rfl rfl)
end My

open PySem PySem.W PySem.Calls PyProof.Rows in
set_option maxRecDepth 100000 in
set_option maxHeartbeats 0 in
theorem PySem.Challenge.cw_handsweeps_k11_whole_only_the_load_count_holds : PySem.Challenge.rw_handsweeps_k11_whole_only_the_load_count.Holds := by
  w_on; o_law
  refine HandSHeadRun.head_any (r := OpenLaw.row PySem.Challenge.rw_handsweeps_k11_whole_only_the_load_count) (q := view (OpenLaw.row PySem.Challenge.rw_handsweeps_k11_whole_only_the_load_count).prog [53]) (H := My.hk) (ob := My.ob) (M := 6200) (loose := My.loose) (d := HandSHeadRun.topDef (OpenLaw.row PySem.Challenge.rw_handsweeps_k11_whole_only_the_load_count).prog 53) (kwd := []) DH.obsU_eq
    (by kernel_rfl) (fun s => by kernel_rfl) My.run (by kernel_rfl) (by kernel_rfl) (by kernel_rfl) (by rfl) (by first | assumption | decide +kernel) (by decide +kernel) ⟨rfl, rfl, rfl, rfl, rfl, by decide +kernel⟩ ?hw ?hc
  case hw => w_witness2
  case hc =>
    refine DH.walkDE (l := PySem.Challenge.rw_handsweeps_k11_whole_only_the_load_count) (n := 63) (k := 10) (gd := true) (sp := My.slaw) (x := "_law_script") rfl (by decide) (by kernel_rfl) ⟨rfl, by decide, by decide⟩ rfl ?F (fun ns hl => My.law_spec ns hl)
    intro w mg h Y N
    obtain ⟨K, KX, c, d⟩ := Y
    have e : (HandSHeadRun.topDef (OpenLaw.row PySem.Challenge.rw_handsweeps_k11_whole_only_the_load_count).prog 53).name = ("law" : PySem.Str) := by kernel_rfl
    rw [e]
    exact ⟨K, KX, My.all_of KX N c d⟩
#print axioms PySem.Challenge.cw_handsweeps_k11_whole_only_the_load_count_holds

