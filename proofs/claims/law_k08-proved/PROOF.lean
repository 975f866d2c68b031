import PyProof.Rows.All
import Wide.All
import OpenK.AllK
import Wide.FinOn
import HandS.ForMost
import HandS.Exc
import HandS.TryOnly
import HandS.ExcOwn
import HandS.WordsExc
import HandS.IsInst
import HandS.Zip
import HandS.Walk
import HandS.TupMul
import HandS.TupAny
import HandS.Style
import HandS.Codes
import HandS.Flow
import HandS.Deep
import HandS.TupLe
import HandS.Set
import HandS.SetFor
import HandS.Strs
import KE.DataMinMax
import KE.GoesMore
import KE.GoesEnum
import KE.KEqSeq
import HandS.Evl
import KE.KSuper
import KE.KExcSuper
import HandS.ExcInit
import HandS.FStr
import PyProof.FString2
import PySem.Challenge.RW_keptabroad_k08_whole_deeds
import HandS.Lambda
import HandS.ExcField
import HandS.ExcIs
import KE.KExcIs
import HandS.EndOwn
set_option Elab.async false
set_option linter.all false
set_option maxRecDepth 100000
/-! Ground words: a def of the text that may be called, what stays of a heap, data. -/
namespace KB
open PySem L2

/-! ### a def that may be called by its name -/
structure Df (P : Program) (w : World) (K : PySem.W.Frag) (mg : Str → Option Value) (base : Heap) (k : Nat) (x : Str) (sp : Sp) : Prop where
  ex : ∃ (f : Addr) (fd : FuncData) (ps : List Str), FnOk P w K mg base (L2.CX P w) k f fd ps sp ∧ mg x = some (.ref f) ∧ PySem.W.keepIn K (.ref f) = true ∧ Binds K fd ps []
section
variable {X : Cx} {k j : Nat} {x : Str} {sp : Sp} {p pos : Pos} {e : Expr} {es : List Expr} {ta : TE} {t : TA} {E : XK}
/-- a call where nothing that is raised leaves -/
theorem pe_d (c : Df X.prog X.w X.K X.mg X.base k x sp) (hr : Room j X.A) (hk : k ≤ j) (hg : Gl X x) (ha : PA X (e :: es) t)
    (hdb : (x == ("__debug__" : Str)) = false := by decide) (he : starEach (e :: es) X.env = (false, eval e X.env) :: starEach es X.env := by rfl) (hpl : (backTo pos (starEach es X.env)).any (·.1) = false := by rfl) :
    PE X (.Call (.Name x p) (e :: es) [] pos) (tCall sp [] L2.E0 t) := by
  obtain ⟨f, fd, ps, F, hm, kp, b⟩ := c.ex
  exact pe_call F (hr.mono hk) hg hm kp b .nil passL ha hdb he hpl
/-- a call within a def that may raise -/
theorem pe_dX {W : WX} (c : Df X.prog X.w X.K X.mg X.base k x sp) (hr : Room j X.A) (hk : k ≤ j) (hg : Gl X x) (tk : Takes X W) (ha : PA X (e :: es) t)
    (hdb : (x == ("__debug__" : Str)) = false := by decide) (he : starEach (e :: es) X.env = (false, eval e X.env) :: starEach es X.env := by rfl) (hpl : (backTo pos (starEach es X.env)).any (·.1) = false := by rfl) :
    PE X (.Call (.Name x p) (e :: es) [] pos) (tCallS sp (WE W) t) := by
  obtain ⟨f, fd, ps, F, hm, kp, b⟩ := c.ex
  exact pe_callS F (hr.mono hk) hg hm kp b (fun σ => passAt tk σ) ha hdb he hpl
end

/-- an own error class over ValueError without an own __init__ -/
structure Er (K : PySem.W.Frag) (mg : Str → Option Value) (x : Str) (C : Addr) : Prop where
  g : mg x = some (.ref C)
  x : PySem.W.excIn K C [.type "ValueError", .type "Exception", .type "BaseException", .type "object"] "ValueError.__new__" = true
  k : PySem.W.keepIn K (.ref C) = true
  b : PySem.W.subIn K (.ref C) (.type "BaseException") = some true
  t : PySem.W.typeIn K (.ref C) = some (.type "type")
/-! ### what stays of a heap -/
/-- all that was tracked, but what M says, stands as it stood -/
def Chg (M : Addr → Prop) (H H' : Hp) : Prop := ∀ b o, ¬ M b → H b = some o → H' b = some o
theorem Chg.refl {M : Addr → Prop} (H : Hp) : Chg M H H := fun _ _ _ h => h
theorem Chg.trans {M : Addr → Prop} {H H1 H2 : Hp} (a : Chg M H H1) (b : Chg M H1 H2) : Chg M H H2 := fun c o n h => b c o n (a c o n h)
theorem Chg.mono {M M' : Addr → Prop} {H H1 : Hp} (a : Chg M H H1) (h : ∀ b, M b → M' b) : Chg M' H H1 := fun c o n e => a c o (fun m => n (h c m)) e
theorem Chg.new {M : Addr → Prop} {H : Hp} {p : Addr} {o : HO} (h : H p = none) : Chg M H (upd H p o) := fun a u _ e => by
  rw [upd_ne (ne_of_none e h)]
  exact e
theorem Chg.put {M : Addr → Prop} {H : Hp} {p : Addr} {o : HO} (h : M p) : Chg M H (upd H p o) := fun a u n e => by
  have q : a ≠ p := fun q => n (by rw [q]; exact h)
  rw [upd_ne q]
  exact e
theorem Chg.free {M : Addr → Prop} {H H' : Hp} (e : Chg M H H') {l : Addr} (n : ¬ M l) (h : H' l = none) : H l = none := by
  cases q : H l with
  | none => rfl
  | some o =>
    rw [e l o n q] at h
    cases h
theorem same_chg {M : Addr → Prop} {H H' : Hp} (e : Same H H') : Chg M H H' := fun b o _ h => e b o h
theorem Same.new {H : Hp} {p : Addr} {o : HO} (h : H p = none) : Same H (upd H p o) := fun a u e => by
  rw [upd_ne (ne_of_none e h)]
  exact e
/-- a new object was written again -/
theorem Same.put {H H' : Hp} {p : Addr} {o : HO} (e : Same H H') (h : H p = none) : Same H (upd H' p o) := fun a u q => by
  rw [upd_ne (ne_of_none q h)]
  exact e a u q
theorem Chg.mut {M : Addr → Prop} {H H' : Hp} {p : Addr} {o : HO} (e : Chg M H H') (h : H p = none) : Chg M H (upd H' p o) := fun a u n q => by
  rw [upd_ne (ne_of_none q h)]
  exact e a u n q

/-- what was new is changed behind it -/
theorem Chg.hide {M : Addr → Prop} {H H1 H2 : Hp} {p : Addr} (c : Chg M H H1) (d : Chg (fun a => M a ∨ a = p) H1 H2) (n : H p = none) : Chg M H H2 := fun b o nb e =>
  d b o (fun z => z.elim nb (ne_of_none e n)) (c b o nb e)
/-- nothing changes -/
abbrev Nv : Addr → Prop := fun _ => False
/-! ### data: None, bools, ints, texts, tuples and lists of such; no list of it at an address of M -/
mutual
inductive Da (M : Addr → Prop) (H : Hp) : V → PyData → Prop
  | non : Da M H .non .none
  | bl (b : Bool) : Da M H (.bl b) (.bool b)
  | int (i : Int) : Da M H (.int i) (.int i)
  | str (x : Str) : Da M H (.str x) (.str x)
  | lst {a : Addr} {xs : List V} {ds : List PyData} : ¬ M a → H a = some (.lst xs) → DaL M H xs ds → Da M H (.ref a) (.list ds)
  | tup {a : Addr} {xs : List V} {ds : List PyData} : ¬ M a → H a = some (.tup xs) → DaL M H xs ds → Da M H (.ref a) (.tuple ds)
inductive DaL (M : Addr → Prop) (H : Hp) : List V → List PyData → Prop
  | nil : DaL M H [] []
  | cons {v : V} {vs : List V} {d : PyData} {ds : List PyData} : Da M H v d → DaL M H vs ds → DaL M H (v :: vs) (d :: ds)
end
mutual
theorem Da.go {M : Addr → Prop} {H H' : Hp} (c : Chg M H H') : ∀ {v : V} {d : PyData}, Da M H v d → Da M H' v d
  | _, _, .non => .non
  | _, _, .bl b => .bl b
  | _, _, .int i => .int i
  | _, _, .str x => .str x
  | _, _, .lst n h l => .lst n (c _ _ n h) (DaL.go c l)
  | _, _, .tup n h l => .tup n (c _ _ n h) (DaL.go c l)
theorem DaL.go {M : Addr → Prop} {H H' : Hp} (c : Chg M H H') : ∀ {v : List V} {d : List PyData}, DaL M H v d → DaL M H' v d
  | _, _, .nil => .nil
  | _, _, .cons a b => .cons (Da.go c a) (DaL.go c b)
end
mutual
theorem Da.dp {K : PySem.W.Frag} {M : Addr → Prop} {H : Hp} : ∀ {v : V} {d : PyData}, Da M H v d → Dp K H v d
  | _, _, .non => .non
  | _, _, .bl b => .bl b
  | _, _, .int i => .int i
  | _, _, .str x => .str x
  | _, _, .lst n h l => .lst (.of h) (DaL.dp l)
  | _, _, .tup n h l => .tup (.of h) (DaL.dp l)
theorem DaL.dp {K : PySem.W.Frag} {M : Addr → Prop} {H : Hp} : ∀ {v : List V} {d : List PyData}, DaL M H v d → DpAll K H v d
  | _, _, .nil => .nil
  | _, _, .cons a b => .cons (Da.dp a) (DaL.dp b)
end
mutual
theorem Da.weak {M N : Addr → Prop} {H : Hp} (c : ∀ a, M a → N a) : ∀ {v : V} {d : PyData}, Da N H v d → Da M H v d
  | _, _, .non => .non
  | _, _, .bl b => .bl b
  | _, _, .int i => .int i
  | _, _, .str x => .str x
  | _, _, .lst n h l => .lst (fun z => n (c _ z)) h (DaL.weak c l)
  | _, _, .tup n h l => .tup (fun z => n (c _ z)) h (DaL.weak c l)
theorem DaL.weak {M N : Addr → Prop} {H : Hp} (c : ∀ a, M a → N a) : ∀ {v : List V} {d : List PyData}, DaL N H v d → DaL M H v d
  | _, _, .nil => .nil
  | _, _, .cons a b => .cons (Da.weak c a) (DaL.weak c b)
end
/-- what stands is not at a free address -/
abbrev orAt (M : Addr → Prop) (p : Addr) : Addr → Prop := fun a => M a ∨ a = p
mutual
theorem Da.fresh {M : Addr → Prop} {H : Hp} {p : Addr} (np : H p = none) : ∀ {v : V} {d : PyData}, Da M H v d → Da (orAt M p) H v d
  | _, _, .non => .non
  | _, _, .bl b => .bl b
  | _, _, .int i => .int i
  | _, _, .str x => .str x
  | _, _, .lst n h l => .lst (fun z => z.elim n (ne_of_none h np)) h (DaL.fresh np l)
  | _, _, .tup n h l => .tup (fun z => z.elim n (ne_of_none h np)) h (DaL.fresh np l)
theorem DaL.fresh {M : Addr → Prop} {H : Hp} {p : Addr} (np : H p = none) : ∀ {v : List V} {d : List PyData}, DaL M H v d → DaL (orAt M p) H v d
  | _, _, .nil => .nil
  | _, _, .cons a b => .cons (Da.fresh np a) (DaL.fresh np b)
end
mutual
/-- no list in it -/
def noL : PyData → Bool
  | .list _ => false
  | .dict _ => false
  | .tuple xs => noLs xs
  | _ => true
def noLs : List PyData → Bool
  | [] => true
  | x :: xs => noL x && noLs xs
end
mutual
theorem Da.offL {M : Addr → Prop} {H : Hp} {p : Addr} {ys : List V} (hp : H p = some (.lst ys)) : ∀ {v : V} {d : PyData}, Da M H v d → noL d = true → Da (orAt M p) H v d
  | _, _, .non, _ => .non
  | _, _, .bl b, _ => .bl b
  | _, _, .int i, _ => .int i
  | _, _, .str x, _ => .str x
  | _, _, .lst n h l, e => by simp [noL] at e
  | _, _, .tup n h l, e => .tup (fun z => z.elim n (ne_of h hp fun q => nomatch q)) h (DaL.offL hp l (by simpa [noL] using e))
theorem DaL.offL {M : Addr → Prop} {H : Hp} {p : Addr} {ys : List V} (hp : H p = some (.lst ys)) : ∀ {v : List V} {d : List PyData}, DaL M H v d → noLs d = true → DaL (orAt M p) H v d
  | _, _, .nil, _ => .nil
  | _, _, .cons a b, e => by
    rw [noLs, Bool.and_eq_true] at e
    exact .cons (Da.offL hp a e.1) (DaL.offL hp b e.2)
end
theorem DaL.length {M : Addr → Prop} {H : Hp} : ∀ {v : List V} {d : List PyData}, DaL M H v d → v.length = d.length
  | _, _, .nil => rfl
  | _, _, .cons _ b => congrArg (· + 1) (DaL.length b)
theorem DaL.get {M : Addr → Prop} {H : Hp} : ∀ {v : List V} {d : List PyData} {i : Nat} {x : V}, DaL M H v d → v[i]? = some x → ∃ y, d[i]? = some y ∧ Da M H x y
  | _, _, _, _, .nil, e => by simp at e
  | _, _, 0, x, .cons a _, e => by
    have e' := Option.some.inj e
    subst e'
    exact ⟨_, rfl, a⟩
  | _, _, i + 1, x, .cons _ b, e => by
    obtain ⟨y, h1, h2⟩ := DaL.get (i := i) b (by simpa using e)
    exact ⟨y, by simpa using h1, h2⟩
theorem DaL.got {M : Addr → Prop} {H : Hp} : ∀ {v : List V} {d : List PyData} {i : Nat} {y : PyData}, DaL M H v d → d[i]? = some y → ∃ x, v[i]? = some x ∧ Da M H x y
  | _, _, _, _, .nil, e => by simp at e
  | _, _, 0, x, .cons a _, e => by
    have e' := Option.some.inj e
    subst e'
    exact ⟨_, rfl, a⟩
  | _, _, i + 1, x, .cons _ b, e => by
    obtain ⟨y, h1, h2⟩ := DaL.got (i := i) b (by simpa using e)
    exact ⟨y, by simpa using h1, h2⟩
theorem DaL.append {M : Addr → Prop} {H : Hp} : ∀ {v v' : List V} {d d' : List PyData}, DaL M H v d → DaL M H v' d' → DaL M H (v ++ v') (d ++ d')
  | _, _, _, _, .nil, s => s
  | _, _, _, _, .cons a b, s => .cons a (DaL.append b s)
theorem DaL.ints {M : Addr → Prop} {H : Hp} : ∀ {ns : List Int}, DaL M H (ns.map V.int) (ns.map PyData.int)
  | [] => .nil
  | _ :: _ => .cons (.int _) DaL.ints
theorem DaL.of_ints {M : Addr → Prop} {H : Hp} : ∀ {ns : List Int} {v : List V}, DaL M H v (ns.map PyData.int) → v = ns.map V.int
  | [], _, .nil => rfl
  | n :: ns, _, .cons (.int _) b => by rw [DaL.of_ints b]; rfl
/-- the type of data, for isinstance -/
def tyD : PyData → String
  | .none => "NoneType"
  | .bool _ => "bool"
  | .int _ => "int"
  | .str _ => "str"
  | .list _ => "list"
  | .tuple _ => "tuple"
  | .dict _ => "dict"
theorem Da.ty {K : PySem.W.Frag} {M : Addr → Prop} {H : Hp} {v : V} {d : PyData} (h : Da M H v d) : TyX K H v (.type (tyD d)) := by
  cases h with
  | non => exact .base .non
  | bl b => exact .base (.bl b)
  | int i => exact .base (.int i)
  | str x => exact .base (.str x)
  | lst n h l => exact .base (.lst h)
  | tup n h l => exact .base (.tup h)
def is_int : PyData → Bool
  | .none => false
  | .bool _ => true
  | .int _ => true
  | .str _ => false
  | .list _ => false
  | .tuple _ => false
  | .dict _ => false
theorem kit_int {K : PySem.W.Frag} (d : PyData) : PySem.W.kitOne K (.type (tyD d)) (.type "int") = some (is_int d) := by
  cases d
  · exact kit_ty (show kitB "NoneType" "int" = some false by decide +kernel)
  · exact kit_ty (show kitB "bool" "int" = some true by decide +kernel)
  · exact kit_ty (show kitB "int" "int" = some true by decide +kernel)
  · exact kit_ty (show kitB "str" "int" = some false by decide +kernel)
  · exact kit_ty (show kitB "list" "int" = some false by decide +kernel)
  · exact kit_ty (show kitB "tuple" "int" = some false by decide +kernel)
  · exact kit_ty (show kitB "dict" "int" = some false by decide +kernel)
def is_bool : PyData → Bool
  | .none => false
  | .bool _ => true
  | .int _ => false
  | .str _ => false
  | .list _ => false
  | .tuple _ => false
  | .dict _ => false
theorem kit_bool {K : PySem.W.Frag} (d : PyData) : PySem.W.kitOne K (.type (tyD d)) (.type "bool") = some (is_bool d) := by
  cases d
  · exact kit_ty (show kitB "NoneType" "bool" = some false by decide +kernel)
  · exact kit_ty (show kitB "bool" "bool" = some true by decide +kernel)
  · exact kit_ty (show kitB "int" "bool" = some false by decide +kernel)
  · exact kit_ty (show kitB "str" "bool" = some false by decide +kernel)
  · exact kit_ty (show kitB "list" "bool" = some false by decide +kernel)
  · exact kit_ty (show kitB "tuple" "bool" = some false by decide +kernel)
  · exact kit_ty (show kitB "dict" "bool" = some false by decide +kernel)
def is_str : PyData → Bool
  | .none => false
  | .bool _ => false
  | .int _ => false
  | .str _ => true
  | .list _ => false
  | .tuple _ => false
  | .dict _ => false
theorem kit_str {K : PySem.W.Frag} (d : PyData) : PySem.W.kitOne K (.type (tyD d)) (.type "str") = some (is_str d) := by
  cases d
  · exact kit_ty (show kitB "NoneType" "str" = some false by decide +kernel)
  · exact kit_ty (show kitB "bool" "str" = some false by decide +kernel)
  · exact kit_ty (show kitB "int" "str" = some false by decide +kernel)
  · exact kit_ty (show kitB "str" "str" = some true by decide +kernel)
  · exact kit_ty (show kitB "list" "str" = some false by decide +kernel)
  · exact kit_ty (show kitB "tuple" "str" = some false by decide +kernel)
  · exact kit_ty (show kitB "dict" "str" = some false by decide +kernel)
def is_tuple : PyData → Bool
  | .none => false
  | .bool _ => false
  | .int _ => false
  | .str _ => false
  | .list _ => false
  | .tuple _ => true
  | .dict _ => false
theorem kit_tuple {K : PySem.W.Frag} (d : PyData) : PySem.W.kitOne K (.type (tyD d)) (.type "tuple") = some (is_tuple d) := by
  cases d
  · exact kit_ty (show kitB "NoneType" "tuple" = some false by decide +kernel)
  · exact kit_ty (show kitB "bool" "tuple" = some false by decide +kernel)
  · exact kit_ty (show kitB "int" "tuple" = some false by decide +kernel)
  · exact kit_ty (show kitB "str" "tuple" = some false by decide +kernel)
  · exact kit_ty (show kitB "list" "tuple" = some false by decide +kernel)
  · exact kit_ty (show kitB "tuple" "tuple" = some true by decide +kernel)
  · exact kit_ty (show kitB "dict" "tuple" = some false by decide +kernel)
def is_list : PyData → Bool
  | .none => false
  | .bool _ => false
  | .int _ => false
  | .str _ => false
  | .list _ => true
  | .tuple _ => false
  | .dict _ => false
theorem kit_list {K : PySem.W.Frag} (d : PyData) : PySem.W.kitOne K (.type (tyD d)) (.type "list") = some (is_list d) := by
  cases d
  · exact kit_ty (show kitB "NoneType" "list" = some false by decide +kernel)
  · exact kit_ty (show kitB "bool" "list" = some false by decide +kernel)
  · exact kit_ty (show kitB "int" "list" = some false by decide +kernel)
  · exact kit_ty (show kitB "str" "list" = some false by decide +kernel)
  · exact kit_ty (show kitB "list" "list" = some true by decide +kernel)
  · exact kit_ty (show kitB "tuple" "list" = some false by decide +kernel)
  · exact kit_ty (show kitB "dict" "list" = some false by decide +kernel)
def is_dict : PyData → Bool
  | .none => false
  | .bool _ => false
  | .int _ => false
  | .str _ => false
  | .list _ => false
  | .tuple _ => false
  | .dict _ => true
theorem kit_dict {K : PySem.W.Frag} (d : PyData) : PySem.W.kitOne K (.type (tyD d)) (.type "dict") = some (is_dict d) := by
  cases d
  · exact kit_ty (show kitB "NoneType" "dict" = some false by decide +kernel)
  · exact kit_ty (show kitB "bool" "dict" = some false by decide +kernel)
  · exact kit_ty (show kitB "int" "dict" = some false by decide +kernel)
  · exact kit_ty (show kitB "str" "dict" = some false by decide +kernel)
  · exact kit_ty (show kitB "list" "dict" = some false by decide +kernel)
  · exact kit_ty (show kitB "tuple" "dict" = some false by decide +kernel)
  · exact kit_ty (show kitB "dict" "dict" = some true by decide +kernel)
end KB

set_option Elab.async false
set_option linter.all false
set_option maxRecDepth 100000
set_option maxHeartbeats 2000000
namespace KB
open PySem PySem.Spec PyProof.Rows L2
/-! ### set(xs) of a list of ints, and sorted of it -/
section
variable {P : Program} {w : World} {A : Around} {E : Value → Shared → Prop} {s : Shared}
abbrev newSet (w : World) : Obj := { cls := .type "set", dict := none, data := .set #[] 0 (.fresh 0 0 (!w.params.followText "set-order")) }
set_option maxHeartbeats 3200000 in
theorem call_set_li {l : Addr} {items : Array Value} (ns : List Int) {Q : Value → Shared → Prop} (hh : A.handled = none) (hl : s.heap.IsList l items) (hit : IntsAre items.toList ns) (hb : ns.length + 1 < scanBound)
    (h : ∀ (g : Heap) (tk c : Nat), SetR w g s.heap.objs.size (fun j => decide (j ∈ ns)) c ∧ c ≤ ns.length ∧ (∀ b o, s.heap.get? b = some o → g.get? b = some o) → Q (.ref s.heap.objs.size) { s with heap := g, toks := tk }) :
    wpAny (model P w) A (call (.type "set") [.ref l]) Q E s := by
  have isz : items.size = ns.length := by
    have q := IntsAre.length hit
    rwa [Array.length_toList] at q
  have val : ∀ (i : Nat) (v : Value), items[i]? = some v → ∃ k t, ns[i]? = some k ∧ v = .int k t := fun i v hv => by
    have hi : i < ns.length := isz ▸ (Array.getElem?_eq_some_iff.mp hv).1
    obtain ⟨t, e⟩ := IntsAre.int_at hit i v (by rw [Array.getElem?_toList]; exact hv)
    refine ⟨ns[i], t, List.getElem?_eq_getElem hi, ?_⟩
    rw [e, List.getD_eq_getElem?_getD, List.getElem?_eq_getElem hi, Option.getD_some]
  obtain ⟨c, tl, hmro⟩ := F.called_set.mro
  have w1 := F.called_set.made
  have w2 := F.called_set.sub
  have w3 := F.called_set.notType
  have w4 := F.called_set.canCreate
  have w5 := F.typeCall_set_1 (.ref l)
  refine wpAny_call (codeAny_of_tree ?_)
  show wpAny _ _ (callAny (.type "set") _) _ _ _
  refine wpAny_pure ⟨Code.quiet_builtin _ (by decide +kernel), codeAny_builtin F.entry_type_call ?_⟩
  rw [Around.under_plain (weight_type_call_type "set" [.ref l] []) rfl]
  repeat (any_goals (first | assumption | wp_step))
  refine codeAny_mono (code_set_led1 (.ref l) (E := E) (Q₁ := fun obj s₁ => obj = .ref s.heap.objs.size ∧ s₁ = { s with heap := s.heap.push (newSet w) }) ⟨rfl, rfl⟩) fun r s₁ hr => ?_
  match r, hr with
  | .error e, hr => exact hr
  | .ok (.ret obj), ⟨eo, es⟩ =>
    subst eo es
    have gS : (s.heap.push (newSet w)).get? s.heap.objs.size = some (newSet w) := Heap.get?_push_size _ rfl
    have tS : Shared.TypeIs { s with heap := s.heap.push (newSet w) } (.ref s.heap.objs.size) "set" := ⟨_, gS, rfl⟩
    have w6 := F.called_set.init.lookup
    have w7 := F.called_set.init.bind (.ref s.heap.objs.size)
    repeat (any_goals (first | assumption | wp_step))
    refine codeAny_mono (codeAny_call_builtin (R := wants (fun r s₂ => r = .none ∧ ∃ g tk c, s₂ = { s with heap := g, toks := tk } ∧ SetR w g s.heap.objs.size (fun j => decide (j ∈ ns)) c ∧ c ≤ ns.length ∧ (∀ b o, s.heap.get? b = some o → g.get? b = some o)) E)
      F.called_set.init.plain F.entry_set_init (check_set_init_1 tS ?_)) fun r₂ s₂ hr₂ => ?_
    · obtain ⟨⟨oc, od, odt, osl⟩, hol, hcl, nl, hdl⟩ := hl
      simp only at hcl hdl
      subst hcl hdl
      have hol2 : (s.heap.push (newSet w)).get? l = some ⟨.type "list", od, .seq items nl, osl⟩ := Heap.get?_push_of_some _ hol
      have isL : (s.heap.push (newSet w)).IsList l items := ⟨_, hol2, rfl, nl, rfl⟩
      have u1 := F.sub_list_set
      have u2 := F.sub_list_frozenset
      have u3 : (Value.type "list" == Value.type "dict") = false := by decide
      have lS : l < s.heap.objs.size := Heap.lt_size hol
      have z1 : (s.heap.push (newSet w)).objs.size = s.heap.objs.size + 1 := Heap.size_push ..
      unfold Builtin.«set.__init__» noKeywords Builtin.Frozenset.updateFrom
      generalize hPI : pyIter = PI
      wp_walk
      subst hPI
      refine wpAny_pyIter_list isL ?_
      refine wpAny_bind (wpAny_runValue ?_)
      have nI : l ≠ (s.heap.push (newSet w)).objs.size := by rw [z1]; exact Nat.ne_of_lt (Nat.lt_succ_of_lt lS)
      have nS : s.heap.objs.size ∉ [(s.heap.push (newSet w)).objs.size, l] := by
        rw [z1]
        intro q
        rcases List.mem_cons.mp q with z | z
        · exact absurd z (Nat.ne_of_lt (Nat.lt_succ_self _))
        · exact absurd (List.mem_singleton.mp z) (Nat.ne_of_gt lS)
      have h3 : A.in1.in1.in1.handled = none := by simpa using hh
      refine set_update_ints ((Walks.list h3 _ l nI items).toS) s.heap.objs.size nS ns isz hb val (items.size - 0) 0 _ (by omega) (Nat.zero_le _) ⟨⟨_, Heap.get?_push_size _ rfl, rfl, rfl⟩, isL.push _⟩ ?S0 ?R
      case S0 => exact ⟨0, Nat.le_refl 0, setR_new_at (Heap.get?_push_of_some _ gS)⟩
      case R =>
        intro s2 c2 hm hc2 hS2
        obtain ⟨g, g2, d2, tk2, os2⟩ := s2
        obtain rfl : g2 = s.gens := hm.gens
        obtain rfl : d2 = s.drawn := hm.drawn
        obtain rfl : os2 = s.os := hm.os
        show wpAny _ _ _ _ _ _
        refine wpAny_pure ?_
        show wpAny _ _ (ret Value.none) _ _ _
        refine wpAny_pure ⟨rfl, g, tk2, c2, rfl, hS2, isz ▸ hc2, fun b o e => ?_⟩
        have b0 : b < s.heap.objs.size := Heap.lt_size e
        refine hm.heap b o (fun q => ?_) (Heap.get?_push_of_some _ (Heap.get?_push_of_some _ e))
        rcases List.mem_cons.mp q with z | z
        · exact absurd z (Nat.ne_of_lt b0)
        · have z2 := List.mem_singleton.mp z
          rw [z1] at z2
          exact absurd z2 (Nat.ne_of_lt (Nat.lt_succ_of_lt b0))
    · match r₂, hr₂ with
      | .error e, hr₂ => exact hr₂
      | .ok (.ret r), ⟨er, g, tk, c2, e2, k⟩ =>
        subst er e2
        repeat (any_goals (first | assumption | wp_step))
        exact h _ _ _ k
      | .ok .next, z => exact z.elim
      | .ok .brk, z => exact z.elim
      | .ok .cont, z => exact z.elim
  | .ok .next, z => exact z.elim
  | .ok .brk, z => exact z.elim
  | .ok .cont, z => exact z.elim
end
/-- set(xs), xs a list of ints -/
def rSetL (K : PySem.W.Frag) (w : World) : List V → Hp → VK → Prop := fun vs H Q => ∃ (l : Addr) (ns : List Int), vs = [V.ref l] ∧ SqL K H l (ns.map V.int) ∧ ns.length ≤ 1000 ∧
  ∀ p c, H p = none → c ≤ ns.length → Q (.ref p) (upd H p (SetO w p (fun j => decide (j ∈ ns)) c))
theorem cr_setL {X : Cx} (hc : X.calm = true) : CallR X (.type "set") (rSetL X.K X.w) := by
  intro pins s σ H vs us Q I r h
  obtain ⟨l, ns, rfl, hs, hz, q⟩ := h
  obtain ⟨its, rv, p, _⟩ := I.list hs
  rw [Vals.ref1 r]
  refine call_set_li ns (I.ok.hd hc) p.isList rv.ints (Nat.lt_of_le_of_lt (Nat.add_le_add_right hz 1) (by decide)) fun g tk c ⟨hS, hcl, hk⟩ => ?_
  have fr : H s.heap.objs.size = none := I.hok.fresh (Nat.le_refl _)
  exact ⟨.ref _, _, I.laid (t' := tk) hk (Nat.le_refl _) (setO_new hS), rfl, q _ c fr hcl⟩
end KB

set_option Elab.async false
set_option linter.all false
set_option maxRecDepth 100000
set_option maxHeartbeats 2000000
/-! Walks and operators that the layer had for lists alone. -/
namespace KB
open PySem PySem.Spec PyProof.Rows L2

/-! ### a list or a tuple walked -/
theorem pi_or {X : Cx} {tg it : Expr} {a b : TI} (h : PI X tg it a) (h' : PI X tg it b) : PI X tg it (fun σ H R => a σ H R ∨ b σ H R) :=
  ⟨fun pins s σ H R I q => q.elim (fun z => h.run pins s σ H R I z) fun z => h'.run pins s σ H R I z⟩
theorem pi_seq {X : Cx} {tg l : Expr} {tl : TE} (h : PE X l tl) : PI X tg l (fun σ H R => iList X.K tl σ H R ∨ iTup X.K tl σ H R) := pi_or (pi_list h) (pi_tup h)
theorem sl_seq {X : Cx} : SlR X (fun x lo hi H Q => rSlL X.K x lo hi H Q ∨ rSlA X.K x lo hi H Q) := sl_list.or sl_tupA

/-! ### zip of two tuples -/
theorem walk_zipT {K : PySem.W.Frag} {a b : Addr} {xs ys : List V} {n : Nat} (hn : n = min xs.length ys.length) :
    Walk (RZ.ItzT K a b) n (fun H => SqT K H a xs ∧ SqT K H b ys) (YPair (fun i => xs[i]?) (fun i => ys[i]?)) := by
  subst hn
  constructor
  · intro i H hi ⟨qa, qb⟩
    have la : i < xs.length := Nat.lt_of_lt_of_le hi (Nat.min_le_left _ _)
    have lb : i < ys.length := Nat.lt_of_lt_of_le hi (Nat.min_le_right _ _)
    exact ⟨xs, ys, xs[i], ys[i], qa, qb, List.getElem?_eq_getElem la, List.getElem?_eq_getElem lb⟩
  · intro H ⟨qa, qb⟩
    exact ⟨xs, ys, qa, qb, by omega⟩
  · intro i H v H' _ ⟨qa, qb⟩ ⟨T, x, z, e1, e2, e3, e4, e5⟩
    exact ⟨T, x, z, e1, e2, e3, e4 xs qa, e5 ys qb⟩

/-! ### tuple * int, from one on -/
theorem tuple_mul1 (l : Addr) (items : Array Value) (n : Nat) (dd : Option Addr) (sl : Array (Option Value)) (u : Tok) :
    Meets (Builtin.«tuple.__mul__» ⟨[.ref l, .int 1 u], []⟩) (fun _ R s => s.heap.get? l = some { cls := .type "tuple", dict := dd, data := .seq items n, slots := sl } ∧ R (.ok (.ret (Value.ref l))) s) :=
  .of_wp fun prog w A R s h => by
    obtain ⟨hp, g, d, tk, os⟩ := s
    obtain ⟨hl, h⟩ := h
    have f1 := AutoSeq1.idx_int
    have c0 : (decide ((1 : Int) < -(2 ^ 63)) || decide ((1 : Int) ≥ 2 ^ 63)) = false := by decide
    have c1 : (items.isEmpty || (1 : Int) == 1) = true := by rw [Bool.or_comm]; rfl
    wp_walk using wpAny_loadPart' hl
    repeat (first
      | (refine wpAny_ite_false (decide_eq_false (by rw [c0]; exact Bool.false_ne_true)) ?_; wp_walk using wpAny_loadPart' hl)
      | (refine wpAny_ite_true (decide_eq_true (by rw [c1])) ?_; wp_walk using wpAny_loadPart' hl))
    exact ⟨_, rfl, h⟩
/-- a tuple times one is the tuple -/
def rRep1 (K : PySem.W.Frag) : R2 := fun x y H Q => ∃ l xs, x = .ref l ∧ y = .int 1 ∧ SqT K H l xs ∧ Q (.ref l) H
theorem op_rep1 {X : Cx} : OpR X (binaryOp .Mult) (rRep1 X.K) := by
  intro pins s σ H x y v u Q I rx ry h
  obtain ⟨l, xs, rfl, rfl, hT, q⟩ := h
  cases rx
  obtain ⟨t, rfl⟩ := ry
  obtain ⟨its, r, ⟨⟨cls, dd, data, sl⟩, ho, hc, n, hd⟩, hs⟩ := I.tuple hT
  simp only at hc hd
  subst hc hd
  exact wpAny_binaryOp_repeat_ref (T := "tuple") (U := "int") (by decide) ⟨_, ho, rfl⟩ (fun s' => typeIs_int s' 1 t) noFill_tuple_mul F.fills_int_mul F.slot_int_rmul repeat_tuple F.slot_int_index.lookup
    (call_meets F.slot_int_rmul (typeIs_int s 1 t) F.entry_int_rmul (F.args_int_rmul_2 _ _) (int_rmul_tuple 1 t l its.toArray n dd sl)
      ⟨ho, rfl, ⟨_, ho, rfl⟩, call_meets F.slot_tuple_mul ⟨_, ho, rfl⟩ F.entry_tuple_mul (F.args_tuple_mul_2 _ _) (tuple_mul1 l its.toArray n dd sl t) ⟨ho, .ref l, H, I, rfl, q⟩⟩)
theorem op_repA {X : Cx} : OpR X (binaryOp .Mult) (fun x y H Q => rRep1 X.K x y H Q ∨ rRepT X.K x y H Q) := op_rep1.or op_repT

/-! ### max of a list or a tuple of ints -/
theorem reads_ints {h : Heap} : ∀ {us : List Value} {ns : List Int}, IntsAre us ns → ∃ as, ReadsAll h us (ns.map PyData.int) as
  | _, _, .nil => ⟨_, .nil⟩
  | _, _, .cons n t r => by
    obtain ⟨as, q⟩ := reads_ints (h := h) r
    exact ⟨_, .cons (.int n t) q⟩
theorem alike_ints (ns : List Int) : PySem.W.AlikeAll (ns.map PyData.int) := by
  constructor
  · intro x hx y hy
    obtain ⟨i, _, rfl⟩ := List.mem_map.mp hx
    obtain ⟨j, _, rfl⟩ := List.mem_map.mp hy
    rfl
  · intro x hx
    obtain ⟨i, _, rfl⟩ := List.mem_map.mp hx
    intro z
    cases z
def rMaxA (K : PySem.W.Frag) : List V → Hp → VK → Prop := fun vs H Q => ∃ (a : Addr) (ns : List Int), vs = [V.ref a] ∧ (SqL K H a (ns.map V.int) ∨ SqT K H a (ns.map V.int)) ∧ 0 < ns.length ∧ ∀ m, m ∈ ns → (∀ y, y ∈ ns → y ≤ m) → Q (.int m) H
theorem foldl_max : ∀ (ns : List Int) (n : Int), ns.foldl max n ∈ n :: ns ∧ ∀ y, y ∈ n :: ns → y ≤ ns.foldl max n
  | [], n => ⟨List.mem_cons_self, fun y hy => by
      rcases List.mem_cons.mp hy with rfl | z
      · exact Int.le_refl _
      · cases z⟩
  | k :: r, n => by
    obtain ⟨h1, h2⟩ := foldl_max r (max n k)
    rw [List.foldl_cons]
    constructor
    · rcases List.mem_cons.mp h1 with e | e
      · rw [e]
        rcases Int.le_total n k with q | q
        · rw [Int.max_eq_right q]
          exact List.mem_cons_of_mem _ List.mem_cons_self
        · rw [Int.max_eq_left q]
          exact List.mem_cons_self
      · exact List.mem_cons_of_mem _ (List.mem_cons_of_mem _ e)
    · intro y hy
      have top := h2 _ List.mem_cons_self
      rcases List.mem_cons.mp hy with rfl | z
      · exact Int.le_trans (Int.le_max_left _ _) top
      · rcases List.mem_cons.mp z with rfl | z
        · exact Int.le_trans (Int.le_max_right _ _) top
        · exact h2 y (List.mem_cons_of_mem _ z)
theorem cr_maxA {X : Cx} (hc : X.calm = true) (hu : X.A.units + 64 < cLine) : CallR X (.builtin "max") (rMaxA X.K) := by
  intro pins s σ H vs us Q I r h
  obtain ⟨a, ns, rfl, hs | hs, hne, q⟩ := h
  · exact cr_max hc pins s σ H _ us Q I r ⟨a, ns, rfl, hs, hne, q⟩
  · obtain ⟨its, rv, p, _⟩ := I.tuple hs
    rw [Vals.ref1 r]
    obtain ⟨as, rd⟩ := reads_ints (h := s.heap) rv.ints
    cases ns with
    | nil => exact absurd hne (Nat.lt_irrefl _)
    | cons n r =>
      refine PySem.W.max_tuple_data (x := .int n) (xs := r.map PyData.int) (I.ok.hd hc) (vs := its.toArray) p rd (alike_ints (n :: r)) ?_ fun i v h' tk bs hv hb hk => ?_
      · show X.A.units + 1 + PyData.depthAll ((n :: r).map PyData.int) < cLine
        rw [PySem.W.ke_depthAll]
        omega
      · rw [PySem.W.maxD_ints] at hb
        obtain ⟨m1, m2⟩ := foldl_max r n
        cases hb with
        | int j t => exact ⟨.int _, H, I.kept hk, ⟨_, rfl⟩, q _ m1 m2⟩

/-! ### enumerate of a tuple -/
theorem meets_enum_tup (l : Addr) (items : Array Value) (n : Nat) (dct : Option Addr) (sl : Array (Option Value)) :
    Meets (Builtin.«enumerate.__new__» ⟨[.type "enumerate", .ref l], []⟩) (fun _ R s => s.heap.get? l = some ⟨.type "tuple", dct, .seq items n, sl⟩ ∧
      R (.ok (.ret (.ref (s.heap.push { cls := .type "tuple_iterator", data := .fields #[.ref l, .int 0 0] }).objs.size)))
        ⟨(s.heap.push { cls := .type "tuple_iterator", data := .fields #[.ref l, .int 0 0] }).push ⟨.type "enumerate", none, .fields #[.none, .bool false, .ref s.heap.objs.size, rawInt 0, .none, .none], #[]⟩, s.gens, s.drawn, s.toks, s.os⟩) :=
  .of_wp fun prog w A R s h => by
    obtain ⟨hp, g, d, tk, os⟩ := s
    obtain ⟨hl, h⟩ := h
    have hsub := sub_enumerate
    have isT : Heap.IsTuple (Shared.heap ⟨hp, g, d, tk, os⟩) l items := ⟨_, hl, rfl, n, rfl⟩
    wp_walk using AutoSeq1.wpAny_loadPart' hl
    refine wpAny_stack_any fun st => wpAny_pure ?_
    split
    · rename_i c _ _ _ _ _
      cases (c == Value.type "enumerate") <;>
        (wp_walk using AutoSeq1.wpAny_loadPart' hl, wpAny_pyIter_tuple isT
         exact ⟨_, rfl, h⟩)
    · wp_walk using AutoSeq1.wpAny_loadPart' hl, wpAny_pyIter_tuple isT
      exact ⟨_, rfl, h⟩
section
variable {prog : Program} {w : World} {A : Around} {E : Value → Shared → Prop} {s : Shared}
/-- its two new cells -/
theorem call_enum_tup {l : Addr} {items : Array Value} {Q : Value → Shared → Prop} (hT : s.heap.IsTuple l items)
    (h : ∀ h2, IsEnum h2 (s.heap.objs.size + 1) s.heap.objs.size 0 .none ∧ h2.IsTupleIter s.heap.objs.size l 0 ∧ (∀ b o, s.heap.get? b = some o → h2.get? b = some o) → Q (.ref (s.heap.objs.size + 1)) { s with heap := h2 }) :
    wpAny (model prog w) A (call (.type "enumerate") [.ref l]) Q E s := by
  obtain ⟨⟨c, dct, dt, sl⟩, hl, hc, n, hd⟩ := hT
  simp only at hc hd
  subst hc hd
  refine callType_new F.called_enumerate (by decide) (F.typeCall_enumerate_1 _) (F.newCall_enumerate_1 _) (fun obj => F.args_object_init_2 obj _) F.entry_enumerate_new (meets_enum_tup l items n dct sl) ⟨hl, ?_⟩
  generalize e1 : s.heap.push { cls := .type "tuple_iterator", data := .fields #[.ref l, .int 0 0] } = g1
  have z1 : g1.objs.size = s.heap.objs.size + 1 := by rw [← e1]; exact Heap.size_push ..
  have k1 : ∀ b o, s.heap.get? b = some o → g1.get? b = some o := fun b o q => by rw [← e1]; exact Heap.get?_push_of_some _ q
  have i1 : g1.IsTupleIter s.heap.objs.size l 0 := by rw [← e1]; exact ⟨_, Heap.get?_push_size _ rfl, rfl, rfl⟩
  show _ ∧ _
  rw [z1]
  have en : IsEnum (g1.push ⟨.type "enumerate", none, .fields #[.none, .bool false, .ref s.heap.objs.size, rawInt 0, .none, .none], #[]⟩) (s.heap.objs.size + 1) s.heap.objs.size 0 .none := by
    have q := Heap.get?_push_size g1 (o := ⟨.type "enumerate", none, .fields #[.none, .bool false, .ref s.heap.objs.size, rawInt 0, .none, .none], #[]⟩) rfl
    rw [z1] at q
    exact q
  exact ⟨⟨_, en, rfl⟩, h _ ⟨en, i1.at fun o q => Heap.get?_push_of_some _ q, fun b o q => Heap.get?_push_of_some _ (k1 b o q)⟩⟩
end
/-- the tuple at a, its items in new pairs with their places -/
def IteT (K : PySem.W.Frag) (a : Addr) : It where
  go := fun i H => ∃ (xs : List V) (x : V), SqT K H a xs ∧ xs[i]? = some x
  yld := fun i H v H' => ∃ T x, v = .ref T ∧ H T = none ∧ H' = upd H T (.tup [.int (i : Nat), x]) ∧ ∀ xs, SqT K H a xs → xs[i]? = some x
  stop := fun i H => ∃ xs : List V, SqT K H a xs ∧ xs.length = i
theorem turn_enumT {P : Program} {w : World} {K : PySem.W.Frag} {elts : List Expr} {kk : Nat} {tpos : Pos} (a e it : Addr) :
    Turn P w K (.Tuple elts kk tpos) (IteT K a) [e, it] e (fun i h => (∃ old, IsEnum h e it ((i : Nat) : Int) old) ∧ h.IsTupleIter it a i ∧ e ≠ it ∧ a ≠ it ∧ a ≠ e) where
  mem := List.mem_cons_self
  obj := fun i h ⟨⟨old, he⟩, ⟨o, ho, hc, hd⟩, _⟩ b hb => by
    rcases List.mem_cons.mp hb with z | z
    · subst z
      exact ⟨_, he, fun v q => nomatch q⟩
    · rw [List.mem_singleton.mp z]
      exact ⟨o, ho, fun v q => by rw [hd] at q; cases q⟩
  keep := fun i h h2 ⟨⟨old, he⟩, hi, ne⟩ k => ⟨⟨old, k e List.mem_cons_self _ he⟩, hi.at fun o q => k it (by simp) o q, ne⟩
  item := by
    rintro X rfl rfl rfl hc i pins s σ H E I hf ⟨⟨old, he⟩, hit, ne, na, nb⟩ ⟨xs, x, hq, hx⟩
    obtain ⟨its, rv, p, hz⟩ := I.tuple hq
    obtain ⟨u, hu, ru⟩ := rv.get hx
    have le : e < s.heap.objs.size := Heap.lt_size he
    have li : it < s.heap.objs.size := hit.elim fun _ q => Heap.lt_size q.1
    have hlt : i < its.toArray.size := by
      rw [List.size_toArray]
      exact (List.getElem?_eq_some_iff.mp hu).1
    have hh : X.A.in1.handled = none := by simpa using I.ok.hd hc
    refine wpAny_pyNext_enum_itemD (Draws.tuple hh it a na its.toArray) he ⟨hit, p⟩ hlt ne (by simp [ne, nb.symm]) fun v h1 tk hv ho hst hT hsz hk => ?_
    obtain rfl : u = v := by
      have q : its.toArray[i]? = some v := hv
      rw [List.getElem?_toArray, hu] at q
      exact Option.some.inj q
    refine ⟨_, rfl, wpAny_letOwnedTupleGo_enum (s := { s with heap := h1, toks := tk + 1 }) ho fun h2 he2 sb => ?_⟩
    have old2 : ∀ b ob, b ∉ [e, it] → s.heap.get? b = some ob → h2.get? b = some ob := fun b ob hb q => by
      have b1 : b ≠ e := fun z => hb (by simp [z])
      have b2 : b ≠ it := fun z => hb (by simp [z])
      exact (sb.2 b b1).trans (hk b ob b1 b2 q)
    have gT : h2.get? s.heap.objs.size = some ⟨.type "tuple", none, .seq #[.int i tk, u], #[]⟩ := (sb.2 _ (Nat.ne_of_gt le)).trans hT
    have new : ObjOk X.prog X.w (upd H s.heap.objs.size (.tup [.int (i : Nat), x])) h2 s.heap.objs.size (.tup [.int (i : Nat), x]) :=
      ⟨(by decide : 2 ≤ sizeLine), [.int i tk, u], .cons ⟨tk, rfl⟩ (.cons ru .nil), ⟨_, gT, rfl, _, rfl⟩⟩
    have I1 := I.turnedNew (t' := tk + 1) (ch := [e, it]) old2 hf (Nat.le_refl _) new
    refine ⟨.ref s.heap.objs.size, _, I1, rfl, ⟨_, x, rfl, I.hok.fresh (Nat.le_refl _), rfl, fun ys hy => by rw [I.tuple_inj hy hq]; exact hx⟩, ⟨⟨u, ?_⟩, hst.1.at fun o q => (sb.2 it ne.symm).trans q, ne, na, nb⟩, fun b hb => ?_⟩
    · rw [show ((i + 1 : Nat) : Int) = (i : Int) + 1 from by omega]
      exact he2
    · have lb : b < s.heap.objs.size := by
        rcases List.mem_cons.mp hb with z | z
        · rw [z]; exact le
        · rw [List.mem_singleton.mp z]; exact li
      rw [upd_ne (Nat.ne_of_lt lb)]
      exact (hf b hb).1
  done := by
    rintro X rfl rfl rfl hc i pins s σ H E I hf ⟨⟨old, he⟩, hit, ne, na, nb⟩ ⟨xs, hq, hx⟩
    obtain ⟨its, rv, p, hz⟩ := I.tuple hq
    obtain ⟨f0, f1, _, f3, f4, f5⟩ := hf it (by simp)
    have hh : X.A.in1.handled = none := by simpa using I.ok.hd hc
    have ez : its.toArray.size = i := by
      rw [List.size_toArray, ← rv.length, hx]
    exact wpAny_pyNext_enum_endD (Draws.tuple hh it a na its.toArray) he (by rw [ez]; exact ⟨hit, p⟩) fun h1 eb => ⟨rfl, I.turned (t' := s.toks) (fun b o hb q => eb b o hb q) f0 f1 f3 f4 f5⟩
  self := fun A i s Q E ⟨⟨_, he⟩, _⟩ h => wpAny_pyIter_enum he h
def iEnumT (K : PySem.W.Frag) (ta : TA) : TI := fun σ H R => ta σ H fun vs H1 => ∃ a xs, vs = [.ref a] ∧ SqT K H1 a xs ∧ R (IteT K a) H1
theorem pi_enumT {X : Cx} {e : Expr} {ta : TA} {p pos tpos : Pos} {elts : List Expr} {kk : Nat} (hg : Gl X "enumerate") (hm : X.mg "enumerate" = none) (ha : PA X [e] ta)
    (hs : starEach [e] X.env = [(false, eval e X.env)] := by rfl) : PI X (.Tuple elts kk tpos) (.Call (.Name "enumerate" p) [e] [] pos) (iEnumT X.K ta) := by
  constructor
  intro pins s σ H R I h
  refine Call_ (ld_blt I hg hm boot_enumerate (callWith_type1 (thn (ha.run pos pins s σ H _ I h) fun us s1 ⟨vs, H1, I1, r1, a, xs, ex, hq, q⟩ => ?_) hs rfl))
  subst ex
  rw [Vals.ref1 r1]
  obtain ⟨its, rv, tp, hz⟩ := I1.tuple hq
  have la : a < s1.heap.objs.size := tp.elim fun _ z => Heap.lt_size z.1
  refine call_enum_tup (show s1.heap.IsTuple a its.toArray from tp) fun h2 ⟨he, hit, hk⟩ => wpAny_pyIter_enum he ?_
  refine ⟨s1.heap.objs.size + 1, [s1.heap.objs.size + 1, s1.heap.objs.size], _, _, H1, rfl, I1.kept (t' := s1.toks) hk, turn_enumT a (s1.heap.objs.size + 1) s1.heap.objs.size,
    ⟨⟨.none, he⟩, hit, Nat.succ_ne_self _, Nat.ne_of_lt la, Nat.ne_of_lt (Nat.lt_succ_of_lt la)⟩, fun b hb => ?_, q⟩
  have lb : s1.heap.objs.size ≤ b := by
    rcases List.mem_cons.mp hb with z | z
    · rw [z]; exact Nat.le_succ _
    · rw [List.mem_singleton.mp z]; exact Nat.le_refl _
  exact I1.fpOk lb (I1.hok.fresh lb)
theorem walk_enumT {K : PySem.W.Frag} {a : Addr} {xs : List V} : Walk (IteT K a) xs.length (fun H => SqT K H a xs) (YPair (fun i => some (.int (i : Nat))) (fun i => xs[i]?)) where
  goes := fun i H hi q => ⟨xs, xs[i], q, List.getElem?_eq_getElem hi⟩
  stops := fun H q => ⟨xs, q, rfl⟩
  yields := fun i H v H2 _ q ⟨T, x, e1, e2, e3, e4⟩ => ⟨T, .int (i : Nat), x, e1, e2, e3, rfl, e4 xs q⟩

end KB

set_option Elab.async false
set_option linter.all false
set_option maxRecDepth 100000
set_option maxHeartbeats 1000000
/-! What a reading evaluates to: more of it. -/
namespace KB
open PySem L2 Evl

theorem same_ex {H H' : Hp} (e : Ex H H') : Same H H' := e
theorem ex_chg {M : Addr → Prop} {H H' : Hp} (e : Ex H H') : Chg M H H' := fun b o _ h => e b o h
section
variable {K : PySem.W.Frag} {σ : L2.St} {H H' : Hp} {ta tb te tl : TE} {t u : TT} {x y z v : V} {r : R2}
theorem ev_lenT {p : Addr} {xs : List V} (ha : Ev ta σ H (.ref p)) (h : SqT K H p xs) : Ev (tCB (rLenS K) (tCons ta tNil)) σ H (.int (xs.length : Int)) := fun H1 e Q q =>
  ha H1 e _ fun H2 e2 => ⟨p, xs, rfl, Or.inr (ex_t (e.trans e2) h), q H2 e2⟩
/-- t[i], t a tuple -/
theorem ev_ixT {p : Addr} {xs : List V} {i : Int} (ha : Ev ta σ H (.ref p)) (hb : Ev tb σ H (.int i)) (h : SqT K H p xs) (hv : atI xs i = some v) : Ev (tOp (rIx K) ta tb) σ H v := ev_op ha hb fun H1 e Q q =>
  Or.inr (Or.inl ⟨p, xs, i, v, rfl, rfl, ex_t e h, hv, q H1 (Ex.refl H1)⟩)
theorem ev_ixL {p : Addr} {xs : List V} {i : Int} (ha : Ev ta σ H (.ref p)) (hb : Ev tb σ H (.int i)) (h : SqL K H p xs) (hv : atI xs i = some v) : Ev (tOp (rIx K) ta tb) σ H v := ev_op ha hb fun H1 e Q q =>
  Or.inl ⟨p, xs, i, v, rfl, rfl, ex_l e h, hv, q H1 (Ex.refl H1)⟩
/-- a comprehension over anything that gives xs and changes nothing -/
theorem lc_ev {J : It} {n j : Nat} {G : Hp → Prop} {xs : List V} {tt : TT} {te : TE} {vs : List Nat} {H1 : Hp} {D : Addr} {Qd : Hp → Prop} (w : Walk J n G (YAt xs)) (p : Nat → Bool) (f : Nat → V) (hG : ∀ H2, Ex H1 H2 → G H2) (hD : H1 D = none) (hn : n ≤ 40000)
    (hw : ∀ x, wipe ((wipe σ vs).set j (some x)) vs = wipe σ vs) (ht : ∀ i x, i < n → xs[i]? = some x → EvT tt ((wipe σ vs).set j (some x)) H1 (p i)) (he : ∀ i x, i < n → xs[i]? = some x → p i = true → Ev te ((wipe σ vs).set j (some x)) H1 (f i))
    (hd : ∀ H2, H2 D = some (.lst (given n p f)) → Ex H1 H2 → Qd H2) :
    ∃ W : Nat → Nat → Hp → Prop, (∃ m, W 0 m (upd H1 D (.lst []))) ∧ ∀ i m H, W i m H →
      (J.stop i H ∧ Qd H) ∨ (J.go i H ∧ ∃ Nx : Hp → Prop, (∀ H', Nx H' → ∃ m', m' < m ∧ W (i + 1) m' H') ∧ ∀ x H', J.yld i H x H' → gName j x (wipe σ vs) H' fun σ2 H2 => wipe σ2 vs = wipe σ vs ∧ tt σ2 H2 fun b H3 =>
        if b = true then te σ2 H3 fun y H4 => ∃ acc, H4 D = some (.lst acc) ∧ acc.length < sizeLine ∧ Nx (upd H4 D (.lst (acc ++ [y]))) else Nx H3) := by
  refine lc_it w (fun i H2 => Cw H1 p f D i H2) ⟨hD, Ex.new hD, upd_same⟩ (fun i H2 _ q => hG H2 q.2.1) ?_ fun H2 q => hd H2 q.2.2 q.2.1
  rintro i x H2 H3 hi q ⟨rfl, hx⟩
  exact ⟨hw x, cw_turn q (by omega) (ht i x hi hx) (he i x hi hx)⟩
theorem given_all (n : Nat) (f : Nat → V) : given n (fun _ => true) f = (List.range n).map f := by
  unfold given
  rw [List.filter_eq_self.mpr fun _ _ => rfl]
theorem et_yes : EvT tYes σ H true := fun H1 _ _ q => q H1 (Ex.refl H1)
/-- walks of a list | a tuple, by either -/
abbrev iSeq (K : PySem.W.Frag) (tl : TE) : TI := fun σ H R => iList K tl σ H R ∨ iTup K tl σ H R
theorem el_lcT {a : Addr} {xs : List V} {j : Nat} {vs : List Nat} (p : Nat → Bool) (f : Nat → V) (h : Ev tl σ H (.ref a)) (hx : H a = some (.tup xs)) (hz : xs.length ≤ 40000) (hw : ∀ x, wipe ((wipe σ vs).set j (some x)) vs = wipe σ vs)
    (ht : ∀ (i : Nat) (x : V) H1, Ex H H1 → xs[i]? = some x → EvT t ((wipe σ vs).set j (some x)) H1 (p i)) (he : ∀ (i : Nat) (x : V) H1, Ex H H1 → xs[i]? = some x → p i = true → Ev te ((wipe σ vs).set j (some x)) H1 (f i)) :
    EvL (tLc (iTup K tl) (gName j) t te vs) σ H (given xs.length p f) := fun H0 e Q q => h H0 e _ fun H1 e1 => ⟨a, rfl, ⟨xs, .of (e1 _ _ (e _ _ hx))⟩, fun D hD =>
      lc_ev (walk_tup (K := K) (a := a) (xs := xs)) p f (fun H2 e2 => .of (e2 _ _ (e1 _ _ (e _ _ hx)))) hD hz hw (fun i x _ gx => ht i x H1 (e.trans e1) gx) (fun i x _ gx => he i x H1 (e.trans e1) gx) fun H2 h2 e2 => q D H2 (fresh_back e1 hD) (e1.trans e2) h2⟩
theorem el_lcS {a : Addr} {xs : List V} {j : Nat} {vs : List Nat} (p : Nat → Bool) (f : Nat → V) (h : Ev tl σ H (.ref a)) (hx : H a = some (.tup xs)) (hz : xs.length ≤ 40000) (hw : ∀ x, wipe ((wipe σ vs).set j (some x)) vs = wipe σ vs)
    (ht : ∀ (i : Nat) (x : V) H1, Ex H H1 → xs[i]? = some x → EvT t ((wipe σ vs).set j (some x)) H1 (p i)) (he : ∀ (i : Nat) (x : V) H1, Ex H H1 → xs[i]? = some x → p i = true → Ev te ((wipe σ vs).set j (some x)) H1 (f i)) :
    EvL (tLc (iSeq K tl) (gName j) t te vs) σ H (given xs.length p f) := fun H0 e Q q => Or.inr (el_lcT (K := K) p f h hx hz hw ht he H0 e Q q)
theorem ev_all {tc : TE} {bs : List Bool} (h : EvL tc σ H (bs.map V.bl)) : Ev (tCB (rAll K) (tCons tc tNil)) σ H (.bl (bs.all id)) := fun H1 e Q q =>
  h H1 e _ fun p H2 np e2 hp => ⟨p, bs, rfl, .of hp, q H2 e2⟩
theorem range_map_get {α β : Type} (l : List α) (g : Nat → β) (f : α → β) (h : ∀ i x, l[i]? = some x → g i = f x) : (List.range l.length).map g = l.map f := by
  refine List.ext_getElem? fun i => ?_
  rw [List.getElem?_map, List.getElem?_map]
  by_cases hi : i < l.length
  · rw [List.getElem?_range hi, List.getElem?_eq_getElem hi, Option.map_some, Option.map_some, h i _ (List.getElem?_eq_getElem hi)]
  · rw [List.getElem?_eq_none (by rw [List.length_range]; omega), List.getElem?_eq_none (by omega)]
    rfl
/-- all([p(x) for x in t]) for a tuple of data -/
theorem ev_allD {M : Addr → Prop} {a : Addr} {xs : List V} {ds : List PyData} {j : Nat} {vs : List Nat} (p : PyData → Bool) (h : Ev tl σ H (.ref a)) (hx : H a = some (.tup xs)) (hd : DaL M H xs ds) (hz : xs.length ≤ 40000)
    (hw : ∀ x, wipe ((wipe σ vs).set j (some x)) vs = wipe σ vs) (he : ∀ (x : V) (d : PyData) H1, Ex H H1 → d ∈ ds → Da M H1 x d → Ev te ((wipe σ vs).set j (some x)) H1 (.bl (p d))) :
    Ev (tCB (rAll K) (tCons (tLc (iSeq K tl) (gName j) tYes te vs) tNil)) σ H (.bl (ds.all p)) := by
  have len := hd.length
  have q : EvL (tLc (iSeq K tl) (gName j) tYes te vs) σ H (given xs.length (fun _ => true) fun i => .bl (p (ds.getD i .none))) :=
    el_lcS (fun _ => true) _ h hx hz hw (fun _ _ _ _ _ => et_yes) fun i x H1 e gx _ => by
      obtain ⟨d, gd, da⟩ := hd.get gx
      rw [List.getD_eq_getElem?_getD, gd, Option.getD_some]
      exact he x d H1 e (List.mem_of_getElem? gd) (da.go (ex_chg e))
  rw [given_all, len, range_map_get ds _ (fun d => V.bl (p d)) (fun i d gd => by rw [List.getD_eq_getElem?_getD, gd, Option.getD_some]), show (ds.map fun d => V.bl (p d)) = (ds.map p).map V.bl from by rw [List.map_map]; rfl] at q
  have q2 := ev_all (K := K) q
  rw [show (ds.map p).all id = ds.all p from by rw [List.all_map]; rfl] at q2
  exact q2
/-- f([..]), f((..)): one argument, new -/
theorem ev_callL {sp : Sp} {xs : List V} {E : XK} (h : EvL te σ H xs) (hs : ∀ p H1, H1 p = some (.lst xs) → Ex H H1 → SpV sp [.ref p] H1 z) : Ev (tCall sp [] E (tCons te tNil)) σ H z := fun H1 e Q q =>
  h H1 e _ fun p H2 _ e2 hp => hs p H2 hp (e.trans e2) H2 (Ex.refl H2) Q (fun H3 e3 => q H3 (e2.trans e3)) E
theorem ev_callU {sp : Sp} {xs : List V} {E : XK} (h : EvU te σ H xs) (hs : ∀ p H1, H1 p = some (.tup xs) → Ex H H1 → SpV sp [.ref p] H1 z) : Ev (tCall sp [] E (tCons te tNil)) σ H z := fun H1 e Q q =>
  h H1 e _ fun p H2 _ e2 hp => hs p H2 hp (e.trans e2) H2 (Ex.refl H2) Q (fun H3 e3 => q H3 (e2.trans e3)) E
theorem given_yes_all {n : Nat} {p : Nat → Bool} {f : Nat → V} (h : p = fun _ => true) : given n p f = (List.range n).map f := by
  rw [h, given_all]
theorem ev_sum {tc : TE} {ns : List Int} (h : EvL tc σ H (ns.map V.int)) : Ev (tCB (rSum K) (tCons tc tNil)) σ H (.int ns.sum) := fun H1 e Q q =>
  h H1 e _ fun p H2 np e2 hp => ⟨p, ns, rfl, .of hp, q H2 e2⟩
theorem ev_int1 {i : Int} (h : Ev ta σ H (.int i)) : Ev (tCB (fun xs H Q => (∃ i, xs = [V.int i] ∧ Q (.int i) H) ∨ ∃ k, xs = [V.bl k] ∧ Q (.int (if k then 1 else 0)) H) (tCons ta tNil)) σ H (.int i) := fun H1 e Q q =>
  h H1 e _ fun H2 e2 => Or.inl ⟨i, rfl, q H2 e2⟩
end
end KB

set_option Elab.async false
set_option linter.all false
set_option maxRecDepth 100000
/-! What the defs of the package promise. -/
namespace KB
open PySem L2
def isNum (d : PyData) (lo hi : Int) : Bool := match d with
  | .int i => decide (lo ≤ i) && decide (i ≤ hi)
  | _ => false
def isTup (d : PyData) (lo hi : Int) : Bool := match d with
  | .tuple ds => decide (lo ≤ (ds.length : Int)) && decide ((ds.length : Int) ≤ hi)
  | _ => false
def rising : List Int → Bool
  | a :: b :: r => decide (a < b) && rising (b :: r)
  | _ => true
/-- a sequence of ints, a list or a tuple -/
def IntSeq (H : Hp) (v : V) (ns : List Int) : Prop := ∃ a, v = .ref a ∧ (H a = some (.lst (ns.map V.int)) ∨ H a = some (.tup (ns.map V.int)))
def spNum : Sp := fun vs H Q _ => ∃ (M : Addr → Prop) (v : V) (d : PyData) (lo hi : Int), vs = [v, .int lo, .int hi] ∧ Da M H v d ∧ Q (.bl (isNum d lo hi)) H
def spTup : Sp := fun vs H Q _ => ∃ (M : Addr → Prop) (v : V) (d : PyData) (lo hi : Int), vs = [v, .int lo, .int hi] ∧ Da M H v d ∧ Q (.bl (isTup d lo hi)) H
def spRising : Sp := fun vs H Q _ => ∃ (v : V) (ns : List Int), vs = [v] ∧ IntSeq H v ns ∧ ∀ H', Same H H' → Q (.bl (rising ns)) H'
open Evl
section
variable {H : Hp} {M : Addr → Prop} {v : V} {d : PyData}
theorem v_num {lo hi : Int} (hd : Da M H v d) : SpV spNum [v, .int lo, .int hi] H (.bl (isNum d lo hi)) := fun H1 e Q q E => ⟨M, v, d, lo, hi, rfl, hd.go (ex_chg e), q H1 (Ex.refl H1)⟩
theorem v_tup {lo hi : Int} (hd : Da M H v d) : SpV spTup [v, .int lo, .int hi] H (.bl (isTup d lo hi)) := fun H1 e Q q E => ⟨M, v, d, lo, hi, rfl, hd.go (ex_chg e), q H1 (Ex.refl H1)⟩
theorem IntSeq.go {H H1 : Hp} {v : V} {ns : List Int} (h : IntSeq H v ns) (e : Ex H H1) : IntSeq H1 v ns := by
  obtain ⟨a, e1, h | h⟩ := h
  · exact ⟨a, e1, .inl (e _ _ h)⟩
  · exact ⟨a, e1, .inr (e _ _ h)⟩
theorem v_rising {ns : List Int} (hd : IntSeq H v ns) : SpV spRising [v] H (.bl (rising ns)) := fun H1 e Q q E => ⟨v, ns, rfl, hd.go e, fun H2 s => q H2 s⟩
/-- the things of n homes -/
def isThing (n : Nat) (d : PyData) : Bool := isNum d 0 ((n : Int) - 1)
def intOf : PyData → Int
  | .int i => i
  | _ => 0
def areReads (n : Nat) (d : PyData) : Bool := match d with
  | .tuple ds => decide (ds.length ≤ 3) && ds.all (isThing n) && rising (ds.map intOf)
  | _ => false
def isMake (d : PyData) : Bool := match d with
  | .str s => decide (s = "word") || decide (s = "sum")
  | _ => false
def flatD : PyData → Bool
  | .none => true
  | .bool _ => true
  | .int _ => true
  | .str _ => true
  | _ => false
def isWrite (n : Nat) (d : PyData) : Bool := match d with
  | .tuple [t, m, k] => isThing n t && (isMake m && isNum k 0 999)
  | _ => false
/-- what stands in the middle of three is no tuple, no list -/
def flatMake (d : PyData) : Bool := match d with
  | .tuple [_, m, _] => flatD m
  | _ => true
def firstD : PyData → PyData
  | .tuple (t :: _) => t
  | _ => .none
def areWrites (n : Nat) (d : PyData) : Bool := match d with
  | .tuple ds => decide (1 ≤ ds.length) && decide (ds.length ≤ 3) && ds.all (isWrite n) && rising (ds.map fun x => intOf (firstD x))
  | _ => false
def flatMakes (d : PyData) : Bool := match d with
  | .tuple ds => ds.all flatMake
  | _ => true
def isDeed (n : Nat) (d : PyData) : Bool := match d with
  | .tuple [r, w] => areReads n r && areWrites n w
  | _ => false
def flatDeed (d : PyData) : Bool := match d with
  | .tuple [_, w] => flatMakes w
  | _ => true
/-- a question about data that changes nothing: homes by their number -/
def spAsk (ok : PyData → Bool) (p : Nat → PyData → Bool) : Sp := fun vs H Q _ => ∃ (M : Addr → Prop) (a : Addr) (hs : List V) (v : V) (d : PyData), vs = [.ref a, v] ∧ H a = some (.tup hs) ∧ hs.length ≤ 6 ∧ Da M H v d ∧ ok d = true ∧ ∀ H', Same H H' → Q (.bl (p hs.length d)) H'
theorem v_ask {ok : PyData → Bool} {p : Nat → PyData → Bool} {a : Addr} {hs : List V} (ha : H a = some (.tup hs)) (hz : hs.length ≤ 6) (hd : Da M H v d) (hk : ok d = true) : SpV (spAsk ok p) [.ref a, v] H (.bl (p hs.length d)) :=
  fun H1 e Q q E => ⟨M, a, hs, v, d, rfl, e _ _ ha, hz, hd.go (ex_chg e), hk, fun H2 s => q H2 s⟩
abbrev okAny : PyData → Bool := fun _ => true
end
theorem isTup_len {ds : List PyData} {lo hi : Nat} (h : isTup (.tuple ds) (lo : Int) (hi : Int) = true) : lo ≤ ds.length ∧ ds.length ≤ hi := by
  simp only [isTup, Bool.and_eq_true, decide_eq_true_eq] at h
  omega
theorem isTup_dec (ds : List PyData) (lo hi : Nat) : isTup (.tuple ds) (lo : Int) (hi : Int) = (decide (lo ≤ ds.length) && decide (ds.length ≤ hi)) := by
  simp only [isTup]
  congr 1
  · exact decide_eq_decide.mpr (by omega)
  · exact decide_eq_decide.mpr (by omega)
theorem thing_int {n : Nat} {d : PyData} (h : isThing n d = true) : ∃ i : Int, d = .int i ∧ 0 ≤ i ∧ i < n := by
  cases d with
  | int i =>
    simp only [isThing, isNum, Bool.and_eq_true, decide_eq_true_eq] at h
    exact ⟨i, rfl, h.1, by omega⟩
  | _ => cases h
theorem DaL.ints_of {M : Addr → Prop} {H : Hp} : ∀ {ds : List PyData} {xs : List V}, DaL M H xs ds → (∀ d ∈ ds, ∃ i, d = PyData.int i) → xs = (ds.map intOf).map V.int
  | [], _, .nil, _ => rfl
  | d :: ds, _, .cons a b, h => by
    obtain ⟨i, rfl⟩ := h d List.mem_cons_self
    cases a with
    | int => rw [DaL.ints_of b fun x hx => h x (List.mem_cons_of_mem _ hx)]; rfl
theorem make_in {M : Addr → Prop} {H : Hp} {v : V} {m : PyData} (h : Da M H v m) (f : flatD m = true) : flatV v = true ∧ inV v [.str "word", .str "sum"] = isMake m := by
  cases h with
  | str x =>
    refine ⟨rfl, ?_⟩
    show (((("word" : Str) == x) : Bool) || (((("sum" : Str) == x) : Bool) || false)) = (decide (x = "word") || decide (x = "sum"))
    rw [Bool.or_false]
    congr 1
    · rw [Bool.eq_iff_iff, beq_iff_eq, decide_eq_true_eq]
      exact eq_comm
    · rw [Bool.eq_iff_iff, beq_iff_eq, decide_eq_true_eq]
      exact eq_comm
  | non => exact ⟨rfl, rfl⟩
  | bl b => exact ⟨rfl, rfl⟩
  | int i => exact ⟨rfl, rfl⟩
  | lst => cases f
  | tup => cases f
theorem write_data {n : Nat} {d : PyData} (h : isWrite n d = true) : ∃ (t : Int) (s : Str) (k : Int), d = .tuple [.int t, .str s, .int k] ∧ 0 ≤ t ∧ t < n ∧ (s = "word" ∨ s = "sum") ∧ 0 ≤ k ∧ k ≤ 999 := by
  match d, h with
  | .tuple [t, m, k], h =>
    simp only [isWrite, Bool.and_eq_true] at h
    obtain ⟨h1, h2, h3⟩ := h
    obtain ⟨i, rfl, a1, a2⟩ := thing_int h1
    match m, k, h2, h3 with
    | .str s, .int q, h2, h3 =>
      simp only [isMake, Bool.or_eq_true, decide_eq_true_eq] at h2
      simp only [isNum, Bool.and_eq_true, decide_eq_true_eq] at h3
      exact ⟨i, s, q, rfl, a1, a2, h2, h3⟩
/-! ### deeds as they are -/
abbrev Wr := Int × Str × Int
def wD (x : Wr) : PyData := .tuple [.int x.1, .str x.2.1, .int x.2.2]
def deedD (r : List Int) (w : List Wr) : PyData := .tuple [.tuple (r.map PyData.int), .tuple (w.map wD)]
structure OkWr (n : Nat) (x : Wr) : Prop where
  lo : 0 ≤ x.1
  hi : x.1 < n
  kind : x.2.1 = ("word" : Str) ∨ x.2.1 = ("sum" : Str)
  n0 : 0 ≤ x.2.2
  n9 : x.2.2 ≤ 999
structure OkDeed (n : Nat) (r : List Int) (w : List Wr) : Prop where
  rl : r.length ≤ 3
  w1 : 1 ≤ w.length
  w3 : w.length ≤ 3
  rt : ∀ x ∈ r, 0 ≤ x ∧ x < n
  wt : ∀ x ∈ w, OkWr n x
  rr : rising r = true
  wr : rising (w.map (·.1)) = true
theorem okDeed_of {n : Nat} {d : PyData} (h : isDeed n d = true) : ∃ r w, d = deedD r w ∧ OkDeed n r w := by
  match d, h with
  | .tuple [a, b], h =>
    simp only [isDeed, Bool.and_eq_true] at h
    obtain ⟨h1, h2⟩ := h
    match a, b, h1, h2 with
    | .tuple rs, .tuple ws, h1, h2 =>
      simp only [areReads, Bool.and_eq_true, decide_eq_true_eq, List.all_eq_true] at h1
      simp only [areWrites, Bool.and_eq_true, decide_eq_true_eq, List.all_eq_true] at h2
      obtain ⟨⟨r1, r2⟩, r3⟩ := h1
      obtain ⟨⟨⟨w1, w2⟩, w3⟩, w4⟩ := h2
      have er : rs = (rs.map intOf).map PyData.int := by
        rw [List.map_map]
        refine (List.map_id rs).symm.trans (List.map_congr_left fun x hx => ?_)
        obtain ⟨i, rfl, _⟩ := thing_int (r2 x hx)
        rfl
      let g : PyData → Wr := fun x => match x with
        | .tuple [.int t, .str s, .int k] => (t, s, k)
        | _ => (0, "", 0)
      have ew : ws = (ws.map g).map wD := by
        rw [List.map_map]
        refine (List.map_id ws).symm.trans (List.map_congr_left fun x hx => ?_)
        obtain ⟨i, s, k, rfl, _⟩ := write_data (w3 x hx)
        rfl
      refine ⟨rs.map intOf, ws.map g, ?_, ?_⟩
      · unfold deedD
        rw [← er, ← ew]
      · refine ⟨by rw [List.length_map]; exact r1, by rw [List.length_map]; exact w1, by rw [List.length_map]; exact w2, fun x hx => ?_, fun x hx => ?_, r3, ?_⟩
        · obtain ⟨y, hy, rfl⟩ := List.mem_map.mp hx
          obtain ⟨i, rfl, a1, a2⟩ := thing_int (r2 y hy)
          exact ⟨a1, a2⟩
        · obtain ⟨y, hy, rfl⟩ := List.mem_map.mp hx
          obtain ⟨i, s, k, rfl, a1, a2, a3, a4, a5⟩ := write_data (w3 y hy)
          exact ⟨a1, a2, a3, a4, a5⟩
        · rw [List.map_map]
          have e : ws.map (fun x => intOf (firstD x)) = ws.map ((·.1) ∘ g) := List.map_congr_left fun x hx => by
            obtain ⟨i, s, k, rfl, _⟩ := write_data (w3 x hx)
            rfl
          rw [← e]
          exact w4
theorem isDeed_ok {n : Nat} {r : List Int} {w : List Wr} (h : OkDeed n r w) : isDeed n (deedD r w) = true := by
  have thing : ∀ x : Int, 0 ≤ x ∧ x < n → isThing n (.int x) = true := fun x hx => by
    simp only [isThing, isNum, Bool.and_eq_true, decide_eq_true_eq]
    omega
  simp only [isDeed, deedD, areReads, areWrites, Bool.and_eq_true, decide_eq_true_eq, List.all_eq_true, List.length_map]
  refine ⟨⟨⟨h.rl, fun x hx => ?_⟩, ?_⟩, ⟨⟨h.w1, h.w3⟩, fun x hx => ?_⟩, ?_⟩
  · obtain ⟨y, hy, rfl⟩ := List.mem_map.mp hx
    exact thing y (h.rt y hy)
  · rw [List.map_map, show intOf ∘ PyData.int = id from rfl, List.map_id]
    exact h.rr
  · obtain ⟨y, hy, rfl⟩ := List.mem_map.mp hx
    have q := h.wt y hy
    simp only [wD, isWrite, Bool.and_eq_true]
    refine ⟨thing _ ⟨q.lo, q.hi⟩, ?_, ?_⟩
    · simp only [isMake, Bool.or_eq_true, decide_eq_true_eq]
      exact q.kind
    · simp only [isNum, Bool.and_eq_true, decide_eq_true_eq]
      exact ⟨q.n0, q.n9⟩
  · rw [List.map_map]
    exact h.wr
theorem flat_deed (r : List Int) (w : List Wr) : flatDeed (deedD r w) = true := by
  simp only [deedD, flatDeed, flatMakes, List.all_eq_true]
  intro x hx
  obtain ⟨y, hy, rfl⟩ := List.mem_map.mp hx
  rfl
def wordAt (ws : List Int) (t : Int) : Int := ws.getD t.toNat 0
/-- what a deed writes where it finds these words -/
def writtenM (ws : List Int) (r : List Int) (w : List Wr) : List (Int × Int) := w.map fun x => (x.1, if x.2.1 = ("word" : Str) then x.2.2 else (x.2.2 + (r.map (wordAt ws)).sum) % 1000)
def pairD (p : Int × Int) : PyData := .tuple [.int p.1, .int p.2]
def spWritten : Sp := fun vs H Q _ => ∃ (M : Addr → Prop) (lw ld : Addr) (ws : List Int) (r : List Int) (w : List Wr), vs = [.ref lw, .ref ld] ∧ H lw = some (.lst (ws.map V.int)) ∧ Da M H (.ref ld) (deedD r w) ∧ OkDeed ws.length r w ∧
  ∀ p vs' H', Same H H' → H p = none → H' p = some (.lst vs') → DaL Nv H' vs' ((writtenM ws r w).map pairD) → Q (.ref p) H'
theorem Da.tup_of {M : Addr → Prop} {H : Hp} {v : V} {ds : List PyData} (h : Da M H v (.tuple ds)) : ∃ a xs, v = .ref a ∧ ¬ M a ∧ H a = some (.tup xs) ∧ DaL M H xs ds := by
  cases h with
  | tup n h l => exact ⟨_, _, rfl, n, h, l⟩
theorem DaL.of_cons {M : Addr → Prop} {H : Hp} {vs : List V} {d : PyData} {ds : List PyData} (h : DaL M H vs (d :: ds)) : ∃ x xs, vs = x :: xs ∧ Da M H x d ∧ DaL M H xs ds := by
  cases h with
  | cons a b => exact ⟨_, _, rfl, a, b⟩
theorem DaL.of_nil {M : Addr → Prop} {H : Hp} {vs : List V} (h : DaL M H vs []) : vs = [] := by
  cases h
  rfl
theorem Da.int_of {M : Addr → Prop} {H : Hp} {v : V} {i : Int} (h : Da M H v (.int i)) : v = .int i := by
  cases h
  rfl
theorem Da.str_of {M : Addr → Prop} {H : Hp} {v : V} {i : Str} (h : Da M H v (.str i)) : v = .str i := by
  cases h
  rfl
theorem deed_da {M : Addr → Prop} {H : Hp} {ld : Addr} {r : List Int} {w : List Wr} (h : Da M H (.ref ld) (deedD r w)) :
    ∃ ar aw wx, H ld = some (.tup [.ref ar, .ref aw]) ∧ H ar = some (.tup (r.map V.int)) ∧ H aw = some (.tup wx) ∧ DaL M H wx (w.map wD) ∧ ¬ M ld ∧ ¬ M ar ∧ ¬ M aw := by
  obtain ⟨a, xs, e, n, h0, l0⟩ := h.tup_of
  cases e
  obtain ⟨x, x1, rfl, d1, l1⟩ := l0.of_cons
  obtain ⟨y, x2, rfl, d2, l2⟩ := l1.of_cons
  obtain rfl := l2.of_nil
  obtain ⟨ar, rs, rfl, n1, h1, lr⟩ := d1.tup_of
  obtain ⟨aw, wx, rfl, n2, h2, lw⟩ := d2.tup_of
  rw [lr.of_ints] at h1
  exact ⟨ar, aw, wx, h0, h1, h2, lw, n, n1, n2⟩
theorem wr_da {M : Addr → Prop} {H : Hp} {v : V} {x : Wr} (h : Da M H v (wD x)) : ∃ a, v = .ref a ∧ H a = some (.tup [.int x.1, .str x.2.1, .int x.2.2]) ∧ ¬ M a := by
  obtain ⟨a, xs, rfl, n, h0, l0⟩ := h.tup_of
  obtain ⟨x0, x1, rfl, d1, l1⟩ := l0.of_cons
  obtain ⟨y, x2, rfl, d2, l2⟩ := l1.of_cons
  obtain ⟨z, x3, rfl, d3, l3⟩ := l2.of_cons
  obtain rfl := l3.of_nil
  rw [d1.int_of, d2.str_of, d3.int_of] at h0
  exact ⟨a, rfl, h0, n⟩
def isHomes (d : PyData) : Bool := match d with
  | .tuple ds => decide (1 ≤ ds.length) && decide (ds.length ≤ 6) && ds.all (fun x => isNum x 0 3)
  | _ => false
def spCheckHomes (CB : Addr) : Sp := fun vs H Q E => ∃ (M : Addr → Prop) (v : V) (d : PyData), vs = [v] ∧ Da M H v d ∧ (isHomes d = true → ∀ H', Same H H' → Q .non H') ∧ (isHomes d = false → ∀ H', Same H H' → E (.ref CB) none H')
end KB

set_option Elab.async false
set_option linter.all false
set_option maxRecDepth 100000
/-! What the helpers of a law promise. -/
namespace KB
open PySem L2 Evl
/-- a law's script -/
structure Scr where
  a : Addr
  ns : List Int
/-- the row of a law: its script, a place, a seed, a rest -/
structure RowAt (K : PySem.W.Frag) (S : Scr) (H : Hp) (r : Addr) : Prop where
  at_ : ∃ (pos seed rest : Int), H r = some (.lst [.ref S.a, .int pos, .int seed, .int rest]) ∧ 0 ≤ pos ∧ 0 ≤ seed ∧ seed < 2147483647
  ne : S.a ≠ r ∨ ∀ H', SqL K H' S.a (S.ns.map V.int)
  scr : SqL K H S.a (S.ns.map V.int)
  few : S.ns.length ≤ 63
abbrev Is (r : Addr) : Addr → Prop := fun a => a = r
theorem sqL_chg {K : PySem.W.Frag} {M : Addr → Prop} {H H1 : Hp} {a : Addr} {xs : List V} (h : SqL K H a xs) (n : ¬ M a) (c : Chg M H H1) : SqL K H1 a xs := by
  rcases h with (h | ⟨o, h⟩) | h
  · exact .inl (.inl (c _ _ n h))
  · exact .inl (.inr ⟨o, c _ _ n h⟩)
  · exact .inr h
theorem sqL_row {K : PySem.W.Frag} {H H1 : Hp} {a r : Addr} {xs : List V} (h : SqL K H a xs) (n : a ≠ r ∨ ∀ H', SqL K H' a xs) (c : Chg (fun b => b = r) H H1) : SqL K H1 a xs := n.elim (fun n => sqL_chg h n c) fun k => k H1
theorem RowAt.same {K : PySem.W.Frag} {S : Scr} {H H1 : Hp} {r : Addr} (h : RowAt K S H r) (e : Same H H1) : RowAt K S H1 r := by
  obtain ⟨pos, seed, rest, h1, q⟩ := h.at_
  exact ⟨⟨pos, seed, rest, e _ _ h1, q⟩, h.ne, sqL_chg (M := Nv) h.scr (fun z => z) (same_chg e), h.few⟩
def spTaken (K : PySem.W.Frag) : Sp := fun vs H Q _ => ∃ (S : Scr) (r : Addr) (many : Int), vs = [.ref r, .int many] ∧ RowAt K S H r ∧ 0 < many ∧ many < 1073741824 ∧ ∀ n H', 0 ≤ n → n < many → Chg (Is r) H H' → RowAt K S H' r → Q (.int n) H'
theorem RowAt.lst {K : PySem.W.Frag} {S : Scr} {H : Hp} {r : Addr} (h : RowAt K S H r) : ∃ xs, H r = some (.lst xs) := by
  obtain ⟨pos, seed, rest, h1, _⟩ := h.at_
  exact ⟨_, h1⟩
/-- tuples are not the row -/
theorem RowAt.da {K : PySem.W.Frag} {S : Scr} {H : Hp} {r : Addr} {v : V} {d : PyData} (h : RowAt K S H r) (hd : Da Nv H v d) (e : noL d = true) : Da (Is r) H v d :=
  h.lst.elim fun _ hr => (hd.offL hr e).weak fun _ z => .inr z
theorem RowAt.daL {K : PySem.W.Frag} {S : Scr} {H : Hp} {r : Addr} {v : List V} {d : List PyData} (h : RowAt K S H r) (hd : DaL Nv H v d) (e : noLs d = true) : DaL (Is r) H v d :=
  h.lst.elim fun _ hr => (hd.offL hr e).weak fun _ z => .inr z
theorem RowAt.ne_tup {K : PySem.W.Frag} {S : Scr} {H : Hp} {r a : Addr} {xs : List V} (h : RowAt K S H r) (ha : H a = some (.tup xs)) : ¬ Is r a := fun z => by
  obtain ⟨ys, hr⟩ := h.lst
  exact ne_of ha hr (fun q => nomatch q) z
theorem RowAt.ne_new {K : PySem.W.Frag} {S : Scr} {H : Hp} {r a : Addr} (h : RowAt K S H r) (ha : H a = none) : ¬ Is r a := fun z => by
  obtain ⟨ys, hr⟩ := h.lst
  rw [z, hr] at ha
  cases ha
def spPick (K : PySem.W.Frag) : Sp := fun vs H Q _ => ∃ (S : Scr) (r l : Addr) (xs : List V), vs = [.ref r, .ref l] ∧ RowAt K S H r ∧ l ≠ r ∧ H l = some (.lst xs) ∧ 0 < xs.length ∧ xs.length ≤ 1000 ∧ ∀ (i : Nat) v H', xs[i]? = some v → Chg (Is r) H H' → RowAt K S H' r → Q v H'
def spLawHomes (K : PySem.W.Frag) : Sp := fun vs H Q _ => ∃ (S : Scr) (r : Addr), vs = [.ref r] ∧ RowAt K S H r ∧ ∀ (a : Addr) (hs : List Int) H', 1 ≤ hs.length → hs.length ≤ 5 → (∀ x ∈ hs, 0 ≤ x ∧ x < 4) → Chg (Is r) H H' → RowAt K S H' r → H a = none → H' a = some (.tup (hs.map V.int)) → Q (.ref a) H'
def spThings (K : PySem.W.Frag) : Sp := fun vs H Q _ => ∃ (S : Scr) (r h : Addr) (hs : List V) (least most : Nat), vs = [.ref r, .ref h, .int least, .int most] ∧ RowAt K S H r ∧ H h = some (.tup hs) ∧ 1 ≤ hs.length ∧ hs.length ≤ 6 ∧ least ≤ 10 ∧ 1 ≤ most ∧ most ≤ 10 ∧
  ∀ (a : Addr) (ts : List Int) H', ts.Pairwise (· < ·) → (∀ x ∈ ts, 0 ≤ x ∧ x < hs.length) → ts.length < least + most → (1 ≤ least → 1 ≤ ts.length) → Chg (Is r) H H' → RowAt K S H' r → H a = none → H' a = some (.tup (ts.map V.int)) → Q (.ref a) H'
def spLawDeed (K : PySem.W.Frag) : Sp := fun vs H Q _ => ∃ (S : Scr) (r h : Addr) (hs : List V), vs = [.ref r, .ref h] ∧ RowAt K S H r ∧ H h = some (.tup hs) ∧ 1 ≤ hs.length ∧ hs.length ≤ 6 ∧
  ∀ (a : Addr) (rd : List Int) (wd : List Wr) H', OkDeed hs.length rd wd → Chg (Is r) H H' → RowAt K S H' r → Da (Is r) H' (.ref a) (deedD rd wd) → Q (.ref a) H'
section
variable {K : PySem.W.Frag} {S : Scr} {σ : L2.St} {H1 : Hp} {r : Addr}
/-- an object that is newer than the row is written -/
theorem RowAt.new {H4 : Hp} {D : Addr} {o : HO} (row : RowAt K S H1 r) (h : RowAt K S H4 r) (hD : H1 D = none) : RowAt K S (upd H4 D o) r := by
  have rD : r ≠ D := fun z => row.ne_new hD z.symm
  obtain ⟨pos, seed, rest, h1, q⟩ := h.at_
  refine ⟨⟨pos, seed, rest, (upd_ne rD).trans h1, q⟩, h.ne, ?_, h.few⟩
  rcases row.scr with (z | ⟨o, z⟩) | z
  · exact sqL_chg (M := Is D) h.scr (fun e => ne_of_none z hD e) (Chg.put rfl)
  · exact sqL_chg (M := Is D) h.scr (fun e => ne_of_none z hD e) (Chg.put rfl)
  · exact .inr z
/-- [_law_taken(row, ..) for turn in range(n)] -/
theorem lc_taken {tm : TE} {many : Int} {n ir j : Nat} {vs : List Nat} {D : Addr} {Qd : Hp → Prop} (row : RowAt K S H1 r) (hm0 : 0 < many) (hm1 : many < 1073741824) (hn : n ≤ 1000) (hD : H1 D = none) (hw : ∀ x, wipe ((wipe σ vs).set j (some x)) vs = wipe σ vs)
    (hr : ∀ x : V, ((wipe σ vs).set j (some x))[ir]? = some (some (.ref r))) (hm : ∀ (x : V) H2, Chg (Is r) H1 H2 → Ev tm ((wipe σ vs).set j (some x)) H2 (.int many))
    (hd : ∀ (ns : List Int) H2, ns.length = n → (∀ x ∈ ns, 0 ≤ x ∧ x < many) → Chg (Is r) H1 H2 → RowAt K S H2 r → H2 D = some (.lst (ns.map V.int)) → Qd H2) :
    ∃ W : Nat → Nat → Hp → Prop, (∃ m, W 0 m (upd H1 D (.lst []))) ∧ ∀ i m H, W i m H →
      ((Itr 0 n).stop i H ∧ Qd H) ∨ ((Itr 0 n).go i H ∧ ∃ Nx : Hp → Prop, (∀ H', Nx H' → ∃ m', m' < m ∧ W (i + 1) m' H') ∧ ∀ x H', (Itr 0 n).yld i H x H' → gName j x (wipe σ vs) H' fun σ2 H2 => wipe σ2 vs = wipe σ vs ∧ tYes σ2 H2 fun b H3 =>
        if b = true then tCall (spTaken K) [] E0 (tCons (tVar ir) (tCons tm tNil)) σ2 H3 fun y H4 => ∃ acc, H4 D = some (.lst acc) ∧ acc.length < sizeLine ∧ Nx (upd H4 D (.lst (acc ++ [y]))) else Nx H3) := by
  have nD : ¬ Is r D := row.ne_new hD
  refine lc_range (fun i H2 => ∃ ns : List Int, ns.length = i ∧ (∀ x ∈ ns, 0 ≤ x ∧ x < many) ∧ Chg (Is r) H1 H2 ∧ RowAt K S H2 r ∧ H2 D = some (.lst (ns.map V.int))) ⟨[], rfl, fun x hx => (nomatch hx), Chg.new hD, row.same (Same.new hD), upd_same⟩ ?_ ?_
  · rintro i H2 hi ⟨ns, hl, hb, c, rw2, h2⟩
    refine ⟨hw _, ?_⟩
    show tCall (spTaken K) [] E0 (tCons (tVar ir) (tCons tm tNil)) _ H2 _
    refine ⟨_, hr _, hm _ H2 c H2 (Ex.refl _) _ fun H3 e3 => ⟨S, r, many, rfl, rw2.same e3, hm0, hm1, fun k H4 k0 k1 c4 rw4 => ⟨ns.map V.int, c4 _ _ nD (e3 _ _ h2), ?_, ns ++ [k], ?_, fun x hx => ?_, ?_, ?_, ?_⟩⟩⟩
    · rw [List.length_map, hl]
      exact small1000 (by omega)
    · rw [List.length_append, hl]
      rfl
    · rcases List.mem_append.mp hx with z | z
      · exact hb x z
      · rw [List.mem_singleton.mp z]
        exact ⟨k0, k1⟩
    · exact ((c.trans (ex_chg e3)).trans c4).mut hD
    · exact row.new rw4 hD
    · rw [upd_same, List.map_append]
      rfl
  · rintro H2 ⟨ns, hl, hb, c, rw2, h2⟩
    exact hd ns H2 hl hb c rw2 h2
end
end KB

set_option Elab.async false
set_option linter.all false
set_option maxRecDepth 100000
set_option maxHeartbeats 4000000
/-! An own error class over own classes over ValueError, its __init__: super().__init__(f'..{index}'), self.index = index. -/
namespace KB
open PySem PySem.Spec PyProof.Rows L2
/-- what the written part says of the class at C and its __init__ at fI -/
structure IxFn (P : Program) (K : PySem.W.Frag) (mg : Str → Option Value) (x : Str) (C fI : Addr) (qual : Str) (params : Arguments) (body : List Stmt) (scope : Scope) (dV kV doc pm : Value) (an : Option Addr) (cda : Addr) (ct : Value) (cc : Addr) : Prop where
  g : mg x = some (.ref C)
  oex : OexC K C
  sup : mg "super" = none
  lk : ∃ oc od osl, K.lookup fI = some ⟨oc, od, .func (PySem.W.ksFn "__init__" qual params body scope dV kV doc pm an (.ref cda) ct cc), osl⟩
  code : PySem.W.codeIn K (.ref cda) qual = true
  binds : L2.Binds K (PySem.W.ksFn "__init__" qual params body scope dV kV doc pm an (.ref cda) ct cc) ["self", "index"] []
  init : PySem.W.findIn K (.ref C) "__init__" = some (some (.ref fI))
  ty : PySem.W.typeIn K (.ref fI) = some (.type "function")
  kind : scope.kind = .function
  co : scope.isCoroutine = false
  gen : scope.isGenerator = false
  nocell : ∀ y ∈ scope.names, y.2 ≠ .cell
  free : ∀ y ∈ scope.names, y.2 = .free → y.1 = ("__class__" : Str)
  s_self : scope.names.lookup ("self" : Str) = some .local
  s_index : scope.names.lookup ("index" : Str) = some .local
  s_super : scope.names.lookup ("super" : Str) = some .globalImplicit
  s_class : scope.names.lookup ("__class__" : Str) = some .free
  par : ∃ ar : Arg, (params.posonlyargs ++ params.args).head? = some ar ∧ ar.arg = ("self" : Str)
  cd : ∃ ccl cdd ccs, ∃ vs : Array Value, ∃ (file : Str) (tf : Tok), K.lookup cda = some ⟨ccl, cdd, .fields vs, ccs⟩ ∧ vs[2]? = some (.str file tf) ∧ ((P.main.file : Str) == file) = true
  cell : ∃ cl cld csl, K.lookup cc = some ⟨cl, cld, .cell (some (.ref C)), csl⟩
  mro : PySem.W.mroIn K C (.ref C) = some true
  supIn : PySem.W.ks_superIn K C C "__init__" = some (some (.builtin "ValueError.__init__"))
  sub : PySem.W.subIn K (.ref C) (.type "ValueError") = some true
  any : PySem.W.nsIn K PySem.cStatics "thirdparty.any" = some none
  ixno : PySem.W.findIn K (.ref C) "index" = some none
  top : (P.main.scope.names.lookup ("super" : Str)).isSome = false
  body : ∃ (pre : Str) (j : Nat) (p0 p1 p2 p3 p4 p5 p6 p7 p8 p9 p10 p11 p12 : Pos), pre.length ≤ 1000 ∧ (∀ env : Env, ∃ pl : Sem Bool, eval (.Call (.Attribute (.Call (.Name "super" p0) [] [] p1) "__init__" p2) [.JoinedStr [.Constant (.str pre) j p3, .FormattedValue (.Name "index" p4) (-1) none p5] p6] [] p7) env = (do
      let ov ← attributeBase (.Call (.Name "super" p0) [] [] p1) "__init__" env (eval (.Call (.Name "super" p0) [] [] p1) env)
      standAt p2.atName
      let (f, first) ← holding [ov] (getMethod ov "__init__" pl)
      callWith p7 f first (backTo p7 (starEach [.JoinedStr [.Constant (.str pre) j p3, .FormattedValue (.Name "index" p4) (-1) none p5] p6] env)) [])) ∧ body = [.Expr (.Call (.Attribute (.Call (.Name "super" p0) [] [] p1) "__init__" p2) [.JoinedStr [.Constant (.str pre) j p3, .FormattedValue (.Name "index" p4) (-1) none p5] p6] [] p7) p8,
    .Assign [.Attribute (.Name "self" p9) "index" p10] (.Name "index" p11) p12]
/-- the class is known by the name x -/
def EcI (P : Program) (K : PySem.W.Frag) (mg : Str → Option Value) (x : Str) (C : Addr) : Prop :=
  ∃ fI qual params body scope dV kV doc pm an cda ct cc, IxFn P K mg x C fI qual params body scope dV kV doc pm an cda ct cc
/-- C(e): e None or a small number -/
def tMkIx (C : Addr) (te : TE) : L2.St → Hp → XK → Prop := fun σ H Q => te σ H fun v H1 => (v = .non ∨ ∃ i : Nat, i ≤ 100 ∧ v = .int (i : Int)) ∧ ∀ d, H1 d = none → Q (.ref C) (some d) (upd H1 d (.xd [("index", v)]))
section
variable {prog : Program} {w : World} {A : Around} {E : Value → Shared → Prop} {h : Heap} {g : Array GenState} {d : Drawn} {t : Nat} {os : OsState}
variable {nm q : Str} {C N : Addr} {bs bm : List Value} {hdct : Bool} {sn : List Str} {sub : List Value} {ab : Bool} {col : Option Bool} {dd : Option Addr} {k0 k1 k2 k3 k5 : Option Value}
/-- ValueError.__init__ bound to the exception at e, called -/
theorem call_mw {u e t0 : Addr} {rest : List Value} {Q : Value → Shared → Prop}
    (hC : h.get? C = some (excClassObj nm q C N bs bm hdct sn sub ab col dd k0 k1 k2 k3 k5 "ValueError.__new__")) (he : h.get? e = some (PySem.HandSPX.excO C t0)) (hu : h.get? u = some (PySem.W.kxs_mw "ValueError.__init__" e)) (hrest : rest.length ≤ sizeLine)
    (hq : ∀ h' t1, (∀ b o, b ≠ e → h.get? b = some o → h'.get? b = some o) → h'.get? e = some (PySem.HandSPX.excO C t1) → Q .none ⟨h', g, d, t, os⟩) :
    wpAny (model prog w) A (call (.ref u) rest) Q E ⟨h, g, d, t, os⟩ := by
  refine wpAny_call (codeAny_of_tree ?_)
  show wpAny _ A.in1 (callAny (.ref u) ⟨rest, []⟩) _ _ _
  simp only [callAny]
  refine wpAny_bind (wpAny_load hu ?_)
  simp only [PySem.W.kxs_mw, show (Value.type "method-wrapper" == Value.type "method" || Value.type "method-wrapper" == Value.type "builtin_function_or_method" || Value.type "method-wrapper" == Value.type "method-wrapper") = true by decide, if_true]
  refine PySem.W.KFB.if_so (by decide) ?_
  refine wpAny_bind (PySem.W.check_bound_init PySem.F.excBase_ValueError.toExcCallFacts hC he rfl ?_)
  refine wpAny_bind (wpAny_pure (wpAny_pure ?_))
  refine ⟨plainId_quiet PySem.F.excBase_ValueError.init.plain _, codeAny_builtin PySem.F.excBase_ValueError.initEntry ?_⟩
  exact PySem.W.exc_init_tree (cls := .ref C) (t0 := t0) (dv := none) (c2 := .none) (c3 := .none) (b4 := .bool false) he hrest fun h' k e' _ => hq h' _ k e'
end
section
variable {X : Cx}
/-- {x}: None or a small number -/
def tFmtI (te : TE) : TE := fun σ H Q => te σ H fun x H1 => (x = .non ∨ ∃ i : Nat, i ≤ 100 ∧ x = .int (i : Int)) ∧ ∀ y : Str, y.length ≤ 1000 → Q (.str y) H1
theorem small_text : ∀ i : Nat, i ≤ 100 → (toString (i : Int) : Str).length ≤ 1000 := fun i hi => by
  have q : ∀ i : Fin 101, (toString ((i.val : Nat) : Int) : Str).length ≤ 1000 := by decide +kernel
  exact q ⟨i, by omega⟩
theorem small_log : ∀ i : Nat, i ≤ 100 → (i : Int).natAbs.log2 < 1920 := fun i hi => by
  have q : ∀ i : Fin 101, (((i.val : Nat) : Int)).natAbs.log2 < 1920 := by decide +kernel
  exact q ⟨i, by omega⟩
theorem pe_fmtI {e : Expr} {te : TE} {pos : Pos} (he : PE X e te) : PE X (.FormattedValue e (-1) none pos) (tFmtI te) := by
  refine ⟨fun pins s σ H Q I h => ?_⟩
  refine wpAny_FormattedValue_plain (thn (he.run pins s σ H _ I h) fun v s1 hv => ?_)
  obtain ⟨x, H1, I1, r1, q⟩ := hv
  rcases q with ⟨rfl | ⟨i, hi, rfl⟩, q⟩
  · cases r1
    exact wpAny_formatField_none ⟨.str "None", H1, I1.tok _, ⟨_, rfl⟩, q "None" (by decide +kernel)⟩
  · obtain ⟨t, rfl⟩ := r1
    exact wpAny_formatField_int (small_log i hi) ⟨.str (toString (i : Int)), H1, I1.tok _, ⟨_, rfl⟩, q _ (small_text i hi)⟩
end
/-- the context of the __init__ that is entered at s -/
def ixCx (X : Cx) (A : Around) (s : Shared) (H : Hp) (xe : Value → Shared → Prop) (qual : Str) (scope : Scope) (f : Addr) (cdv : Value) (cc : Addr) : Cx where
  prog := X.prog
  w := X.w
  K := X.K
  mg := X.mg
  base := X.base
  A := A.deeper (PySem.W.ksEnv qual scope s.heap.objs.size f cdv cc)
  N := ["self", "index"]
  s_0 := s
  H_0 := H
  env := PySem.W.ksEnv qual scope s.heap.objs.size f cdv cc
  outer := X.stack
  stack := PySem.W.ksEnv qual scope s.heap.objs.size f cdv cc :: X.stack
  ex := []
  fn := fun _ => false
  calm := true
  pn := []
  xe := xe
section
variable {X : Cx}
theorem ix_start {x : Str} {C fI : Addr} {qual : Str} {params : Arguments} {body : List Stmt} {scope : Scope} {dV kV doc pm : Value} {an : Option Addr} {cda : Addr} {ct : Value} {cc : Addr} (F : IxFn X.prog X.K X.mg x C fI qual params body scope dV kV doc pm an cda ct cc)
    {A : Around} {s : Shared} {H : Hp} {xe : Value → Shared → Prop} {a : Addr} {v : V} {u : Value} {h₁ : Heap} {tk : Nat} (hd : A.handled = none) (e0 : Env0 X.prog X.w X.K X.mg X.base A X.stack s H)
    (ru : RelV v u) (hns : h₁.Ns s.heap.objs.size fun y => ([(("self" : Str), Value.ref a), (("index" : Str), u)] : List (Str × Value)).reverse.lookup y) (kp : ∀ b o, s.heap.get? b = some o → h₁.get? b = some o) :
    Inv (ixCx X A s H xe qual scope fI (.ref cda) cc) [] [some (.ref a), some v] H { s with heap := h₁, toks := tk } := by
  obtain ⟨cl, cld, csl, hcc⟩ := F.cell
  have hb : X.base.get? cc = some ⟨cl, cld, .cell (some (.ref C)), csl⟩ := e0.mod.kin _ _ hcc
  have one : ∀ {y : Str} {c : Addr}, (([("__class__", cc)] : List (Str × Addr))).lookup y = some c → y = ("__class__" : Str) ∧ c = cc := fun {y c} e => by
    by_cases z : y = ("__class__" : Str)
    · subst z
      simp [List.lookup] at e
      exact ⟨rfl, e.symm⟩
    · have e1 : (y == ("__class__" : Str)) = false := by simpa using z
      simp [List.lookup, e1] at e
  have noA : ∀ b : Addr, b ∉ (ixCx X A s H xe qual scope fI (.ref cda) cc).ex := fun b z => absurd (show b ∈ ([] : List Addr) from z) (by simp)
  refine ⟨⟨e0.mod, F.kind, rfl, rfl, Nat.le_refl _, fun y z c e1 e2 => (one e1).1.trans (one e2).1.symm, fun y hy => ?_, fun y c z _ => ?_, fun _ => hd, Around.frames_deeper e0.frames, .inr ⟨rfl, rfl⟩, fun b z => absurd z (noA b), e0.bs, e0.bsz, fun b _ _ => noA b,
      fun b z => absurd z (noA b), e0.funs, e0.frf⟩,
    rfl, e0.bare, Un.kept kp, ⟨_, hns, fun i y v' e1 e2 e3 => ?_⟩, fun y c e => ?_, e0.hok.fresh (Nat.le_refl _), fun y c e => ?_, fun q hq => absurd (show q ∈ ([] : List (Addr × Obj)) ++ [] from hq) (by simp), e0.hok.kept kp, rfl⟩
  · have hy : scope.names.lookup y = some .cell ∨ scope.names.lookup y = some .free := hy
    rcases hy with hy | hy
    · exact absurd rfl (F.nocell _ (PySem.mem_of_lookup hy))
    · have z : y = ("__class__" : Str) := F.free _ (PySem.mem_of_lookup hy) rfl
      subst z
      exact ⟨cc, rfl⟩
  · have z : false = true := z
    cases z
  · match i, e1, e2 with
    | 0, e1, e2 =>
      cases (show some ("self" : Str) = some y from e1)
      cases (show some (some (V.ref a)) = some (some v') from e2)
      exact ⟨.ref a, rfl, .inl ⟨F.s_self, rfl⟩⟩
    | 1, e1, e2 =>
      cases (show some ("index" : Str) = some y from e1)
      cases (show some (some v) = some (some v') from e2)
      exact ⟨u, ru, .inl ⟨F.s_index, rfl⟩⟩
    | i + 2, e1, e2 =>
      cases (show (none : Option Str) = some y from e1)
  · obtain ⟨_, rfl⟩ := one e
    exact ⟨_, _, kp _ _ (e0.bs _ _ hb).1, rfl⟩
  · obtain ⟨_, rfl⟩ := one e
    exact (e0.bs _ _ hb).2

theorem ix_body {x : Str} {C fI : Addr} {qual : Str} {params : Arguments} {body : List Stmt} {scope : Scope} {dV kV doc pm : Value} {an : Option Addr} {cda : Addr} {ct : Value} {cc : Addr} (F : IxFn X.prog X.K X.mg x C fI qual params body scope dV kV doc pm an cda ct cc)
    {A : Around} {s : Shared} {H : Hp} {xe : Value → Shared → Prop} {a : Addr} {v : V} {u : Value} {h₁ : Heap} {tk : Nat} {R : Flow → Shared → Prop} (J : Inv (ixCx X A s H xe qual scope fI (.ref cda) cc) [] [some (.ref a), some v] H { s with heap := h₁, toks := tk })
    (hns : h₁.Ns s.heap.objs.size fun y => ([(("self" : Str), Value.ref a), (("index" : Str), u)] : List (Str × Value)).reverse.lookup y) (ea : H a = some (exo a C none)) (hv : v = .non ∨ ∃ i : Nat, i ≤ 100 ∧ v = .int (i : Int))
    (k : ∀ d s', H d = none → d ≠ a → Inv (ixCx X A s H xe qual scope fI (.ref cda) cc) [] [some (.ref a), some v] (upd (upd H d (exd d [("index", v)])) a (exo a C (some d))) s' → R .next s') :
    PySem.wpAt (model X.prog X.w) (A.deeper (PySem.W.ksEnv qual scope s.heap.objs.size fI (.ref cda) cc)) (.func body (PySem.W.ksEnv qual scope s.heap.objs.size fI (.ref cda) cc)) (execs body (PySem.W.ksEnv qual scope s.heap.objs.size fI (.ref cda) cc)) R xe { s with heap := h₁, toks := tk } := by
  obtain ⟨nm, q, N, bs, bm, sn, sub, ab, col, dd, k0, k1, k2, k3, k5, hC, hbm⟩ := F.oex.cls
  obtain ⟨oc, od, osl, lk⟩ := F.lk
  obtain ⟨ar, hp0, harg⟩ := F.par
  obtain ⟨ccl, cdd, ccs, vs, file, tf, hcd, hvs, hfile⟩ := F.cd
  obtain ⟨ce, cld, csl, hcell⟩ := F.cell
  obtain ⟨pre, j, p0, p1, p2, p3, p4, p5, p6, p7, p8, p9, p10, p11, p12, hpre, hcall, hbody⟩ := F.body
  have hcl : PySem.W.clsIn X.K C = some { name := nm, bases := bs, mro := .ref C :: bm, ns := N, qualname := q, hasDict := true, slotNames := sn, subclasses := sub, abstract := ab, collection := col, hasDel := false } := by unfold PySem.W.clsIn; rw [hC] <;> rfl
  rw [hbody]
  have kin := J.kIn
  obtain ⟨pl, hcall⟩ := hcall (PySem.W.ksEnv qual scope s.heap.objs.size fI (.ref cda) cc)
  refine ks_wpAt_execs_cons (ks_wpAt_Expr_any (ks_wpAt_MethodCall (pl := pl) (ks_wpAt_super_base (ar := ar) F.s_super F.s_class rfl rfl (kin _ _ lk) rfl hp0 rfl (kin _ _ hcd) rfl hvs hfile F.top ?_) hcall) J.quiet)
  obtain ⟨mb, b1, b2⟩ := J.mod.blt
  refine PySem.W.ks_loadName_global F.kind F.s_super (Calls.loadGlobal_builtin (J.mod.glob.keeps J.bk) F.sup (b1.keeps J.bk) ((b2 "super" (by decide)).trans (show bootBuiltins "super" = some (.type "super") by decide +kernel)) ⟨rfl, ?_⟩)
  refine wpAny_loadName_free F.kind F.s_class rfl ⟨_, kin _ _ hcell, rfl⟩ ?_
  rw [harg]
  refine wpAny_loadName_local F.kind F.s_self hns rfl ?_
  obtain ⟨t1, ho⟩ := exo_at J.hok ea
  refine ks_wpAny_isType_cls (kin _ _ hC) rfl ⟨rfl, ?_⟩
  refine ks_wpAny_call_super (kin _ _ hC) rfl ho rfl (fun c e => by cases e) (PySem.W.looks_mroIn kin F.mro) (fun h' e k1 => ?_)
  have J1 := J.kept (h' := h') (t' := tk) k1
  have I0 : PySem.W.InstAt h' a ({ cls := .ref C, dict := none, data := .fields #[.ref t1, .none, .none, .none, .bool false, .none] } : Obj) C none := ⟨k1 _ _ ho, rfl, rfl, trivial⟩
  have su := F.supIn
  unfold PySem.W.ks_superIn at su
  rw [hcl, Option.bind_some] at su
  refine PySem.W.kxs_getMethod PySem.W.kxs_ValueError e (PySem.W.looks_opaque J1.kIn F.any) (l₀ := .ref C :: bm) ?_ rfl J1.kIn su (I0.type.andThen (PySem.W.looks_subIn J1.kIn F.sub)) (PySem.W.ks_ne J1.kIn I0 hcl) (by decide) ?_
  · exact fun A Q E s k q => wpAny_bind ((PySem.W.looks_clsIn J1.kIn hcl) A _ E s k (wpAny_pure q))
  have J2 := J1.kept (h' := h'.push (PySem.W.kxs_mw "ValueError.__init__" a)) (t' := tk + 1) (fun b o e => Heap.get?_push_of_some _ e)
  have hu : (h'.push (PySem.W.kxs_mw "ValueError.__init__" a)).get? h'.objs.size = some (PySem.W.kxs_mw "ValueError.__init__" a) := Heap.get?_push_at rfl rfl
  have J3 := J2.pinned (fp := [h'.objs.size]) (fun b hb => by
    rw [List.mem_singleton.mp hb]
    exact J1.fpOk (Nat.le_refl _) (J1.hok.fresh (Nat.le_refl _))) (fun b hb => by
    rw [List.mem_singleton.mp hb]
    exact ⟨_, hu, fun v e => by cases e⟩)
  have he0 : starEach [.JoinedStr [.Constant (.str pre) j p3, .FormattedValue (.Name "index" p4) (-1) none p5] p6] (PySem.W.ksEnv qual scope s.heap.objs.size fI (.ref cda) cc) = (false, eval (.JoinedStr [.Constant (.str pre) j p3, .FormattedValue (.Name "index" p4) (-1) none p5] p6) (PySem.W.ksEnv qual scope s.heap.objs.size fI (.ref cda) cc)) :: starEach [] (PySem.W.ksEnv qual scope s.heap.objs.size fI (.ref cda) cc) := rfl
  rw [he0]
  refine PySem.W.kxs_callWith (i := "ValueError.__init__") (x := a) (first := []) rfl (Calls.evalArgs_plain ?_)
  have pa : PA (ixCx X A s H xe qual scope fI (.ref cda) cc) [.JoinedStr [.Constant (.str pre) j p3, .FormattedValue (.Name "index" p4) (-1) none p5] p6] (tCons _ tNil) := pa_cons (pe_joined (PJ.cons pe_str (PJ.cons (pe_fmtI (pe_var (i := 1) rfl (.inl F.s_index))) PJ.nil))) pa_nil
  refine thn (pa.run p7 _ _ [some (.ref a), some v] H (fun vs H' => H' = H ∧ ∃ y : Str, vs = [.str y]) J3 ?_) fun us s3 ⟨vs, H', J4, r4, eH, y, ev⟩ => ?_
  · refine ⟨pre, rfl, ?_, v, rfl, ?_⟩
    · rw [Str.length_append]
      exact Nat.le_trans (show _ ≤ 1000 + 0 by have : (Str.empty : Str).length = 0 := rfl; omega) (by decide)
    · refine ⟨hv, fun y hy => ⟨y, rfl, ?_, rfl, _, rfl⟩⟩
      rw [Str.length_append, Str.length_append]
      exact Nat.le_trans (show _ ≤ 2000 by have : (Str.empty : Str).length = 0 := rfl; omega) (by decide)
  subst ev eH
  obtain ⟨u0, rfl, _⟩ : ∃ u0, us = [u0] ∧ True := by
    cases r4 with
    | cons ra rb =>
      cases rb
      exact ⟨_, rfl, trivial⟩
  have hp := (J4.pin (h'.objs.size, PySem.W.kxs_mw "ValueError.__init__" a) (List.mem_append_right _ (List.mem_append_right _ (mem_pinsAt (List.mem_singleton.mpr rfl) hu)))).1
  obtain ⟨t2, ho2⟩ := exo_at J4.hok ea
  obtain ⟨hh, g3, d3, tk3, os3⟩ := s3
  refine ⟨hp, call_mw (J4.kIn _ _ hC) ho2 hp (show 1 ≤ sizeLine by decide) fun h5 t5 k5 e5 => ?_⟩
  have J5 := (J4.unpinned).write (t' := tk3) (x := a) (e := a) (o := exo a C none) (by rw [ea]; exact True.intro) (.inl rfl) k5 ⟨_, e5⟩ (exo_ok e5)
  have eu : upd H' a (exo a C none) = H' := by
    funext b
    by_cases hb : b = a
    · rw [hb, upd_same, ea]
    · rw [upd_ne hb]
  rw [eu] at J5
  show PySem.wpAt _ _ _ (execs _ _) _ _ _
  have ps := pss_one (ps_ost (X := ixCx X A s H' xe qual scope fI (.ref cda) cc) (f := "index") (p' := p10) (pos := p12) (pe_var (pos := p9) (i := 0) rfl (.inl F.s_self)) (pe_var (pos := p11) (i := 1) rfl (.inl F.s_index)))
  refine wpAt_of_wpAny (wpAny_mono (ps.run _ _ [some (.ref a), some v] H' { nx := fun σ2 H2 => σ2 = [some (.ref a), some v] ∧ ∃ d, H' d = none ∧ d ≠ a ∧ H2 = upd (upd H' d (exd d [("index", v)])) a (exo a C (some d)), rt := fun _ _ => False } J5 ?_) (fun fl s' hs => ?_) fun e s' hs => hs)
  · exact ⟨v, rfl, .ref a, rfl, a, C, rfl, F.oex, F.ixno, .inl ⟨ea, fun dx n ne => ⟨rfl, dx, n, ne, rfl⟩⟩⟩
  · cases fl with
    | ret u =>
      obtain ⟨_, _, _, _, _, q⟩ := hs
      exact False.elim q
    | next =>
      obtain ⟨σ2, H2, J6, rfl, d, n, ne, rfl⟩ := hs
      exact k d s' n ne J6
    | brk =>
      obtain ⟨_, _, _, q⟩ := hs
      exact False.elim q
    | cont =>
      obtain ⟨_, _, _, q⟩ := hs
      exact False.elim q
/-- C(e) -/
theorem pmk_ixF {x : Str} {C fI : Addr} {qual : Str} {params : Arguments} {body : List Stmt} {scope : Scope} {dV kV doc pm : Value} {an : Option Addr} {cda : Addr} {ct : Value} {cc : Addr} (F : IxFn X.prog X.K X.mg x C fI qual params body scope dV kV doc pm an cda ct cc)
    {p pos : Pos} {e : Expr} {te : TE} {k : Nat} (hr : Room (k + 1) X.A) (hg : Gl X x) (he' : PE X e te)
    (hdb : (x == ("__debug__" : Str)) = false := by decide) (he : starEach [e] X.env = (false, eval e X.env) :: starEach [] X.env := by rfl) :
    PMk X (.Call (.Name x p) [e] [] pos) (tMkIx C te) := by
  intro pins s σ H Q I h
  obtain ⟨nm, q, N, bs, bm, sn, sub, ab, col, dd, k0, k1, k2, k3, k5, hC, hbm⟩ := F.oex.cls
  have ha : PA X [e] (tCons te tNil) := pa_cons he' pa_nil he
  refine wpAny_Call_Name_kw (ld_glob I hg F.g ?_ hdb)
  refine PySem.W.callWith_K (h₀ := X.base) I.ok.mod.kin F.oex.kC (thn (ha.run pos pins s σ H (fun vs H1 => match vs with
    | [v] => (v = .non ∨ ∃ i : Nat, i ≤ 100 ∧ v = .int (i : Int)) ∧ ∀ d, H1 d = none → Q (.ref C) (some d) (upd H1 d (.xd [("index", v)]))
    | _ => False) I h) fun us s1 ⟨vs, H1, I1, r1, q0⟩ => ⟨I1.kIn, ?_⟩) he rfl
  show wpAny _ _ (call (.ref C) us) _ _ _
  obtain ⟨v, rfl⟩ : ∃ v, vs = [v] := by
    match vs, q0 with
    | [v], _ => exact ⟨v, rfl⟩
  obtain ⟨hv, q1⟩ := q0
  obtain ⟨u, rfl, ru⟩ : ∃ u, us = [u] ∧ RelV v u := by
    cases r1 with
    | cons ra rb =>
      cases rb
      exact ⟨_, rfl, ra⟩
  obtain ⟨hp, g, dr, tk, os⟩ := s1
  have hsz : hp.objs.size ≤ hp.objs.size + 1 := Nat.le_succ _
  have hn : H1 (hp.objs.size + 1) = none := I1.hok.fresh hsz
  have kk : ∀ b o, hp.get? b = some o → ((hp.push (PySem.W.kdv_tup [u])).push (PySem.HandSPX.excO C hp.objs.size)).get? b = some o := fun b o e => Heap.get?_push_of_some _ (Heap.get?_push_of_some _ e)
  have hget : ((hp.push (PySem.W.kdv_tup [u])).push (PySem.HandSPX.excO C hp.objs.size)).get? (hp.objs.size + 1) = some (PySem.HandSPX.excO C hp.objs.size) := by heap_get
  have I2 : Inv X pins σ (upd H1 (hp.objs.size + 1) (exo (hp.objs.size + 1) C none)) ⟨(hp.push (PySem.W.kdv_tup [u])).push (PySem.HandSPX.excO C hp.objs.size), g, dr, tk, os⟩ :=
    I1.laid (t' := tk) (a := hp.objs.size + 1) (o := exo (hp.objs.size + 1) C none) (h' := (hp.push (PySem.W.kdv_tup [u])).push (PySem.HandSPX.excO C hp.objs.size)) kk hsz (exo_ok hget)
  refine wpAny_call (PySem.HandSPX.call_own PySem.F.excBase_ValueError (fun Y => PySem.HandSPX.refsVE_contains Y bm hbm) (I1.kIn _ _ hC) (PySem.W.looks_findIn I1.kIn F.init) (fun self => PySem.W.bind_fn I1.kIn self F.ty) (show 1 ≤ sizeLine by decide) ?_)
  generalize hh2 : ((hp.push (PySem.W.kdv_tup [u])).push (PySem.HandSPX.excO C hp.objs.size)) = h2 at *
  generalize haa : hp.objs.size + 1 = a at *
  have rm : Room k (X.A.under (.builtin "type.__call__" ⟨.ref C :: [u], []⟩)) := hr.make C [u] []
  have e0 := I2.env0.make C [u] []
  obtain ⟨oc, od, osl, lk⟩ := F.lk
  obtain ⟨ar, hp0, harg⟩ := F.par
  obtain ⟨ccl, cdd, ccs, vs, file, tf, hcd, hvs, hfile⟩ := F.cd
  obtain ⟨ce, cld, csl, hcell⟩ := F.cell
  obtain ⟨pre, j, p0, p1, p2, p3, p4, p5, p6, p7, p8, p9, p10, p11, p12, hpre, _, hbody⟩ := F.body
  refine ks_codeAny_call_defAt (fd := PySem.W.ksFn "__init__" qual params body scope dV kV doc pm an (.ref cda) ct cc) (body := body) (binds := [("self", .ref a), ("index", u)]) rm.depth (I2.kIn _ _ lk) rfl I2.nolimit (PySem.W.codeRec_of I2.kIn F.code) rfl
    (F.binds _ [.ref a, u] I2.kIn rfl) F.nocell (fun y hy => ?_) (fun h₁ hns hk => ?_) F.co F.gen F.kind
  · rcases List.mem_cons.mp hy with rfl | hy
    · exact F.s_self
    · rw [List.mem_singleton.mp hy]
      exact F.s_index
  have J := ix_start (X := X) F (xe := fun e s' => wpAny (model X.prog X.w) ((X.A.under (.builtin "type.__call__" ⟨.ref C :: [u], []⟩)).deeper (PySem.W.ksEnv qual scope h2.objs.size fI (.ref cda) cc)) (leaving (PySem.W.ksEnv qual scope h2.objs.size fI (.ref cda) cc) e)
    (fun _ s'' => PySem.W.InitBack a (fun r s' => match r with
      | .ok (.ret u) => MkP X pins σ Q u s'
      | .ok _ => False
      | .error e => X.xe e s') (.error e) s'') (fun e' s'' => PySem.W.InitBack a (fun r s' => match r with
      | .ok (.ret u) => MkP X pins σ Q u s'
      | .ok _ => False
      | .error e => X.xe e s') (.error e') s'') s') (tk := tk + 2) rm.hd e0 ru hns hk
  refine ix_body F J hns upd_same hv fun dx s' n ne J6 => ?_
  have hd1 : H1 dx = none := by
    rwa [upd_ne ne] at n
  have ea : (upd (upd (upd H1 a (exo a C none)) dx (exd dx [("index", v)])) a (exo a C (some dx))) a = some (exo a C (some dx)) := upd_same
  have ed : (upd (upd (upd H1 a (exo a C none)) dx (exd dx [("index", v)])) a (exo a C (some dx))) dx = some (exd dx [("index", v)]) := by rw [upd_ne ne, upd_same]
  obtain ⟨h6, g6, d6, tk6, os6⟩ := s'
  have eq : upd (del (upd (upd (upd H1 a (exo a C none)) dx (exd dx [("index", v)])) a (exo a C (some dx))) a) dx (.xd [("index", v)]) = upd H1 dx (.xd [("index", v)]) := by
    funext b
    by_cases hb : b = dx
    · rw [hb, upd_same, upd_same]
    · rw [upd_ne hb, upd_ne hb]
      by_cases hb2 : b = a
      · rw [hb2, del_same, hn]
      · rw [del_ne hb2, upd_ne hb2, upd_ne hb, upd_ne hb2]
  exact ⟨rfl, mk_end (raises_own F.oex.exC F.oex.tyC) I1 hsz kk J6.base J6.hok J6.os J6.bare ea ed hd1 (by rw [eq]; exact q1 dx hd1)⟩
theorem pmk_ix {x : Str} {C : Addr} (F : EcI X.prog X.K X.mg x C) {p pos : Pos} {e : Expr} {te : TE} {k : Nat} (hr : Room k X.A) (hk : 1 ≤ k) (hg : Gl X x) (he' : PE X e te)
    (hdb : (x == ("__debug__" : Str)) = false := by decide) (he : starEach [e] X.env = (false, eval e X.env) :: starEach [] X.env := by rfl) :
    PMk X (.Call (.Name x p) [e] [] pos) (tMkIx C te) := by
  obtain ⟨fI, qual, params, body, scope, dV, kV, doc, pm, an, cda, ct, cc, F⟩ := F
  exact pmk_ixF F (hr.mono hk) hg he' hdb he
end
end KB

set_option Elab.async false
set_option linter.all false
set_option maxRecDepth 100000
/-! What houses_of, is_deed, check_deeds and plain promise. -/
namespace KB
open PySem L2 Evl
def nHomes : PyData → Nat
  | .tuple ds => ds.length
  | _ => 0
def spHouses (CB : Addr) : Sp := fun vs H Q E => ∃ (M : Addr → Prop) (v : V) (d : PyData), vs = [v] ∧ Da M H v d ∧
  (isHomes d = true → ∀ (ns : List Int) (m : Int), d = .tuple (ns.map PyData.int) → m ∈ ns → (∀ y ∈ ns, y ≤ m) → ∀ H', Same H H' → Q (.int (m + 1)) H') ∧ (isHomes d = false → ∀ H', Same H H' → E (.ref CB) none H')
def spIsDeed (CB : Addr) : Sp := fun vs H Q E => ∃ (M : Addr → Prop) (h v : V) (dh : PyData), vs = [h, v] ∧ Da M H h dh ∧ (isHomes dh = false → ∀ H', Same H H' → E (.ref CB) none H') ∧
  (isHomes dh = true → ∃ (M' : Addr → Prop) (d : PyData), Da M' H v d ∧ flatDeed d = true ∧ ∀ H', Same H H' → Q (.bl (isDeed (nHomes dh) d)) H')
def flatDeeds : PyData → Bool
  | .tuple ds => ds.all flatDeed
  | _ => true
/-- the index that check_deeds tells: none, or the first that is no deed -/
inductive BadAt (n : Nat) (d : PyData) : V → Prop
  | whole : isTup d 0 60 = false → BadAt n d .non
  | one {ds : List PyData} {i : Nat} {x : PyData} : d = .tuple ds → ds.length ≤ 60 → ds[i]? = some x → isDeed n x = false → (∀ j y, j < i → ds[j]? = some y → isDeed n y = true) → BadAt n d (.int (i : Int))
def spCheckDeeds (CD : Addr) : Sp := fun vs H Q E => ∃ (M : Addr → Prop) (a : Addr) (hs : List V) (v : V) (d : PyData), vs = [.ref a, v] ∧ H a = some (.tup hs) ∧ hs.length ≤ 6 ∧ Da M H v d ∧ flatDeeds d = true ∧
  (∀ ds, d = .tuple ds → ds.length ≤ 60 → (∀ x ∈ ds, isDeed hs.length x = true) → ∀ H', Same H H' → Q .non H') ∧
  (∀ j e H', BadAt hs.length d j → Same H H' → H' e = some (.xd [("index", j)]) → E (.ref CD) (some e) H')
def applyW (ws : List Int) (x : List Int × List Wr) : List Int := (writtenM ws x.1 x.2).foldl (fun acc p => acc.set p.1.toNat p.2) ws
def plainM (n : Nat) (xs : List (List Int × List Wr)) : List Int := xs.foldl applyW (List.replicate n 0)
def spPlain (CB CD : Addr) : Sp := fun vs H Q E => ∃ (M : Addr → Prop) (h v : V) (dh : PyData), vs = [h, v] ∧ Da M H h dh ∧ (isHomes dh = false → ∀ H', Same H H' → E (.ref CB) none H') ∧
  (isHomes dh = true → ∃ (M' : Addr → Prop) (d : PyData), Da M' H v d ∧ flatDeeds d = true ∧
    (∀ (xs : List (List Int × List Wr)) a H', d = .tuple (xs.map fun x => deedD x.1 x.2) → xs.length ≤ 60 → (∀ x ∈ xs, OkDeed (nHomes dh) x.1 x.2) → Same H H' → H a = none → H' a = some (.tup ((plainM (nHomes dh) xs).map V.int)) → Q (.ref a) H') ∧
    (∀ j e H', BadAt (nHomes dh) d j → Same H H' → H' e = some (.xd [("index", j)]) → E (.ref CD) (some e) H'))
theorem homes_of {d : PyData} (h : isHomes d = true) : ∃ ns : List Int, d = .tuple (ns.map PyData.int) ∧ 1 ≤ ns.length ∧ ns.length ≤ 6 ∧ ∀ x ∈ ns, 0 ≤ x ∧ x ≤ 3 := by
  match d, h with
  | .tuple ds, h =>
    simp only [isHomes, Bool.and_eq_true, decide_eq_true_eq, List.all_eq_true] at h
    obtain ⟨⟨h1, h2⟩, h3⟩ := h
    have key : ∀ x ∈ ds, ∃ i : Int, x = .int i ∧ 0 ≤ i ∧ i ≤ 3 := fun x hx => by
      have q := h3 x hx
      cases x with
      | int i =>
        simp only [isNum, Bool.and_eq_true, decide_eq_true_eq] at q
        exact ⟨i, rfl, q.1, q.2⟩
      | _ => cases q
    have e : ds = (ds.map intOf).map PyData.int := by
      rw [List.map_map]
      refine (List.map_id ds).symm.trans (List.map_congr_left fun x hx => ?_)
      obtain ⟨i, rfl, _⟩ := key x hx
      rfl
    refine ⟨ds.map intOf, by rw [← e], by rw [List.length_map]; exact h1, by rw [List.length_map]; exact h2, fun x hx => ?_⟩
    obtain ⟨y, hy, rfl⟩ := List.mem_map.mp hx
    obtain ⟨i, rfl, a, b⟩ := key y hy
    exact ⟨a, b⟩
theorem homes_at {M : Addr → Prop} {H : Hp} {v : V} {ns : List Int} (h : Da M H v (.tuple (ns.map PyData.int))) : ∃ a, v = .ref a ∧ H a = some (.tup (ns.map V.int)) ∧ ¬ M a := by
  obtain ⟨a, xs, rfl, n, h0, l⟩ := h.tup_of
  rw [l.of_ints] at h0
  exact ⟨a, rfl, h0, n⟩
theorem length_applyW (ws : List Int) (x : List Int × List Wr) : (applyW ws x).length = ws.length := by
  unfold applyW
  have key : ∀ (ps : List (Int × Int)) (acc : List Int), (ps.foldl (fun acc p => acc.set p.1.toNat p.2) acc).length = acc.length := by
    intro ps
    induction ps with
    | nil => exact fun _ => rfl
    | cons p r ih => exact fun acc => (ih _).trans (List.length_set ..)
  exact key _ _
end KB

set_option Elab.async false
set_option linter.all false
set_option maxRecDepth 100000
/-! The text by places. -/
namespace K8
open PySem L2 KB
def top (i : Nat) : Stmt := PySem.Challenge.pw_keptabroad_k08_whole_deeds.main.body.getD i (.Pass ⟨0, 0, 0, 0⟩)
abbrev s_is_number : Stmt := top 1
abbrev ps_is_number : List Str := ["value", "least", "most"]
theorem sc_is_number : FnScope ["value", "least", "most"] ["value", "least", "most"] (defScope s_is_number) := ⟨rfl, rfl, rfl, by decide +kernel, rfl, by decide +kernel, by decide +kernel⟩
abbrev s_is_tuple : Stmt := top 2
abbrev ps_is_tuple : List Str := ["value", "least", "most"]
theorem sc_is_tuple : FnScope ["value", "least", "most"] ["value", "least", "most"] (defScope s_is_tuple) := ⟨rfl, rfl, rfl, by decide +kernel, rfl, by decide +kernel, by decide +kernel⟩
abbrev s_is_rising : Stmt := top 3
abbrev ps_is_rising : List Str := ["keys"]
theorem sc_is_rising : FnScope ["keys", "lower", "higher"] ["keys"] (defScope s_is_rising) := ⟨rfl, rfl, rfl, by decide +kernel, rfl, by decide +kernel, by decide +kernel⟩
abbrev s_BadDeeds___init__ : Stmt := inClass (top 7) 0
abbrev ps_BadDeeds___init__ : List Str := ["self", "index"]
abbrev s_houses_of : Stmt := top 15
abbrev ps_houses_of : List Str := ["homes"]
theorem sc_houses_of : FnScope ["homes"] ["homes"] (defScope s_houses_of) := ⟨rfl, rfl, rfl, by decide +kernel, rfl, by decide +kernel, by decide +kernel⟩
abbrev s_is_deed : Stmt := top 16
abbrev ps_is_deed : List Str := ["homes", "value"]
theorem sc_is_deed : FnScope ["homes", "value"] ["homes", "value"] (defScope s_is_deed) := ⟨rfl, rfl, rfl, by decide +kernel, rfl, by decide +kernel, by decide +kernel⟩
abbrev s_plain : Stmt := top 17
abbrev ps_plain : List Str := ["homes", "deeds"]
theorem sc_plain : FnScope ["homes", "deeds", "words", "deed", "wrote", "thing", "word"] ["homes", "deeds"] (defScope s_plain) := ⟨rfl, rfl, rfl, by decide +kernel, rfl, by decide +kernel, by decide +kernel⟩
abbrev s_check_homes : Stmt := top 18
abbrev ps_check_homes : List Str := ["homes"]
theorem sc_check_homes : FnScope ["homes", "home"] ["homes"] (defScope s_check_homes) := ⟨rfl, rfl, rfl, by decide +kernel, rfl, by decide +kernel, by decide +kernel⟩
abbrev s_check_deeds : Stmt := top 19
abbrev ps_check_deeds : List Str := ["homes", "deeds"]
theorem sc_check_deeds : FnScope ["homes", "deeds", "index", "deed"] ["homes", "deeds"] (defScope s_check_deeds) := ⟨rfl, rfl, rfl, by decide +kernel, rfl, by decide +kernel, by decide +kernel⟩
abbrev s_has_deed_form : Stmt := top 20
abbrev ps_has_deed_form : List Str := ["homes", "value"]
theorem sc_has_deed_form : FnScope ["homes", "value"] ["homes", "value"] (defScope s_has_deed_form) := ⟨rfl, rfl, rfl, by decide +kernel, rfl, by decide +kernel, by decide +kernel⟩
abbrev s_is_thing : Stmt := top 21
abbrev ps_is_thing : List Str := ["homes", "value"]
theorem sc_is_thing : FnScope ["homes", "value"] ["homes", "value"] (defScope s_is_thing) := ⟨rfl, rfl, rfl, by decide +kernel, rfl, by decide +kernel, by decide +kernel⟩
abbrev s_are_reads : Stmt := top 22
abbrev ps_are_reads : List Str := ["homes", "value"]
theorem sc_are_reads : FnScope ["homes", "value", "thing"] ["homes", "value"] (defScope s_are_reads) := ⟨rfl, rfl, rfl, by decide +kernel, rfl, by decide +kernel, by decide +kernel⟩
abbrev s_are_writes : Stmt := top 23
abbrev ps_are_writes : List Str := ["homes", "value"]
theorem sc_are_writes : FnScope ["homes", "value", "write"] ["homes", "value"] (defScope s_are_writes) := ⟨rfl, rfl, rfl, by decide +kernel, rfl, by decide +kernel, by decide +kernel⟩
abbrev s_is_write : Stmt := top 24
abbrev ps_is_write : List Str := ["homes", "value"]
theorem sc_is_write : FnScope ["homes", "value", "thing", "make", "n"] ["homes", "value"] (defScope s_is_write) := ⟨rfl, rfl, rfl, by decide +kernel, rfl, by decide +kernel, by decide +kernel⟩
abbrev s_written : Stmt := top 25
abbrev ps_written : List Str := ["words", "deed"]
theorem sc_written : FnScope ["words", "deed", "reads", "writes", "thing", "read", "pairs", "make", "n"] ["words", "deed"] (defScope s_written) := ⟨rfl, rfl, rfl, by decide +kernel, rfl, by decide +kernel, by decide +kernel⟩
abbrev s__law_taken : Stmt := top 27
abbrev ps__law_taken : List Str := ["row", "many"]
theorem sc__law_taken : FnScope ["row", "many", "found", "cell"] ["row", "many"] (defScope s__law_taken) := ⟨rfl, rfl, rfl, by decide +kernel, rfl, by decide +kernel, by decide +kernel⟩
abbrev s__law_pick : Stmt := top 28
abbrev ps__law_pick : List Str := ["row", "kinds"]
theorem sc__law_pick : FnScope ["row", "kinds"] ["row", "kinds"] (defScope s__law_pick) := ⟨rfl, rfl, rfl, by decide +kernel, rfl, by decide +kernel, by decide +kernel⟩
abbrev s__law_alike : Stmt := top 29
abbrev ps__law_alike : List Str := ["found", "due"]
theorem sc__law_alike : FnScope ["found", "due", "k"] ["found", "due"] (defScope s__law_alike) := ⟨rfl, rfl, rfl, by decide +kernel, rfl, by decide +kernel, by decide +kernel⟩
abbrev s__law_homes : Stmt := top 30
abbrev ps__law_homes : List Str := ["row"]
theorem sc__law_homes : FnScope ["row", "houses", "turn"] ["row"] (defScope s__law_homes) := ⟨rfl, rfl, rfl, by decide +kernel, rfl, by decide +kernel, by decide +kernel⟩
abbrev s__law_things : Stmt := top 31
abbrev ps__law_things : List Str := ["row", "homes", "least", "most"]
theorem sc__law_things : FnScope ["row", "homes", "least", "most", "turn"] ["row", "homes", "least", "most"] (defScope s__law_things) := ⟨rfl, rfl, rfl, by decide +kernel, rfl, by decide +kernel, by decide +kernel⟩
abbrev s__law_deed : Stmt := top 32
abbrev ps__law_deed : List Str := ["row", "homes"]
theorem sc__law_deed : FnScope ["row", "homes", "writes", "thing"] ["row", "homes"] (defScope s__law_deed) := ⟨rfl, rfl, rfl, by decide +kernel, rfl, by decide +kernel, by decide +kernel⟩
abbrev s__law_wrong : Stmt := top 33
abbrev ps__law_wrong : List Str := ["work"]
theorem sc__law_wrong : FnScope ["work", "e"] ["work"] (defScope s__law_wrong) := ⟨rfl, rfl, rfl, by decide +kernel, rfl, by decide +kernel, by decide +kernel⟩
abbrev s_law : Stmt := top 34
abbrev ps_law : List Str := ["script"]
theorem sc_law : FnScope ["script", "here", "reads", "writes", "thing", "total", "make", "number", "many", "odd", "works", "at", "bad", "deed", "deeds", "homes", "row", "turn"] ["script"] (defScope s_law) := ⟨rfl, rfl, rfl, by decide +kernel, rfl, by decide +kernel, by decide +kernel⟩
/-- what the top has left under the names that the defs read -/
structure Txt (mg : Str → Option Value) : Prop where
  z_all : mg "all" = none
  z_bool : mg "bool" = none
  z_enumerate : mg "enumerate" = none
  z_int : mg "int" = none
  z_isinstance : mg "isinstance" = none
  z_len : mg "len" = none
  z_list : mg "list" = none
  z_max : mg "max" = none
  z_range : mg "range" = none
  z_set : mg "set" = none
  z_sorted : mg "sorted" = none
  z_str : mg "str" = none
  z_sum : mg "sum" = none
  z_super : mg "super" = none
  z_tuple : mg "tuple" = none
  z_zip : mg "zip" = none
  g_MOST_HOMES : ∃ u, mg "MOST_HOMES" = some u ∧ RelV (.int 6) u
  g_LAST_HOUSE : ∃ u, mg "LAST_HOUSE" = some u ∧ RelV (.int 3) u
  g_MOST_READS : ∃ u, mg "MOST_READS" = some u ∧ RelV (.int 3) u
  g_MOST_WRITES : ∃ u, mg "MOST_WRITES" = some u ∧ RelV (.int 3) u
  g_MOST_DEEDS : ∃ u, mg "MOST_DEEDS" = some u ∧ RelV (.int 60) u
  g_WORDS : ∃ u, mg "WORDS" = some u ∧ RelV (.int 1000) u
end K8

set_option Elab.async false
set_option linter.all false
set_option maxRecDepth 100000
namespace K8
open PySem L2 KB
section
variable {P : Program} {w : World} {K : PySem.W.Frag} {mg : Str → Option Value} {base : Heap} {f : Addr} {fd : FuncData}
theorem ok_is_number (F : Fun K "is_number" "is_number" s_is_number f fd) (T : Txt mg) : FnOk P w K mg base (L2.CX P w) 1 f fd ps_is_number spNum := by
  refine F.okX sc_is_number (fun vs H Q E h => ?_) (fun cdv A outer s H vs Q E hr h => ?_)
  · obtain ⟨M, v, d, lo, hi, rfl, _⟩ := h
    rfl
  · obtain ⟨M, v, d, lo, hi, rfl, hd, k⟩ := h
    refine ⟨_, (pss_one (ps_ret (pe_and (pe_callB call_isi (by rfl) T.z_isinstance (by decide +kernel) (pa_cons (pv 0) (pa_cons (pe_bltn (v := .ty "int") (by rfl) T.z_int (by decide +kernel) rfl) pa_nil))) (pe_and (pe_not (pe_callB call_isi (by rfl) T.z_isinstance (by decide +kernel) (pa_cons (pv 0) (pa_cons (pe_bltn (v := .ty "bool") (by rfl) T.z_bool (by decide +kernel) rfl) pa_nil)))) (pe_one (pe_chain op_le op_le (pv 1) (pv 0) (pv 2))))))), ?_⟩
    refine ⟨_, rfl, ?_⟩
    refine ⟨_, _, _, _, _, rfl, .ty "int", hd.ty, kit_int d, _, rfl, ?_⟩
    cases hd with
    | int i =>
      refine iteT ⟨_, rfl, ?_⟩
      refine ⟨_, _, _, _, _, rfl, .ty "bool", .base (.int i), kit_bool (.int i), _, rfl, _, rfl, iteT ?_⟩
      refine ⟨_, rfl, _, rfl, _, _, rfl, rfl, _, rfl, ?_⟩
      refine ite2 (fun h1 => ?_) (fun h1 => ?_)
      · refine ⟨_, rfl, _, _, rfl, rfl, ?_⟩
        have e : isNum (.int i) lo hi = decide (i ≤ hi) := by simp only [isNum, of_decide_eq_true h1, decide_true, Bool.true_and]
        rw [e] at k
        exact k
      · have e : isNum (.int i) lo hi = false := by simp only [isNum]; simp at h1; simp; omega
        rw [e] at k
        exact k
    | bl b =>
      refine iteT ⟨_, rfl, ?_⟩
      refine ⟨_, _, _, _, _, rfl, .ty "bool", .base (.bl b), kit_bool (.bool b), _, rfl, _, rfl, iteF ?_⟩
      exact k
    | _ => exact iteF k
end
end K8

set_option Elab.async false
set_option linter.all false
set_option maxRecDepth 100000
set_option maxHeartbeats 2000000
namespace K8
open PySem L2 KB
section
variable {P : Program} {w : World} {K : PySem.W.Frag} {mg : Str → Option Value} {base : Heap} {f : Addr} {fd : FuncData}
theorem ok_is_tuple (F : Fun K "is_tuple" "is_tuple" s_is_tuple f fd) (T : Txt mg) : FnOk P w K mg base (L2.CX P w) 1 f fd ps_is_tuple spTup := by
  refine F.okX sc_is_tuple (fun vs H Q E h => ?_) (fun cdv A outer s H vs Q E hr h => ?_)
  · obtain ⟨M, v, d, lo, hi, rfl, _⟩ := h
    rfl
  · obtain ⟨M, v, d, lo, hi, rfl, hd, k⟩ := h
    refine ⟨_, (pss_one (ps_ret (pe_and (pe_callB call_isi (by rfl) T.z_isinstance (by decide +kernel) (pa_cons (pv 0) (pa_cons (pe_bltn (v := .ty "tuple") (by rfl) T.z_tuple (by decide +kernel) rfl) pa_nil))) (pe_one (pe_chain op_le op_le (pv 1) (pe_callB call_len_seq (by rfl) T.z_len (by decide +kernel) (pa_cons (pv 0) pa_nil)) (pv 2)))))), ?_⟩
    refine ⟨_, rfl, ?_⟩
    refine ⟨_, _, _, _, _, rfl, .ty "tuple", hd.ty, kit_tuple d, _, rfl, ?_⟩
    cases hd with
    | tup n ha hl =>
      refine iteT ⟨_, rfl, _, rfl, _, _, rfl, .inr (SqT.of ha), _, _, rfl, rfl, _, rfl, ?_⟩
      have el := hl.length
      rw [el]
      simp only [isTup] at k
      refine ite2 (fun h1 => ?_) (fun h1 => ?_)
      · refine ⟨_, rfl, _, _, rfl, rfl, ?_⟩
        rw [h1, Bool.true_and] at k
        exact k
      · rw [Bool.eq_false_iff.mpr h1, Bool.false_and] at k
        exact k
    | _ => exact iteF k
theorem rising_iff : ∀ ns : List Int, rising ns = true ↔ ∀ (j : Nat) (x y : Int), ns[j]? = some x → ns[j + 1]? = some y → x < y
  | [] => ⟨fun _ j x y h => by simp at h, fun _ => rfl⟩
  | [a] => ⟨fun _ j x y _ h => by simp at h, fun _ => rfl⟩
  | a :: b :: r => by
    have ih := rising_iff (b :: r)
    show (decide (a < b) && rising (b :: r)) = true ↔ _
    rw [Bool.and_eq_true, ih, decide_eq_true_eq]
    constructor
    · rintro ⟨h1, h2⟩ j x y hx hy
      cases j with
      | zero =>
        have e1 : a = x := Option.some.inj hx
        have e2 : b = y := Option.some.inj hy
        rw [← e1, ← e2]
        exact h1
      | succ j => exact h2 j x y hx hy
    · intro h
      exact ⟨h 0 a b rfl rfl, fun j x y hx hy => h (j + 1) x y hx hy⟩
/-- between two turns of is_rising's loop -/
def RiseP (a : Addr) (ns : List Int) (H : Hp) (i : Nat) (σ : L2.St) (H1 : Hp) : Prop := ∃ u v, σ = [some (.ref a), u, v] ∧ Same H H1 ∧ ∀ (j : Nat) (x y : Int), j < i → ns[j]? = some x → ns[j + 1]? = some y → x < y
theorem rise_turn {a T : Addr} {ns : List Int} {H H1 : Hp} {i : Nat} {σ : L2.St} {x y : V} {N B : L2.St → Hp → Prop} {R : VK} (q : RiseP a ns H i σ H1) (nT : H1 T = none) (gx : (ns.map V.int)[i]? = some x) (gy : ((ns.drop 1).map V.int)[i]? = some y)
    (hN : ∀ σ2, RiseP a ns H (i + 1) σ2 (upd H1 T (.tup [x, y])) → N σ2 (upd H1 T (.tup [x, y]))) (hR : Same H (upd H1 T (.tup [x, y])) → rising ns = false → R (.bl false) (upd H1 T (.tup [x, y]))) :
    gTup K 2 (gCons (gName 1) (gCons (gName 2) gNil)) (.ref T) σ (upd H1 T (.tup [x, y])) fun σ2 H2 => tIfS (tTest (tOp (rI0 fun i j => V.bl (decide (j ≤ i))) (tVar 1) (tVar 2))) (tRet (tC (V.bl false))) tNext { nx := N, rt := R, bk := B, ct := N } σ2 H2 := by
  obtain ⟨u, v, rfl, sm, hj⟩ := q
  rw [List.getElem?_map] at gx gy
  obtain ⟨m, gm, rfl⟩ := Option.map_eq_some_iff.mp gx
  obtain ⟨n, gn, rfl⟩ := Option.map_eq_some_iff.mp gy
  have gn1 : ns[i + 1]? = some n := by
    rw [List.getElem?_drop, Nat.add_comm] at gn
    exact gn
  have s2 := sm.trans (Same.new (o := HO.tup [V.int m, V.int n]) nT)
  refine ⟨T, _, rfl, SqT.of upd_same, rfl, _, _, rfl, _, _, rfl, rfl, ?_⟩
  refine ⟨_, rfl, _, rfl, _, _, rfl, rfl, _, rfl, ?_⟩
  refine ite2 (fun h => ?_) (fun h => ?_)
  · refine hR s2 ?_
    cases e : rising ns with
    | false => rfl
    | true =>
      have z := (rising_iff ns).mp e i m n gm gn1
      have z2 := of_decide_eq_true h
      omega
  · refine hN _ ⟨_, _, rfl, s2, fun j x y hlt hx hy => ?_⟩
    by_cases e : j = i
    · subst e
      rw [gm] at hx
      rw [gn1] at hy
      cases hx
      cases hy
      have z : ¬ n ≤ m := fun z => h (decide_eq_true z)
      omega
    · exact hj j x y (by omega) hx hy
theorem ok_is_rising (F : Fun K "is_rising" "is_rising" s_is_rising f fd) (T : Txt mg) : FnOk P w K mg base (L2.CX P w) 1 f fd ps_is_rising spRising := by
  refine F.okX sc_is_rising (fun vs H Q E h => ?_) (fun cdv A outer s H vs Q E hr h => ?_)
  · obtain ⟨v, ns, rfl, _⟩ := h
    rfl
  · obtain ⟨v, ns, rfl, ⟨a, rfl, ha⟩, k⟩ := h
    refine ⟨_, (pss_cons (ps_for (passes_of rfl) rfl (RZ.pi_zipA (by rfl) T.z_zip (pa_cons (pv 0) (pa_cons (pe_slice sl_seq (pv 0) (po_some pe_int) po_none) pa_nil))) (pg_tup (by rfl) (pgs_cons (pg_name (i := 1) sc_is_rising.nd rfl (by first | exact Or.inl rfl | exact Or.inr rfl)) (pgs_cons (pg_name (i := 2) sc_is_rising.nd rfl (by first | exact Or.inl rfl | exact Or.inr rfl)) pgs_nil))) (pss_one (ps_if (pt_cmpR op_ge (pv 1) (pv 2) (nomark _)) (pss_one (ps_ret pe_bl)) pss_nil)))
      (pss_one (ps_ret pe_bl))), ?_⟩
    have e1 : HT.sIx (ns.map V.int).length 0 (some 1) = min 1 ns.length := by
      rw [show (1 : Int) = ((1 : Nat) : Int) from rfl, HT.sIx_nat, List.length_map]
    have e2 : HT.sIx (ns.map V.int).length (ns.map V.int).length none = ns.length := by rw [HT.sIx_none, List.length_map]
    have cut : cutV (ns.map V.int) (some 1) none = (ns.drop 1).map V.int := by
      unfold cutV
      rw [e1, e2, ← List.map_drop, ← List.map_take]
      cases ns with
      | nil => rfl
      | cons n r =>
        have e3 : min 1 (n :: r).length = 1 := by rw [List.length_cons]; omega
        rw [e3, List.take_of_length_le (by rw [List.length_drop]; exact Nat.le_refl _)]
    have hn : ∀ (xs ys : List V), xs = ns.map V.int → ys = (ns.drop 1).map V.int → min xs.length ys.length = ns.length - 1 := fun xs ys ex ey => by
      rw [ex, ey, List.length_map, List.length_map, List.length_drop]
      omega
    have st0 : ∀ {H1 : Hp}, Same H H1 → RiseP a ns H 0 [some (.ref a), none, none] H1 := fun s0 => ⟨none, none, rfl, s0, fun j x y hj => absurd hj (Nat.not_lt_zero _)⟩
    have done : ∀ σ H1, RiseP a ns H (ns.length - 1) σ H1 → Q (.bl true) H1 := fun σ H1 ⟨_, _, _, sm, hj⟩ => by
      have e : rising ns = true := (rising_iff ns).mpr fun j x y hx hy => hj j x y (by have := (List.getElem?_eq_some_iff.mp hy).1; omega) hx hy
      rw [← e]
      exact k _ sm
    have bad : ∀ H1, Same H H1 → rising ns = false → Q (.bl false) H1 := fun H1 sm e => by
      rw [← e]
      exact k _ sm
    rcases ha with ha | ha
    · refine ⟨_, rfl, _, rfl, _, rfl, .inl ⟨a, _, rfl, SqL.of ha, fun p np => ?_⟩⟩
      rw [cut]
      have s0 : Same H (upd H p (.lst ((ns.drop 1).map V.int))) := Same.new np
      refine ⟨a, p, _, _, rfl, .inl ⟨SqL.of (s0 _ _ ha), SqL.of upd_same, ?_⟩⟩
      refine for_it (walk_zip (hn _ _ rfl rfl).symm) (fun i σ H1 => RiseP a ns H i σ H1 ∧ H1 p = some (.lst ((ns.drop 1).map V.int))) ⟨st0 s0, upd_same⟩ (fun i σ H1 _ ⟨⟨_, _, _, sm, _⟩, hp⟩ => ⟨SqL.of (sm _ _ ha), SqL.of hp⟩) ?_ fun σ H1 q => done σ H1 q.1
      rintro i v σ H1 H2 hi ⟨q, hp⟩ ⟨T, x, y, rfl, nT, rfl, gx, gy⟩
      exact rise_turn q nT gx gy (fun σ2 q2 => ⟨q2, Same.new nT _ _ hp⟩) (bad _)
    · refine ⟨_, rfl, _, rfl, _, rfl, .inr ⟨a, _, rfl, SqT.of ha, fun hw => ?_, fun hw p np => ?_⟩⟩
      · have e0 : ns = [] := by
          rw [e1, e2] at hw
          cases ns with
          | nil => rfl
          | cons n r =>
            rw [List.length_cons] at hw
            omega
        subst e0
        refine ⟨a, a, _, _, rfl, .inr ⟨SqT.of ha, SqT.of ha, ?_⟩⟩
        refine for_it (walk_zipT (n := 0) rfl) (fun i σ H1 => RiseP a [] H 0 σ H1) (st0 (Same.refl H)) (fun i σ H1 _ ⟨_, _, _, sm, _⟩ => ⟨SqT.of (sm _ _ ha), SqT.of (sm _ _ ha)⟩) ?_ fun σ H1 q => done σ H1 q
        intro i v σ H1 H2 hi
        exact absurd hi (Nat.not_lt_zero _)
      · rw [cut]
        have s0 : Same H (upd H p (.tup ((ns.drop 1).map V.int))) := Same.new np
        refine ⟨a, p, _, _, rfl, .inr ⟨SqT.of (s0 _ _ ha), SqT.of upd_same, ?_⟩⟩
        refine for_it (walk_zipT (hn _ _ rfl rfl).symm) (fun i σ H1 => RiseP a ns H i σ H1 ∧ H1 p = some (.tup ((ns.drop 1).map V.int))) ⟨st0 s0, upd_same⟩ (fun i σ H1 _ ⟨⟨_, _, _, sm, _⟩, hp⟩ => ⟨SqT.of (sm _ _ ha), SqT.of hp⟩) ?_ fun σ H1 q => done σ H1 q.1
        rintro i v σ H1 H2 hi ⟨q, hp⟩ ⟨T, x, y, rfl, nT, rfl, gx, gy⟩
        exact rise_turn q nT gx gy (fun σ2 q2 => ⟨q2, Same.new nT _ _ hp⟩) (bad _)
end
end K8

set_option Elab.async false
set_option linter.all false
set_option maxRecDepth 100000
set_option maxHeartbeats 1000000
namespace K8
open PySem L2 KB Evl
section
variable {P : Program} {w : World} {K : PySem.W.Frag} {mg : Str → Option Value} {base : Heap} {f : Addr} {fd : FuncData}
theorem ok_is_thing (F : Fun K "is_thing" "is_thing" s_is_thing f fd) (T : Txt mg) (d_is_number : Df P w K mg base 1 "is_number" spNum) : FnOk P w K mg base (L2.CX P w) 2 f fd ps_is_thing (spAsk okAny isThing) := by
  refine F.okX sc_is_thing (fun vs H Q E h => ?_) (fun cdv A outer s H vs Q E hr h => ?_)
  · obtain ⟨M, a, hs, v, d, rfl, _⟩ := h
    rfl
  · obtain ⟨M, a, hs, v, d, rfl, ha, hz, hd, ok, k⟩ := h
    refine ⟨_, (pss_one (ps_ret (pe_d d_is_number hr (by decide) (by rfl) (pa_cons (pv 1) (pa_cons pe_int (pa_cons (pe_op op_sub (pe_callB call_len_seq (by rfl) T.z_len (by decide +kernel) (pa_cons (pv 0) pa_nil)) pe_int) pa_nil)))))), ?_⟩
    exact s_ret (ev_call (ea_cons (ev_var rfl) (ea_cons ev_c (ea_cons (ev_op (ev_lenT (ev_var rfl) (.of ha)) ev_c rv_I0) ea_nil))) (v_num hd)) fun H1 e => k H1 e
theorem ok_are_reads (F : Fun K "are_reads" "are_reads" s_are_reads f fd) (T : Txt mg) (d_is_tuple : Df P w K mg base 1 "is_tuple" spTup) (d_is_rising : Df P w K mg base 1 "is_rising" spRising) (d_is_thing : Df P w K mg base 2 "is_thing" (spAsk okAny isThing)) :
    FnOk P w K mg base (L2.CX P w) 3 f fd ps_are_reads (spAsk okAny areReads) := by
  refine F.okX sc_are_reads (fun vs H Q E h => ?_) (fun cdv A outer s H vs Q E hr h => ?_)
  · obtain ⟨M, a, hs, v, d, rfl, _⟩ := h
    rfl
  · obtain ⟨M, a, hs, v, d, rfl, ha, hz, hd, ok, k⟩ := h
    refine ⟨_, (pss_one (ps_ret (pe_and (pe_d d_is_tuple hr (by decide) (by rfl) (pa_cons (pv 1) (pa_cons pe_int (pa_cons (C8.pe_gc (by rfl) T.g_MOST_READS) pa_nil)))) (pe_and (pe_callB (cr_all rfl) (by rfl) T.z_all (by decide +kernel) (pa_cons (pe_lc (own := [("thing", 2)]) rfl sc_are_reads.nd (pi_seq (pv 1)) (blkOk_by (N := ["homes", "value", "thing"]) (sc := defScope s_are_reads) (by decide +kernel)) (fun _ _ _ _ _ => (pg_name (i := 2) sc_are_reads.nd rfl (by first | exact Or.inl rfl | exact Or.inr rfl))) (fun _ _ _ _ _ => pts_nil) (fun _ _ _ _ _ => (pe_d d_is_thing hr (by decide) (by rfl) (pa_cons (pv 0) (pa_cons (pv 2) pa_nil))))) pa_nil)) (pe_one (pe_d d_is_rising hr (by decide) (by rfl) (pa_cons (pv 1) pa_nil))))))), ?_⟩
    have ask : Ev (tCall spTup [] E0 (tCons (tVar 1) (tCons (tC (V.int 0)) (tCons (tC (V.int 3)) tNil)))) (L2.start ["homes", "value", "thing"] [V.ref a, v]) H (.bl (isTup d 0 3)) := ev_call (ea_cons (ev_var rfl) (ea_cons ev_c (ea_cons ev_c ea_nil))) (v_tup hd)
    cases hd with
    | tup n hv hl =>
      rename_i b xs ds
      have len := hl.length
      refine s_ret (ev_is (ev_andV ask fun h1 => ev_andV (a := ds.all (isThing hs.length)) (ev_allD _ (ev_var rfl) hv hl ?_ (fun _ => rfl) fun x d H1 e _ da => ?_) fun h2 => ev_call (z := .bl (rising (ds.map intOf))) (ea_cons (ev_var rfl) ea_nil) (v_rising ⟨b, rfl, .inr ?_⟩)) ?_) fun H1 e => k H1 e
      · have z := (isTup_len (lo := 0) (hi := 3) h1).2
        omega
      · exact ev_call (ea_cons (ev_var rfl) (ea_cons (ev_var rfl) ea_nil)) (v_ask (e _ _ ha) hz da rfl)
      · rw [← hl.ints_of fun d hd => (thing_int (List.all_eq_true.mp h2 d hd)).elim fun i q => ⟨i, q.1⟩]
        exact hv
      · rw [show isTup (.tuple ds) 0 3 = _ from isTup_dec ds 0 3]
        simp only [areReads, Nat.zero_le, decide_true, Bool.true_and, Bool.and_assoc]
    | _ => exact s_ret (ev_is (ev_andV (b := false) ask fun z => absurd z Bool.false_ne_true) rfl) fun H1 e => k H1 e
theorem ok_is_write (F : Fun K "is_write" "is_write" s_is_write f fd) (T : Txt mg) (d_is_tuple : Df P w K mg base 1 "is_tuple" spTup) (d_is_number : Df P w K mg base 1 "is_number" spNum) (d_is_thing : Df P w K mg base 2 "is_thing" (spAsk okAny isThing)) :
    FnOk P w K mg base (L2.CX P w) 3 f fd ps_is_write (spAsk flatMake isWrite) := by
  refine F.okX sc_is_write (fun vs H Q E h => ?_) (fun cdv A outer s H vs Q E hr h => ?_)
  · obtain ⟨M, a, hs, v, d, rfl, _⟩ := h
    rfl
  · obtain ⟨M, a, hs, v, d, rfl, ha, hz, hd, ok, k⟩ := h
    refine ⟨_, (pss_cons (ps_if (pt_not (pt_val (pe_d d_is_tuple hr (by decide) (by rfl) (pa_cons (pv 1) (pa_cons pe_int (pa_cons pe_int pa_nil)))))) (pss_one (ps_ret pe_bl)) pss_nil)
      (pss_cons (ps_asg (pv 1) (pg_tup (by rfl) (pgs_cons (pg_name (i := 2) sc_is_write.nd rfl (by first | exact Or.inl rfl | exact Or.inr rfl)) (pgs_cons (pg_name (i := 3) sc_is_write.nd rfl (by first | exact Or.inl rfl | exact Or.inr rfl)) (pgs_cons (pg_name (i := 4) sc_is_write.nd rfl (by first | exact Or.inl rfl | exact Or.inr rfl)) pgs_nil)))))
      (pss_one (ps_ret (pe_and (pe_d d_is_thing hr (by decide) (by rfl) (pa_cons (pv 0) (pa_cons (pv 2) pa_nil))) (pe_and (pe_cmpR op_in_seq (pv 3) (pe_tup (pa_cons pe_str (pa_cons pe_str pa_nil))) (by rfl)) (pe_one (pe_d d_is_number hr (by decide) (by rfl) (pa_cons (pv 4) (pa_cons pe_int (pa_cons (pe_op op_sub (C8.pe_gc (by rfl) T.g_WORDS) pe_int) pa_nil))))))))))), ?_⟩
    have ask : Ev (tCall spTup [] E0 (tCons (tVar 1) (tCons (tC (V.int 3)) (tCons (tC (V.int 3)) tNil)))) (L2.start ["homes", "value", "thing", "make", "n"] [V.ref a, v]) H (.bl (isTup d 3 3)) := ev_call (ea_cons (ev_var rfl) (ea_cons ev_c (ea_cons ev_c ea_nil))) (v_tup hd)
    refine q_when (et_not (et_B ask)) (fun h1 H1 e => ?_) (fun h1 H1 e => ?_)
    · have no : isWrite hs.length d = false := by
        rw [Bool.not_eq_true'] at h1
        cases d with
        | tuple ds =>
          rw [show isTup (.tuple ds) 3 3 = _ from isTup_dec ds 3 3] at h1
          match ds with
          | [] => rfl
          | [_] => rfl
          | [_, _] => rfl
          | [_, _, _] => cases h1
          | _ :: _ :: _ :: _ :: _ => rfl
        | _ => rfl
      rw [no] at k
      exact k H1 e
    · rw [Bool.not_eq_false'] at h1
      cases hd with
      | tup n hv hl =>
        rename_i b xs ds
        have len := isTup_len (lo := 3) (hi := 3) h1
        match ds, xs, hl with
        | [t, m, q], _, .cons ht (.cons hm (.cons hq .nil)) =>
          rename_i x y z
          obtain ⟨f1, f2⟩ := make_in hm ok
          refine ⟨_, rfl, b, [x, y, z], rfl, .of (e _ _ hv), rfl, _, _, rfl, _, _, rfl, _, _, rfl, rfl, ?_⟩
          refine s_ret (ev_andV (a := isThing hs.length t) (b := isMake m && isNum q 0 999) (ev_call (ea_cons (ev_var rfl) (ea_cons (ev_var rfl) ea_nil)) (v_ask (e _ _ ha) hz (ht.go (ex_chg e)) rfl)) fun _ =>
            ev_andV (ev_is (ev_inU (ev_var rfl) (eu_tup (ea_cons ev_c (ea_cons ev_c ea_nil)) (by decide)) f1 rfl) (congrArg V.bl f2)) fun _ => ev_call (z := .bl (isNum q 0 999)) (ea_cons (ev_var rfl) (ea_cons ev_c (ea_cons (ev_op ev_c ev_c rv_I0) ea_nil))) (v_num (hq.go (ex_chg e)))) fun H2 e2 => k H2 (e.trans e2)
      | _ => cases h1
theorem ok_are_writes (F : Fun K "are_writes" "are_writes" s_are_writes f fd) (T : Txt mg) (d_is_tuple : Df P w K mg base 1 "is_tuple" spTup) (d_is_rising : Df P w K mg base 1 "is_rising" spRising) (d_is_write : Df P w K mg base 3 "is_write" (spAsk flatMake isWrite)) :
    FnOk P w K mg base (L2.CX P w) 4 f fd ps_are_writes (spAsk flatMakes areWrites) := by
  refine F.okX sc_are_writes (fun vs H Q E h => ?_) (fun cdv A outer s H vs Q E hr h => ?_)
  · obtain ⟨M, a, hs, v, d, rfl, _⟩ := h
    rfl
  · obtain ⟨M, a, hs, v, d, rfl, ha, hz, hd, ok, k⟩ := h
    refine ⟨_, (pss_cons (ps_if (PW.pt (pw_or (pt_not (pt_val (pe_d d_is_tuple hr (by decide) (by rfl) (pa_cons (pv 1) (pa_cons pe_int (pa_cons (C8.pe_gc (by rfl) T.g_MOST_WRITES) pa_nil)))))) (pw_or1 (pt_not (pt_val (pe_callB (cr_all rfl) (by rfl) T.z_all (by decide +kernel) (pa_cons (pe_lc (own := [("write", 2)]) rfl sc_are_writes.nd (pi_seq (pv 1)) (blkOk_by (N := ["homes", "value", "write"]) (sc := defScope s_are_writes) (by decide +kernel)) (fun _ _ _ _ _ => (pg_name (i := 2) sc_are_writes.nd rfl (by first | exact Or.inl rfl | exact Or.inr rfl))) (fun _ _ _ _ _ => pts_nil) (fun _ _ _ _ _ => (pe_d d_is_write hr (by decide) (by rfl) (pa_cons (pv 0) (pa_cons (pv 2) pa_nil))))) pa_nil))))))) (pss_one (ps_ret pe_bl)) pss_nil)
      (pss_one (ps_ret (pe_d d_is_rising hr (by decide) (by rfl) (pa_cons (pe_lc (own := [("write", 2)]) rfl sc_are_writes.nd (pi_seq (pv 1)) (blkOk_by (N := ["homes", "value", "write"]) (sc := defScope s_are_writes) (by decide +kernel)) (fun _ _ _ _ _ => (pg_name (i := 2) sc_are_writes.nd rfl (by first | exact Or.inl rfl | exact Or.inr rfl))) (fun _ _ _ _ _ => pts_nil) (fun _ _ _ _ _ => (pe_ix (ix_tup : IxR _ (rIxT K)) (pv 2) pe_int (fun _ _ => rfl)))) pa_nil))))), ?_⟩
    have ask : Ev (tCall spTup [] E0 (tCons (tVar 1) (tCons (tC (V.int 1)) (tCons (tC (V.int 3)) tNil)))) (L2.start ["homes", "value", "write"] [V.ref a, v]) H (.bl (isTup d 1 3)) := ev_call (ea_cons (ev_var rfl) (ea_cons ev_c (ea_cons ev_c ea_nil))) (v_tup hd)
    cases hd with
    | tup n hv hl =>
      rename_i b xs ds
      have len := hl.length
      have flat : ∀ d ∈ ds, flatMake d = true := List.all_eq_true.mp ok
      refine q_when (et_or (et_not (et_B ask)) fun h1 => et_not (a := ds.all (isWrite hs.length)) (et_B (ev_allD _ (ev_var rfl) hv hl ?_ (fun _ => rfl) fun x d H1 e hd da => ev_call (ea_cons (ev_var rfl) (ea_cons (ev_var rfl) ea_nil)) (v_ask (e _ _ ha) hz da (flat d hd))))) (fun h1 H1 e => ?_) (fun h1 H1 e => ?_)
      · rw [Bool.not_eq_false'] at h1
        have z := (isTup_len (lo := 1) (hi := 3) h1).2
        omega
      · have no : areWrites hs.length (.tuple ds) = false := by
          rw [show isTup (.tuple ds) 1 3 = _ from isTup_dec ds 1 3] at h1
          simp only [areWrites]
          cases h2 : decide (1 ≤ ds.length) <;> cases h3 : decide (ds.length ≤ 3) <;> cases h4 : ds.all (isWrite hs.length) <;> simp [h2, h3, h4] at h1 ⊢
        rw [no] at k
        exact k H1 e
      · rw [Bool.or_eq_false_iff, Bool.not_eq_false', Bool.not_eq_false'] at h1
        obtain ⟨h1, h2⟩ := h1
        have z := isTup_len (lo := 1) (hi := 3) h1
        have wr : ∀ d ∈ ds, isWrite hs.length d = true := List.all_eq_true.mp h2
        have yes : areWrites hs.length (.tuple ds) = rising (ds.map fun x => intOf (firstD x)) := by
          simp only [areWrites, h2, decide_eq_true z.1, decide_eq_true z.2, Bool.true_and]
        rw [yes] at k
        refine s_ret (ev_callL (xs := (ds.map fun x => intOf (firstD x)).map V.int) ?_ fun p H2 hp e2 => v_rising ⟨p, rfl, .inl hp⟩) fun H2 e2 => k H2 (e.trans e2)
        have q := el_lcS (K := K) (tl := tVar 1) (σ := L2.start ["homes", "value", "write"] [V.ref a, V.ref b]) (vs := [2]) (t := tYes) (te := tOp (rIxT K) (tVar 2) (tC (V.int 0))) (j := 2) (fun _ => true) (fun i => V.int (intOf (firstD (ds.getD i .none)))) (ev_var rfl) (e _ _ hv) (by omega) (fun _ => rfl) (fun _ _ _ _ _ => et_yes) fun i x H2 e2 gx _ => by
          obtain ⟨d, gd, da⟩ := hl.get gx
          obtain ⟨t, s, c, rfl, _⟩ := write_data (wr d (List.mem_of_getElem? gd))
          rw [List.getD_eq_getElem?_getD, gd, Option.getD_some]
          cases da with
          | tup n2 hx hxl =>
            match hxl with
            | .cons (.int t) (.cons _ (.cons _ .nil)) => exact ev_op (ev_var rfl) ev_c (rv_ixT (.of (e2 _ _ (e _ _ hx))) rfl)
        rw [given_all, len, range_map_get ds _ (fun d => V.int (intOf (firstD d))) (fun i d gd => by rw [List.getD_eq_getElem?_getD, gd, Option.getD_some]), show (ds.map fun d => V.int (intOf (firstD d))) = (ds.map fun x => intOf (firstD x)).map V.int from by rw [List.map_map]; rfl] at q
        exact q
    | _ =>
      refine q_when (et_or (b := true) (et_not (et_B ask)) fun z => absurd (show true = false from z) (by decide)) (fun h1 H1 e => ?_) (fun h1 H1 e => absurd (show true = false from h1) (by decide))
      exact k H1 e
theorem ok_has_deed_form (F : Fun K "has_deed_form" "has_deed_form" s_has_deed_form f fd) (T : Txt mg) (d_is_tuple : Df P w K mg base 1 "is_tuple" spTup) (d_are_reads : Df P w K mg base 3 "are_reads" (spAsk okAny areReads)) (d_are_writes : Df P w K mg base 4 "are_writes" (spAsk flatMakes areWrites)) :
    FnOk P w K mg base (L2.CX P w) 5 f fd ps_has_deed_form (spAsk flatDeed isDeed) := by
  refine F.okX sc_has_deed_form (fun vs H Q E h => ?_) (fun cdv A outer s H vs Q E hr h => ?_)
  · obtain ⟨M, a, hs, v, d, rfl, _⟩ := h
    rfl
  · obtain ⟨M, a, hs, v, d, rfl, ha, hz, hd, ok, k⟩ := h
    refine ⟨_, (pss_one (ps_ret (pe_and (pe_d d_is_tuple hr (by decide) (by rfl) (pa_cons (pv 1) (pa_cons pe_int (pa_cons pe_int pa_nil)))) (pe_and (pe_d d_are_reads hr (by decide) (by rfl) (pa_cons (pv 0) (pa_cons (pe_ix ix_tup (pv 1) pe_int (fun _ _ => rfl)) pa_nil))) (pe_one (pe_d d_are_writes hr (by decide) (by rfl) (pa_cons (pv 0) (pa_cons (pe_ix ix_tup (pv 1) pe_int (fun _ _ => rfl)) pa_nil)))))))), ?_⟩
    have ask : Ev (tCall spTup [] E0 (tCons (tVar 1) (tCons (tC (V.int 2)) (tCons (tC (V.int 2)) tNil)))) (L2.start ["homes", "value"] [V.ref a, v]) H (.bl (isTup d 2 2)) := ev_call (ea_cons (ev_var rfl) (ea_cons ev_c (ea_cons ev_c ea_nil))) (v_tup hd)
    have no : isTup d 2 2 = false → isDeed hs.length d = false := fun h1 => by
      cases d with
      | tuple ds =>
        rw [show isTup (.tuple ds) 2 2 = _ from isTup_dec ds 2 2] at h1
        match ds with
        | [] => rfl
        | [_] => rfl
        | [_, _] => cases h1
        | _ :: _ :: _ :: _ => rfl
      | _ => rfl
    cases h1 : isTup d 2 2 with
    | false =>
      rw [h1] at ask
      rw [no h1] at k
      exact s_ret (ev_andV (b := false) ask fun z => absurd z Bool.false_ne_true) fun H1 e => k H1 e
    | true =>
      rw [h1] at ask
      cases hd with
      | tup n hv hl =>
        rename_i b xs ds
        have len := isTup_len (lo := 2) (hi := 2) h1
        match ds, xs, hl with
        | [t, m], _, .cons ht (.cons hm .nil) =>
          rename_i x y
          exact s_ret (ev_andV (b := areReads hs.length t && areWrites hs.length m) ask fun _ => ev_andV (ev_call (z := .bl (areReads hs.length t)) (ea_cons (ev_var rfl) (ea_cons (ev_op (ev_var rfl) ev_c (rv_ixT (.of hv) rfl)) ea_nil)) (v_ask ha hz ht rfl)) fun _ =>
            ev_call (z := .bl (areWrites hs.length m)) (ea_cons (ev_var rfl) (ea_cons (ev_op (ev_var rfl) ev_c (rv_ixT (.of hv) rfl)) ea_nil)) (v_ask ha hz hm ok)) fun H1 e => k H1 e
      | _ => cases h1
end
end K8

set_option Elab.async false
set_option linter.all false
set_option maxRecDepth 100000
set_option maxHeartbeats 1000000
namespace K8
open PySem L2 KB Evl
section
variable {P : Program} {w : World} {K : PySem.W.Frag} {mg : Str → Option Value} {base : Heap} {f : Addr} {fd : FuncData}
theorem ok_written (F : Fun K "written" "written" s_written f fd) (T : Txt mg) : FnOk P w K mg base (L2.CX P w) 1 f fd ps_written spWritten := by
  refine F.okX sc_written (fun vs H Q E h => ?_) (fun cdv A outer s H vs Q E hr h => ?_)
  · obtain ⟨M, lw, ld, ws, r, w, rfl, _⟩ := h
    rfl
  · obtain ⟨M, lw, ld, ws, r, w, rfl, hw, hd, ok, k⟩ := h
    refine ⟨_, (pss_cons (ps_asg (pv 1) (pg_tup (by rfl) (pgs_cons (pg_name (i := 2) sc_written.nd rfl (by first | exact Or.inl rfl | exact Or.inr rfl)) (pgs_cons (pg_name (i := 3) sc_written.nd rfl (by first | exact Or.inl rfl | exact Or.inr rfl)) pgs_nil))))
      (pss_cons (ps_set (i := 5) sc_written.nd rfl (Or.inl rfl) (pe_callB (cr_sum rfl) (by rfl) T.z_sum (by decide +kernel) (pa_cons (pe_lc (own := [("thing", 4)]) rfl sc_written.nd (pi_tup (pv 2)) (blkOk_by (N := ["words", "deed", "reads", "writes", "thing", "read", "pairs", "make", "n"]) (sc := defScope s_written) (by decide +kernel)) (fun _ _ _ _ _ => (pg_name (i := 4) sc_written.nd rfl (by first | exact Or.inl rfl | exact Or.inr rfl))) (fun _ _ _ _ _ => pts_nil) (fun _ _ _ _ _ => (pe_ix (ix_list : IxR _ (rIxL K)) (pv 0) (pv 4) (fun _ _ => rfl)))) pa_nil)))
      (pss_cons (ps_set (i := 6) sc_written.nd rfl (Or.inl rfl) (pe_lst pa_nil))
      (pss_cons (ps_for (passes_of rfl) rfl (pi_tup (pv 3)) (pg_tup (by rfl) (pgs_cons (pg_name (i := 4) sc_written.nd rfl (by first | exact Or.inl rfl | exact Or.inr rfl)) (pgs_cons (pg_name (i := 7) sc_written.nd rfl (by first | exact Or.inl rfl | exact Or.inr rfl)) (pgs_cons (pg_name (i := 8) sc_written.nd rfl (by first | exact Or.inl rfl | exact Or.inr rfl)) pgs_nil)))) (pss_one (ps_if (pt_cmpR op_eq (pv 7) pe_str (nomark _)) (pss_one (ps_expr (pe_bm PySem.F.plainAttrs_list PySem.F.slot_list_append PySem.F.type_list_append mt_append (pv 6) (pa_cons (pe_tup (pa_cons (pv 4) (pa_cons (pv 8) pa_nil))) pa_nil)))) (pss_one (ps_expr (pe_bm PySem.F.plainAttrs_list PySem.F.slot_list_append PySem.F.type_list_append mt_append (pv 6) (pa_cons (pe_tup (pa_cons (pv 4) (pa_cons (pe_op op_mod (pe_op op_add (pv 8) (pv 5)) (C8.pe_gc (by rfl) T.g_WORDS)) pa_nil))) pa_nil)))))))
      (pss_one (ps_ret (pv 6))))))), ?_⟩
    obtain ⟨ar, aw, wx, h0, h1, h2, lx, n0, n1, n2⟩ := deed_da hd
    have bound : ∀ t : Int, 0 ≤ t ∧ t < ws.length → atI (ws.map V.int) t = some (V.int (wordAt ws t)) := fun t ht => by
      have e : t = ((t.toNat : Nat) : Int) := by omega
      have hlt : t.toNat < ws.length := by omega
      rw [e]
      refine atI_nat ?_
      rw [List.getElem?_map, List.getElem?_eq_getElem hlt, Option.map_some]
      unfold wordAt
      rw [List.getD_eq_getElem?_getD, Int.toNat_natCast, List.getElem?_eq_getElem hlt, Option.getD_some]
    refine ⟨_, rfl, ld, _, rfl, .of h0, rfl, _, _, rfl, _, _, rfl, rfl, ?_⟩
    have sumE : Ev (tCB (rSum K) (tCons (tLc (iTup K (tVar 2)) (gName 4) tYes (tOp (rIxL K) (tVar 0) (tVar 4)) [4]) tNil)) [some (.ref lw), some (.ref ld), some (.ref ar), some (.ref aw), none, none, none, none, none] H (.int (r.map (wordAt ws)).sum) := by
      refine ev_sum ?_
      have q := el_lcT (K := K) (tl := tVar 2) (σ := [some (.ref lw), some (.ref ld), some (.ref ar), some (.ref aw), none, none, none, none, none]) (vs := [4]) (t := tYes) (te := tOp (rIxL K) (tVar 0) (tVar 4)) (j := 4) (fun _ => true) (fun i => V.int (wordAt ws (r.getD i 0))) (ev_var rfl) h1 (by rw [List.length_map]; have := ok.rl; omega) (fun _ => rfl) (fun _ _ _ _ _ => et_yes) fun i x H2 e2 gx _ => by
        rw [List.getElem?_map] at gx
        obtain ⟨t, gt, rfl⟩ := Option.map_eq_some_iff.mp gx
        rw [List.getD_eq_getElem?_getD, gt, Option.getD_some]
        exact ev_op (ev_var rfl) (ev_var rfl) (rv_ixL (.of (e2 _ _ hw)) (bound t (ok.rt t (List.mem_of_getElem? gt))))
      rw [given_all, List.length_map, range_map_get r _ (fun t => V.int (wordAt ws t)) (fun i t gt => by rw [List.getD_eq_getElem?_getD, gt, Option.getD_some]), show (r.map fun t => V.int (wordAt ws t)) = (r.map (wordAt ws)).map V.int from by rw [List.map_map]; rfl] at q
      exact q
    refine q_asg sumE fun H1 e1 => ?_
    refine q_asgL (el_lst ea_nil (Nat.zero_le _)) fun p H2 np e2 hp => ?_
    have np0 : H p = none := fresh_back e1 np
    have tot := (r.map (wordAt ws)).sum
    refine q_forT (ev_var rfl) (.of (e2 _ _ (e1 _ _ h2))) (fun i σ H3 => ∃ x4 x7 x8 vs, σ = [some (.ref lw), some (.ref ld), some (.ref ar), some (.ref aw), x4, some (.int (r.map (wordAt ws)).sum), some (.ref p), x7, x8] ∧ Same H H3 ∧ H3 p = some (.lst vs) ∧ DaL (orAt Nv p) H3 vs (((writtenM ws r w).take i).map pairD))
      (fun H3 e3 => ⟨none, none, none, [], rfl, (e1.trans e2).trans e3, e3 _ _ hp, .nil⟩) (fun i σ H3 _ ⟨_, _, _, _, _, sm, _⟩ => .of (sm _ _ h2)) ?_ ?_
    · rintro i x σ H3 gx ⟨x4, x7, x8, vs, rfl, sm, hv, hl⟩
      obtain ⟨d, gd, da⟩ := lx.get gx
      rw [List.getElem?_map] at gd
      obtain ⟨y, gy, rfl⟩ := Option.map_eq_some_iff.mp gd
      obtain ⟨ay, rfl, hy, ny⟩ := wr_da da
      have hle : vs.length ≤ 3 := by
        rw [hl.length, List.length_map, List.length_take]
        unfold writtenM
        rw [List.length_map]
        have := ok.w3
        omega
      have nx : (writtenM ws r w)[i]? = some (y.1, if y.2.1 = ("word" : Str) then y.2.2 else (y.2.2 + (r.map (wordAt ws)).sum) % 1000) := by
        unfold writtenM
        rw [List.getElem?_map, gy, Option.map_some]
      have next : ∀ (q : Int) (T : Addr) (H5 : Hp) (x4 x7 x8 : Option V), (writtenM ws r w)[i]? = some (y.1, q) → H3 T = none → Ex H3 H5 → H5 T = some (.tup [.int y.1, .int q]) →
          ∃ (x4' x7' x8' : Option V) (vs' : List V), ([some (.ref lw), some (.ref ld), some (.ref ar), some (.ref aw), x4, some (.int (r.map (wordAt ws)).sum), some (.ref p), x7, x8] : L2.St) = [some (.ref lw), some (.ref ld), some (.ref ar), some (.ref aw), x4', some (.int (r.map (wordAt ws)).sum), some (.ref p), x7', x8'] ∧
            Same H (upd H5 p (.lst (vs ++ [.ref T]))) ∧ (upd H5 p (.lst (vs ++ [.ref T]))) p = some (.lst vs') ∧ DaL (orAt Nv p) (upd H5 p (.lst (vs ++ [.ref T]))) vs' (((writtenM ws r w).take (i + 1)).map pairD) := fun q T H5 x4 x7 x8 gq nT e5 hT => by
        have nTp : p ≠ T := ne_of_none hv nT
        refine ⟨x4, x7, x8, _, rfl, Same.put (sm.trans e5) np0, upd_same, ?_⟩
        have c : Chg (orAt Nv p) H3 (upd H5 p (.lst (vs ++ [.ref T]))) := (ex_chg e5).trans (Chg.put (.inr rfl))
        rw [List.take_add_one, gq, List.map_append]
        refine (hl.go c).append (.cons (.tup (fun z => ?_) ((upd_ne nTp.symm).trans hT) (.cons (.int _) (.cons (.int _) .nil))) .nil)
        rcases z with z | z
        · exact z
        · exact nTp z.symm
      refine ⟨ay, _, rfl, .of (sm _ _ hy), rfl, _, _, rfl, _, _, rfl, _, _, rfl, rfl, ?_⟩
      refine s_if (et_test (ev_op (ev_var rfl) ev_c (rv_eq rfl))) (fun hb H4 e4 => ?_) (fun hb H4 e4 => ?_)
      · refine s_appU (e4 _ _ hv) (ev_var rfl) (eu_tup (ea_cons (ev_var rfl) (ea_cons (ev_var rfl) ea_nil)) (show 2 ≤ 100000 by decide)) (by omega) fun T H5 nT e5 hT => ?_
        refine next y.2.2 T H5 _ _ _ ?_ (fresh_back e4 nT) (e4.trans e5) hT
        have z : y.2.1 = ("word" : Str) := by
          have z := of_decide_eq_true hb
          injection z
        rw [nx, if_pos z]
      · refine s_appU (e4 _ _ hv) (ev_var rfl) (eu_tup (ea_cons (ev_var rfl) (ea_cons (ev_op (ev_op (ev_var rfl) (ev_var rfl) rv_I0) ev_c (rv_I (by decide))) ea_nil)) (show 2 ≤ 100000 by decide)) (by omega) fun T H5 nT e5 hT => ?_
        refine next _ T H5 _ _ _ ?_ (fresh_back e4 nT) (e4.trans e5) hT
        have z : ¬ y.2.1 = ("word" : Str) := fun z => of_decide_eq_false hb (by rw [z])
        rw [nx, if_neg z]
    · rintro σ H3 ⟨x4, x7, x8, vs, rfl, sm, hv, hl⟩
      have len : wx.length = (writtenM ws r w).length := by
        rw [lx.length, List.length_map]
        unfold writtenM
        rw [List.length_map]
      rw [len, List.take_length] at hl
      exact ⟨_, rfl, k p vs H3 sm np0 hv (hl.weak fun a z => .inl z)⟩
end
end K8

set_option Elab.async false
set_option linter.all false
set_option maxRecDepth 100000
set_option maxHeartbeats 1000000
namespace K8
open PySem L2 KB Evl
section
variable {P : Program} {w : World} {K : PySem.W.Frag} {mg : Str → Option Value} {base : Heap} {f : Addr} {fd : FuncData}
theorem ok_check_homes {C_BadHomes : Addr} (F : Fun K "check_homes" "check_homes" s_check_homes f fd) (T : Txt mg) (e_BadHomes : Er K mg "BadHomes" C_BadHomes) (d_is_tuple : Df P w K mg base 1 "is_tuple" spTup) (d_is_number : Df P w K mg base 1 "is_number" spNum) :
    FnOk P w K mg base (L2.CX P w) 2 f fd ps_check_homes (spCheckHomes C_BadHomes) := by
  refine F.okX sc_check_homes (fun vs H Q E h => ?_) (fun cdv A outer s H vs Q E hr h => ?_)
  · obtain ⟨M, v, d, rfl, _⟩ := h
    rfl
  · obtain ⟨M, v, d, rfl, hd, yes, no⟩ := h
    refine ⟨_, (pss_one (ps_if (PW.pt (pw_or (pt_not (pt_val (pe_d d_is_tuple hr (by decide) (by rfl) (pa_cons (pv 0) (pa_cons pe_int (pa_cons (C8.pe_gc (by rfl) T.g_MOST_HOMES) pa_nil)))))) (pw_or1 (pt_not (pt_val (pe_callB (cr_all rfl) (by rfl) T.z_all (by decide +kernel) (pa_cons (pe_lc (own := [("home", 1)]) rfl sc_check_homes.nd (pi_seq (pv 0)) (blkOk_by (N := ["homes", "home"]) (sc := defScope s_check_homes) (by decide +kernel)) (fun _ _ _ _ _ => (pg_name (i := 1) sc_check_homes.nd rfl (by first | exact Or.inl rfl | exact Or.inr rfl))) (fun _ _ _ _ _ => pts_nil) (fun _ _ _ _ _ => (pe_d d_is_number hr (by decide) (by rfl) (pa_cons (pv 1) (pa_cons pe_int (pa_cons (C8.pe_gc (by rfl) T.g_LAST_HOUSE) pa_nil)))))) pa_nil))))))) (pss_one (ps_raise rfl (takes_of rfl rfl rfl rfl) (pmk_own PySem.F.excBase_ValueError e_BadHomes.x e_BadHomes.g e_BadHomes.k (raises_own e_BadHomes.b e_BadHomes.t) (by rfl)))) pss_nil)), ?_⟩
    have ask : Ev (tCall spTup [] E0 (tCons (tVar 0) (tCons (tC (V.int 1)) (tCons (tC (V.int 6)) tNil)))) (L2.start ["homes", "home"] [v]) H (.bl (isTup d 1 6)) := ev_call (ea_cons (ev_var rfl) (ea_cons ev_c (ea_cons ev_c ea_nil))) (v_tup hd)
    cases hd with
    | tup n hv hl =>
      rename_i b xs ds
      have len := hl.length
      refine s_when (et_or (et_not (et_B ask)) fun h1 => et_not (a := ds.all fun x => isNum x 0 3) (et_B (ev_allD (fun x => isNum x 0 3) (ev_var rfl) hv hl ?_ (fun _ => rfl) fun x d H1 e hd da => ev_call (ea_cons (ev_var rfl) (ea_cons ev_c (ea_cons ev_c ea_nil))) (v_num da)))) (fun h1 H1 e => ?_) (fun h1 H1 e => ?_)
      · rw [Bool.not_eq_false'] at h1
        have z := (isTup_len (lo := 1) (hi := 6) h1).2
        omega
      · refine no ?_ H1 e
        rw [show isTup (.tuple ds) 1 6 = _ from isTup_dec ds 1 6] at h1
        simp only [isHomes]
        cases h2 : decide (1 ≤ ds.length) <;> cases h3 : decide (ds.length ≤ 6) <;> cases h4 : (ds.all fun x => isNum x 0 3) <;> simp [h2, h3, h4] at h1 ⊢
      · refine yes ?_ H1 e
        rw [Bool.or_eq_false_iff, Bool.not_eq_false', Bool.not_eq_false'] at h1
        have z := isTup_len (lo := 1) (hi := 6) h1.1
        simp only [isHomes, h1.2, decide_eq_true z.1, decide_eq_true z.2, Bool.true_and]
    | _ =>
      refine s_when (et_or (b := true) (et_not (et_B ask)) fun z => absurd (show true = false from z) (by decide)) (fun h1 H1 e => ?_) (fun h1 H1 e => absurd (show true = false from h1) (by decide))
      exact no rfl H1 e
end
end K8

set_option Elab.async false
set_option linter.all false
set_option maxRecDepth 100000
set_option maxHeartbeats 1000000
namespace K8
open PySem L2 KB Evl
section
variable {P : Program} {w : World} {K : PySem.W.Frag} {mg : Str → Option Value} {base : Heap} {f : Addr} {fd : FuncData}
theorem ok_houses_of {CB : Addr} (F : Fun K "houses_of" "houses_of" s_houses_of f fd) (T : Txt mg) (d_check_homes : Df P w K mg base 2 "check_homes" (spCheckHomes CB)) :
    FnOk P w K mg base (L2.CX P w) 3 f fd ps_houses_of (spHouses CB) := by
  refine F.okX sc_houses_of (fun vs H Q E h => ?_) (fun cdv A outer s H vs Q E hr h => ?_)
  · obtain ⟨M, v, d, rfl, _⟩ := h
    rfl
  · obtain ⟨M, v, d, rfl, hd, yes, no⟩ := h
    refine ⟨_, (pss_cons (ps_expr (pe_dX d_check_homes hr (by decide) (by rfl) (takes_of rfl rfl rfl rfl) (pa_cons (pv 0) pa_nil)))
      (pss_one (ps_ret (pe_op op_add (pe_callB (cr_maxA rfl hr.units) (by rfl) T.z_max (by decide +kernel) (pa_cons (pv 0) pa_nil)) pe_int)))), ?_⟩
    refine ⟨v, rfl, M, v, d, rfl, hd, fun h1 H1 s1 => ?_, fun h1 H1 s1 => no h1 H1 s1⟩
    obtain ⟨ns, rfl, n1, n6, hb⟩ := homes_of h1
    obtain ⟨a, rfl, ha, _⟩ := homes_at hd
    refine ⟨_, rfl, a, ns, rfl, .inr (.of (s1 _ _ ha)), by omega, fun m hm ht => ⟨m, 1, rfl, rfl, yes h1 ns m rfl hm ht H1 s1⟩⟩
theorem ok_is_deed {CB : Addr} (F : Fun K "is_deed" "is_deed" s_is_deed f fd) (T : Txt mg) (d_check_homes : Df P w K mg base 2 "check_homes" (spCheckHomes CB)) (d_has_deed_form : Df P w K mg base 5 "has_deed_form" (spAsk flatDeed isDeed)) :
    FnOk P w K mg base (L2.CX P w) 6 f fd ps_is_deed (spIsDeed CB) := by
  refine F.okX sc_is_deed (fun vs H Q E h => ?_) (fun cdv A outer s H vs Q E hr h => ?_)
  · obtain ⟨M, h, v, dh, rfl, _⟩ := h
    rfl
  · obtain ⟨M, h, v, dh, rfl, hd, no, yes⟩ := h
    refine ⟨_, (pss_cons (ps_expr (pe_dX d_check_homes hr (by decide) (by rfl) (takes_of rfl rfl rfl rfl) (pa_cons (pv 0) pa_nil)))
      (pss_one (ps_ret (pe_d d_has_deed_form hr (by decide) (by rfl) (pa_cons (pv 0) (pa_cons (pv 1) pa_nil)))))), ?_⟩
    refine ⟨h, rfl, M, h, dh, rfl, hd, fun h1 H1 s1 => ?_, fun h1 H1 s1 => no h1 H1 s1⟩
    obtain ⟨ns, rfl, n1, n6, hb⟩ := homes_of h1
    obtain ⟨a, rfl, ha, _⟩ := homes_at hd
    obtain ⟨M', d, hv, fl, k⟩ := yes h1
    have q := v_ask (p := isDeed) (ok := flatDeed) (s1 _ _ ha) (by rw [List.length_map]; omega) (hv.go (same_chg s1)) fl
    have e : (ns.map V.int).length = nHomes (.tuple (ns.map PyData.int)) := by
      rw [List.length_map]
      exact (List.length_map ..).symm
    rw [e] at q
    exact s_ret (ev_call (ea_cons (ev_var rfl) (ea_cons (ev_var rfl) ea_nil)) q) fun H2 e2 => k H2 (fun b o hb => e2 b o (s1 b o hb))
theorem ok_check_deeds {CD : Addr} (F : Fun K "check_deeds" "check_deeds" s_check_deeds f fd) (T : Txt mg) (e_BadDeeds : EcI P K mg "BadDeeds" CD) (d_is_tuple : Df P w K mg base 1 "is_tuple" spTup) (d_has_deed_form : Df P w K mg base 5 "has_deed_form" (spAsk flatDeed isDeed)) :
    FnOk P w K mg base (L2.CX P w) 6 f fd ps_check_deeds (spCheckDeeds CD) := by
  refine F.okX sc_check_deeds (fun vs H Q E h => ?_) (fun cdv A outer s H vs Q E hr h => ?_)
  · obtain ⟨M, a, hs, v, d, rfl, _⟩ := h
    rfl
  · obtain ⟨M, a, hs, v, d, rfl, ha, hz, hd, fl, yes, no⟩ := h
    refine ⟨_, (pss_cons (ps_if (pt_not (pt_val (pe_d d_is_tuple hr (by decide) (by rfl) (pa_cons (pv 1) (pa_cons pe_int (pa_cons (C8.pe_gc (by rfl) T.g_MOST_DEEDS) pa_nil)))))) (pss_one (ps_raise rfl (takes_of rfl rfl rfl rfl) (pmk_ix e_BadDeeds hr (by decide) (by rfl) pe_non))) pss_nil)
      (pss_one (ps_for (passes_of rfl) rfl (pi_enumT (by rfl) T.z_enumerate (pa_cons (pv 1) pa_nil)) (pg_tup (by rfl) (pgs_cons (pg_name (i := 2) sc_check_deeds.nd rfl (by first | exact Or.inl rfl | exact Or.inr rfl)) (pgs_cons (pg_name (i := 3) sc_check_deeds.nd rfl (by first | exact Or.inl rfl | exact Or.inr rfl)) pgs_nil))) (pss_one (ps_if (pt_not (pt_val (pe_d d_has_deed_form hr (by decide) (by rfl) (pa_cons (pv 0) (pa_cons (pv 3) pa_nil))))) (pss_one (ps_raise rfl (takes_of rfl rfl rfl rfl) (pmk_ix e_BadDeeds hr (by decide) (by rfl) (pv 2)))) pss_nil))))), ?_⟩
    refine q_when (et_not (et_B (ev_call (ea_cons (ev_var rfl) (ea_cons ev_c (ea_cons ev_c ea_nil))) (v_tup (lo := 0) (hi := 60) hd)))) (fun h1 H1 e1 => ?_) (fun h1 H1 e1 => ?_)
    · rw [Bool.not_eq_true'] at h1
      exact ⟨.inl rfl, fun e he => no .non e _ (.whole h1) (fun b o q => (upd_ne (ne_of_none (e1 b o q) he)).trans (e1 b o q)) upd_same⟩
    · rw [Bool.not_eq_false'] at h1
      cases hd with
      | tup n hv hl =>
        rename_i b xs ds
        have len := hl.length
        have z := isTup_len (lo := 0) (hi := 60) h1
        refine ⟨_, rfl, b, xs, rfl, .of (e1 _ _ hv), ?_⟩
        refine for_it (walk_enumT (K := K) (xs := xs)) (fun i σ H2 => (∃ x2 x3, σ = [some (.ref a), some (.ref b), x2, x3]) ∧ Same H H2 ∧ ∀ j y, j < i → ds[j]? = some y → isDeed hs.length y = true) ⟨⟨none, none, rfl⟩, e1, fun j y hj => absurd hj (Nat.not_lt_zero _)⟩ (fun i σ H2 _ q => .of (q.2.1 _ _ hv)) ?_ ?_
        · rintro i x σ H2 H3 hi ⟨⟨x2, x3, rfl⟩, sm, hall⟩ ⟨Tp, y1, y2, rfl, nT, rfl, gx, gy⟩
          obtain ⟨y, gd, da⟩ := hl.get gy
          cases (show some (V.int (i : Int)) = some y1 from gx)
          refine ⟨Tp, _, rfl, .of upd_same, rfl, _, _, rfl, _, _, rfl, rfl, ?_⟩
          have sm3 : Same H (upd H2 Tp (.tup [.int (i : Int), y2])) := fun b o q => (upd_ne (ne_of_none (sm b o q) nT)).trans (sm b o q)
          have fy : flatDeed y = true := by
            have q : (ds.all flatDeed) = true := fl
            exact List.all_eq_true.mp q y (List.mem_of_getElem? gd)
          refine s_when (et_not (et_B (ev_call (ea_cons (ev_var rfl) (ea_cons (ev_var rfl) ea_nil)) (v_ask (p := isDeed) (ok := flatDeed) (sm3 _ _ ha) hz (da.go (same_chg sm3)) fy)))) (fun h2 H4 e4 => ?_) (fun h2 H4 e4 => ?_)
          · rw [Bool.not_eq_true'] at h2
            refine ⟨V.int (i : Int), rfl, .inr ⟨i, by omega, rfl⟩, fun e he => no _ e _ (.one rfl z.2 gd h2 hall) (fun b o q => ?_) upd_same⟩
            rw [upd_ne (ne_of_none (e4 b o (sm3 b o q)) he)]
            exact e4 b o (sm3 b o q)
          · rw [Bool.not_eq_false'] at h2
            refine ⟨⟨_, _, rfl⟩, fun b o q => e4 b o (sm3 b o q), fun j y' hj gj => ?_⟩
            rcases Nat.lt_succ_iff_lt_or_eq.mp hj with h | h
            · exact hall j y' h gj
            · subst h
              rw [gd] at gj
              cases gj
              exact h2
        · rintro σ H2 ⟨_, sm, hall⟩
          refine yes ds rfl z.2 (fun x hx => ?_) H2 sm
          obtain ⟨j, hj, e⟩ := List.getElem_of_mem hx
          exact hall j x (by omega) (by rw [List.getElem?_eq_getElem hj, e])
      | _ => cases h1
end
end K8

set_option Elab.async false
set_option linter.all false
set_option maxRecDepth 100000
set_option maxHeartbeats 1000000
namespace KB
open PySem L2 Evl
theorem deeds_of {n : Nat} : ∀ {ds : List PyData}, (∀ x ∈ ds, isDeed n x = true) → ∃ xs : List (List Int × List Wr), ds = xs.map (fun x => deedD x.1 x.2) ∧ ∀ x ∈ xs, OkDeed n x.1 x.2
  | [], _ => ⟨[], rfl, fun x hx => by cases hx⟩
  | d :: ds, h => by
    obtain ⟨xs, rfl, h2⟩ := deeds_of fun x hx => h x (List.mem_cons_of_mem _ hx)
    obtain ⟨r, w, rfl, ok⟩ := okDeed_of (h d List.mem_cons_self)
    exact ⟨(r, w) :: xs, rfl, fun x hx => (List.mem_cons.mp hx).elim (fun e => e ▸ ok) (h2 x)⟩
theorem el_rep {ta tb : TE} {σ : L2.St} {H : Hp} {xs : List V} {k : Int} (ha : EvL ta σ H xs) (hb : ∀ H1, Ex H H1 → Ev tb σ H1 (.int k)) (h0 : 0 ≤ k) (hk : k ≤ 100000) (hz : xs.length * k.toNat ≤ 100000) : EvL (tOp rRep ta tb) σ H (List.replicate k.toNat xs).flatten := fun H1 e Q q =>
  ha H1 e _ fun p H2 np e2 hp => hb H2 (e.trans e2) H2 (Ex.refl H2) _ fun H3 e3 => ⟨p, k, xs, rfl, rfl, e3 _ _ hp, by omega, by omega, sz_of hz, fun l hl => q l _ (fresh_back (e2.trans e3) hl) ((e2.trans e3).trans (Ex.new hl)) upd_same⟩
theorem flat_one {α : Type} (n : Nat) (x : α) : (List.replicate n [x]).flatten = List.replicate n x := by
  induction n with
  | zero => rfl
  | succ n ih => rw [List.replicate_succ, List.flatten_cons, ih, List.replicate_succ]; rfl
theorem plainM_take {n i : Nat} {xs : List (List Int × List Wr)} {x : List Int × List Wr} (h : xs[i]? = some x) : plainM n (xs.take (i + 1)) = applyW (plainM n (xs.take i)) x := by
  unfold plainM
  rw [List.take_add_one, h, List.foldl_append]
  rfl
theorem length_plainM (n : Nat) (xs : List (List Int × List Wr)) : (plainM n xs).length = n := by
  unfold plainM
  have key : ∀ (l : List (List Int × List Wr)) (ws : List Int), (l.foldl applyW ws).length = ws.length := by
    intro l
    induction l with
    | nil => exact fun _ => rfl
    | cons x r ih => exact fun ws => (ih _).trans (length_applyW _ _)
  exact (key _ _).trans (List.length_replicate ..)
theorem pairs_noL (ps : List (Int × Int)) : noLs (ps.map pairD) = true := by
  induction ps with
  | nil => rfl
  | cons p r ih => exact (Bool.and_eq_true _ _).mpr ⟨rfl, ih⟩
theorem pair_da {M : Addr → Prop} {H : Hp} {v : V} {x : Int × Int} (h : Da M H v (pairD x)) : ∃ a, v = .ref a ∧ H a = some (.tup [.int x.1, .int x.2]) := by
  obtain ⟨a, xs, rfl, n, h0, l0⟩ := h.tup_of
  obtain ⟨x0, x1, rfl, d1, l1⟩ := l0.of_cons
  obtain ⟨y, x2, rfl, d2, l2⟩ := l1.of_cons
  obtain rfl := l2.of_nil
  rw [d1.int_of, d2.int_of] at h0
  exact ⟨a, rfl, h0⟩
/-- writes one after the other -/
def setW (ps : List (Int × Int)) (ws : List Int) : List Int := ps.foldl (fun acc p => acc.set p.1.toNat p.2) ws
theorem setW_take {ps : List (Int × Int)} {ws : List Int} {i : Nat} {p : Int × Int} (h : ps[i]? = some p) : setW (ps.take (i + 1)) ws = (setW (ps.take i) ws).set p.1.toNat p.2 := by
  unfold setW
  rw [List.take_add_one, h, List.foldl_append]
  rfl
theorem length_setW (ps : List (Int × Int)) : ∀ ws : List Int, (setW ps ws).length = ws.length := by
  induction ps with
  | nil => exact fun _ => rfl
  | cons p r ih => exact fun acc => (ih _).trans (List.length_set ..)
end KB
namespace K8
open PySem L2 KB Evl
section
variable {P : Program} {w : World} {K : PySem.W.Frag} {mg : Str → Option Value} {base : Heap} {f : Addr} {fd : FuncData}
theorem ok_plain {CB CD : Addr} (F : Fun K "plain" "plain" s_plain f fd) (T : Txt mg) (d_check_homes : Df P w K mg base 2 "check_homes" (spCheckHomes CB)) (d_check_deeds : Df P w K mg base 6 "check_deeds" (spCheckDeeds CD)) (d_written : Df P w K mg base 1 "written" spWritten) :
    FnOk P w K mg base (L2.CX P w) 7 f fd ps_plain (spPlain CB CD) := by
  refine F.okX sc_plain (fun vs H Q E h => ?_) (fun cdv A outer s H vs Q E hr h => ?_)
  · obtain ⟨M, h, v, dh, rfl, _⟩ := h
    rfl
  · obtain ⟨M, h, v, dh, rfl, hd, no, yes⟩ := h
    refine ⟨_, (pss_cons (ps_expr (pe_dX d_check_homes hr (by decide) (by rfl) (takes_of rfl rfl rfl rfl) (pa_cons (pv 0) pa_nil)))
      (pss_cons (ps_expr (pe_dX d_check_deeds hr (by decide) (by rfl) (takes_of rfl rfl rfl rfl) (pa_cons (pv 0) (pa_cons (pv 1) pa_nil))))
      (pss_cons (ps_set (i := 2) sc_plain.nd rfl (Or.inl rfl) (pe_op op_rep (pe_lst (pa_cons pe_int pa_nil)) (pe_callB call_len_seq (by rfl) T.z_len (by decide +kernel) (pa_cons (pv 0) pa_nil))))
      (pss_cons (ps_for (passes_of rfl) rfl (pi_tup (pv 1)) (pg_name (i := 3) sc_plain.nd rfl (by first | exact Or.inl rfl | exact Or.inr rfl)) (pss_cons (ps_set (i := 4) sc_plain.nd rfl (Or.inl rfl) (pe_d d_written hr (by decide) (by rfl) (pa_cons (pv 2) (pa_cons (pv 3) pa_nil))))
      (pss_one (ps_for (passes_of rfl) rfl (pi_list (pv 4)) (pg_tup (by rfl) (pgs_cons (pg_name (i := 5) sc_plain.nd rfl (by first | exact Or.inl rfl | exact Or.inr rfl)) (pgs_cons (pg_name (i := 6) sc_plain.nd rfl (by first | exact Or.inl rfl | exact Or.inr rfl)) pgs_nil))) (pss_one (ps_asg (pv 6) (pg_sub (pv 2) (pv 5) set_list)))))))
      (pss_one (ps_ret (pe_callTy call_tuple_of (by rfl) T.z_tuple (by decide +kernel) (pa_cons (pv 2) pa_nil)))))))), ?_⟩
    refine ⟨h, rfl, M, h, dh, rfl, hd, fun h1 H1 s1 => ?_, fun h1 H1 s1 => no h1 H1 s1⟩
    obtain ⟨ns, rfl, n1, n6, hb⟩ := homes_of h1
    obtain ⟨a, rfl, ha, _⟩ := homes_at hd
    obtain ⟨M', d, hv, fl, good, bad⟩ := yes h1
    have e : (ns.map V.int).length = nHomes (.tuple (ns.map PyData.int)) := by
      rw [List.length_map]
      exact (List.length_map ..).symm
    generalize hn : nHomes (.tuple (ns.map PyData.int)) = n at *
    have n6' : n ≤ 6 := by
      rw [← e, List.length_map]
      exact n6
    refine ⟨.ref a, rfl, v, rfl, M', a, ns.map V.int, v, d, rfl, s1 _ _ ha, by rw [List.length_map]; omega, hv.go (same_chg s1), fl, fun ds ed l60 all H2 s2 => ?_, fun j ee H2 b s2 he => bad j ee H2 (e ▸ b) (fun b o q => s2 b o (s1 b o q)) he⟩
    subst ed
    obtain ⟨xs, rfl, ok⟩ := deeds_of all
    rw [e] at ok
    have sm2 : Same H H2 := fun b o q => s2 b o (s1 b o q)
    obtain ⟨b, bx, rfl, _, hb2, lb⟩ := (hv.go (same_chg sm2)).tup_of
    have rep : EvL (tOp rRep (tLst (tCons (tC (V.int 0)) tNil)) (tCB (rLenS K) (tCons (tVar 0) tNil))) (L2.start ["homes", "deeds", "words", "deed", "wrote", "thing", "word"] [.ref a, .ref b]) H2 ((List.replicate n 0).map V.int) := by
      have q := el_rep (k := (n : Int)) (el_lst (H := H2) (σ := L2.start ["homes", "deeds", "words", "deed", "wrote", "thing", "word"] [.ref a, .ref b]) (ea_cons (ev_c (v := V.int 0)) ea_nil) (show 1 ≤ 100000 by decide)) (tb := tCB (rLenS K) (tCons (tVar 0) tNil)) (fun H3 e3 => ev_is (ev_lenT (ev_var rfl) (.of (e3 _ _ (sm2 _ _ ha)))) (by rw [e])) (by omega) (by omega) (show 1 * _ ≤ 100000 by omega)
      rw [flat_one, show ((n : Int)).toNat = n from by omega] at q
      rw [List.map_replicate]
      exact q
    refine q_asgL rep fun p H3 np e3 hp => ?_
    refine q_forT (ev_var rfl) (.of (e3 _ _ hb2)) (fun i σ H4 => ∃ x3 x4 x5 x6, σ = [some (.ref a), some (.ref b), some (.ref p), x3, x4, x5, x6] ∧ Same H2 H4 ∧ H4 p = some (.lst ((plainM n (xs.take i)).map V.int)))
      (fun H4 e4 => ⟨none, none, none, none, rfl, fun b o q => e4 b o (e3 b o q), e4 _ _ hp⟩) (fun i σ H4 _ ⟨_, _, _, _, _, sm, _⟩ => .of (sm _ _ hb2)) ?_ ?_
    · rintro i x σ H4 gx ⟨x3, x4, x5, x6, rfl, sm4, hp4⟩
      obtain ⟨d, gd, da⟩ := lb.get gx
      rw [List.getElem?_map] at gd
      obtain ⟨y, gy, rfl⟩ := Option.map_eq_some_iff.mp gd
      have oky := ok y (List.mem_of_getElem? gy)
      have da4 := da.go (M := M') (same_chg sm4)
      obtain ⟨ld, _, rfl, _⟩ := (show ∃ a xs, x = .ref a ∧ True from by
        obtain ⟨a, xs, e, _⟩ := da.tup_of
        exact ⟨a, xs, e, trivial⟩)
      have lw : (plainM n (xs.take i)).length = n := length_plainM _ _
      refine ⟨.ref p, rfl, .ref ld, rfl, M', p, ld, plainM n (xs.take i), y.1, y.2, rfl, hp4, da4, by rw [lw]; exact oky, fun q vs' H5 s5 nq hq dq => ?_⟩
      have pq : p ≠ q := ne_of_none hp4 nq
      have hp5 := s5 _ _ hp4
      have dq5 : DaL (orAt Nv p) H5 vs' ((writtenM (plainM n (xs.take i)) y.1 y.2).map pairD) := dq.offL hp5 (pairs_noL _)
      refine s_forL (ev_var rfl) (.of hq) (fun j σ H6 => ∃ x5 x6, σ = [some (.ref a), some (.ref b), some (.ref p), some (.ref ld), some (.ref q), x5, x6] ∧ Same H2 H6 ∧ Chg (orAt Nv p) H5 H6 ∧ H6 p = some (.lst ((setW ((writtenM (plainM n (xs.take i)) y.1 y.2).take j) (plainM n (xs.take i))).map V.int)))
        (fun H6 e6 => ⟨x5, x6, rfl, fun b o q => e6 b o (s5 b o (sm4 b o q)), ex_chg e6, e6 _ _ hp5⟩) (fun j σ H6 _ ⟨_, _, _, _, c, _⟩ => .of (c _ _ (fun z => z.elim (fun z => z) fun z => pq z.symm) hq)) ?_ ?_
      · rintro j z σ H6 gz ⟨x5, x6, rfl, sm6, c6, hp6⟩
        obtain ⟨pd, gp, dz⟩ := dq5.get gz
        rw [List.getElem?_map] at gp
        obtain ⟨pr, gr, rfl⟩ := Option.map_eq_some_iff.mp gp
        obtain ⟨ap, rfl, hap⟩ := pair_da (dz.go c6)
        refine ⟨ap, _, rfl, .of hap, rfl, _, _, rfl, _, _, rfl, rfl, ?_⟩
        have bnd : 0 ≤ pr.1 ∧ pr.1 < n := by
          have hm := List.mem_of_getElem? gr
          unfold writtenM at hm
          obtain ⟨wr, hwr, rfl⟩ := List.mem_map.mp hm
          have q := oky.wt wr hwr
          exact ⟨q.lo, q.hi⟩
        refine s_setL (j := pr.1.toNat) hp6 (ev_var rfl) (ev_var rfl) (ev_is (ev_var rfl) (show V.int pr.1 = _ by rw [show ((pr.1.toNat : Nat) : Int) = pr.1 from by omega])) (by rw [List.length_map, length_setW, lw]; omega) fun H7 e7 => ?_
        refine ⟨_, _, rfl, fun b o q => ?_, (c6.trans (ex_chg e7)).trans (Chg.put (.inr rfl)), ?_⟩
        · rw [upd_ne (ne_of_none q np)]
          exact e7 b o (sm6 b o q)
        · rw [upd_same, setW_take gr, List.map_set]
      · rintro σ H6 ⟨x5, x6, rfl, sm6, c6, hp6⟩
        refine ⟨_, _, _, _, rfl, sm6, ?_⟩
        rw [plainM_take gy, hp6]
        have len : vs'.length = (writtenM (plainM n (xs.take i)) y.1 y.2).length := by rw [dq.length, List.length_map]
        rw [len, List.take_length]
        rfl
    · rintro σ H4 ⟨x3, x4, x5, x6, rfl, sm4, hp4⟩
      have len : bx.length = xs.length := by rw [lb.length, List.length_map]
      rw [len, List.take_length] at hp4
      rw [List.length_map] at l60
      refine ⟨.ref p, rfl, p, _, rfl, .inl ⟨.of hp4, fun l hl => good xs l _ rfl l60 ok (fun b o q => ?_) ?_ upd_same⟩⟩
      · rw [upd_ne (ne_of_none (sm4 b o (sm2 b o q)) hl)]
        exact sm4 b o (sm2 b o q)
      · cases q : H l with
        | none => rfl
        | some o =>
          rw [sm4 l o (sm2 l o q)] at hl
          cases hl
end
end K8

set_option Elab.async false
set_option linter.all false
set_option maxRecDepth 100000
set_option maxHeartbeats 1000000
namespace K8
open PySem L2 KB Evl
section
variable {P : Program} {w : World} {K : PySem.W.Frag} {mg : Str → Option Value} {base : Heap} {f : Addr} {fd : FuncData}
theorem ok_law_taken (F : Fun K "_law_taken" "_law_taken" s__law_taken f fd) (T : Txt mg) : FnOk P w K mg base (L2.CX P w) 1 f fd ps__law_taken (spTaken K) := by
  refine F.okX sc__law_taken (fun vs H Q E h => ?_) (fun cdv A outer s H vs Q E hr h => ?_)
  · obtain ⟨S, r, many, rfl, _⟩ := h
    rfl
  · obtain ⟨⟨a, ns⟩, r, many, rfl, ⟨⟨pos, seed, rest, hrow, hp0, hs0, hs1⟩, nar, hns, hlen⟩, hm0, hm1, k⟩ := h
    simp only at hrow nar hns hlen
    refine ⟨_, (pss_cons (ps_if (pt_cmpR op_gt (pe_ix ix_list (pv 0) pe_int (fun _ _ => rfl)) pe_int (nomark _)) (pss_cons (ps_set (i := 2) sc__law_taken.nd rfl (Or.inl rfl) (pe_op op_mod (pe_callTy call_int1 (by rfl) T.z_int (by decide +kernel) (pa_cons (pe_ix ix_list (pv 0) pe_int (fun _ _ => rfl)) pa_nil)) (pv 1)))
      (pss_cons (ps_asg (pe_op op_fdiv (pe_ix ix_list (pv 0) pe_int (fun _ _ => rfl)) (pv 1)) (pg_sub (pv 0) pe_int set_list))
      (pss_one (ps_ret (pv 2))))) pss_nil)
      (pss_cons (ps_asg (pe_op op_add (pe_ix ix_list (pv 0) pe_int (fun _ _ => rfl)) pe_int) (pg_sub (pv 0) pe_int set_list))
      (pss_cons (ps_if (pt_cmpR op_gt (pe_ix ix_list (pv 0) pe_int (fun _ _ => rfl)) (pe_callB call_len_seq (by rfl) T.z_len (by decide +kernel) (pa_cons (pe_ix ix_list (pv 0) pe_int (fun _ _ => rfl)) pa_nil)) (nomark _)) (pss_cons (ps_asg (pe_op op_mod (pe_callTy call_int1 (by rfl) T.z_int (by decide +kernel) (pa_cons (pe_op op_add (pe_op op_mul (pe_ix ix_list (pv 0) pe_int (fun _ _ => rfl)) pe_int) pe_int) pa_nil)) pe_int) (pg_sub (pv 0) pe_int set_list))
      (pss_one (ps_ret (pe_op op_mod (pe_callTy call_int1 (by rfl) T.z_int (by decide +kernel) (pa_cons (pe_op op_fdiv (pe_ix ix_list (pv 0) pe_int (fun _ _ => rfl)) pe_int) pa_nil)) (pv 1))))) pss_nil)
      (pss_cons (ps_set (i := 3) sc__law_taken.nd rfl (Or.inl rfl) (pe_ix ix_list (pe_ix ix_list (pv 0) pe_int (fun _ _ => rfl)) (pe_op op_sub (pe_ix ix_list (pv 0) pe_int (fun _ _ => rfl)) pe_int) (fun _ _ => rfl)))
      (pss_cons (ps_asg (pe_op op_mod (pe_callTy call_int1 (by rfl) T.z_int (by decide +kernel) (pa_cons (pe_op op_add (pe_op op_add (pe_op op_mul (pe_ix ix_list (pv 0) pe_int (fun _ _ => rfl)) pe_int) (pv 3)) pe_int) pa_nil)) pe_int) (pg_sub (pv 0) pe_int set_list))
      (pss_cons (ps_if (pt_cmpR op_ge (pv 3) (pe_op op_pow pe_int pe_int) (nomark _)) (pss_one (ps_asg (pe_op op_fdiv (pv 3) (pv 1)) (pg_sub (pv 0) pe_int set_list))) pss_nil)
      (pss_one (ps_ret (pe_op op_mod (pe_callTy call_int1 (by rfl) T.z_int (by decide +kernel) (pa_cons (pv 3) pa_nil)) (pv 1)))))))))), ?_⟩
    have ix : ∀ {σ : L2.St} {H : Hp} {xs : List V} {j : Nat} {v : V}, σ[0]? = some (some (.ref r)) → H r = some (.lst xs) → xs[j]? = some v → Ev (tOp (rIxL K) (tVar 0) (tC (.int (j : Int)))) σ H v := fun h0 hh hx => ev_op (ev_var h0) ev_c (rv_ixL (.of hh) (atI_nat hx))
    -- the end of each way: some row stands at r
    have fin : ∀ (n : Int) (H3 : Hp) (pos seed rest : Int), 0 ≤ n → n < many → Chg (Is r) H H3 → H3 r = some (.lst [.ref a, .int pos, .int seed, .int rest]) → 0 ≤ pos → 0 ≤ seed → seed < 2147483647 → Q (.int n) H3 :=
      fun n H3 pos seed rest n0 n1 c h3 p0 s0 s1 => k n H3 n0 n1 c ⟨⟨pos, seed, rest, h3, p0, s0, s1⟩, nar, sqL_row hns nar c, hlen⟩
    refine q_when (et_test (ev_op (ix (j := 3) rfl hrow rfl) ev_c rv_I0)) (fun hb H1 e1 => ?_) (fun hb H1 e1 => ?_)
    · refine q_asg (ev_op (ev_int1 (ix (j := 3) rfl (e1 _ _ hrow) rfl)) (ev_var rfl) (rv_I hm0)) fun H2 e2 => ?_
      have h2 := e2 _ _ (e1 _ _ hrow)
      refine q_setL (j := 3) h2 (ev_op (ix (j := 3) rfl h2 rfl) (ev_var rfl) (rv_I ⟨hm0, hm1⟩)) (ev_var rfl) ev_c (show 3 < 4 by decide) fun H3 e3 => ?_
      refine s_ret (ev_var rfl) fun H4 e4 => ?_
      exact fin _ H4 pos seed _ (Int.emod_nonneg _ (by omega)) (Int.emod_lt_of_pos _ hm0) ((((ex_chg (e1.trans e2)).trans (ex_chg e3)).trans (Chg.put (M := Is r) rfl)).trans (ex_chg e4)) (e4 _ _ upd_same) hp0 hs0 hs1
    · have h1 := e1 _ _ hrow
      refine q_setL (j := 1) h1 (ev_op (ix (j := 1) rfl h1 rfl) ev_c rv_I0) (ev_var rfl) ev_c (show 1 < 4 by decide) fun H2 e2 => ?_
      have c2 : Chg (Is r) H (upd H2 r (.lst ([V.ref a, .int pos, .int seed, .int rest].set 1 (.int (pos + 1))))) := ((ex_chg e1).trans (ex_chg e2)).trans (Chg.put rfl)
      generalize hG : upd H2 r (.lst ([V.ref a, .int pos, .int seed, .int rest].set 1 (.int (pos + 1)))) = G at c2 ⊢
      have g0 : G r = some (.lst [.ref a, .int (pos + 1), .int seed, .int rest]) := by rw [← hG]; exact upd_same
      clear hG e1 e2 h1
      have n0 := sqL_row hns nar c2
      refine q_when (et_test (ev_op (ix (j := 1) rfl g0 rfl) (ev_len (ix (j := 0) rfl g0 rfl) n0) rv_I0)) (fun hb2 H3 e3 => ?_) (fun hb2 H3 e3 => ?_)
      · have h3 := e3 _ _ g0
        refine q_setL (j := 2) h3 (ev_op (ev_int1 (ev_op (ev_op (ix (j := 2) rfl h3 rfl) ev_c (rv_I (.inr (by decide)))) ev_c rv_I0)) ev_c (rv_I (by decide))) (ev_var rfl) ev_c (show 2 < 4 by decide) fun H4 e4 => ?_
        refine s_ret (ev_op (ev_int1 (ev_op (ix (j := 2) rfl upd_same rfl) ev_c (rv_I ⟨by decide, by decide⟩))) (ev_var rfl) (rv_I hm0)) fun H5 e5 => ?_
        exact fin _ H5 (pos + 1) _ rest (Int.emod_nonneg _ (by omega)) (Int.emod_lt_of_pos _ hm0) ((((c2.trans (ex_chg e3)).trans (ex_chg e4)).trans (Chg.put (M := Is r) rfl)).trans (ex_chg e5)) (e5 _ _ upd_same) (by omega) (Int.emod_nonneg _ (by decide)) (Int.emod_lt_of_pos _ (by decide))
      · have h3 := e3 _ _ g0
        have n3 := ex_l e3 n0
        have inr : pos + 1 ≤ ((ns.map V.int).length : Int) := by
          have z := of_decide_eq_false hb2
          omega
        rw [List.length_map] at inr
        have e : pos + 1 - 1 = ((pos.toNat : Nat) : Int) := by omega
        have hlt : pos.toNat < ns.length := by omega
        have gx : atI (ns.map V.int) (pos + 1 - 1) = some (.int ns[pos.toNat]) := by
          rw [e]
          refine atI_nat ?_
          rw [List.getElem?_map, List.getElem?_eq_getElem hlt, Option.map_some]
        refine q_asg (ev_op (ix (j := 0) rfl h3 rfl) (ev_op (ix (j := 1) rfl h3 rfl) ev_c rv_I0) (rv_ixL n3 gx)) fun H4 e4 => ?_
        have h4 := e4 _ _ h3
        refine q_setL (j := 2) h4 (ev_op (ev_int1 (ev_op (ev_op (ev_op (ix (j := 2) rfl h4 rfl) ev_c (rv_I (.inr (by decide)))) (ev_var rfl) rv_I0) ev_c rv_I0)) ev_c (rv_I (by decide))) (ev_var rfl) ev_c (show 2 < 4 by decide) fun H5 e5 => ?_
        have c5 := (((c2.trans (ex_chg e3)).trans (ex_chg e4)).trans (ex_chg e5)).trans (Chg.put (M := Is r) (p := r) (o := .lst ([V.ref a, .int (pos + 1), .int seed, .int rest].set 2 (.int ((seed * 48271 + ns[pos.toNat] + 11) % 2147483647)))) rfl)
        refine q_when (et_test (ev_op (ev_var rfl) (ev_op ev_c ev_c (rv_I ⟨by decide, by decide, by decide⟩)) rv_I0)) (fun hb3 H6 e6 => ?_) (fun hb3 H6 e6 => ?_)
        · have h6 := e6 _ _ (upd_same (H := H5) (a := r))
          refine s_setL (j := 3) h6 (ev_op (ev_var rfl) (ev_var rfl) (rv_I ⟨hm0, hm1⟩)) (ev_var rfl) ev_c (show 3 < 4 by decide) fun H7 e7 => ?_
          dsimp only
          refine s_ret (ev_op (ev_int1 (ev_var rfl)) (ev_var rfl) (rv_I hm0)) fun H8 e8 => ?_
          exact fin _ H8 (pos + 1) _ _ (Int.emod_nonneg _ (by omega)) (Int.emod_lt_of_pos _ hm0) ((((c5.trans (ex_chg e6)).trans (ex_chg e7)).trans (Chg.put (M := Is r) rfl)).trans (ex_chg e8)) (e8 _ _ upd_same) (by omega) (Int.emod_nonneg _ (by decide)) (Int.emod_lt_of_pos _ (by decide))
        · refine s_ret (ev_op (ev_int1 (ev_var rfl)) (ev_var rfl) (rv_I hm0)) fun H8 e8 => ?_
          exact fin _ H8 (pos + 1) _ rest (Int.emod_nonneg _ (by omega)) (Int.emod_lt_of_pos _ hm0) ((c5.trans (ex_chg e6)).trans (ex_chg e8)) (e8 _ _ (e6 _ _ upd_same)) (by omega) (Int.emod_nonneg _ (by decide)) (Int.emod_lt_of_pos _ (by decide))
end
end K8

set_option Elab.async false
set_option linter.all false
set_option maxRecDepth 100000
set_option maxHeartbeats 1000000
namespace K8
open PySem L2 KB Evl
section
variable {P : Program} {w : World} {K : PySem.W.Frag} {mg : Str → Option Value} {base : Heap} {f : Addr} {fd : FuncData}
theorem ok_law_pick (F : Fun K "_law_pick" "_law_pick" s__law_pick f fd) (T : Txt mg) (d__law_taken : Df P w K mg base 1 "_law_taken" (spTaken K)) : FnOk P w K mg base (L2.CX P w) 2 f fd ps__law_pick (spPick K) := by
  refine F.okX sc__law_pick (fun vs H Q E h => ?_) (fun cdv A outer s H vs Q E hr h => ?_)
  · obtain ⟨S, r, l, xs, rfl, _⟩ := h
    rfl
  · obtain ⟨S, r, l, xs, rfl, row, nlr, hl, h0, h1, k⟩ := h
    refine ⟨_, (pss_one (ps_ret (pe_ix ix_list (pv 1) (pe_d d__law_taken hr (by decide) (by rfl) (pa_cons (pv 0) (pa_cons (pe_callB call_len_seq (by rfl) T.z_len (by decide +kernel) (pa_cons (pv 1) pa_nil)) pa_nil))) (fun _ _ => rfl)))), ?_⟩
    refine ⟨_, rfl, _, rfl, _, rfl, _, _, rfl, .inl (.of hl), S, r, _, rfl, row, by omega, by omega, fun n H1 n0 n1 c row1 => ?_⟩
    have hlt : n.toNat < xs.length := by omega
    refine ⟨l, xs, n, xs[n.toNat], rfl, rfl, .of (c _ _ nlr hl), ?_, k n.toNat _ H1 (List.getElem?_eq_getElem hlt) c row1⟩
    have q := atI_nat (xs := xs) (j := n.toNat) (List.getElem?_eq_getElem hlt)
    rwa [show ((n.toNat : Nat) : Int) = n from by omega] at q
theorem ok_law_homes (F : Fun K "_law_homes" "_law_homes" s__law_homes f fd) (T : Txt mg) (d__law_taken : Df P w K mg base 1 "_law_taken" (spTaken K)) : FnOk P w K mg base (L2.CX P w) 2 f fd ps__law_homes (spLawHomes K) := by
  refine F.okX sc__law_homes (fun vs H Q E h => ?_) (fun cdv A outer s H vs Q E hr h => ?_)
  · obtain ⟨S, r, rfl, _⟩ := h
    rfl
  · obtain ⟨S, r, rfl, row, k⟩ := h
    refine ⟨_, (pss_cons (ps_set (i := 1) sc__law_homes.nd rfl (Or.inr rfl) (pe_op op_add pe_int (pe_d d__law_taken hr (by decide) (by rfl) (pa_cons (pv 0) (pa_cons pe_int pa_nil)))))
      (pss_one (ps_ret (pe_callTy call_tuple_of (by rfl) T.z_tuple (by decide +kernel) (pa_cons (pe_lc (own := [("turn", 2)]) rfl sc__law_homes.nd (pi_range1 (by rfl) T.z_range (pa_cons (pe_op op_add pe_int (pe_d d__law_taken hr (by decide) (by rfl) (pa_cons (pv 0) (pa_cons pe_int pa_nil)))) pa_nil)) (blkOk_by (N := ["row", "houses", "turn"]) (sc := defScope s__law_homes) (by decide +kernel)) (fun _ _ _ _ _ => (pg_name (i := 2) sc__law_homes.nd rfl (by first | exact Or.inl rfl | exact Or.inr rfl))) (fun _ _ _ _ _ => pts_nil) (fun _ _ _ _ _ => (pe_d d__law_taken hr (by decide) (by rfl) (pa_cons (pv 0) (pa_cons (pv 1) pa_nil))))) pa_nil))))), ?_⟩
    refine ⟨_, rfl, S, r, 4, rfl, row, by decide, by decide, fun n H1 n0 n1 c1 row1 => ⟨1, n, rfl, rfl, ?_⟩⟩
    refine ⟨_, rfl, S, r, 5, rfl, row1, by decide, by decide, fun m H2 m0 m1 c2 row2 => ⟨1, m, rfl, rfl, 1 + m, rfl, by omega, by omega, fun D hD => ?_⟩⟩
    refine lc_taken (many := 1 + n) row2 (by omega) (by omega) (by omega) hD (fun _ => rfl) (fun _ => rfl) (fun x H3 c3 => ev_var rfl) fun ns H3 hl hb c3 row3 h3 => ?_
    refine ⟨D, _, rfl, .inl ⟨.of h3, fun a ha => ?_⟩⟩
    have na : H a = none := by
      have z2 : H2 a = none := c3.free (row3.ne_new ha) ha
      have z1 : H1 a = none := c2.free (row2.ne_new z2) z2
      exact c1.free (row1.ne_new z1) z1
    refine k a ns _ (by omega) (by omega) (fun x hx => ?_) (((c1.trans c2).trans c3).trans (Chg.new ha)) (row3.same (Same.new ha)) na upd_same
    have q := hb x hx
    omega
theorem ok_law_things (F : Fun K "_law_things" "_law_things" s__law_things f fd) (T : Txt mg) (d__law_taken : Df P w K mg base 1 "_law_taken" (spTaken K)) : FnOk P w K mg base (L2.CX P w) 2 f fd ps__law_things (spThings K) := by
  refine F.okX sc__law_things (fun vs H Q E h => ?_) (fun cdv A outer s H vs Q E hr h => ?_)
  · obtain ⟨S, r, h, hs, least, most, rfl, _⟩ := h
    rfl
  · obtain ⟨S, r, h, hs, least, most, rfl, row, hh, h1, h6, l10, m1, m10, k⟩ := h
    refine ⟨_, (pss_one (ps_ret (pe_callTy call_tuple_of (by rfl) T.z_tuple (by decide +kernel) (pa_cons (pe_callB (cr_sortedSet rfl) (by rfl) T.z_sorted (by decide +kernel) (pa_cons (pe_callTy (cr_setL rfl) (by rfl) T.z_set (by decide +kernel) (pa_cons (pe_lc (own := [("turn", 4)]) rfl sc__law_things.nd (pi_range1 (by rfl) T.z_range (pa_cons (pe_op op_add (pv 2) (pe_d d__law_taken hr (by decide) (by rfl) (pa_cons (pv 0) (pa_cons (pv 3) pa_nil)))) pa_nil)) (blkOk_by (N := ["row", "homes", "least", "most", "turn"]) (sc := defScope s__law_things) (by decide +kernel)) (fun _ _ _ _ _ => (pg_name (i := 4) sc__law_things.nd rfl (by first | exact Or.inl rfl | exact Or.inr rfl))) (fun _ _ _ _ _ => pts_nil) (fun _ _ _ _ _ => (pe_d d__law_taken hr (by decide) (by rfl) (pa_cons (pv 0) (pa_cons (pe_callB (call_len_seq : CallR _ (.builtin "len") (Evl.rLenS K)) (by rfl) T.z_len (by decide +kernel) (pa_cons (pv 1) pa_nil)) pa_nil))))) pa_nil)) pa_nil)) pa_nil)))), ?_⟩
    refine ⟨_, rfl, _, rfl, _, rfl, S, r, _, rfl, row, by omega, by omega, fun n H1 n0 n1 c1 row1 => ⟨_, _, rfl, rfl, _, rfl, by omega, by omega, fun D hD => ?_⟩⟩
    have hh1 := c1 _ _ (row.ne_tup hh) hh
    refine lc_taken (many := (hs.length : Int)) row1 (by omega) (by omega) (by omega) hD (fun _ => rfl) (fun _ => rfl) (fun x H3 c3 => ev_lenT (ev_var rfl) (.of (c3 _ _ (row1.ne_tup hh1) hh1))) fun ns H3 hl hb c3 row3 h3 => ?_
    refine ⟨D, ns, rfl, .of h3, by omega, fun p c hp hc => ?_⟩
    refine ⟨p, _, c, rfl, upd_same, by omega, fun ts q hs1 hm hlen hq => ?_⟩
    have row4 := row3.same (Same.new (o := SetO w p (fun j => decide (j ∈ ns)) c) hp)
    refine ⟨q, _, rfl, .inl ⟨.of upd_same, fun a ha => ?_⟩⟩
    have row5 := row4.same (Same.new (o := .lst (ts.map V.int)) hq)
    have c5 := (((c1.trans c3).trans (Chg.new hp)).trans (Chg.new (o := .lst (ts.map V.int)) hq))
    have na : H a = none := c5.free (row5.ne_new ha) ha
    refine k a ts _ hs1 (fun x hx => ?_) (by omega) (fun h => ?_) (c5.trans (Chg.new ha)) (row5.same (Same.new ha)) na upd_same
    · exact hb x (of_decide_eq_true ((hm x).mp hx))
    · cases hns : ns with
      | nil =>
        rw [hns] at hl
        simp at hl
        omega
      | cons y ys =>
        have z : y ∈ ts := (hm y).mpr (decide_eq_true (by rw [hns]; exact List.mem_cons_self))
        exact List.length_pos_of_mem z
theorem mem2 {v : V} {i : Nat} (h : ([V.str "word", .str "sum"] : List V)[i]? = some v) : ∃ s : Str, v = .str s ∧ (s = "word" ∨ s = "sum") := by
  match i, h with
  | 0, h => exact ⟨_, (Option.some.inj h).symm, .inl rfl⟩
  | 1, h => exact ⟨_, (Option.some.inj h).symm, .inr rfl⟩
theorem mem5 {v : V} {i : Nat} {n : Int} (n0 : 0 ≤ n) (n1 : n < 1000) (h : ([V.int 0, .int 1, .int 7, .int 999, .int n] : List V)[i]? = some v) : ∃ k : Int, v = .int k ∧ 0 ≤ k ∧ k ≤ 999 := by
  match i, h with
  | 0, h => exact ⟨_, (Option.some.inj h).symm, by decide, by decide⟩
  | 1, h => exact ⟨_, (Option.some.inj h).symm, by decide, by decide⟩
  | 2, h => exact ⟨_, (Option.some.inj h).symm, by decide, by decide⟩
  | 3, h => exact ⟨_, (Option.some.inj h).symm, by decide, by decide⟩
  | 4, h => exact ⟨_, (Option.some.inj h).symm, n0, by omega⟩
theorem rising_of : ∀ {ts : List Int}, ts.Pairwise (· < ·) → rising ts = true
  | [], _ => rfl
  | [_], _ => rfl
  | a :: b :: r, h => by
    obtain ⟨h1, h2⟩ := List.pairwise_cons.mp h
    show (decide (a < b) && rising (b :: r)) = true
    rw [decide_eq_true (h1 b List.mem_cons_self), rising_of h2]
    rfl
theorem wD_noL (ws : List Wr) : noLs (ws.map wD) = true := by
  induction ws with
  | nil => rfl
  | cons x r ih => rw [List.map_cons, noLs, ih]; rfl
theorem ints_noL (ws : List Int) : noLs (ws.map PyData.int) = true := by
  induction ws with
  | nil => rfl
  | cons x r ih => rw [List.map_cons, noLs, ih]; rfl
theorem ok_law_deed (F : Fun K "_law_deed" "_law_deed" s__law_deed f fd) (T : Txt mg) (d__law_taken : Df P w K mg base 1 "_law_taken" (spTaken K)) (d__law_pick : Df P w K mg base 2 "_law_pick" (spPick K)) (d__law_things : Df P w K mg base 2 "_law_things" (spThings K)) :
    FnOk P w K mg base (L2.CX P w) 3 f fd ps__law_deed (spLawDeed K) := by
  refine F.okX sc__law_deed (fun vs H Q E h => ?_) (fun cdv A outer s H vs Q E hr h => ?_)
  · obtain ⟨S, r, h, hs, rfl, _⟩ := h
    rfl
  · obtain ⟨S, r, h, hs, rfl, row, hh, h1, h6, k⟩ := h
    refine ⟨_, (pss_cons (ps_set (i := 2) sc__law_deed.nd rfl (Or.inl rfl) (pe_lst pa_nil))
      (pss_cons (ps_for (passes_of rfl) rfl (pi_tup (pe_d d__law_things hr (by decide) (by rfl) (pa_cons (pv 0) (pa_cons (pv 1) (pa_cons pe_int (pa_cons pe_int pa_nil)))))) (pg_name (i := 3) sc__law_deed.nd rfl (by first | exact Or.inl rfl | exact Or.inr rfl)) (pss_one (ps_expr (pe_bm PySem.F.plainAttrs_list PySem.F.slot_list_append PySem.F.type_list_append mt_append (pv 2) (pa_cons (pe_tup (pa_cons (pv 3) (pa_cons (pe_d d__law_pick hr (by decide) (by rfl) (pa_cons (pv 0) (pa_cons (pe_lst (pa_cons pe_str (pa_cons pe_str pa_nil))) pa_nil))) (pa_cons (pe_d d__law_pick hr (by decide) (by rfl) (pa_cons (pv 0) (pa_cons (pe_lst (pa_cons pe_int (pa_cons pe_int (pa_cons pe_int (pa_cons pe_int (pa_cons (pe_d d__law_taken hr (by decide) (by rfl) (pa_cons (pv 0) (pa_cons pe_int pa_nil))) pa_nil)))))) pa_nil))) pa_nil)))) pa_nil)))))
      (pss_one (ps_ret (pe_tup (pa_cons (pe_d d__law_things hr (by decide) (by rfl) (pa_cons (pv 0) (pa_cons (pv 1) (pa_cons pe_int (pa_cons pe_int pa_nil))))) (pa_cons (pe_callTy call_tuple_of (by rfl) T.z_tuple (by decide +kernel) (pa_cons (pv 2) pa_nil)) pa_nil))))))), ?_⟩
    refine q_asgL (el_lst ea_nil (Nat.zero_le _)) fun W H1 nW e1 hW => ?_
    have row1 := row.same e1
    have hh1 := e1 _ _ hh
    refine ⟨_, rfl, _, rfl, S, r, h, hs, 1, 2, rfl, row1, hh1, h1, h6, by decide, by decide, by decide, fun a ts H2 pw hb hl hl1 c2 row2 na ha => ⟨a, rfl, ⟨_, .of ha⟩, ?_⟩⟩
    have nrW : ¬ Is r W := row.ne_new nW
    have hW2 := c2 _ _ nrW hW
    have ch2 : Chg (Is r) H H2 := (ex_chg e1).trans c2
    have naW : a ≠ W := fun z => ne_of ha hW2 (fun q => nomatch q) z
    have hh2 := c2 _ _ (row1.ne_tup hh1) hh1
    have nhW : h ≠ W := fun z => ne_of hh2 hW2 (fun q => nomatch q) z
    refine for_it walk_tup (fun i σ H3 => ∃ (x3 : Option V) (vs : List V) (wd : List Wr), σ = [some (.ref r), some (.ref h), some (.ref W), x3] ∧ Chg (orAt (Is r) W) H2 H3 ∧ RowAt K S H3 r ∧ H3 W = some (.lst vs) ∧ DaL (orAt (Is r) W) H3 vs (wd.map wD) ∧ wd.map (·.1) = ts.take i ∧ ∀ x ∈ wd, OkWr hs.length x)
      ⟨none, [], [], rfl, Chg.refl _, row2, hW2, .nil, rfl, fun x hx => nomatch hx⟩ (fun i σ H3 _ ⟨_, _, _, _, c3, _⟩ => .of (c3 _ _ (fun z => z.elim (row2.ne_tup ha) naW) ha)) ?_ ?_
    · rintro i x σ H0 H3 hi ⟨x3, vs, wd, rfl, c3, row3, hW3, hv, hwd, hok⟩ ⟨rfl, gx⟩
      rw [List.getElem?_map] at gx
      obtain ⟨t, gt, rfl⟩ := Option.map_eq_some_iff.mp gx
      have few : vs.length ≤ 2 := by
        rw [hv.length, List.length_map]
        have q := congrArg List.length hwd
        rw [List.length_map, List.length_take] at q
        omega
      refine ⟨_, rfl, .inl ⟨rfl, _, .of hW3⟩, _, rfl, _, rfl, (show 2 ≤ sizeLine by decide), fun l1 hl1 => ⟨S, r, l1, _, rfl, row3.same (Same.new hl1), fun z => row3.ne_new hl1 z, upd_same, by decide, by decide, fun i1 v1 H4 g1 c4 row4 => ?_⟩⟩
      refine ⟨_, rfl, _, rfl, S, r, 1000, rfl, row4, by decide, by decide, fun n H5 n0 n1 c5 row5 => ⟨(show 5 ≤ sizeLine by decide), fun l2 hl2 => ⟨S, r, l2, _, rfl, row5.same (Same.new hl2), fun z => row5.ne_new hl2 z, upd_same, (show 0 < 5 by decide), (show 5 ≤ 1000 by decide), fun i2 v2 H6 g2 c6 row6 => ⟨(show 3 ≤ sizeLine by decide), fun T hT => ?_⟩⟩⟩⟩
      obtain ⟨s1, rfl, hs1⟩ := mem2 g1
      obtain ⟨k2, rfl, k0, k9⟩ := mem5 n0 n1 g2
      have c36 : Chg (Is r) H3 H6 := ((((Chg.new hl1).trans c4).trans c5).trans (Chg.new hl2)).trans c6
      have row7 := row6.same (Same.new (o := .tup [.int t, .str s1, .int k2]) hT)
      have c37 : Chg (Is r) H3 (upd H6 T (.tup [.int t, .str s1, .int k2])) := c36.trans (Chg.new hT)
      have hW7 := c37 _ _ nrW hW3
      refine ⟨W, vs, .ref T, rfl, rfl, hW7, Nat.lt_of_le_of_lt few (by decide), ?_⟩
      have cE : Chg (orAt (Is r) W) H3 (upd (upd H6 T (.tup [.int t, .str s1, .int k2])) W (.lst (vs ++ [.ref T]))) := (c37.mono fun _ z => .inl z).trans (Chg.put (.inr rfl))
      have TW : T ≠ W := fun z => by
        have q := c36 _ _ nrW hW3
        rw [← z, hT] at q
        cases q
      have Tr : ¬ Is r T := row6.ne_new hT
      refine ⟨_, _, wd ++ [(t, s1, k2)], rfl, c3.trans cE, ?_, upd_same, ?_, ?_, ?_⟩
      · obtain ⟨p, sd, rs, q1, q2⟩ := row7.at_
        refine ⟨⟨p, sd, rs, (upd_ne fun z => nrW z.symm).trans q1, q2⟩, row7.ne, ?_, row7.few⟩
        rcases row.scr with (z | ⟨o, z⟩) | z
        · exact sqL_chg (M := Is W) row7.scr (fun e => ne_of_none z nW e) (Chg.put rfl)
        · exact sqL_chg (M := Is W) row7.scr (fun e => ne_of_none z nW e) (Chg.put rfl)
        · exact .inr z
      · rw [List.map_append]
        exact (hv.go cE).append (.cons (.tup (fun z => z.elim Tr TW) ((upd_ne TW).trans upd_same) (.cons (.int _) (.cons (.str _) (.cons (.int _) .nil)))) .nil)
      · rw [List.map_append, hwd, List.take_add_one, gt]
        rfl
      · intro x hx
        rcases List.mem_append.mp hx with z | z
        · exact hok x z
        · rw [List.mem_singleton.mp z]
          have q := hb t (List.mem_of_getElem? gt)
          exact ⟨q.1, q.2, hs1, k0, k9⟩
    · rintro σ H3 ⟨x3, vs, wd, rfl, c3, row3, hW3, hv, hwd, hok⟩
      rw [List.length_map, List.take_length] at hwd
      have hh3 := c3 _ _ (fun z => z.elim (row2.ne_tup hh2) nhW) hh2
      refine ⟨_, rfl, _, rfl, S, r, h, hs, 0, 3, rfl, row3, hh3, h1, h6, by decide, by decide, by decide, fun b rs H4 pw4 hb4 hl4 _ c4 row4 nb hb' => ?_⟩
      have hW4 := c4 _ _ nrW hW3
      refine ⟨_, rfl, W, vs, rfl, .inl ⟨.of hW4, fun c hc => ⟨(show 2 ≤ sizeLine by decide), fun d hd => ?_⟩⟩⟩
      have cc : Chg (orAt (Is r) W) H2 (upd (upd H4 c (.tup vs)) d (.tup [.ref b, .ref c])) := ((c3.trans (c4.mono fun _ z => .inl z)).trans (Chg.new hc)).trans (Chg.new hd)
      have row5 := (row4.same (Same.new (o := .tup vs) hc)).same (Same.new (o := .tup [.ref b, .ref c]) hd)
      have lw : wd.length = ts.length := by
        have q := congrArg List.length hwd
        rwa [List.length_map] at q
      have ncd : c ≠ d := fun z => by
        rw [← z, upd_same] at hd
        cases hd
      have hb5 : (upd (upd H4 c (.tup vs)) d (.tup [.ref b, .ref c])) b = some (.tup (rs.map V.int)) := Same.new hd _ _ (Same.new hc _ _ hb')
      have hc5 : (upd (upd H4 c (.tup vs)) d (.tup [.ref b, .ref c])) c = some (.tup vs) := (upd_ne ncd).trans upd_same
      refine k d rs wd _ ⟨by omega, by have := hl1 (by decide); omega, by omega, hb4, hok, rising_of pw4, by rw [hwd]; exact rising_of pw⟩ (ch2.hide cc nW) row5 ?_
      have nv : DaL Nv (upd (upd H4 c (.tup vs)) d (.tup [.ref b, .ref c])) vs (wd.map wD) := (hv.go (((c4.mono fun _ z => .inl z).trans (Chg.new hc)).trans (Chg.new hd))).weak fun _ z => z.elim
      exact row5.da (.tup (fun z => z) upd_same (.cons (.tup (fun z => z) hb5 DaL.ints) (.cons (.tup (fun z => z) hc5 nv) .nil))) (by simp only [deedD, noL, noLs, ints_noL, wD_noL, Bool.and_self])
end
end K8

set_option Elab.async false
set_option linter.all false
set_option maxRecDepth 100000
set_option maxHeartbeats 1000000
namespace KB
open PySem L2 Evl
section
variable {K : PySem.W.Frag} {σ : L2.St} {H : Hp} {ta tb : TE} {M : Addr → Prop} {x : V} {d : PyData} {T T' : String} {b b' : Bool}
theorem ev_isi (h : Ev ta σ H x) (hd : Da M H x d) (hk : PySem.W.kitOne K (.type (tyD d)) (.type T) = some b) : Ev (tCB (rIsi K) (tCons ta (tCons (tC (.ty T)) tNil))) σ H (.bl b) := fun H1 e Q q =>
  h H1 e _ fun H2 e2 => ⟨x, .ty T, _, _, b, rfl, .ty T, (hd.go (M := M) (ex_chg (e.trans e2))).ty, hk, q H2 e2⟩
/-- isinstance(x, (T, T')) -/
theorem ev_isiT2 (h : Ev ta σ H x) (hd : Da M H x d) (hk : PySem.W.kitAny K (.type (tyD d)) [.type T, .type T'] = some b) : Ev (tCB (rIsiT K) (tCons ta (tCons (tTup (tCons (tC (.ty T)) (tCons (tC (.ty T')) tNil))) tNil))) σ H (.bl b) := fun H1 e Q q =>
  h H1 e _ fun H2 e2 => ⟨(show 2 ≤ sizeLine by decide), fun p hp => ⟨x, p, _, _, _, b, rfl, upd_same, .cons (.ty T) (.cons (.ty T') .nil), ((hd.go (M := M) (ex_chg (e.trans e2))).go (M := M) (Chg.new hp)).ty, hk, q _ (e2.trans (Ex.new hp))⟩⟩
theorem kit2 {t : Value} {a c : Bool} {u u' : Value} (h1 : PySem.W.kitOne K t u = some a) (h2 : PySem.W.kitOne K t u' = some c) : PySem.W.kitAny K t [u, u'] = some (a || c) := by
  cases a <;> cases c <;> simp [PySem.W.kitAny, h1, h2]
end
/-- two ints that are the same -/
def spAlike0 : Sp := fun vs H Q _ => ∃ i : Int, vs = [.int i, .int i] ∧ ∀ H', Same H H' → Q (.bl true) H'
/-- two tuples of the same ints -/
def spAlike1 : Sp := fun vs H Q _ => ∃ (a b : Addr) (ns : List Int), vs = [.ref a, .ref b] ∧ H a = some (.tup (ns.map V.int)) ∧ H b = some (.tup (ns.map V.int)) ∧ ns.length ≤ 1000 ∧ ∀ H', Same H H' → Q (.bl true) H'
abbrev spNo : Sp := fun _ _ _ _ => False
theorem v_alike0 {H : Hp} {i : Int} : SpV spAlike0 [.int i, .int i] H (.bl true) := fun H1 e Q q E => ⟨i, rfl, fun H2 s => q H2 s⟩
theorem v_alike1 {H : Hp} {a b : Addr} {ns : List Int} (ha : H a = some (.tup (ns.map V.int))) (hb : H b = some (.tup (ns.map V.int))) (hn : ns.length ≤ 1000) : SpV spAlike1 [.ref a, .ref b] H (.bl true) := fun H1 e Q q E => ⟨a, b, ns, rfl, e _ _ ha, e _ _ hb, hn, fun H2 s => q H2 s⟩
theorem fnOk_no {P : Program} {w : World} {K : PySem.W.Frag} {mg : Str → Option Value} {base : Heap} {CX : CXT} {f : Addr} {fd : FuncData} {ps : List Str} : FnOk P w K mg base CX 0 f fd ps spNo := ⟨fun _ _ _ _ h => h.elim, fun _ _ _ _ _ _ _ _ _ _ _ _ _ h => h.elim⟩
theorem given_none (n : Nat) (v : Nat → V) : given n (fun _ => false) v = [] := by
  unfold given
  rw [List.filter_eq_nil_iff.mpr (fun _ _ z => by cases z)]
  rfl
end KB
namespace K8
open PySem L2 KB Evl
section
variable {P : Program} {w : World} {K : PySem.W.Frag} {mg : Str → Option Value} {base : Heap} {f : Addr} {fd : FuncData}
theorem ok_law_alike0 (F : Fun K "_law_alike" "_law_alike" s__law_alike f fd) (T : Txt mg) (d__law_alike : Df P w K mg base 0 "_law_alike" spNo) : FnOk P w K mg base (L2.CX P w) 1 f fd ps__law_alike spAlike0 := by
  refine F.okX sc__law_alike (fun vs H Q E h => ?_) (fun cdv A outer s H vs Q E hr h => ?_)
  · obtain ⟨i, rfl, _⟩ := h
    rfl
  · obtain ⟨i, rfl, k⟩ := h
    refine ⟨_, (pss_cons (ps_if (pt_val (pe_callB call_isiT (by rfl) T.z_isinstance (by decide +kernel) (pa_cons (pv 1) (pa_cons (pe_tup (pa_cons (pe_bltn (v := .ty "tuple") (by rfl) T.z_tuple (by decide +kernel) rfl) (pa_cons (pe_bltn (v := .ty "list") (by rfl) T.z_list (by decide +kernel) rfl) pa_nil))) pa_nil)))) (pss_cons (ps_if (PW.pt (pw_or (pt_not (pt_val (pe_callB call_isiT (by rfl) T.z_isinstance (by decide +kernel) (pa_cons (pv 0) (pa_cons (pe_tup (pa_cons (pe_bltn (v := .ty "tuple") (by rfl) T.z_tuple (by decide +kernel) rfl) (pa_cons (pe_bltn (v := .ty "list") (by rfl) T.z_list (by decide +kernel) rfl) pa_nil))) pa_nil))))) (pw_or1 (pt_cmpR op_ne (pe_callB call_isi (by rfl) T.z_isinstance (by decide +kernel) (pa_cons (pv 0) (pa_cons (pe_bltn (v := .ty "list") (by rfl) T.z_list (by decide +kernel) rfl) pa_nil))) (pe_callB call_isi (by rfl) T.z_isinstance (by decide +kernel) (pa_cons (pv 1) (pa_cons (pe_bltn (v := .ty "list") (by rfl) T.z_list (by decide +kernel) rfl) pa_nil))) (nomark _))))) (pss_one (ps_ret pe_bl)) pss_nil)
      (pss_cons (ps_if (pt_cmpR op_ne (pe_callB call_len_seq (by rfl) T.z_len (by decide +kernel) (pa_cons (pv 0) pa_nil)) (pe_callB call_len_seq (by rfl) T.z_len (by decide +kernel) (pa_cons (pv 1) pa_nil)) (nomark _)) (pss_one (ps_ret pe_bl)) pss_nil)
      (pss_one (ps_ret (pe_cmpR (op_eqD hr.units) (pe_lc (own := [("k", 2)]) rfl sc__law_alike.nd (pi_range1 (by rfl) T.z_range (pa_cons (pe_callB call_len_seq (by rfl) T.z_len (by decide +kernel) (pa_cons (pv 1) pa_nil)) pa_nil)) (blkOk_by (N := ["found", "due", "k"]) (sc := defScope s__law_alike) (by decide +kernel)) (fun _ _ _ _ _ => (pg_name (i := 2) sc__law_alike.nd rfl (by first | exact Or.inl rfl | exact Or.inr rfl))) (fun _ _ _ _ _ => (pts_one (pt_not (pt_val (pe_d d__law_alike hr (by decide) (by rfl) (pa_cons (pe_ix (ix_seq : IxR _ (rIx K)) (pv 0) (pv 2) (fun _ _ => rfl)) (pa_cons (pe_ix (ix_seq : IxR _ (rIx K)) (pv 1) (pv 2) (fun _ _ => rfl)) pa_nil))))))) (fun _ _ _ _ _ => (pv 2))) (pe_lst pa_nil) (nomark _)))))) pss_nil)
      (pss_cons (ps_if (PW.pt (pw_or (pt_cmpR op_isN (pv 1) pe_non (nomark _)) (pw_or1 (pt_val (pe_callB call_isi (by rfl) T.z_isinstance (by decide +kernel) (pa_cons (pv 1) (pa_cons (pe_bltn (v := .ty "str") (by rfl) T.z_str (by decide +kernel) rfl) pa_nil))))))) (pss_one (ps_ret (pe_and (pe_cmpR op_eq (pv 0) (pv 1) (nomark _)) (pe_one (pe_cmpR op_eq (pe_callB call_isi (by rfl) T.z_isinstance (by decide +kernel) (pa_cons (pv 0) (pa_cons (pe_bltn (v := .ty "str") (by rfl) T.z_str (by decide +kernel) rfl) pa_nil))) (pe_callB call_isi (by rfl) T.z_isinstance (by decide +kernel) (pa_cons (pv 1) (pa_cons (pe_bltn (v := .ty "str") (by rfl) T.z_str (by decide +kernel) rfl) pa_nil))) (nomark _)))))) pss_nil)
      (pss_one (ps_ret (pe_and (pe_callB call_isi (by rfl) T.z_isinstance (by decide +kernel) (pa_cons (pv 0) (pa_cons (pe_bltn (v := .ty "int") (by rfl) T.z_int (by decide +kernel) rfl) pa_nil))) (pe_and (pe_cmpR op_eq (pe_callB call_isi (by rfl) T.z_isinstance (by decide +kernel) (pa_cons (pv 0) (pa_cons (pe_bltn (v := .ty "bool") (by rfl) T.z_bool (by decide +kernel) rfl) pa_nil))) (pe_callB call_isi (by rfl) T.z_isinstance (by decide +kernel) (pa_cons (pv 1) (pa_cons (pe_bltn (v := .ty "bool") (by rfl) T.z_bool (by decide +kernel) rfl) pa_nil))) (nomark _)) (pe_one (pe_cmpR op_eq (pv 0) (pv 1) (nomark _))))))))), ?_⟩
    have dd : ∀ H, Da Nv H (.int i) (.int i) := fun H => .int i
    refine q_when (et_B (ev_isiT2 (ev_var rfl) (dd _) (kit2 (kit_tuple (.int i)) (kit_list (.int i))))) (fun h1 H1 e1 => absurd (show false = true from h1) (by decide)) (fun _ H1 e1 => ?_)
    refine q_when (et_or (et_test (b := false) (ev_op (x := .int i) (y := .non) (ev_var rfl) ev_c (rv_val fun H1 _ Q q => ⟨rfl, q⟩))) fun _ => et_B (ev_isi (ev_var rfl) (dd _) (kit_str (.int i)))) (fun h1 H2 e2 => absurd (show false = true from h1) (by decide)) (fun _ H2 e2 => ?_)
    refine s_ret (ev_is (ev_andV (a := true) (ev_isi (ev_var rfl) (dd _) (kit_int (.int i))) fun _ => ev_andV (a := true) (ev_is (ev_op (ev_isi (ev_var rfl) (dd _) (kit_bool (.int i))) (ev_isi (ev_var rfl) (dd _) (kit_bool (.int i))) (rv_eq rfl)) (by rw [decide_eq_true rfl])) fun _ => ev_is (w := .bl true) (ev_op (ev_var rfl) (ev_var rfl) (rv_eq rfl)) (by rw [decide_eq_true rfl])) rfl) fun H3 e3 => ?_
    exact k H3 ((e1.trans e2).trans e3)
theorem ok_law_alike1 (F : Fun K "_law_alike" "_law_alike" s__law_alike f fd) (T : Txt mg) (d__law_alike : Df P w K mg base 1 "_law_alike" spAlike0) : FnOk P w K mg base (L2.CX P w) 2 f fd ps__law_alike spAlike1 := by
  refine F.okX sc__law_alike (fun vs H Q E h => ?_) (fun cdv A outer s H vs Q E hr h => ?_)
  · obtain ⟨a, b, ns, rfl, _⟩ := h
    rfl
  · obtain ⟨a, b, ns, rfl, ha, hb, hn, k⟩ := h
    refine ⟨_, (pss_cons (ps_if (pt_val (pe_callB call_isiT (by rfl) T.z_isinstance (by decide +kernel) (pa_cons (pv 1) (pa_cons (pe_tup (pa_cons (pe_bltn (v := .ty "tuple") (by rfl) T.z_tuple (by decide +kernel) rfl) (pa_cons (pe_bltn (v := .ty "list") (by rfl) T.z_list (by decide +kernel) rfl) pa_nil))) pa_nil)))) (pss_cons (ps_if (PW.pt (pw_or (pt_not (pt_val (pe_callB call_isiT (by rfl) T.z_isinstance (by decide +kernel) (pa_cons (pv 0) (pa_cons (pe_tup (pa_cons (pe_bltn (v := .ty "tuple") (by rfl) T.z_tuple (by decide +kernel) rfl) (pa_cons (pe_bltn (v := .ty "list") (by rfl) T.z_list (by decide +kernel) rfl) pa_nil))) pa_nil))))) (pw_or1 (pt_cmpR op_ne (pe_callB call_isi (by rfl) T.z_isinstance (by decide +kernel) (pa_cons (pv 0) (pa_cons (pe_bltn (v := .ty "list") (by rfl) T.z_list (by decide +kernel) rfl) pa_nil))) (pe_callB call_isi (by rfl) T.z_isinstance (by decide +kernel) (pa_cons (pv 1) (pa_cons (pe_bltn (v := .ty "list") (by rfl) T.z_list (by decide +kernel) rfl) pa_nil))) (nomark _))))) (pss_one (ps_ret pe_bl)) pss_nil)
      (pss_cons (ps_if (pt_cmpR op_ne (pe_callB call_len_seq (by rfl) T.z_len (by decide +kernel) (pa_cons (pv 0) pa_nil)) (pe_callB call_len_seq (by rfl) T.z_len (by decide +kernel) (pa_cons (pv 1) pa_nil)) (nomark _)) (pss_one (ps_ret pe_bl)) pss_nil)
      (pss_one (ps_ret (pe_cmpR (op_eqD hr.units) (pe_lc (own := [("k", 2)]) rfl sc__law_alike.nd (pi_range1 (by rfl) T.z_range (pa_cons (pe_callB call_len_seq (by rfl) T.z_len (by decide +kernel) (pa_cons (pv 1) pa_nil)) pa_nil)) (blkOk_by (N := ["found", "due", "k"]) (sc := defScope s__law_alike) (by decide +kernel)) (fun _ _ _ _ _ => (pg_name (i := 2) sc__law_alike.nd rfl (by first | exact Or.inl rfl | exact Or.inr rfl))) (fun _ _ _ _ _ => (pts_one (pt_not (pt_val (pe_d d__law_alike hr (by decide) (by rfl) (pa_cons (pe_ix (ix_seq : IxR _ (rIx K)) (pv 0) (pv 2) (fun _ _ => rfl)) (pa_cons (pe_ix (ix_seq : IxR _ (rIx K)) (pv 1) (pv 2) (fun _ _ => rfl)) pa_nil))))))) (fun _ _ _ _ _ => (pv 2))) (pe_lst pa_nil) (nomark _)))))) pss_nil)
      (pss_cons (ps_if (PW.pt (pw_or (pt_cmpR op_isN (pv 1) pe_non (nomark _)) (pw_or1 (pt_val (pe_callB call_isi (by rfl) T.z_isinstance (by decide +kernel) (pa_cons (pv 1) (pa_cons (pe_bltn (v := .ty "str") (by rfl) T.z_str (by decide +kernel) rfl) pa_nil))))))) (pss_one (ps_ret (pe_and (pe_cmpR op_eq (pv 0) (pv 1) (nomark _)) (pe_one (pe_cmpR op_eq (pe_callB call_isi (by rfl) T.z_isinstance (by decide +kernel) (pa_cons (pv 0) (pa_cons (pe_bltn (v := .ty "str") (by rfl) T.z_str (by decide +kernel) rfl) pa_nil))) (pe_callB call_isi (by rfl) T.z_isinstance (by decide +kernel) (pa_cons (pv 1) (pa_cons (pe_bltn (v := .ty "str") (by rfl) T.z_str (by decide +kernel) rfl) pa_nil))) (nomark _)))))) pss_nil)
      (pss_one (ps_ret (pe_and (pe_callB call_isi (by rfl) T.z_isinstance (by decide +kernel) (pa_cons (pv 0) (pa_cons (pe_bltn (v := .ty "int") (by rfl) T.z_int (by decide +kernel) rfl) pa_nil))) (pe_and (pe_cmpR op_eq (pe_callB call_isi (by rfl) T.z_isinstance (by decide +kernel) (pa_cons (pv 0) (pa_cons (pe_bltn (v := .ty "bool") (by rfl) T.z_bool (by decide +kernel) rfl) pa_nil))) (pe_callB call_isi (by rfl) T.z_isinstance (by decide +kernel) (pa_cons (pv 1) (pa_cons (pe_bltn (v := .ty "bool") (by rfl) T.z_bool (by decide +kernel) rfl) pa_nil))) (nomark _)) (pe_one (pe_cmpR op_eq (pv 0) (pv 1) (nomark _))))))))), ?_⟩
    have da : Da Nv H (.ref a) (.tuple (ns.map PyData.int)) := .tup (fun z => z) ha DaL.ints
    have db : Da Nv H (.ref b) (.tuple (ns.map PyData.int)) := .tup (fun z => z) hb DaL.ints
    have kt : PySem.W.kitAny K (.type (tyD (.tuple (ns.map PyData.int)))) [.type "tuple", .type "list"] = some true := kit2 (kit_tuple (.tuple _)) (kit_list (.tuple _))
    have kl : PySem.W.kitOne K (.type (tyD (.tuple (ns.map PyData.int)))) (.type "list") = some false := kit_list (.tuple _)
    refine q_when (et_B (ev_isiT2 (ev_var rfl) db kt)) (fun _ H1 e1 => ?_) (fun h1 H1 e1 => absurd (show true = false from h1) (by decide))
    refine q_when (et_or (et_not (et_B (ev_isiT2 (ev_var rfl) (da.go (ex_chg e1)) kt))) fun _ => et_test (b := false) (ev_is (ev_op (ev_isi (ev_var rfl) (da.go (ex_chg e1)) kl) (ev_isi (ev_var rfl) (db.go (ex_chg e1)) kl) (rv_ne rfl)) (by decide))) (fun h1 H2 e2 => absurd (show false = true from h1) (by decide)) (fun _ H2 e2 => ?_)
    have ha2 := e2 _ _ (e1 _ _ ha)
    have hb2 := e2 _ _ (e1 _ _ hb)
    refine q_when (et_test (b := false) (ev_is (ev_op (ev_lenT (ev_var rfl) (.of ha2)) (ev_lenT (ev_var rfl) (.of hb2)) (rv_ne rfl)) (by rw [decide_eq_true rfl]; rfl))) (fun h1 H3 e3 => absurd (show false = true from h1) (by decide)) (fun _ H3 e3 => ?_)
    have ha3 := e3 _ _ ha2
    have hb3 := e3 _ _ hb2
    refine s_ret (v := .bl true) (ev_opLL (el_lcR1 (n := (ns.length : Int)) (fun _ => false) (fun i => .int (i : Int)) (ea_cons (ev_is (ev_lenT (ev_var rfl) (.of hb3)) (by rw [List.length_map])) ea_nil) ⟨by omega, by omega⟩ (fun _ => rfl) (fun i H4 e4 hi => ?_) (fun i H4 e4 hi z => by cases z)) (el_lst ea_nil (Nat.zero_le _)) fun p q H4 hp hq e4 => rv_val fun H5 e5 Q k5 => ?_) fun H4 e4 => k H4 ((((e1.trans e2).trans e3).trans e4))
    · have hlt : i < ns.length := by omega
      have ix : atI (ns.map V.int) (i : Int) = some (.int ns[i]) := atI_nat (by rw [List.getElem?_map, List.getElem?_eq_getElem hlt, Option.map_some])
      exact et_not (a := true) (et_B (ev_call (ea_cons (ev_ixT (ev_var rfl) (ev_var rfl) (.of (e4 _ _ ha3)) ix) (ea_cons (ev_ixT (ev_var rfl) (ev_var rfl) (.of (e4 _ _ hb3)) ix) ea_nil)) v_alike0))
    · rw [given_none] at hp
      refine ⟨.list [], .list [], .lst (.of (e5 _ _ hp)) .nil, .lst (.of (e5 _ _ hq)) .nil, rfl, rfl, ?_⟩
      rw [show PyData.eqv (.list []) (.list []) = true by decide +kernel]
      exact k5
end
end K8

set_option Elab.async false
set_option linter.all false
set_option maxRecDepth 100000
set_option maxHeartbeats 4000000
/-! Lambdas as values, with a default or without; isinstance of a caught own error, with fields or without. -/
namespace KB
open PySem PySem.Spec PyProof.Rows L2
/-! ### isinstance(e, C) -/
def rIsX (K : PySem.W.Frag) (a : Addr) (cls : Value) (d : Option Addr) : List V → Hp → VK → Prop := fun xs H Q => ∃ (D C : Addr) (b : Bool), cls = .ref D ∧ ExcC K D ∧ xs = [.ref a, .ref C] ∧ (d = none ∨ ∃ dd fs, d = some dd ∧ H dd = some (.xd fs)) ∧ PySem.W.kitOne K (.ref D) (.ref C) = some b ∧ Q (.bl b) H
theorem call_isX {X : Cx} {a : Addr} {oe : Obj} {cls : Value} {d : Option Addr} {pn : List (Addr × Obj)} (hz : Zc cls d oe) (hf : ∃ vs, oe.data = .fields vs) : CallR (X.suite a ((a, oe) :: pn)) (.builtin "isinstance") (rIsX X.K a cls d) := by
  intro pins s σ H xs us Q I r h
  obtain ⟨D, C, b, rfl, c, rfl, hd, e, q⟩ := h
  cases r with
  | cons rx rr =>
    cases rr with
    | cons rt rr =>
      cases rr
      cases rx
      cases rt
      obtain ⟨hget, _⟩ := I.pin (a, oe) (List.mem_append.mpr (.inl List.mem_cons_self))
      obtain ⟨vs, hv⟩ := hf
      obtain ⟨oc, od, oda, osl⟩ := oe
      obtain ⟨h1, h2⟩ := hz
      dsimp only at h1 h2 hv
      subst h1 h2 hv
      have hcl : (PySem.W.clsIn X.K D).isSome = true := by
        obtain ⟨cd, hc, _⟩ := PySem.W.any_some c.hd
        rw [hc]
        rfl
      rcases hd with rfl | ⟨dd, fs, rfl, hdd⟩
      · have J : PySem.W.InstAt s.heap a (⟨.ref D, none, .fields vs, osl⟩ : Obj) D none := ⟨hget, rfl, rfl, trivial⟩
        exact PySem.W.kia_one (PySem.W.kitx_exc hcl c.hg c.hk c.hs c.ha c.hn c.ht c.hm) I.kIn J e (fun z => nomatch z) fun tk => ⟨.bl b, H, I.kept (t' := tk) fun _ _ z => z, rfl, q⟩
      · obtain ⟨mA, hns, _⟩ := (show ObjOk X.prog X.w H s.heap dd (.xd fs) from I.hok dd _ hdd)
        obtain ⟨ob, _, _, ho, _⟩ := hns
        have J : PySem.W.InstAt s.heap a (⟨.ref D, some dd, .fields vs, osl⟩ : Obj) D (some ob) := ⟨hget, rfl, rfl, ho⟩
        exact PySem.W.kia_one (PySem.W.kitx_exc hcl c.hg c.hk c.hs c.ha c.hn c.ht c.hm) I.kIn J e (fun z => nomatch z) fun tk => ⟨.bl b, H, I.kept (t' := tk) fun _ _ z => z, rfl, q⟩
/-! ### lambdas as values -/
abbrev lamFd (q : Str) (params : Arguments) (body : Expr) (scope : Scope) (clos : List (Str × Addr)) (pm cdv ctv dv : Value) : FuncData := { PySem.W.kla_fn "<lambda>" q params body scope clos pm cdv ctv with defaults := dv }
def LamO (f : Addr) (q : Str) (params : Arguments) (body : Expr) (scope : Scope) (clos : List (Str × Addr)) (c' : Addr) (dv : Value) : HO :=
  .ext fun h => ∃ pm ctv, h.get? f = some ({ cls := .type "function", data := .func (lamFd q params body scope clos pm (.ref c') ctv dv) } : Obj)
/-- the names of a lambda: those of the maker, or a parameter that the maker doesn't know -/
structure LamV (sc : Scope) (N : List Str) (scope : Scope) : Prop where
  kind : scope.kind = .function
  co : scope.isCoroutine = false
  gen : scope.isGenerator = false
  cell : ∀ y ∈ scope.names, y.2 ≠ .cell
  own : ∀ y ∈ scope.names, y.2 = .local → y.1 ∉ N
  free : ∀ y ∈ scope.names, y.2 = .free → sc.names.lookup y.1 = some .cell ∨ sc.names.lookup y.1 = some .free
theorem LamV.has {X : Cx} {scope : Scope} (L : LamV X.env.scope X.N scope) (ok : X.Ok) : ∀ y ∈ scope.names, y.2 = .free → ∃ c, X.env.cells.lookup y.1 = some c := fun y hy e => ok.has _ (L.free y hy e)
section
variable {X : Cx} {pins : List (Addr × Obj)} {σ : L2.St} {H HZ : Hp} {s s1 : Shared}
/-- the lambda's body is entered -/
theorem lam_in {A : Around} {outer : List Env} {E : XK} {scope : Scope} {f c' : Addr} {h₁ : Heap} {tk : Nat} {m : Str → Option Value} (I : Inv X pins σ H s) (L : LamV X.env.scope X.N scope) (e0 : Env0 X.prog X.w X.K X.mg X.base A outer s1 HZ) (hd : A.handled = none)
    (un : Un (frs X.stack) [] H HZ s.heap s1.heap) (hns : h₁.Ns s1.heap.objs.size m) (kp : ∀ b o, s1.heap.get? b = some o → h₁.get? b = some o) :
    Inv (LamX.lamCx X A outer s1 HZ E scope f c') [] σ HZ { s1 with heap := h₁, toks := tk } := by
  have has := L.has I.ok
  have down : ∀ {y : Str} {c : Addr}, (cloFrom X.env.cells scope.names []).lookup y = some c → X.env.cells.lookup y = some c := fun {y c} e => by
    rcases cloFrom_mem (PySem.mem_of_lookup e) with z | ⟨h1, h2⟩
    · cases z
    · obtain ⟨c1, hc⟩ := has _ h1 rfl
      rw [hc] at h2 ⊢
      rw [h2]
      rfl
  have up : ∀ {y : Str}, scope.names.lookup y = some .free → ∃ c, (cloFrom X.env.cells scope.names []).lookup y = some c := fun {y} hl =>
    mem_lookup (cloFrom_has (cells := X.env.cells) (acc := []) (PySem.mem_of_lookup hl : (y, NameKind.free) ∈ scope.names))
  have stays : ∀ {c : Addr} {v : Option Value}, H c = none → s.heap.IsCell c v → h₁.IsCell c v := fun {c v} n ⟨o, ho, hd⟩ => by
    obtain ⟨sl, q⟩ := un.any ho n (by simp)
    exact ⟨_, kp _ _ q, hd⟩
  have noA : ∀ b : Addr, b ∉ (LamX.lamCx X A outer s1 HZ E scope f c').ex := fun b z => absurd (show b ∈ ([] : List Addr) from z) (by simp)
  refine ⟨⟨e0.mod, L.kind, rfl, rfl, Nat.le_refl _, fun y z c e1 e2 => I.ok.inj y z c (down e1) (down e2), fun y hy => ?_, fun y c z _ => ?_, fun _ => hd, Around.frames_deeper e0.frames, .inr ⟨rfl, rfl⟩, fun b z => absurd z (noA b), e0.bs, e0.bsz, fun b _ _ => noA b,
      fun b z => absurd z (noA b), e0.funs, e0.frf⟩,
    rfl, e0.bare, Un.kept kp, ⟨_, hns, fun i y v e1 e2 e3 => ?_⟩, fun y c e => ?_, e0.hok.fresh (Nat.le_refl _), fun y c e => ?_, fun q hq => absurd (show q ∈ ([] : List (Addr × Obj)) ++ [] from hq) (by simp), e0.hok.kept kp, I.len⟩
  · rcases (hy : scope.names.lookup y = some .cell ∨ scope.names.lookup y = some .free) with hy | hy
    · exact absurd rfl (L.cell _ (PySem.mem_of_lookup hy))
    · exact up hy
  · exact Bool.noConfusion (show false = true from z)
  · rcases (e3 : Vis scope y) with k | k | k
    · exact absurd (List.mem_of_getElem? (show X.N[i]? = some y from e1)) (L.own _ (PySem.mem_of_lookup k) rfl)
    · exact absurd rfl (L.cell _ (PySem.mem_of_lookup k))
    · obtain ⟨m2, hn, hl⟩ := I.loc
      have seen : X.env.scope.names.lookup y = some .cell ∨ X.env.scope.names.lookup y = some .free := L.free _ (PySem.mem_of_lookup k) rfl
      obtain ⟨u, r, q⟩ := hl i y v e1 e2 (.inr seen)
      obtain ⟨c2, h2⟩ := up k
      refine ⟨u, r, .inr ⟨.inr k, c2, h2, ?_⟩⟩
      rcases q with ⟨k', _⟩ | ⟨_, c3, e', z⟩
      · have k2 : X.env.scope.names.lookup y = some .local := k'
        rcases seen with q | q <;> rw [k2] at q <;> cases q
      · rw [down h2] at e'
        cases e'
        exact stays (I.freeC y _ (down h2)) z
  · obtain ⟨v, z⟩ := I.cell y c (down e)
    exact ⟨v, stays (I.freeC y c (down e)) z⟩
  · obtain ⟨v, o, ho, hd⟩ := I.cell y c (down e)
    exact un.free c o ho (I.freeC y c (down e)) (by simp)
theorem wp_ite_bind {α β : Type} {M : Model} {A : Around} {E : Value → Shared → Prop} {s : Shared} {c : Prop} [Decidable c] {a b : Sem α} {k : α → Sem β} {Q : β → Shared → Prop} (h : wpAny M A (if c then a else b) (fun x s' => wpAny M A (k x) Q E s') E s) : wpAny M A (if c then a >>= k else b >>= k) Q E s := by
  by_cases z : c
  · rw [if_pos z] at h ⊢
    exact wpAny_bind h
  · rw [if_neg z] at h ⊢
    exact wpAny_bind h
/-- the lambda's function object is made -/
theorem lam_mk {T : List (Addr × Str)} {c P : Addr} {params : Arguments} {body : Expr} {scope : Scope} {pos : Pos} {dv : Value} {E : Value → Shared → Prop} {Q : Value → Shared → Prop} (I : Inv X pins σ H s) (TB : LamX.TabB X.base X.mg c P) (hcode : X.env.code = .ref c)
    (hm : (P, X.env.qual ++ "<lambda>") ∈ T) (hu : ∀ p ∈ T, p.1 = P → p.2 = X.env.qual ++ "<lambda>") (hT : LamX.Tabs T H) (hfree : ∀ y ∈ scope.names, y.2 = .free → ∃ c, X.env.cells.lookup y.1 = some c)
    (h : ∀ (f c' : Addr) (H1 : Hp) (s' : Shared), Inv X pins σ (upd H1 f (LamO f (X.env.qual ++ "<lambda>") params body scope (cloFrom X.env.cells scope.names []) c' dv)) s' → LamX.ExtN H H1 → LamX.Tabs T H1 → H1 f = none → H1 c' = some (LamX.CodeO c' (X.env.qual ++ "<lambda>")) → Q (.ref f) s') :
    wpAny (model X.prog X.w) X.A (makeTail "<lambda>" (X.env.qual ++ "<lambda>") params (.expr body) scope X.env dv .none none pos pos.line) Q E s := by
  obtain ⟨ps, hP, ht, ha⟩ := hT _ hm
  unfold makeTail
  rw [closure_ok hfree, I.ok.glob]
  refine wpAny_bind (wpAny_pure (wp_ite_bind (wpAny_mono (Q := fun ctv s2 => ∃ h2, s2 = { s with heap := h2 } ∧ ∀ b o, s.heap.get? b = some o → h2.get? b = some o) ?_ (fun ctv s2 ⟨h2, e2, k2⟩ => ?_) (fun _ _ x => x))))
  · split
    · exact wpAny_pure ⟨s.heap, rfl, fun _ _ z => z⟩
    · exact wpAny_newTextTuple ⟨_, rfl, fun b o z => Heap.get?_push_of_some _ z⟩
  subst e2
  have I2 : Inv X pins σ H { s with heap := h2 } := I.kept (t' := s.toks) k2
  have hP2 : h2.get? P = some { cls := .none, data := .fields ps } := I2.hok P _ hP
  have CH := TB.code.keeps I2.bk
  refine wpAny_bind (wpAny_mono (Q := fun cv s3 => ∃ c' H3, cv = .ref c' ∧ Inv X pins σ H3 s3 ∧ LamX.ExtN H H3 ∧ LamX.Tabs T H3 ∧ H3 c' = some (LamX.CodeO c' (X.env.qual ++ "<lambda>"))) ?_ (fun cv s3 ⟨c', H3, e3, I3, eN, T3, hc'⟩ => ?_) (fun _ _ x => x))
  · cases hc : codeAmong pos ps.toList with
    | some cv =>
      obtain ⟨c', e, hco⟩ := ha pos cv hc
      exact wpAny_functionCode_hit hcode (CH.code hP2 ht) hc ⟨c', H, e, I2, LamX.ExtN.refl H, hT, hco⟩
    | none =>
      refine wpAny_functionCodeX hcode (CH.code hP2 ht) (CH.tab hP2) hc fun c' h' tk hx hge hlt _ hrec htb _ => ?_
      obtain ⟨c2, oc, vs, t, e2, hoc, hd, hv⟩ := hrec
      cases e2
      have nC : H c' = none := I2.hok.fresh hge
      have nPc : P ≠ c' := ne_of_none hP nC
      have I3 := LamX.inv_table (t' := tk) (more := #[rawInt pos.line, rawInt pos.col, .ref c']) (h' := h') I2 hP hx htb.2 hge ⟨oc, vs, t, hoc, hd, hv⟩
      have eN : LamX.ExtN H (upd (upd H P (.tbl (ps ++ #[rawInt pos.line, rawInt pos.col, .ref c']))) c' (LamX.CodeO c' (X.env.qual ++ "<lambda>"))) := fun b o e n => by
        have nb : b ≠ P := fun z => by
          rw [z, hP] at e
          exact n ps (Option.some.inj e).symm
        rw [upd_ne (ne_of_none e nC), upd_ne nb]
        exact e
      refine ⟨c', _, rfl, I3, eN, fun p hp => ?_, upd_same⟩
      by_cases hb : p.1 = P
      · have eL : (ps ++ #[rawInt pos.line, rawInt pos.col, .ref c']).toList = ps.toList ++ [rawInt pos.line, rawInt pos.col, .ref c'] := by simp
        rw [hu p hp hb, hb]
        refine ⟨_, (upd_ne nPc).trans upd_same, by rw [eL]; exact PySem.TriplesOk_snoc _ _ _ _ ht, fun p' cv hcv => ?_⟩
        rw [eL] at hcv
        rcases LamX.among_app _ ht hcv with z | z
        · obtain ⟨c0, e1, e2⟩ := ha p' cv z
          exact ⟨c0, e1, eN _ _ e2 LamX.codeO_ne⟩
        · exact ⟨c', z, upd_same⟩
      · obtain ⟨qs, a1, a2, a3⟩ := hT p hp
        refine ⟨qs, by rw [upd_ne (ne_of_none a1 nC), upd_ne hb]; exact a1, a2, fun p' cv hcv => ?_⟩
        obtain ⟨c0, e1, e2⟩ := a3 p' cv hcv
        exact ⟨c0, e1, eN _ _ e2 LamX.codeO_ne⟩
  subst e3
  obtain ⟨bm, ob, hbm, hne0, _, _, hbo, hcls, hdict, hdata⟩ := TB.bm.keeps I3.bk
  have hg := I3.mod.glob.keeps I3.bk
  refine wpAny_bind (wpAny_builtinsFor hg hbm hne0 hbo hcls hdict hdata (wpAny_bind (wpAny_nsGet hg (wpAny_bind (wpAny_pure (wpAny_newObj_type ?_ (by size_fits)))))))
  have hget : (s3.heap.push ({ cls := .type "function", data := .func (lamFd (X.env.qual ++ "<lambda>") params body scope (cloFrom X.env.cells scope.names []) ((X.mg "__name__").getD .none) (.ref c') ctv dv) } : Obj)).get? s3.heap.objs.size = _ := Heap.get?_push_size _ rfl
  have I4 := I3.laid (t' := s3.toks) (a := s3.heap.objs.size) (o := LamO s3.heap.objs.size (X.env.qual ++ "<lambda>") params body scope (cloFrom X.env.cells scope.names []) c' dv) (h' := s3.heap.push ({ cls := .type "function", data := .func (lamFd (X.env.qual ++ "<lambda>") params body scope (cloFrom X.env.cells scope.names []) ((X.mg "__name__").getD .none) (.ref c') ctv dv) } : Obj))
    (fun b o e => Heap.get?_push_of_some _ e) (Nat.le_refl _) ⟨⟨_, _, hget⟩, ⟨_, hget⟩, fun h1 h2 ⟨pm, ctv, z⟩ k => ⟨pm, ctv, k _ z⟩⟩
  exact h _ c' H3 _ I4 eN T3 (I3.hok.fresh (Nat.le_refl _)) hc'
end
end KB

set_option Elab.async false
set_option linter.all false
set_option maxRecDepth 100000
set_option maxHeartbeats 4000000
/-! Lambdas as values: made, called. -/
namespace KB
open PySem PySem.Spec PyProof.Rows L2
/-- how the lambda's parameters are bound where it is called without arguments: none, or one by its default -/
inductive LamBind (H : Hp) (q : Str) (params : Arguments) (body : Expr) (scope : Scope) (clos : List (Str × Addr)) : Value → Prop
  | zero : (∀ pm cv ctv, bindArgs (lamFd q params body scope clos pm cv ctv .none) ⟨[], []⟩ = pure []) → LamBind H q params body scope clos .none
  | one {dt : Addr} {a : Str} {v : V} : H dt = some (.tup [v]) → scope.names.lookup a = some .local →
      (∀ (pm cv ctv : Value) (M : Model) (A : Around) (E : Value → Shared → Prop) (s : Shared) (Q : List (Str × Value) → Shared → Prop) (u : Value) (o : Obj) (n : Nat), s.heap.get? dt = some o → o.data = .seq #[u] n → Q [(a, u)] s →
        wpAny M A (bindArgs (lamFd q params body scope clos pm cv ctv (.ref dt)) ⟨[], []⟩) Q E s) → LamBind H q params body scope clos (.ref dt)
/-- f is a lambda of X's maker whose body reads as t -/
def Cal (X : Cx) (k : Nat) (t : XK → TE) (H : Hp) (f : Addr) : Prop :=
  ∃ (params : Arguments) (body : Expr) (scope : Scope) (c' : Addr) (dv : Value), H f = some (LamO f (X.env.qual ++ "<lambda>") params body scope (cloFrom X.env.cells scope.names []) c' dv) ∧ H c' = some (LamX.CodeO c' (X.env.qual ++ "<lambda>")) ∧ LamV X.env.scope X.N scope ∧
    LamBind H (X.env.qual ++ "<lambda>") params body scope (cloFrom X.env.cells scope.names []) dv ∧
    ∀ (A : Around) (outer : List Env) (s : Shared) (H : Hp) (E : XK) (f c' : Addr), Room k (A.deeper (LamX.lamEnv X scope s.heap.objs.size f c')) → PE (LamX.lamCx X A outer s H E scope f c') body (t E)
theorem LamBind.go {H H' : Hp} {q : Str} {params : Arguments} {body : Expr} {scope : Scope} {clos : List (Str × Addr)} {dv : Value} (h : LamBind H q params body scope clos dv) (c : ∀ b xs, H b = some (.tup xs) → H' b = some (.tup xs)) : LamBind H' q params body scope clos dv := by
  cases h with
  | zero z => exact .zero z
  | one a b z => exact .one (c _ _ a) b z
/-- lists may change, the rest stays -/
theorem Cal.go {X : Cx} {k : Nat} {t : XK → TE} {H H' : Hp} {f : Addr} (h : Cal X k t H f) (c : ∀ b o, (∀ xs, o ≠ .lst xs) → (∀ ps, o ≠ .tbl ps) → H b = some o → H' b = some o) : Cal X k t H' f := by
  obtain ⟨params, body, scope, c', dv, h1, h2, h3, h4, h5⟩ := h
  exact ⟨params, body, scope, c', dv, c _ _ (fun xs z => by unfold LamO at z; cases z) (fun xs z => by unfold LamO at z; cases z) h1, c _ _ (fun xs z => by unfold LamX.CodeO at z; cases z) (fun xs z => by unfold LamX.CodeO at z; cases z) h2, h3, h4.go fun b xs z => c b _ (fun ys e => by cases e) (fun ys e => by cases e) z, h5⟩
def tLamV (X : Cx) (T : List (Addr × Str)) (k : Nat) (t : XK → TE) : TE := fun σ H Q => LamX.Tabs T H ∧ ∀ f H1, LamX.ExtN H H1 → LamX.Tabs T H1 → Cal X k t H1 f → Q (.ref f) H1
section
variable {X : Cx} {T : List (Addr × Str)} {c P : Addr} {params : Arguments} {body : Expr} {scope : Scope} {pos : Pos} {k : Nat} {t : XK → TE}
theorem pe_lam0 (TB : LamX.TabB X.base X.mg c P) (hcode : X.env.code = .ref c) (hm : (P, X.env.qual ++ "<lambda>") ∈ T) (hu : ∀ p ∈ T, p.1 = P → p.2 = X.env.qual ++ "<lambda>") (L : LamV X.env.scope X.N scope) (hdef : defaultsOf params X.env = ([], []))
    (hb : ∀ q body scope clos pm cv ctv, bindArgs (lamFd q params body scope clos pm cv ctv .none) ⟨[], []⟩ = pure [])
    (hbody : ∀ (A : Around) (outer : List Env) (s : Shared) (H : Hp) (E : XK) (f c' : Addr), Room k (A.deeper (LamX.lamEnv X scope s.heap.objs.size f c')) → PE (LamX.lamCx X A outer s H E scope f c') body (t E)) :
    PE X (.Lambda params body scope pos) (tLamV X T k t) := by
  refine ⟨fun pins s σ H Q I h => ?_⟩
  obtain ⟨hT, h⟩ := h
  refine PySem.W.kla_eval hdef ?_
  rw [makeFunction_eq]
  simp only [List.zip_nil_right, List.filterMap_nil, List.isEmpty_nil, if_true, pure_bind]
  refine lam_mk I TB hcode hm hu hT (L.has I.ok) fun f c' H1 s' I1 eN T1 hf hc => ⟨.ref f, _, I1, rfl, h f _ (eN.trans (LamX.ExtN.of (Same.new hf))) (T1.ext (Same.new hf)) ⟨params, body, scope, c', .none, upd_same, (upd_ne (ne_of_none hc hf)).trans hc, L, .zero (hb _ _ _ _), hbody⟩⟩
theorem pe_lam1 {e : Expr} {v : V} {a : Str} (TB : LamX.TabB X.base X.mg c P) (hcode : X.env.code = .ref c) (hm : (P, X.env.qual ++ "<lambda>") ∈ T) (hu : ∀ p ∈ T, p.1 = P → p.2 = X.env.qual ++ "<lambda>") (L : LamV X.env.scope X.N scope) (hdef : defaultsOf params X.env = ([eval e X.env], [])) (he : PE X e (tC v))
    (ha : scope.names.lookup a = some .local)
    (hb : ∀ (q : Str) (body : Expr) (scope : Scope) (clos : List (Str × Addr)) (dt : Addr) (pm cv ctv : Value) (M : Model) (A : Around) (E : Value → Shared → Prop) (s : Shared) (Q : List (Str × Value) → Shared → Prop) (u : Value) (o : Obj) (n : Nat), s.heap.get? dt = some o → o.data = .seq #[u] n → Q [(a, u)] s →
        wpAny M A (bindArgs (lamFd q params body scope clos pm cv ctv (.ref dt)) ⟨[], []⟩) Q E s)
    (hbody : ∀ (A : Around) (outer : List Env) (s : Shared) (H : Hp) (E : XK) (f c' : Addr), Room k (A.deeper (LamX.lamEnv X scope s.heap.objs.size f c')) → PE (LamX.lamCx X A outer s H E scope f c') body (t E)) :
    PE X (.Lambda params body scope pos) (tLamV X T k t) := by
  refine ⟨fun pins s σ H Q I h => ?_⟩
  obtain ⟨hT, h⟩ := h
  rw [arm_eval_Lambda, hdef]
  show wpAny _ _ (do let dv ← evalAll [eval e X.env]; let kdv ← holding dv (evalAllOpt []); makeFunction "<lambda>" (X.env.qual ++ "<lambda>") params (.expr body) scope X.env dv kdv [] pos pos.line) _ _ _
  refine wpAny_bind (wpAny_bind (thn (he.run pins s σ H (fun w H1 => w = v ∧ H1 = H) I ⟨rfl, rfl⟩) fun u s1 ⟨w, H1, I1, r1, e1, e2⟩ => ?_))
  subst e1 e2
  refine wpAny_bind (wpAny_holding (wpAny_pure (wpAny_pure (wpAny_bind (wpAny_holding (wpAny_pure ?_))))))
  rw [makeFunction_eq]
  simp only [List.zip_nil_right, List.filterMap_nil, List.isEmpty_nil, List.isEmpty_cons, Bool.false_eq_true, if_false, if_true, pure_bind]
  refine wpAny_bind (wpAny_newTextTuple ?_)
  have hget : (s1.heap.push ({ cls := .type "tuple", data := .seq [u].toArray } : Obj)).get? s1.heap.objs.size = some ({ cls := .type "tuple", data := .seq [u].toArray } : Obj) := Heap.get?_push_size _ rfl
  have I2 : Inv X pins σ (upd H1 s1.heap.objs.size (.tup [w])) { s1 with heap := s1.heap.push ({ cls := .type "tuple", data := .seq [u].toArray } : Obj) } :=
    I1.laid (t' := s1.toks) (fun b o z => Heap.get?_push_of_some _ z) (Nat.le_refl _) ⟨(show 1 ≤ sizeLine by decide), [u], .cons r1 .nil, ⟨_, hget, rfl, _, rfl⟩⟩
  have hn : H1 s1.heap.objs.size = none := I1.hok.fresh (Nat.le_refl _)
  refine lam_mk I2 TB hcode hm hu (hT.ext (Same.new hn)) (L.has I.ok) fun f c' H2 s' I3 eN T2 hf hc => ⟨.ref f, _, I3, rfl, h f _ ((LamX.ExtN.of (Same.new hn)).trans (eN.trans (LamX.ExtN.of (Same.new hf)))) (T2.ext (Same.new hf))
    ⟨params, body, scope, c', .ref s1.heap.objs.size, upd_same, (upd_ne (ne_of_none hc hf)).trans hc, L, .one (Same.new hf _ _ (eN _ _ upd_same fun ps z => by cases z)) ha (hb _ _ _ _ _), hbody⟩⟩
end
section
variable {X : Cx} {pins : List (Addr × Obj)} {σ : L2.St} {H : Hp} {s : Shared}
/-- a(), in the def that got the lambda f: Z is that def's context, entered at s -/
theorem pe_work {CXg : CXT} {Eg : XK} {Ng : List Str} {qg : Str} {sg : Scope} {g : Addr} {cdg : Value} {k i : Nat} {a : Str} {pn : List (Addr × Obj)} {xe : Value → Shared → Prop} {W : WX} {t : XK → TE} {p1 p2 : Pos}
    (I : Inv X pins σ H s) (tk : Takes ((cxOf CXg X.prog X.w X.K X.mg X.base Ng qg sg g cdg X.A X.stack s H Eg).tr pn xe) W) (hr : Room (k + 1) (X.A.deeper (envOfC qg sg s.heap.objs.size g cdg)))
    (hN : Ng[i]? = some a) (hv : Vis sg a) (hd : (a == ("__debug__" : Str)) = false := by decide) (hcd : (a == ("__classdict__" : Str)) = false := by decide) :
    PE ((cxOf CXg X.prog X.w X.K X.mg X.base Ng qg sg g cdg X.A X.stack s H Eg).tr pn xe) (.Call (.Name a p1) [] [] p2) (fun σZ HZ Q => ∃ (f : Addr) (E : XK), σZ[i]? = some (some (.ref f)) ∧ Cal X k t HZ f ∧ (∀ cls d H', E cls d H' → W cls d σZ H') ∧ t E σ HZ Q) := by
  refine ⟨fun pinsZ sZ σZ HZ Q IZ h => ?_⟩
  obtain ⟨f, E, hs, cal, hW, ht⟩ := h
  refine wpAny_Call_Name_kw (thn ((pe_var (pos := p1) (i := i) hN hv hd hcd).run pinsZ sZ σZ HZ (fun v H1 => v = .ref f ∧ H1 = HZ) IZ ⟨.ref f, hs, rfl, rfl⟩) fun u s1 ⟨v, H1, I1, r1, e1, e2⟩ => ?_)
  subst e1
  rw [e2] at I1
  obtain rfl : u = Value.ref f := r1
  obtain ⟨params, body, scope, c', dv, hf, hc, L, hb, hbody⟩ := cal
  obtain ⟨⟨pm, ctv, of1⟩, _, _⟩ := (show ObjOk X.prog X.w HZ s1.heap f (LamO f (X.env.qual ++ "<lambda>") params body scope (cloFrom X.env.cells scope.names []) c' dv) from I1.hok f _ hf)
  obtain ⟨⟨oc, vs, tc, hoc, hdc, hvc⟩, _, _⟩ := (show ObjOk X.prog X.w HZ s1.heap c' (LamX.CodeO c' (X.env.qual ++ "<lambda>")) from I1.hok c' _ hc)
  refine PySem.W.callWith_F0 ⟨_, _, _, _, of1⟩ ?_
  have un : Un (frs X.stack) [] H HZ s.heap s1.heap := I1.base
  -- the frame is new, the body runs
  have go : ∀ binds : List (Str × Value), (∀ y ∈ binds, scope.names.lookup y.1 = some .local) →
      wpAny (model X.prog X.w) (X.A.deeper (envOfC qg sg s.heap.objs.size g cdg)).in1 (newFunctionEnv scope mainGlobals (cloFrom X.env.cells scope.names []) binds (X.env.qual ++ "<lambda>" ++ ".<locals>.") (some f) (.ref c') none builtinsNs)
        (fun env s₂ => s₂.heap.NoLimit ∧ codeAny (model X.prog X.w) (X.A.deeper (envOfC qg sg s.heap.objs.size g cdg)) (.expr body env) (CR (L2.CX X.prog X.w) (envOfC qg sg s.heap.objs.size g cdg :: X.stack) X.prog X.w HZ s1 Q E) s₂)
        (fun e s' => CR (L2.CX X.prog X.w) (envOfC qg sg s.heap.objs.size g cdg :: X.stack) X.prog X.w HZ s1 Q E (.error e) s') s1 := fun binds hl => by
    refine wpAny_newFunctionEnv L.cell hl (fun h₁ hns hsb => ⟨I1.nolimit.fresh _ hsb, ?_⟩) L.kind
    show codeAny _ _ (.expr body (LamX.lamEnv X scope s1.heap.objs.size f c')) _ _
    have kp : ∀ b o, s1.heap.get? b = some o → h₁.get? b = some o := fun b o e => hsb.extBut b o (Nat.ne_of_lt (Heap.lt_size e)) (Heap.get?_push_of_some _ e)
    have J : Inv (LamX.lamCx X (X.A.deeper (envOfC qg sg s.heap.objs.size g cdg)) (envOfC qg sg s.heap.objs.size g cdg :: X.stack) s1 HZ E scope f c') [] σ HZ { s1 with heap := h₁, toks := s1.toks + binds.length } := lam_in I L I1.env0 hr.hd un hns kp
    refine PySem.W.kla_codeExpr (wpAny_mono ((hbody _ _ s1 HZ E f c' (hr.deeper _)).run [] _ _ HZ Q J ht) (fun v s' hq => ?_) fun e s' hq => hq)
    obtain ⟨w', H', J', rv, q⟩ := hq
    exact ⟨w', H', J'.os, J'.bare, J'.base, J'.hok, rv, q⟩
  have rc : codeAny (model X.prog X.w) (X.A.deeper (envOfC qg sg s.heap.objs.size g cdg)) (.call (.ref f) ⟨[], []⟩) (CR (L2.CX X.prog X.w) (envOfC qg sg s.heap.objs.size g cdg :: X.stack) X.prog X.w HZ s1 Q E) s1 := by
    refine PySem.W.kla_callFunE hr.depth of1 rfl L.co L.gen rfl ⟨c', oc, vs, tc, rfl, hoc, hdc, hvc⟩ ?_
    cases hb with
    | zero z =>
      rw [z]
      exact wpAny_pure (go [] fun y hy => absurd hy (by simp))
    | @one dt an v hdt hla z =>
      obtain ⟨_, its, rv, o, ho, _, n, hdd⟩ := (show ObjOk X.prog X.w HZ s1.heap dt (.tup [v]) from I1.hok dt _ hdt)
      obtain ⟨u, rfl⟩ : ∃ u, its = [u] := by
        cases rv with
        | cons ra rb =>
          cases rb
          exact ⟨_, rfl⟩
      refine z pm (.ref c') ctv _ _ _ s1 _ u o n ho hdd (go [(an, u)] fun y hy => ?_)
      rw [List.mem_singleton.mp hy]
      exact hla
  have hx : PassesAt (L2.CX X.prog X.w) ((cxOf CXg X.prog X.w X.K X.mg X.base Ng qg sg g cdg X.A X.stack s H Eg).tr pn xe) σZ E := fun _ _ _ e s' I c => tk e s' (XE.of_call I (fun cls d H' h => hW cls d H' h) c)
  refine wpAny_call (codeAny_mono rc fun r s' hq => ?_)
  cases r with
  | error e => exact hx pinsZ HZ s1 e s' I1 hq
  | ok fl =>
    cases fl with
    | ret u => exact I1.after hq
    | next => exact False.elim hq
    | brk => exact False.elim hq
    | cont => exact False.elim hq
end
end KB

set_option Elab.async false
set_option linter.all false
set_option maxRecDepth 100000
set_option maxHeartbeats 4000000
namespace KB
open PySem PySem.Spec PyProof.Rows L2
def lamVB (sc : Scope) (N : List Str) (scope : Scope) : Bool :=
  decide (scope.kind = .function) && (!scope.isCoroutine && (!scope.isGenerator && scope.names.all fun y => !decide (y.2 = .cell) && ((!decide (y.2 = .local) || !N.contains y.1) && (!decide (y.2 = .free) || (decide (sc.names.lookup y.1 = some .cell) || decide (sc.names.lookup y.1 = some .free))))))
theorem lamV_by {sc : Scope} {N : List Str} {scope : Scope} (h : lamVB sc N scope = true) : LamV sc N scope := by
  unfold lamVB at h
  rw [Bool.and_eq_true, Bool.and_eq_true, Bool.and_eq_true, List.all_eq_true] at h
  obtain ⟨h1, h2, h3, h4⟩ := h
  have at_ : ∀ y ∈ scope.names, y.2 ≠ .cell ∧ (y.2 = .local → y.1 ∉ N) ∧ (y.2 = .free → sc.names.lookup y.1 = some .cell ∨ sc.names.lookup y.1 = some .free) := fun y hy => by
    have q := h4 y hy
    rw [Bool.and_eq_true, Bool.and_eq_true] at q
    obtain ⟨q1, q2, q3⟩ := q
    refine ⟨fun z => by rw [z] at q1; exact absurd q1 (by decide), fun z m => ?_, fun z => ?_⟩
    · rw [z] at q2
      have : N.contains y.1 = true := List.contains_iff_mem.mpr m
      rw [this] at q2
      exact absurd q2 (by decide)
    · rw [z] at q3
      have q3 : (decide (sc.names.lookup y.1 = some .cell) || decide (sc.names.lookup y.1 = some .free)) = true := q3
      rw [Bool.or_eq_true, decide_eq_true_eq, decide_eq_true_eq] at q3
      exact q3
  exact ⟨of_decide_eq_true h1, by simpa using h2, by simpa using h3, fun y hy => (at_ y hy).1, fun y hy => (at_ y hy).2.1, fun y hy => (at_ y hy).2.2⟩
/-- one parameter with a default, called without arguments -/
theorem bind_one {q : Str} {body : Expr} {scope : Scope} {clos : List (Str × Addr)} {dt : Addr} {pm cv ctv : Value} {M : Model} {A : Around} {E : Value → Shared → Prop} {s : Shared} {Q : List (Str × Value) → Shared → Prop} {u : Value} {o : Obj} {n : Nat} {a : Str} {p : Pos} {ds : List Expr}
    (ho : s.heap.get? dt = some o) (hd : o.data = .seq #[u] n) (h : Q [(a, u)] s) :
    wpAny M A (bindArgs (lamFd q { posonlyargs := [], args := [{ arg := a, annotation := none, pos := p }], vararg := none, kwonlyargs := [], kw_defaults := [], kwarg := none, defaults := ds } body scope clos pm cv ctv (.ref dt)) ⟨[], []⟩) Q E s := by
  unfold bindArgs
  refine wpAny_bind (wpAny_pure ?_)
  refine wpAny_bind (wpAny_seqItems ho hd ?_)
  wp_walk
  simpa [List.lookup] using h
end KB

set_option Elab.async false
set_option linter.all false
set_option maxRecDepth 100000
set_option maxHeartbeats 4000000
namespace KB
open PySem L2 Evl
/-- what the written part says of the errors that _law_wrong tells apart -/
structure WrF (K : PySem.W.Frag) (mg : Str → Option Value) (CB CD CK : Addr) : Prop where
  mK : mg "KeepError" = some (.ref CK)
  mB : mg "BadHomes" = some (.ref CB)
  mD : mg "BadDeeds" = some (.ref CD)
  exB : PySem.W.exmOne K (.ref CB) (.ref CK) = some true
  exD : PySem.W.exmOne K (.ref CD) (.ref CK) = some true
  eB : ExcC K CB
  eD : ExcC K CD
  kDD : PySem.W.kitOne K (.ref CD) (.ref CD) = some true
  kBD : PySem.W.kitOne K (.ref CB) (.ref CD) = some false
  kBB : PySem.W.kitOne K (.ref CB) (.ref CB) = some true
  xf : XfC K CD
  ix : PySem.W.findIn K (.ref CD) "index" = some none
/-- what _law_wrong makes of an error -/
def EWr (CB CD : Addr) (Q : VK) : XK := fun cls d H => (cls = .ref CB ∧ d = none ∧ ∀ H2, Same H H2 → Q (.str "homes") H2) ∨
  ∃ dd j, cls = .ref CD ∧ d = some dd ∧ H dd = some (.xd [("index", j)]) ∧ ∀ p H2, Same H H2 → H2 p = some (.tup [.str "deeds", j]) → Q (.ref p) H2
/-- _law_wrong(e) -/
def tWrong (X : Cx) (k : Nat) (CB CD : Addr) (te : TE) : TE := fun σ H Q => te σ H fun v H1 => ∃ f t, v = .ref f ∧ Cal X k t H1 f ∧ t (EWr CB CD Q) σ H1 fun _ H2 => Q (.str "") H2
end KB
namespace K8
open PySem PyProof.Rows L2 KB Evl
section
variable {X : Cx} {CB CD CK g : Addr} {fd : FuncData} {k : Nat} {p pos : Pos} {e : Expr} {te : TE}
theorem wrong_body (W : WrF X.K X.mg CB CD CK) (T : Txt X.mg) {pins : List (Addr × Obj)} {σ : L2.St} {s : Shared} {H : Hp} {Q : VK} {cdv : Value} {f : Addr} {t : XK → TE} (I : Inv X pins σ H s) (hr : Room (k + 1) (X.A.deeper (envOfC "_law_wrong" (defScope s__law_wrong) s.heap.objs.size g cdv)))
    (cal : Cal X k t H f) (ht : t (EWr CB CD Q) σ H fun _ H2 => Q (.str "") H2) :
    ∃ t, PSs (cxOf C8.CX0 X.prog X.w X.K X.mg X.base ["work", "e"] "_law_wrong" (defScope s__law_wrong) g cdv X.A X.stack s H C8.E0) (defBody s__law_wrong) t ∧ t { nx := fun _ H' => Q .non H', rt := Q } (L2.start ["work", "e"] [.ref f]) H := by
  refine ⟨_, pss_cons (ps_try_as (i := 1) (c := .ref CK) (Wout := fun _ _ _ _ => False) (tb := fun W D σZ HZ => ∃ (f : Addr) (E : XK), σZ[0]? = some (some (.ref f)) ∧ Cal X k t HZ f ∧ (∀ cls d H', E cls d H' → W cls d σZ H') ∧ t E σ HZ fun _ H2 => D.nx σZ H2)
    rfl rfl (show (["work", "e"] : List Str).Nodup by decide) rfl rfl ⟨rfl, by decide, .inl W.mK⟩ LamX.takes0 (fun Wx pn xe tk _ => ?_)
    (fun a oe cls d pn hz hf => pss_cons (ps_if (pt_val (pe_callB (call_isX hz hf) (by rfl) T.z_isinstance (by decide +kernel) (pa_cons (pv 1) (pa_cons (pe_glob (v := .ref CD) (by rfl) W.mD rfl) pa_nil)))) (pss_one (ps_ret (pe_tup (pa_cons pe_str (pa_cons (pe_xf W.xf W.ix hz hf (pv 1)) pa_nil))))) pss_nil)
      (pss_one (ps_ret (pe_ifExp (pt_val (pe_callB (call_isX hz hf) (by rfl) T.z_isinstance (by decide +kernel) (pa_cons (pv 1) (pa_cons (pe_glob (v := .ref CB) (by rfl) W.mB rfl) pa_nil)))) pe_str pe_str)))))
    (pss_one (ps_ret pe_str)), ?_⟩
  · exact ⟨fun pinsZ sZ σZ HZ D IZ h => (pss_one (ps_expr (pe_work (i := 0) (t := t) (W := Wx) (pn := pn) (xe := xe) I tk hr rfl (.inl rfl)))).run pinsZ sZ σZ HZ D IZ h⟩
  · have isX : ∀ {σ1 : L2.St} {H1 : Hp} {a D C : Addr} {d : Option Addr} {b : Bool}, σ1[1]? = some (some (.ref a)) → ExcC X.K D → (d = none ∨ ∃ dd fs, d = some dd ∧ H1 dd = some (.xd fs)) → PySem.W.kitOne X.K (.ref D) (.ref C) = some b →
        Ev (tCB (rIsX X.K a (.ref D) d) (tCons (tVar 1) (tCons (tC (.ref C)) tNil))) σ1 H1 (.bl b) := fun h1 h2 h3 h4 => ev_cb (ea_cons (ev_var h1) (ea_cons ev_c ea_nil)) fun H2 e2 Q2 q2 =>
      ⟨_, _, _, rfl, h2, rfl, h3.elim .inl (fun ⟨dd, fs, z1, z2⟩ => .inr ⟨dd, fs, z1, e2 _ _ z2⟩), h4, q2 H2 (Ex.refl H2)⟩
    refine ⟨f, EWr CB CD Q, rfl, cal, fun cls d H' h => ?_, ?_⟩
    · rcases h with ⟨rfl, rfl, q⟩ | ⟨dd, j, rfl, rfl, hdd, q⟩
      · refine ⟨true, W.exB, fun _ a na => ?_, fun z => by cases z⟩
        refine q_when (et_B (isX rfl W.eB (.inl rfl) W.kBD)) (fun z H1 e1 => by cases z) (fun _ H1 e1 => ?_)
        exact s_ret (ev_if (et_B (isX rfl W.eB (.inl rfl) W.kBB)) (fun _ => ev_c) (fun z => by cases z)) fun H2 e2 => q H2 (e1.trans e2)
      · refine ⟨true, W.exD, fun _ a na => ?_, fun z => by cases z⟩
        refine q_when (et_B (isX rfl W.eD (.inr ⟨dd, _, rfl, hdd⟩) W.kDD)) (fun _ H1 e1 => ?_) (fun z H1 e1 => by cases z)
        refine s_retU (eu_tup (ea_cons ev_c (ea_cons (fun H2 e2 Q2 q2 => ⟨.ref a, rfl, rfl, rfl, dd, _, j, rfl, e2 _ _ (e1 _ _ hdd), rfl, q2 H2 (Ex.refl H2)⟩) ea_nil)) (show 2 ≤ 100000 by decide)) fun p H2 np e2 hp => q p H2 (e1.trans e2) hp
    · exact ht
theorem pe_wrong {e : Expr} (F : Fun X.K "_law_wrong" "_law_wrong" s__law_wrong g fd) (hm : X.mg "_law_wrong" = some (.ref g)) (hb : Binds X.K fd ["work"] []) (W : WrF X.K X.mg CB CD CK) (T : Txt X.mg) {j : Nat} (hr : Room j X.A) (hk : k + 2 ≤ j) (hg : Gl X "_law_wrong") (he' : PE X e te)
    (he : starEach [e] X.env = (false, eval e X.env) :: starEach [] X.env := by rfl) : PE X (.Call (.Name "_law_wrong" p) [e] [] pos) (tWrong X k CB CD te) := by
  obtain ⟨oc, od, kV, doc, pm, an, cdv, ct, osl, rfl, lk, hcd⟩ := F.ex
  have ha : PA X [e] (tCons te tNil) := pa_cons he' pa_nil he
  refine ⟨fun pins s σ H Q I h => ?_⟩
  refine wpAny_Call_Name_kw (ld_glob I hg hm ?_ (by decide))
  refine PySem.W.callWith_K (h₀ := X.base) I.ok.mod.kin F.kp (thn (ha.run pos pins s σ H (fun vs H1 => match vs with
    | [v] => ∃ f t, v = .ref f ∧ Cal X k t H1 f ∧ t (EWr CB CD Q) σ H1 fun _ H2 => Q (.str "") H2
    | _ => False) I h) fun us s1 ⟨vs, H1, I1, r1, q⟩ => ⟨I1.kIn, ?_⟩) he rfl
  show wpAny _ _ (call (.ref g) us) _ _ _
  obtain ⟨v, rfl⟩ : ∃ v, vs = [v] := by
    match vs, q with
    | [v], _ => exact ⟨v, rfl⟩
  obtain ⟨f, t, rfl, cal, ht⟩ := q
  obtain rfl : us = [.ref f] := by
    cases r1 with
    | cons ra rb =>
      cases rb
      cases ra
      rfl
  have rc : codeAny (model X.prog X.w) X.A (.call (.ref g) ⟨[.ref f], []⟩) (CR C8.CX0 X.stack X.prog X.w H1 s1 Q C8.E0) s1 :=
    LamX.run_ofS (N := ["work", "e"]) (ps := ["work"]) (us := [.ref f]) (vs := [.ref f]) lk hcd sc__law_wrong (hr.mono hk) I1.env0 (hb s1 [.ref f] I1.kIn rfl) (.cons rfl .nil) rfl fun hr' => wrong_body W T I1 hr' cal ht
  refine wpAny_call (codeAny_mono rc fun r s2 hq => ?_)
  cases r with
  | error e => exact (show False from hq).elim
  | ok fl =>
    cases fl with
    | ret u => exact I1.after hq
    | next => exact False.elim hq
    | brk => exact False.elim hq
    | cont => exact False.elim hq
end
end K8

set_option Elab.async false
set_option linter.all false
set_option maxRecDepth 100000
set_option maxHeartbeats 8000000
namespace KB
open PySem PyProof.Rows L2 Evl
/-! ### readings of calls of defs that may raise -/
section
variable {K : PySem.W.Frag} {σ : L2.St} {H : Hp} {ta t1 t2 : TE} {tr : TA} {E : L2.St → XK} {vs xs ys : List V} {z : V} {sp : Sp}
theorem ev_callS (h : EvA tr σ H vs) (hs : SpV sp vs H z) : Ev (tCallS sp E tr) σ H z := fun H1 e Q q => h H1 e _ fun H2 e2 => hs H2 (e.trans e2) Q (fun H3 e3 => q H3 (e2.trans e3)) (E σ)
/-- a new tuple is returned -/
def SpU (sp : Sp) (vs : List V) (H : Hp) (xs : List V) : Prop := ∀ H1, Ex H H1 → ∀ Q : VK, (∀ p H2, H1 p = none → Ex H1 H2 → H2 p = some (.tup xs) → Q (.ref p) H2) → ∀ E : XK, sp vs H1 Q E
theorem eu_callS (h : EvA tr σ H vs) (hs : SpU sp vs H xs) : EvU (tCallS sp E tr) σ H xs := fun H1 e Q q => h H1 e _ fun H2 e2 => hs H2 (e.trans e2) Q (fun p H3 np e3 hp => q p H3 (fresh_back e2 np) (e2.trans e3) hp) (E σ)
theorem ev_call2U {E : XK} (h1 : EvU t1 σ H xs) (h2 : EvU t2 σ H ys) (hs : ∀ p q H1, H1 p = some (.tup xs) → H1 q = some (.tup ys) → Ex H H1 → SpV sp [.ref p, .ref q] H1 z) : Ev (tCall sp [] E (tCons t1 (tCons t2 tNil))) σ H z := fun H1 e Q k =>
  h1 H1 e _ fun p H2 _ e2 hp => h2 H2 (e.trans e2) _ fun q H3 _ e3 hq => hs p q H3 (e3 _ _ hp) hq ((e.trans e2).trans e3) H3 (Ex.refl H3) Q (fun H4 e4 => k H4 ((e2.trans e3).trans e4)) E
def rTupS (K : PySem.W.Frag) : List V → Hp → VK → Prop := fun xs H Q => ∃ p ys, xs = [.ref p] ∧ ((SqL K H p ys ∧ ∀ l, H l = none → Q (.ref l) (upd H l (.tup ys))) ∨ (SqT K H p ys ∧ Q (.ref p) H))
theorem eu_tupleL {p : Addr} (h : Ev ta σ H (.ref p)) (hp : H p = some (.lst xs)) : EvU (tCB (rTupS K) (tCons ta tNil)) σ H xs := fun H1 e Q q =>
  h H1 e _ fun H2 e2 => ⟨p, xs, rfl, .inl ⟨.of (e2 _ _ (e _ _ hp)), fun l hl => q l _ (fresh_back e2 hl) (e2.trans (Ex.new hl)) upd_same⟩⟩
theorem ev_maxT {p : Addr} {ns : List Int} {m : Int} (h : Ev ta σ H (.ref p)) (hp : H p = some (.tup (ns.map V.int))) (hm : m ∈ ns) (ht : ∀ y ∈ ns, y ≤ m) : Ev (tCB (rMaxA K) (tCons ta tNil)) σ H (.int m) := fun H1 e Q q =>
  h H1 e _ fun H2 e2 => ⟨p, ns, rfl, .inr (.of (e2 _ _ (e _ _ hp))), List.length_pos_of_mem hm, fun m' h1 h2 => by
    have z : m' = m := Int.le_antisymm (ht _ h1) (h2 _ hm)
    rw [z]
    exact q H2 e2⟩
end
theorem max_in : ∀ (ns : List Int), 1 ≤ ns.length → ∃ m, m ∈ ns ∧ ∀ y ∈ ns, y ≤ m
  | [], h => by simp at h
  | n :: r, _ => ⟨_, (foldl_max r n).1, (foldl_max r n).2⟩
/-! ### what the law knows once its deeds are drawn -/
/-- all but the row and the tables stands as it stood -/
def Kp (r : Addr) (H H' : Hp) : Prop := ∀ b o, ¬ Is r b → (∀ ps, o ≠ .tbl ps) → H b = some o → H' b = some o
theorem kp_chg {r : Addr} {H H' : Hp} (c : Chg (Is r) H H') : Kp r H H' := fun b o n _ e => c b o n e
theorem kp_ext {r : Addr} {H H' : Hp} (c : LamX.ExtN H H') : Kp r H H' := fun b o _ n e => c b o e n
mutual
theorem Da.goK {r : Addr} {H H' : Hp} (c : Kp r H H') : ∀ {v : V} {d : PyData}, Da (Is r) H v d → Da (Is r) H' v d
  | _, _, .non => .non
  | _, _, .bl b => .bl b
  | _, _, .int i => .int i
  | _, _, .str x => .str x
  | _, _, .lst n h l => .lst n (c _ _ n (fun _ z => by cases z) h) (DaL.goK c l)
  | _, _, .tup n h l => .tup n (c _ _ n (fun _ z => by cases z) h) (DaL.goK c l)
theorem DaL.goK {r : Addr} {H H' : Hp} (c : Kp r H H') : ∀ {v : List V} {d : List PyData}, DaL (Is r) H v d → DaL (Is r) H' v d
  | _, _, .nil => .nil
  | _, _, .cons a b => .cons (Da.goK c a) (DaL.goK c b)
end
theorem tabs_chg {K : PySem.W.Frag} {S : Scr} {T : List (Addr × Str)} {r : Addr} {H H' : Hp} (t : LamX.Tabs T H) (row : RowAt K S H r) (c : Chg (Is r) H H') : LamX.Tabs T H' := fun p hp => by
  obtain ⟨ps, h1, h2, h3⟩ := t p hp
  obtain ⟨ys, hr⟩ := row.lst
  refine ⟨ps, c _ _ (fun z => ne_of h1 hr (fun q => nomatch q) z) h1, h2, fun pos cv hc => ?_⟩
  obtain ⟨a, e1, e2⟩ := h3 pos cv hc
  exact ⟨a, e1, c _ _ (fun z => ne_of e2 hr (fun q => by unfold LamX.CodeO at q; cases q) z) e2⟩
theorem row_ext {K : PySem.W.Frag} {S : Scr} {r : Addr} {H H' : Hp} (row : RowAt K S H r) (c : LamX.ExtN H H') : RowAt K S H' r := by
  obtain ⟨pos, seed, rest, h1, q⟩ := row.at_
  refine ⟨⟨pos, seed, rest, c _ _ h1 (fun _ z => by cases z), q⟩, row.ne, ?_, row.few⟩
  rcases row.scr with (h | ⟨o, h⟩) | h
  · exact .inl (.inl (c _ _ h fun _ z => by cases z))
  · exact .inl (.inr ⟨o, c _ _ h fun _ z => by cases z⟩)
  · exact .inr h
abbrev deedsD (xs : List (List Int × List Wr)) : PyData := .tuple (xs.map fun x => deedD x.1 x.2)
structure LawK (K : PySem.W.Frag) (S : Scr) (T : List (Addr × Str)) (r h ds dd : Addr) (hs : List Int) (xs : List (List Int × List Wr)) (rd : List Int) (wd : List Wr) (H : Hp) : Prop where
  row : RowAt K S H r
  tab : LamX.Tabs T H
  hh : H h = some (.tup (hs.map V.int))
  h1 : 1 ≤ hs.length
  h5 : hs.length ≤ 5
  hb : ∀ x ∈ hs, 0 ≤ x ∧ x < 4
  hds : Da (Is r) H (.ref ds) (deedsD xs)
  few : xs.length ≤ 11
  oks : ∀ x ∈ xs, OkDeed hs.length x.1 x.2
  hdd : Da (Is r) H (.ref dd) (deedD rd wd)
  ok : OkDeed hs.length rd wd
section
variable {K : PySem.W.Frag} {S : Scr} {T : List (Addr × Str)} {r h ds dd : Addr} {hs : List Int} {xs : List (List Int × List Wr)} {rd : List Int} {wd : List Wr} {H H' : Hp}
theorem LawK.step (L : LawK K S T r h ds dd hs xs rd wd H) (c : Chg (Is r) H H') (row : RowAt K S H' r) : LawK K S T r h ds dd hs xs rd wd H' :=
  ⟨row, tabs_chg L.tab L.row c, c _ _ (L.row.ne_tup L.hh) L.hh, L.h1, L.h5, L.hb, L.hds.go c, L.few, L.oks, L.hdd.go c, L.ok⟩
theorem LawK.ex (L : LawK K S T r h ds dd hs xs rd wd H) (e : Ex H H') : LawK K S T r h ds dd hs xs rd wd H' := L.step (ex_chg e) (L.row.same e)
theorem LawK.lam (L : LawK K S T r h ds dd hs xs rd wd H) (c : LamX.ExtN H H') (t : LamX.Tabs T H') : LawK K S T r h ds dd hs xs rd wd H' :=
  ⟨row_ext L.row c, t, c _ _ L.hh (fun _ z => by cases z), L.h1, L.h5, L.hb, L.hds.goK (kp_ext c), L.few, L.oks, L.hdd.goK (kp_ext c), L.ok⟩
theorem LawK.da_hs (L : LawK K S T r h ds dd hs xs rd wd H) : Da Nv H (.ref h) (.tuple (hs.map PyData.int)) := .tup (fun z => z) L.hh DaL.ints
theorem isHomes_ok (h1 : 1 ≤ hs.length) (h5 : hs.length ≤ 5) (hb : ∀ x ∈ hs, 0 ≤ x ∧ x < 4) : isHomes (.tuple (hs.map PyData.int)) = true := by
  simp only [isHomes, Bool.and_eq_true, decide_eq_true_eq, List.all_eq_true, List.length_map]
  refine ⟨⟨h1, by omega⟩, fun x hx => ?_⟩
  obtain ⟨i, hi, rfl⟩ := List.mem_map.mp hx
  have q := hb i hi
  simp only [isNum, Bool.and_eq_true, decide_eq_true_eq]
  omega
theorem LawK.homes (L : LawK K S T r h ds dd hs xs rd wd H) : isHomes (.tuple (hs.map PyData.int)) = true := isHomes_ok L.h1 L.h5 L.hb
theorem nHomes_eq : nHomes (.tuple (hs.map PyData.int)) = hs.length := List.length_map ..
theorem map_inj {α β : Type} {f : α → β} (h : ∀ x y, f x = f y → x = y) : ∀ {a b : List α}, a.map f = b.map f → a = b
  | [], [], _ => rfl
  | [], _ :: _, e => by cases e
  | _ :: _, [], e => by cases e
  | x :: a, y :: b, e => by
    rw [List.map_cons, List.map_cons, List.cons.injEq] at e
    rw [h _ _ e.1, map_inj h e.2]
theorem wD_inj (x y : Wr) (q : wD x = wD y) : x = y := by
  obtain ⟨a1, a2, a3⟩ := x
  obtain ⟨b1, b2, b3⟩ := y
  simp only [wD, PyData.tuple.injEq, List.cons.injEq, PyData.int.injEq, PyData.str.injEq, and_true] at q
  rw [q.1, q.2.1, q.2.2]
theorem int_inj (x y : Int) (q : PyData.int x = PyData.int y) : x = y := by injection q
theorem deedD_inj (x y : List Int × List Wr) (q : deedD x.1 x.2 = deedD y.1 y.2) : x = y := by
  obtain ⟨x1, x2⟩ := x
  obtain ⟨y1, y2⟩ := y
  simp only [deedD, PyData.tuple.injEq, List.cons.injEq, and_true] at q
  rw [map_inj int_inj q.1, map_inj wD_inj q.2]
theorem deeds_noL (xs : List (List Int × List Wr)) : noLs (xs.map fun x => deedD x.1 x.2) = true := by
  have wD : ∀ ws : List Wr, noLs (ws.map wD) = true := fun ws => by
    induction ws with
    | nil => rfl
    | cons x r ih => rw [List.map_cons, noLs, ih]; rfl
  have is_ : ∀ ws : List Int, noLs (ws.map PyData.int) = true := fun ws => by
    induction ws with
    | nil => rfl
    | cons x r ih => rw [List.map_cons, noLs, ih]; rfl
  induction xs with
  | nil => rfl
  | cons x r ih =>
    rw [List.map_cons, noLs, ih]
    simp only [deedD, noL, noLs, is_, wD, Bool.and_self]
theorem flat_deeds (xs : List (List Int × List Wr)) : flatDeeds (deedsD xs) = true := by
  show (xs.map fun x => deedD x.1 x.2).all flatDeed = true
  rw [List.all_eq_true]
  intro x hx
  obtain ⟨y, _, rfl⟩ := List.mem_map.mp hx
  exact flat_deed _ _
/-- plain's answer to deeds that are right -/
theorem v_plain {CB CD : Addr} {M : Addr → Prop} {a b : Addr} (ha : H a = some (.tup (hs.map V.int))) (h1 : 1 ≤ hs.length) (h5 : hs.length ≤ 5) (hb : ∀ x ∈ hs, 0 ≤ x ∧ x < 4) (hd : Da M H (.ref b) (deedsD xs)) (few : xs.length ≤ 60) (ok : ∀ x ∈ xs, OkDeed hs.length x.1 x.2) :
    SpU (spPlain CB CD) [.ref a, .ref b] H ((plainM hs.length xs).map V.int) := fun H1 e Q q E =>
  ⟨Nv, .ref a, .ref b, .tuple (hs.map PyData.int), rfl, .tup (fun z => z) (e _ _ ha) DaL.ints, fun z => (by rw [isHomes_ok h1 h5 hb] at z; cases z), fun _ => ⟨M, deedsD xs, hd.go (ex_chg e), flat_deeds xs, fun xs' p H2 ed l60 ok' sm np hp => by
      rw [nHomes_eq] at hp
      have inj : xs' = xs := map_inj deedD_inj (by injection ed with z; exact z.symm)
      rw [inj] at hp
      exact q p H2 np sm hp,
    fun j ee H2 bad _ _ => by
      rw [nHomes_eq] at bad
      exfalso
      cases bad with
      | whole z =>
        rw [show isTup (deedsD xs) 0 60 = _ from isTup_dec _ 0 60, List.length_map] at z
        simp at z
        omega
      | one ed l60 gi z all =>
        cases ed
        rw [List.getElem?_map] at gi
        obtain ⟨y, gy, rfl⟩ := Option.map_eq_some_iff.mp gi
        rw [isDeed_ok (ok y (List.mem_of_getElem? gy))] at z
        cases z⟩⟩
theorem v_houses {CB : Addr} {a : Addr} {m : Int} (ha : H a = some (.tup (hs.map V.int))) (h1 : 1 ≤ hs.length) (h5 : hs.length ≤ 5) (hb : ∀ x ∈ hs, 0 ≤ x ∧ x < 4) (hm : m ∈ hs) (ht : ∀ y ∈ hs, y ≤ m) : SpV (spHouses CB) [.ref a] H (.int (m + 1)) := fun H1 e Q q E =>
  ⟨Nv, .ref a, .tuple (hs.map PyData.int), rfl, .tup (fun z => z) (e _ _ ha) DaL.ints, fun _ ns m' ed hm' ht' H2 sm => by
    have en : ns = hs := map_inj int_inj (by injection ed with z; exact z.symm)
    subst en
    rw [show m' = m from Int.le_antisymm (ht _ hm') (ht' _ hm)]
    exact q H2 sm, fun z => by rw [isHomes_ok h1 h5 hb] at z; cases z⟩
/-- is_deed's answer -/
theorem v_isDeed {CB : Addr} {M : Addr → Prop} {a : Addr} {v : V} {d : PyData} (ha : H a = some (.tup (hs.map V.int))) (h1 : 1 ≤ hs.length) (h5 : hs.length ≤ 5) (hb : ∀ x ∈ hs, 0 ≤ x ∧ x < 4) (hd : Da M H v d) (fl : flatDeed d = true) : SpV (spIsDeed CB) [.ref a, v] H (.bl (isDeed hs.length d)) := fun H1 e Q q E =>
  ⟨Nv, .ref a, v, .tuple (hs.map PyData.int), rfl, .tup (fun z => z) (e _ _ ha) DaL.ints, fun z => (by rw [isHomes_ok h1 h5 hb] at z; cases z), fun _ => ⟨M, d, hd.go (ex_chg e), fl, fun H2 sm => by rw [nHomes_eq]; exact q H2 sm⟩⟩
end
end KB

set_option Elab.async false
set_option linter.all false
set_option maxRecDepth 100000
set_option maxHeartbeats 8000000
namespace KB
open PySem PyProof.Rows L2 Evl
/-- where the law stands once deeds and homes are drawn and plain was asked -/
def M1 (K : PySem.W.Frag) (T : List (Addr × Str)) : L2.St → Hp → Prop := fun σ H => ∃ (S : Scr) (r h ds dd : Addr) (hs : List Int) (xs : List (List Int × List Wr)) (rd : List Int) (wd : List Wr),
  (∃ x0 x1 x2 x3 x4 x5 x6 x7 x9 x10 x11 x12 x17, σ = [x0, x1, x2, x3, x4, x5, x6, x7, some (.int (hs.length : Int)), x9, x10, x11, x12, some (.ref dd), some (.ref ds), some (.ref h), some (.ref r), x17]) ∧ LawK K S T r h ds dd hs xs rd wd H
def tM1 (K : PySem.W.Frag) (T : List (Addr × Str)) : TS := fun D σ H => M1 K T σ H ∧ ∀ H', D.rt (.bl true) H'
theorem deed_noL (rd : List Int) (wd : List Wr) : noL (deedD rd wd) = true := by
  have q := deeds_noL [(rd, wd)]
  simpa [noLs] using q
end KB
namespace K8
open PySem PyProof.Rows L2 KB Evl
abbrev qLam : Str := (envOfC "law" (defScope s_law) 0 0 .none).qual ++ "<lambda>"
abbrev Nlaw : List Str := ["script", "here", "reads", "writes", "thing", "total", "make", "number", "many", "odd", "works", "at", "bad", "deed", "deeds", "homes", "row", "turn"]
def spLaw (K : PySem.W.Frag) (Pt : Addr) : Sp := fun vs H Q _ => ∃ (S : Scr), vs = [.ref S.a] ∧ SqL K H S.a (S.ns.map V.int) ∧ S.ns.length ≤ 63 ∧ H Pt = some (.tbl #[]) ∧ ∀ H', Q (.bl true) H'
section
variable {P : Program} {w : World} {K : PySem.W.Frag} {mg : Str → Option Value} {base : Heap}
theorem law_a {CB CD c Pt f : Addr} {A : Around} {outer : List Env} {s : Shared} {H : Hp} {Q : VK} {E : XK} (T : Txt mg)
    (d__law_taken : Df P w K mg base 1 "_law_taken" (spTaken K)) (d__law_homes : Df P w K mg base 2 "_law_homes" (spLawHomes K)) (d__law_deed : Df P w K mg base 3 "_law_deed" (spLawDeed K))
    (d__law_alike : Df P w K mg base 2 "_law_alike" spAlike1) (d_plain : Df P w K mg base 7 "plain" (spPlain CB CD)) (d_houses_of : Df P w K mg base 3 "houses_of" (spHouses CB)) (d_is_deed : Df P w K mg base 6 "is_deed" (spIsDeed CB))
    (hr : Room 11 (A.deeper (envOfC "law" (defScope s_law) s.heap.objs.size f (.ref c)))) {vs : List V} (h : spLaw K Pt vs H Q E)
    (tail : PSs (cxOf (L2.CX P w) P w K mg base Nlaw "law" (defScope s_law) f (.ref c) A outer s H E) (List.drop 9 (defBody s_law)) (tM1 K [(Pt, qLam)])) :
    ∃ t, PSs (cxOf (L2.CX P w) P w K mg base Nlaw "law" (defScope s_law) f (.ref c) A outer s H E) (defBody s_law) t ∧ t { nx := fun _ H' => Q .non H', rt := Q } (L2.start Nlaw vs) H := by
  obtain ⟨S, rfl, hS, few, hP, k⟩ := h
  refine ⟨_, (pss_cons (ps_set (i := 16) sc_law.nd rfl (Or.inr rfl) (pe_lst (pa_cons (pv 0) (pa_cons pe_int (pa_cons pe_int (pa_cons pe_int pa_nil))))))
      (pss_cons (ps_set (i := 15) sc_law.nd rfl (Or.inr rfl) (pe_d d__law_homes hr (by decide) (by rfl) (pa_cons (pv 16) pa_nil)))
      (pss_cons (ps_set (i := 14) sc_law.nd rfl (Or.inr rfl) (pe_callTy call_tuple_of (by rfl) T.z_tuple (by decide +kernel) (pa_cons (pe_lc (own := [("turn", 17)]) rfl sc_law.nd (pi_range1 (by rfl) T.z_range (pa_cons (pe_d d__law_taken hr (by decide) (by rfl) (pa_cons (pv 16) (pa_cons pe_int pa_nil))) pa_nil)) (blkOk_by (N := ["script", "here", "reads", "writes", "thing", "total", "make", "number", "many", "odd", "works", "at", "bad", "deed", "deeds", "homes", "row", "turn"]) (sc := defScope s_law) (by decide +kernel)) (fun _ _ _ _ _ => (pg_name (i := 17) sc_law.nd rfl (by first | exact Or.inl rfl | exact Or.inr rfl))) (fun _ _ _ _ _ => pts_nil) (fun _ _ _ _ _ => (pe_d d__law_deed hr (by decide) (by rfl) (pa_cons (pv 16) (pa_cons (pv 15) pa_nil))))) pa_nil)))
      (pss_cons (ps_set (i := 1) sc_law.nd rfl (Or.inr rfl) (pe_op op_rep (pe_lst (pa_cons pe_int pa_nil)) (pe_callB call_len_seq (by rfl) T.z_len (by decide +kernel) (pa_cons (pv 15) pa_nil))))
      (pss_cons (ps_for (passes_of rfl) rfl (pi_tup (pv 14)) (pg_tup (by rfl) (pgs_cons (pg_name (i := 2) sc_law.nd rfl (by first | exact Or.inl rfl | exact Or.inr rfl)) (pgs_cons (pg_name (i := 3) sc_law.nd rfl (by first | exact Or.inl rfl | exact Or.inr rfl)) pgs_nil))) (pss_cons (ps_set (i := 5) sc_law.nd rfl (Or.inl rfl) (pe_callB (cr_sum rfl) (by rfl) T.z_sum (by decide +kernel) (pa_cons (pe_lc (own := [("thing", 4)]) rfl sc_law.nd (pi_tup (pv 2)) (blkOk_by (N := ["script", "here", "reads", "writes", "thing", "total", "make", "number", "many", "odd", "works", "at", "bad", "deed", "deeds", "homes", "row", "turn"]) (sc := defScope s_law) (by decide +kernel)) (fun _ _ _ _ _ => (pg_name (i := 4) sc_law.nd rfl (by first | exact Or.inl rfl | exact Or.inr rfl))) (fun _ _ _ _ _ => pts_nil) (fun _ _ _ _ _ => (pe_ix (ix_list : IxR _ (rIxL K)) (pv 1) (pv 4) (fun _ _ => rfl)))) pa_nil)))
      (pss_one (ps_for (passes_of rfl) rfl (pi_tup (pv 3)) (pg_tup (by rfl) (pgs_cons (pg_name (i := 4) sc_law.nd rfl (by first | exact Or.inl rfl | exact Or.inr rfl)) (pgs_cons (pg_name (i := 6) sc_law.nd rfl (by first | exact Or.inl rfl | exact Or.inr rfl)) (pgs_cons (pg_name (i := 7) sc_law.nd rfl (by first | exact Or.inl rfl | exact Or.inr rfl)) pgs_nil)))) (pss_one (ps_asg (pe_ifExp (pt_cmpR op_eq (pv 6) pe_str (nomark _)) (pv 7) (pe_op op_mod (pe_callTy call_int1 (by rfl) T.z_int (by decide +kernel) (pa_cons (pe_op op_add (pv 7) (pv 5)) pa_nil)) pe_int)) (pg_sub (pv 1) (pv 4) set_list)))))))
      (pss_cons (ps_if (PW.pt (pw_or (pt_not (pt_val (pe_d d__law_alike hr (by decide) (by rfl) (pa_cons (pe_dX d_plain hr (by decide) (by rfl) (takes_of rfl rfl rfl rfl) (pa_cons (pv 15) (pa_cons (pv 14) pa_nil))) (pa_cons (pe_callTy call_tuple_of (by rfl) T.z_tuple (by decide +kernel) (pa_cons (pv 1) pa_nil)) pa_nil))))) (pw_or1 (pt_cmpR op_ne (pe_dX d_houses_of hr (by decide) (by rfl) (takes_of rfl rfl rfl rfl) (pa_cons (pv 15) pa_nil)) (pe_op op_add (pe_callB (cr_maxA rfl hr.units) (by rfl) T.z_max (by decide +kernel) (pa_cons (pv 15) pa_nil)) pe_int) (nomark _))))) (pss_one (ps_ret pe_bl)) pss_nil)
      (pss_cons (ps_set (i := 13) sc_law.nd rfl (Or.inr rfl) (pe_d d__law_deed hr (by decide) (by rfl) (pa_cons (pv 16) (pa_cons (pv 15) pa_nil))))
      (pss_cons (ps_if (pt_cmpR op_notBl (pe_dX d_is_deed hr (by decide) (by rfl) (takes_of rfl rfl rfl rfl) (pa_cons (pv 15) (pa_cons (pv 13) pa_nil))) pe_bl (nomark _)) (pss_one (ps_ret pe_bl)) pss_nil)
      (pss_cons (ps_set (i := 8) sc_law.nd rfl (Or.inl rfl) (pe_callB call_len_seq (by rfl) T.z_len (by decide +kernel) (pa_cons (pv 15) pa_nil)))
      tail))))))))), ?_⟩
  have tab0 : LamX.Tabs [(Pt, qLam)] H := fun p hp => by
    rw [List.mem_singleton.mp hp]
    exact .nil hP
  -- the row
  refine q_asgL (el_lst (ea_cons (ev_var rfl) (ea_cons ev_c (ea_cons ev_c (ea_cons ev_c ea_nil)))) (show 4 ≤ 100000 by decide)) fun r H1 nr e1 hr1 => ?_
  have row1 : RowAt K S H1 r := by
    refine ⟨⟨0, 14728, 0, hr1, by decide, by decide, by decide⟩, ?_, ex_l e1 hS, few⟩
    rcases hS with (h | ⟨o, h⟩) | h
    · exact .inl (ne_of_none h nr)
    · exact .inl (ne_of_none h nr)
    · exact .inr fun _ => .inr h
  have tab1 : LamX.Tabs [(Pt, qLam)] H1 := tab0.ext e1
  -- homes
  refine ⟨_, rfl, S, r, rfl, row1, fun h hs H2 l1 l5 hb c2 row2 nh hh => ?_⟩
  have tab2 := tabs_chg tab1 row1 c2
  -- deeds
  refine ⟨_, rfl, S, r, 12, rfl, row2, by decide, by decide, fun m H3 m0 m1 c3 row3 => ⟨m, rfl, by omega, by omega, fun D hD => ?_⟩⟩
  have tab3 := tabs_chg tab2 row2 c3
  have hh3 := c3 _ _ (row2.ne_tup hh) hh
  have nD : ¬ Is r D := row3.ne_new hD
  have hbi : ∀ x ∈ hs, 0 ≤ x ∧ x < 4 := hb
  refine lc_range (fun i H2 => ∃ (xs : List (List Int × List Wr)) (vs : List V), xs.length = i ∧ (∀ x ∈ xs, OkDeed hs.length x.1 x.2) ∧ Chg (Is r) H3 H2 ∧ RowAt K S H2 r ∧ H2 D = some (.lst vs) ∧ DaL (orAt (Is r) D) H2 vs (xs.map fun x => deedD x.1 x.2))
    ⟨[], [], rfl, fun x hx => (nomatch hx), Chg.new hD, row3.same (Same.new hD), upd_same, .nil⟩ ?_ ?_
  · rintro i H4 hi ⟨xs, vs, hl, hok, c4, row4, hD4, hv⟩
    refine ⟨rfl, ?_⟩
    show tCall (spLawDeed K) [] E0 (tCons (tVar 16) (tCons (tVar 15) tNil)) _ H4 _
    refine ⟨_, rfl, _, rfl, S, r, h, hs.map V.int, rfl, row4, c4 _ _ (row3.ne_tup hh3) hh3, by rw [List.length_map]; exact l1, by rw [List.length_map]; omega, fun a rd wd H5 ok c5 row5 da => ?_⟩
    rw [List.length_map] at ok
    have hD5 := c5 _ _ nD hD4
    have cP : Chg (orAt (Is r) D) H4 (upd H5 D (.lst (vs ++ [.ref a]))) := (c5.mono fun _ z => .inl z).trans (Chg.put (.inr rfl))
    refine ⟨vs, hD5, ?_, xs ++ [(rd, wd)], _, ?_, fun x hx => ?_, (c4.trans c5).mut hD, row3.new row5 hD, upd_same, ?_⟩
    · have q := hv.length
      rw [List.length_map, hl] at q
      exact small1000 (by omega)
    · rw [List.length_append, hl]
      rfl
    · rcases List.mem_append.mp hx with z | z
      · exact hok x z
      · rw [List.mem_singleton.mp z]
        exact ok
    · rw [List.map_append]
      refine (hv.go cP).append (.cons ?_ .nil)
      exact ((da.offL hD5 (deed_noL rd wd)).go (M := orAt (Is r) D) (Chg.put (.inr rfl)))
  rintro H4 ⟨xs, vx, hl, hok, c4, row4, hD4, hv⟩
  refine ⟨D, vx, rfl, .inl ⟨.of hD4, fun ds hds => ?_⟩⟩
  have tab4 := tabs_chg tab3 row3 c4
  have hh4 := c4 _ _ (row3.ne_tup hh3) hh3
  have n4 : Same H4 (upd H4 ds (.tup vx)) := Same.new hds
  have row5 := row4.same n4
  have tab5 : LamX.Tabs [(Pt, qLam)] (upd H4 ds (.tup vx)) := tab4.ext n4
  have hh5 := n4 _ _ hh4
  have dd5 : Da (Is r) (upd H4 ds (.tup vx)) (.ref ds) (deedsD xs) := .tup (row4.ne_new hds) upd_same ((hv.weak fun _ z => .inl z).go (same_chg n4))
  have hds5 : (upd H4 ds (.tup vx)) ds = some (.tup vx) := upd_same
  have lv : vx.length = xs.length := by rw [hv.length, List.length_map]
  have xfew : xs.length ≤ 11 := by omega
  generalize upd H4 ds (.tup vx) = H5 at row5 tab5 hh5 dd5 hds5 ⊢
  clear c4 hD4 hv n4 tab4 hh4 row4 hds row3 c3 hD tab3 hh3 nD tab2 c2 row2 row1 tab1 hh nh tab0 hr1 e1 nr hS hP
  -- here = [0] * len(homes)
  have rep : ∀ {σ1 : L2.St}, σ1[15]? = some (some (.ref h)) → EvL (tOp rRep (tLst (tCons (tC (V.int 0)) tNil)) (tCB (rLenS K) (tCons (tVar 15) tNil))) σ1 H5 ((List.replicate hs.length 0).map V.int) := fun {σ1} h0 => by
    have q := el_rep (k := (hs.length : Int)) (el_lst (H := H5) (σ := σ1) (ea_cons (ev_c (v := V.int 0)) ea_nil) (show 1 ≤ 100000 by decide)) (tb := tCB (rLenS K) (tCons (tVar 15) tNil)) (fun H6 e6 => ev_is (ev_lenT (ev_var h0) (.of (e6 _ _ hh5))) (by rw [List.length_map])) (by omega) (by omega) (show 1 * _ ≤ 100000 by omega)
    rw [flat_one, show ((hs.length : Nat) : Int).toNat = hs.length from by omega] at q
    rw [List.map_replicate]
    exact q
  refine q_asgL (rep rfl) fun p H6 np e6 hp => ?_
  have hds6 := e6 _ _ hds5
  obtain ⟨_, _, _, lds⟩ := (show ∃ a, _ ∧ _ ∧ DaL (Is r) H5 vx (xs.map fun x => deedD x.1 x.2) from by
    obtain ⟨a, ys, e, n0, h0, l0⟩ := dd5.tup_of
    cases e
    rw [hds5] at h0
    cases h0
    exact ⟨ds, trivial, trivial, l0⟩)
  refine q_forT (ev_var rfl) (.of hds6) (fun i σ H7 => ∃ x2 x3 x4 x5 x6 x7, σ = [some (.ref S.a), some (.ref p), x2, x3, x4, x5, x6, x7, none, none, none, none, none, none, some (.ref ds), some (.ref h), some (.ref r), none] ∧ Ex H5 H7 ∧ H7 p = some (.lst ((plainM hs.length (xs.take i)).map V.int)))
    (fun H7 e7 => ⟨none, none, none, none, none, none, rfl, e6.trans e7, e7 _ _ hp⟩) (fun i σ H7 _ ⟨_, _, _, _, _, _, _, e7, _⟩ => .of (e7 _ _ hds5)) ?_ ?_
  · rintro i x σ H7 gx ⟨x2, x3, x4, x5, x6, x7, rfl, e7, hp7⟩
    obtain ⟨d, gd, da⟩ := lds.get gx
    rw [List.getElem?_map] at gd
    obtain ⟨y, gy, rfl⟩ := Option.map_eq_some_iff.mp gd
    have oky := hok y (List.mem_of_getElem? gy)
    have da7 := da.go (M := Is r) (ex_chg e7)
    obtain ⟨ld, _, rfl, _⟩ := (show ∃ a xs, x = .ref a ∧ True from by
      obtain ⟨a, xs, e, _⟩ := da.tup_of
      exact ⟨a, xs, e, trivial⟩)
    obtain ⟨ar, aw, wx, g0, g1, g2, lx, _, _, _⟩ := deed_da da7
    have lw : (plainM hs.length (xs.take i)).length = hs.length := length_plainM _ _
    generalize hws : plainM hs.length (xs.take i) = ws at lw hp7
    refine ⟨ld, _, rfl, .of g0, rfl, _, _, rfl, _, _, rfl, rfl, ?_⟩
    have bound : ∀ t : Int, 0 ≤ t ∧ t < hs.length → atI (ws.map V.int) t = some (V.int (wordAt ws t)) := fun t ht => by
      have e : t = ((t.toNat : Nat) : Int) := by omega
      have hlt : t.toNat < ws.length := by omega
      rw [e]
      refine atI_nat ?_
      rw [List.getElem?_map, List.getElem?_eq_getElem hlt, Option.map_some]
      unfold wordAt
      rw [List.getD_eq_getElem?_getD, Int.toNat_natCast, List.getElem?_eq_getElem hlt, Option.getD_some]
    have sumE : ∀ {σ1 : L2.St}, (∀ x, ((wipe σ1 [4]).set 4 (some x))[1]? = some (some (.ref p))) → (∀ x : V, ((wipe σ1 [4]).set 4 (some x))[4]? = some (some x)) → σ1[2]? = some (some (.ref ar)) → (∀ x, wipe ((wipe σ1 [4]).set 4 (some x)) [4] = wipe σ1 [4]) →
        Ev (tCB (rSum K) (tCons (tLc (iTup K (tVar 2)) (gName 4) tYes (tOp (rIxL K) (tVar 1) (tVar 4)) [4]) tNil)) σ1 H7 (.int (y.1.map (wordAt ws)).sum) := fun {σ1} k1 k4 k2 kw => by
      refine ev_sum ?_
      have q := el_lcT (K := K) (tl := tVar 2) (σ := σ1) (vs := [4]) (t := tYes) (te := tOp (rIxL K) (tVar 1) (tVar 4)) (j := 4) (fun _ => true) (fun i => V.int (wordAt ws (y.1.getD i 0))) (ev_var k2) g1 (by rw [List.length_map]; have := oky.rl; omega) kw (fun _ _ _ _ _ => et_yes) fun i x H2 e2 gx _ => by
        rw [List.getElem?_map] at gx
        obtain ⟨t, gt, rfl⟩ := Option.map_eq_some_iff.mp gx
        rw [List.getD_eq_getElem?_getD, gt, Option.getD_some]
        exact ev_op (ev_var (k1 _)) (ev_var (k4 _)) (rv_ixL (.of (e2 _ _ hp7)) (bound t (oky.rt t (List.mem_of_getElem? gt))))
      rw [given_all, List.length_map, range_map_get y.1 _ (fun t => V.int (wordAt ws t)) (fun i t gt => by rw [List.getD_eq_getElem?_getD, gt, Option.getD_some]), show (y.1.map fun t => V.int (wordAt ws t)) = (y.1.map (wordAt ws)).map V.int from by rw [List.map_map]; rfl] at q
      exact q
    refine q_asg (sumE (fun _ => rfl) (fun _ => rfl) rfl (fun _ => rfl)) fun H8 e8 => ?_
    have g2' := e8 _ _ g2
    have lenW : (writtenM ws y.1 y.2).length = y.2.length := by
      unfold writtenM
      exact List.length_map ..
    refine s_forT (ev_var rfl) (.of g2') (fun j σ H9 => ∃ x4 x6 x7, σ = [some (.ref S.a), some (.ref p), some (.ref ar), some (.ref aw), x4, some (.int (y.1.map (wordAt ws)).sum), x6, x7, none, none, none, none, none, none, some (.ref ds), some (.ref h), some (.ref r), none] ∧ Ex H5 H9 ∧ Chg (orAt Nv p) H8 H9 ∧ H9 p = some (.lst ((setW ((writtenM ws y.1 y.2).take j) ws).map V.int)))
      (fun H9 e9 => ⟨_, _, _, rfl, (e7.trans e8).trans e9, ex_chg e9, e9 _ _ (e8 _ _ hp7)⟩) (fun j σ H9 _ ⟨_, _, _, _, e9, c9, _⟩ => .of (c9 _ _ (fun z => z.elim (fun z => z) fun z => ne_of g2 hp7 (fun q => nomatch q) z) g2')) ?_ ?_
    · rintro j z σ H9 gz ⟨x4, x6, x7, rfl, e9, c9, hp9⟩
      obtain ⟨pd, gp, dz⟩ := lx.get gz
      rw [List.getElem?_map] at gp
      obtain ⟨pr, gr, rfl⟩ := Option.map_eq_some_iff.mp gp
      obtain ⟨ap, rfl, hap, _⟩ := wr_da dz
      have hap9 := c9 _ _ (fun z => z.elim (fun z => z) fun z => ne_of hap hp7 (fun q => nomatch q) z) (e8 _ _ hap)
      have q := oky.wt pr (List.mem_of_getElem? gr)
      refine ⟨ap, _, rfl, .of hap9, rfl, _, _, rfl, _, _, rfl, _, _, rfl, rfl, ?_⟩
      refine s_setL (v := .int (if pr.2.1 = ("word" : Str) then pr.2.2 else (pr.2.2 + (y.1.map (wordAt ws)).sum) % 1000)) (j := pr.1.toNat) hp9
        (ev_if (et_test (ev_op (ev_var rfl) ev_c (rv_eq rfl))) (fun hb => ev_is (ev_var rfl) ?_) (fun hb => ev_is (ev_op (ev_int1 (ev_op (ev_var rfl) (ev_var rfl) rv_I0)) ev_c (rv_I (by decide))) ?_)) (ev_var rfl) (ev_is (ev_var rfl) (show V.int pr.1 = _ by rw [show ((pr.1.toNat : Nat) : Int) = pr.1 from by have := q.lo; omega])) (by rw [List.length_map, length_setW, lw]; have := q.lo; have := q.hi; omega) fun H10 e10 => ?_
      · have z : pr.2.1 = ("word" : Str) := by
          have z := of_decide_eq_true hb
          injection z
        rw [if_pos z]
      · have z : ¬ pr.2.1 = ("word" : Str) := fun z => of_decide_eq_false hb (by rw [z])
        rw [if_neg z]
      · refine ⟨_, _, _, rfl, fun b o q => ?_, (c9.trans (ex_chg e10)).trans (Chg.put (.inr rfl)), ?_⟩
        · rw [upd_ne (ne_of_none q np)]
          exact e10 b o (e9 b o q)
        · have nx : (writtenM ws y.1 y.2)[j]? = some (pr.1, if pr.2.1 = ("word" : Str) then pr.2.2 else (pr.2.2 + (y.1.map (wordAt ws)).sum) % 1000) := by
            unfold writtenM
            rw [List.getElem?_map, gr, Option.map_some]
          rw [upd_same, setW_take nx, List.map_set]
    · rintro σ H9 ⟨x4, x6, x7, rfl, e9, c9, hp9⟩
      refine ⟨_, _, _, _, _, _, rfl, e9, ?_⟩
      rw [plainM_take gy, hws, hp9]
      have len : wx.length = (writtenM ws y.1 y.2).length := by rw [lx.length, List.length_map, lenW]
      rw [len, List.take_length]
      rfl
  rintro σ H7 ⟨x2, x3, x4, x5, x6, x7, rfl, e7, hp7⟩
  rw [lv, List.take_length] at hp7
  have row7 := row5.same e7
  have tab7 := tab5.ext e7
  have hh7 := e7 _ _ hh5
  have dd7 := dd5.go (M := Is r) (ex_chg e7)
  clear lds hds6 hp e6 np rep hds5 dd5 tab5 row5
  -- plain's answer, houses_of's answer
  obtain ⟨m0', hm, ht⟩ := max_in hs l1
  refine q_when (et_or (et_not (et_B (ev_call2U (eu_callS (ea_cons (ev_var rfl) (ea_cons (ev_var rfl) ea_nil)) (v_plain hh7 l1 l5 hbi dd7 (by omega) hok)) (eu_tupleL (ev_var rfl) hp7) fun p q H8 hp hq e8 => v_alike1 hp hq (by rw [length_plainM]; omega)))) fun _ => et_test (b := false)
    (ev_is (ev_op (ev_callS (ea_cons (ev_var rfl) ea_nil) (v_houses hh7 l1 l5 hbi hm ht)) (ev_op (ev_maxT (ev_var rfl) hh7 hm ht) ev_c rv_I0) (rv_ne rfl)) (by rw [decide_eq_true rfl]; rfl))) (fun z H8 e8 => by cases z) (fun _ H8 e8 => ?_)
  have row8 := row7.same e8
  have hh8 := e8 _ _ hh7
  -- one more deed
  refine ⟨_, rfl, _, rfl, S, r, h, hs.map V.int, rfl, row8, hh8, by rw [List.length_map]; exact l1, by rw [List.length_map]; omega, fun dd rd wd H9 ok9 c9 row9 da9 => ?_⟩
  rw [List.length_map] at ok9
  have L9 : LawK K S [(Pt, qLam)] r h ds dd hs xs rd wd H9 := ⟨row9, tabs_chg (tab7.ext e8) row8 c9, c9 _ _ (row8.ne_tup hh8) hh8, l1, l5, hbi, (dd7.go (ex_chg e8)).go c9, xfew, hok, da9, ok9⟩
  refine q_when (et_test (b := false) (ev_is (ev_op (ev_callS (ea_cons (ev_var rfl) (ea_cons (ev_var rfl) ea_nil)) (v_isDeed L9.hh l1 l5 hbi da9 (flat_deed rd wd))) ev_c (rv_val fun H1 _ Q q => ⟨_, _, rfl, rfl, q⟩)) (by rw [isDeed_ok ok9, decide_eq_true rfl]; rfl))) (fun z H10 e10 => by cases z) (fun _ H10 e10 => ?_)
  have L10 := L9.ex e10
  refine q_asg (ev_is (ev_lenT (ev_var rfl) (.of L10.hh)) (by rw [List.length_map])) fun H11 e11 => ?_
  exact ⟨⟨S, r, h, ds, dd, hs, xs, rd, wd, ⟨_, _, _, _, _, _, _, _, _, _, _, _, _, rfl⟩, L10.ex e11⟩, k⟩
end
end K8

set_option Elab.async false
set_option linter.all false
set_option maxRecDepth 100000
set_option maxHeartbeats 8000000
/-! What a reading lays as data. -/
namespace KB
open PySem PyProof.Rows L2 Evl
def EvD (r : Addr) (te : TE) (σ : L2.St) (H : Hp) (d : PyData) : Prop := ∀ H1, Ex H H1 → ∀ Q : VK, (∀ v H2, Ex H1 H2 → Da (Is r) H2 v d → Q v H2) → te σ H1 Q
def EvDA (r : Addr) (ta : TA) (σ : L2.St) (H : Hp) (ds : List PyData) : Prop := ∀ H1, Ex H H1 → ∀ Q : List V → Hp → Prop, (∀ vs H2, Ex H1 H2 → DaL (Is r) H2 vs ds → Q vs H2) → ta σ H1 Q
/-- the row stands -/
def Std (r : Addr) (H : Hp) : Prop := ∃ o, H r = some o
theorem Std.ex {r : Addr} {H H1 : Hp} (s : Std r H) (e : Ex H H1) : Std r H1 := let ⟨o, h⟩ := s; ⟨o, e _ _ h⟩
theorem Std.ne {r p : Addr} {H : Hp} (s : Std r H) (n : H p = none) : ¬ Is r p := fun z => by
  obtain ⟨o, h⟩ := s
  rw [← (show p = r from z), n] at h
  cases h
theorem DaL.drop {M : Addr → Prop} {H : Hp} : ∀ (n : Nat) {vs : List V} {ds : List PyData}, DaL M H vs ds → DaL M H (vs.drop n) (ds.drop n)
  | 0, _, _, h => h
  | _ + 1, _, _, .nil => .nil
  | n + 1, _, _, .cons _ b => DaL.drop n b
theorem DaL.take {M : Addr → Prop} {H : Hp} : ∀ (n : Nat) {vs : List V} {ds : List PyData}, DaL M H vs ds → DaL M H (vs.take n) (ds.take n)
  | 0, _, _, h => .nil
  | _ + 1, _, _, .nil => .nil
  | n + 1, _, _, .cons a b => .cons a (DaL.take n b)
theorem DaL.flat {M : Addr → Prop} {H : Hp} {vs : List V} {ds : List PyData} (h : DaL M H vs ds) : ∀ n : Nat, DaL M H (List.replicate n vs).flatten (List.replicate n ds).flatten
  | 0 => .nil
  | n + 1 => by
    rw [List.replicate_succ, List.replicate_succ, List.flatten_cons, List.flatten_cons]
    exact h.append (DaL.flat h n)
def cutG (ds : List PyData) (lo hi : Option Int) : List PyData := (ds.drop (HT.sIx ds.length 0 lo)).take (HT.sIx ds.length ds.length hi - HT.sIx ds.length 0 lo)
section
variable {K : PySem.W.Frag} {r : Addr} {σ : L2.St} {H : Hp} {te ta tb : TE} {tr : TA} {tl th : TO} {d : PyData} {ds es : List PyData} {v : V}
theorem ed_ev (h : Ev te σ H v) (hd : Da (Is r) H v d) : EvD r te σ H d := fun H1 e Q q => h H1 e _ fun H2 e2 => q v H2 e2 (hd.go (ex_chg (e.trans e2)))
theorem ed_non : EvD r (tC .non) σ H .none := ed_ev ev_c .non
theorem ed_int {i : Int} : EvD r (tC (.int i)) σ H (.int i) := ed_ev ev_c (.int i)
theorem ed_bl {b : Bool} : EvD r (tC (.bl b)) σ H (.bool b) := ed_ev ev_c (.bl b)
theorem ed_str {x : Str} : EvD r (tC (.str x)) σ H (.str x) := ed_ev ev_c (.str x)
theorem ed_vi {i : Nat} {n : Int} (h : σ[i]? = some (some (.int n))) : EvD r (tVar i) σ H (.int n) := ed_ev (ev_var h) (.int n)
theorem ed_neg {i : Int} : EvD r (tUn (rU fun i => .int (-i)) (tC (.int i))) σ H (.int (-i)) := ed_ev (ev_un ev_c ru_neg) (.int _)
theorem eda_nil : EvDA r tNil σ H [] := fun H1 _ _ q => q [] H1 (Ex.refl H1) .nil
theorem eda_cons (h : EvD r te σ H d) (hr : EvDA r tr σ H ds) : EvDA r (tCons te tr) σ H (d :: ds) := fun H1 e Q q =>
  h H1 e _ fun v H2 e2 hv => hr H2 (e.trans e2) _ fun vs H3 e3 hvs => q (v :: vs) H3 (e2.trans e3) (.cons (hv.go (ex_chg e3)) hvs)
theorem ed_tup (s : Std r H) (h : EvDA r tr σ H ds) (hl : ds.length ≤ 100000) : EvD r (tTup tr) σ H (.tuple ds) := fun H1 e Q q => h H1 e _ fun vs H2 e2 hv =>
  ⟨by rw [hv.length]; exact sz_of hl, fun p hp => q _ _ (e2.trans (Ex.new hp)) (.tup ((s.ex (e.trans e2)).ne hp) upd_same (hv.go (Chg.new hp)))⟩
theorem ed_lst (s : Std r H) (h : EvDA r tr σ H ds) (hl : ds.length ≤ 100000) : EvD r (tLst tr) σ H (.list ds) := fun H1 e Q q => h H1 e _ fun vs H2 e2 hv =>
  ⟨by rw [hv.length]; exact sz_of hl, fun p hp => q _ _ (e2.trans (Ex.new hp)) (.lst ((s.ex (e.trans e2)).ne hp) upd_same (hv.go (Chg.new hp)))⟩
theorem Da.lst_of {M : Addr → Prop} {H : Hp} {v : V} {ds : List PyData} (h : Da M H v (.list ds)) : ∃ a xs, v = .ref a ∧ ¬ M a ∧ H a = some (.lst xs) ∧ DaL M H xs ds := by
  cases h with
  | lst n h l => exact ⟨_, _, rfl, n, h, l⟩
theorem ed_list (s : Std r H) (h : EvD r te σ H (.tuple ds)) : EvD r (tCB (rListS K) (tCons te tNil)) σ H (.list ds) := fun H1 e Q q => h H1 e _ fun v H2 e2 hv => by
  obtain ⟨a, xs, rfl, n, ha, l⟩ := hv.tup_of
  exact ⟨a, xs, rfl, .inr (.of ha), fun p hp => q _ _ (e2.trans (Ex.new hp)) (.lst ((s.ex (e.trans e2)).ne hp) upd_same (l.go (Chg.new hp)))⟩
theorem ed_catL (s : Std r H) (h1 : EvD r ta σ H (.list ds)) (h2 : EvD r tb σ H (.list es)) (hl : ds.length + es.length ≤ 100000) : EvD r (tOp rCat ta tb) σ H (.list (ds ++ es)) := fun H1 e Q q =>
  h1 H1 e _ fun v H2 e2 hv => h2 H2 (e.trans e2) _ fun u H3 e3 hu => by
    obtain ⟨a, xs, rfl, n, ha, l⟩ := (hv.go (M := Is r) (ex_chg e3)).lst_of
    obtain ⟨b, ys, rfl, m, hb, k⟩ := hu.lst_of
    exact ⟨a, b, xs, ys, rfl, rfl, ha, hb, by rw [l.length, k.length]; exact sz_of hl, fun p hp => q _ _ ((e2.trans e3).trans (Ex.new hp)) (.lst ((s.ex ((e.trans e2).trans e3)).ne hp) upd_same ((l.append k).go (Chg.new hp)))⟩
theorem ed_cat (s : Std r H) (h1 : EvD r ta σ H (.tuple ds)) (h2 : EvD r tb σ H (.tuple es)) (hl : ds.length + es.length ≤ 100000) : EvD r (tOp (rCatA K) ta tb) σ H (.tuple (ds ++ es)) := fun H1 e Q q =>
  h1 H1 e _ fun v H2 e2 hv => h2 H2 (e.trans e2) _ fun u H3 e3 hu => by
    have hv3 := hv.go (M := Is r) (ex_chg e3)
    obtain ⟨a, xs, rfl, n, ha, l⟩ := hv3.tup_of
    obtain ⟨b, ys, rfl, m, hb, k⟩ := hu.tup_of
    refine ⟨a, b, xs, ys, rfl, rfl, .of ha, .of hb, by rw [l.length, k.length]; exact sz_of hl, fun z => ?_, fun _ z => ?_, fun _ _ p hp => q _ _ ((e2.trans e3).trans (Ex.new hp)) (.tup ((s.ex ((e.trans e2).trans e3)).ne hp) upd_same ((l.append k).go (Chg.new hp)))⟩
    · subst z
      cases l
      exact q _ _ (e2.trans e3) hu
    · subst z
      cases k
      exact q _ _ (e2.trans e3) (by rw [List.append_nil]; exact hv3)
theorem ed_rep (s : Std r H) {k : Int} (h1 : EvD r ta σ H (.tuple ds)) (h2 : ∀ H1, Ex H H1 → Ev tb σ H1 (.int k)) (k1 : 1 ≤ k) (k2 : k ≤ 1000) (d1 : 1 ≤ ds.length) (d2 : ds.length ≤ 1000) : EvD r (tOp (fun x y H Q => rRep1 K x y H Q ∨ rRepT K x y H Q) ta tb) σ H (.tuple (List.replicate k.toNat ds).flatten) := fun H1 e Q q =>
  h1 H1 e _ fun v H2 e2 hv => h2 H2 (e.trans e2) H2 (Ex.refl H2) _ fun H3 e3 => by
    have hv3 := hv.go (M := Is r) (ex_chg e3)
    obtain ⟨a, xs, rfl, n, ha, l⟩ := hv3.tup_of
    by_cases z : k = 1
    · subst z
      refine .inl ⟨a, xs, rfl, rfl, .of ha, q _ _ (e2.trans e3) ?_⟩
      have e1 : (List.replicate (1 : Int).toNat ds).flatten = ds := by
        show (List.replicate 1 ds).flatten = ds
        simp
      rw [e1]
      exact hv3
    · refine .inr ⟨a, k, xs, rfl, rfl, .of ha, ?_, by omega, k2, by rw [l.length]; exact d2, fun p hp => q _ _ ((e2.trans e3).trans (Ex.new hp)) (.tup ((s.ex ((e.trans e2).trans e3)).ne hp) upd_same ((l.flat _).go (Chg.new hp)))⟩
      intro z
      have := l.length
      rw [z] at this
      simp at this
      omega
theorem ed_sl (s : Std r H) {lo hi : Option Int} (h1 : EvD r te σ H (.tuple ds)) (h2 : EvO tl σ H lo) (h3 : EvO th σ H hi) : EvD r (tSl (rSlA K) te tl th) σ H (.tuple (cutG ds lo hi)) := fun H1 e Q q =>
  h1 H1 e _ fun v H2 e2 hv => h2 H2 (e.trans e2) _ fun H3 e3 => h3 H3 ((e.trans e2).trans e3) _ fun H4 e4 => by
    have hv4 := (hv.go (M := Is r) (ex_chg e3)).go (M := Is r) (ex_chg e4)
    obtain ⟨a, xs, rfl, n, ha, l⟩ := hv4.tup_of
    have len := l.length
    refine ⟨a, xs, rfl, .of ha, fun ⟨z1, z2⟩ => ?_, fun _ p hp => q _ _ (((e2.trans e3).trans e4).trans (Ex.new hp)) (.tup ((s.ex (((e.trans e2).trans e3).trans e4)).ne hp) upd_same ?_)⟩
    · have ec : cutG ds lo hi = ds := by
        unfold cutG
        rw [← len, z1, z2, List.drop_zero, Nat.sub_zero, len, List.take_length]
      exact q _ _ ((e2.trans e3).trans e4) (by rw [ec]; exact hv4)
    · unfold cutV cutG
      rw [← len]
      exact ((l.drop _).take _).go (Chg.new hp)
theorem q_asgD {tz : TS} {D : Ends} {i : Nat} (h : EvD r te σ H d) (k : ∀ v H1, Ex H H1 → Da (Is r) H1 v d → tz D (σ.set i (some v)) H1) : tSeq (tAsg te (gName i)) tz D σ H := h H (Ex.refl H) _ fun v H1 e hv => k v H1 e hv
theorem ed_t0 (s : Std r H) : EvD r (tTup tNil) σ H (.tuple []) := ed_tup s eda_nil (Nat.zero_le _)
section
variable {t1 t2 t3 : TE} {d1 d2 d3 : PyData}
theorem ed_t1 (s : Std r H) (h1 : EvD r t1 σ H d1) : EvD r (tTup (tCons t1 tNil)) σ H (.tuple [d1]) := ed_tup s (eda_cons h1 eda_nil) (show 1 ≤ 100000 by decide)
theorem ed_t2 (s : Std r H) (h1 : EvD r t1 σ H d1) (h2 : EvD r t2 σ H d2) : EvD r (tTup (tCons t1 (tCons t2 tNil))) σ H (.tuple [d1, d2]) := ed_tup s (eda_cons h1 (eda_cons h2 eda_nil)) (show 2 ≤ 100000 by decide)
theorem ed_t3 (s : Std r H) (h1 : EvD r t1 σ H d1) (h2 : EvD r t2 σ H d2) (h3 : EvD r t3 σ H d3) : EvD r (tTup (tCons t1 (tCons t2 (tCons t3 tNil)))) σ H (.tuple [d1, d2, d3]) := ed_tup s (eda_cons h1 (eda_cons h2 (eda_cons h3 eda_nil))) (show 3 ≤ 100000 by decide)
end
theorem LawK.std {S : Scr} {T : List (Addr × Str)} {h ds dd : Addr} {hs : List Int} {xs : List (List Int × List Wr)} {rd : List Int} {wd : List Wr} (L : LawK K S T r h ds dd hs xs rd wd H) : Std r H := let ⟨_, q⟩ := L.row.lst; ⟨_, q⟩
theorem LawK.deedV {S : Scr} {T : List (Addr × Str)} {h ds dd : Addr} {hs : List Int} {xs : List (List Int × List Wr)} {rd : List Int} {wd : List Wr} (L : LawK K S T r h ds dd hs xs rd wd H) {i : Nat} (h0 : σ[i]? = some (some (.ref dd))) : EvD r (tVar i) σ H (.tuple [.tuple (rd.map PyData.int), .tuple (wd.map wD)]) := ed_ev (ev_var h0) L.hdd
theorem LawK.ixW {S : Scr} {T : List (Addr × Str)} {h ds dd : Addr} {hs : List Int} {xs : List (List Int × List Wr)} {rd : List Int} {wd : List Wr} (L : LawK K S T r h ds dd hs xs rd wd H) {i : Nat} (h0 : σ[i]? = some (some (.ref dd))) : EvD r (tOp (rIxT K) (tVar i) (tC (.int 1))) σ H (.tuple (wd.map wD)) := by
  obtain ⟨ar, aw, wx, g0, g1, g2, lx, nd, nar, naw⟩ := deed_da L.hdd
  exact ed_ev (ev_op (ev_var h0) ev_c (rv_ixT (.of g0) rfl)) (.tup naw g2 lx)
theorem q_ifOr {t u : TT} {tu tz : TS} {D : Ends} (h1 : EvT t σ H false) (k : ∀ H1, Ex H H1 → u σ H1 (fun b H2 => if b = true then tu { D with nx := tz D } σ H2 else tz D σ H2)) : tSeq (tIfS (tOr t u) tu tNext) tz D σ H :=
  h1 H (Ex.refl H) _ fun H1 e => by
    show (if (false : Bool) = true then _ else _)
    exact iteF (k H1 e)
theorem cut_lo (ds : List PyData) (k : Nat) (hk : k ≤ ds.length) : cutG ds none (some (k : Int)) = ds.take k := by
  unfold cutG
  rw [HT.sIx_none, HT.sIx_nat, List.drop_zero, Nat.sub_zero, Nat.min_eq_left hk]
theorem cut_hi (ds : List PyData) (k : Nat) (hk : k ≤ ds.length) : cutG ds (some (k : Int)) none = ds.drop k := by
  unfold cutG
  rw [HT.sIx_none, HT.sIx_nat, Nat.min_eq_left hk, List.take_of_length_le (by rw [List.length_drop]; exact Nat.le_refl _)]
end
theorem sh2 (k : Int) : SeqAt.shaped (.tuple [.str "deeds", .int k]) = true := by
  unfold SeqAt.shaped
  rw [Bool.and_eq_true]
  refine ⟨?_, decide_eq_true ?_⟩
  · have z : PyData.canLay0 (.str "deeds") = true := by decide +kernel
    simp [PyData.canLay0, PyData.canLayAll0] at z ⊢
    exact z
  · simp [PyData.depth, PyData.depthAll]
theorem ints_lay : ∀ ns : List Int, PyData.canLayAll0 (ns.map PyData.int) = true
  | [] => by simp [PyData.canLayAll0]
  | n :: r => by simp [PyData.canLayAll0, PyData.canLay0, ints_lay r]
theorem ints_depth : ∀ ns : List Int, PyData.depthAll (ns.map PyData.int) = 0
  | [] => by simp [PyData.depthAll]
  | n :: r => by simp [PyData.depthAll, PyData.depth, ints_depth r]
theorem sh4 (ns : List Int) : SeqAt.shaped (.tuple (ns.map PyData.int)) = true := by
  unfold SeqAt.shaped
  rw [Bool.and_eq_true]
  refine ⟨?_, decide_eq_true ?_⟩
  · simp [PyData.canLay0, ints_lay]
  · simp [PyData.depth, ints_depth]
theorem sh3 : SeqAt.shaped (.tuple [.str "deeds", .none]) = true := by decide +kernel
theorem er (k : Int) : PyData.eqv (.tuple [.str "deeds", .int k]) (.tuple [.str "deeds", .int k]) = true := SeqAt.eqv_refl _ (SeqAt.canLay_of_shaped (sh2 k))
end KB

set_option Elab.async false
set_option linter.all false
set_option maxRecDepth 100000
set_option maxHeartbeats 8000000
namespace KB
open PySem PyProof.Rows L2 Evl
/-- the values among which the law picks one that is no deed -/
def oddD (n : Int) (R W : PyData) : List PyData :=
  [.none, .tuple [], .tuple [.tuple []], .tuple [.tuple [], .tuple []], .tuple (cutG [R, W] none (some 1)), .tuple ([R, W] ++ [.tuple []]), .list [R, W], .tuple [.tuple [.int n], W], .tuple [.tuple [.int 0, .int 0], W], .tuple [.tuple [], .tuple [.tuple [.int n, .str "word", .int 1]]]] ++
  [.tuple [.tuple [], .tuple [.tuple [.int 0, .str "word", .int 1000]]], .tuple [.tuple [], .tuple [.tuple [.int 0, .str "put", .int 1]]], .tuple [.tuple [], .tuple [.tuple [.int 0, .str "word"]]], .tuple [.tuple [], .tuple [.tuple [.int 0, .str "word", .int (-1)]]], .tuple [.list [], W], .tuple [.tuple [.bool true], W]] ++
  [.tuple [.tuple [], .tuple [.tuple [.int 0, .str "word", .int 1], .tuple [.int 0, .str "sum", .int 2]]], .tuple [.tuple [], .list [.tuple [.int 0, .str "word", .int 1]]], .tuple [.tuple [], .tuple [.tuple [.int 0, .str "word", .none]]], .tuple [.none, W], .tuple [.tuple [], .tuple [.tuple [.int 0, .none, .int 1]]]]
theorem flatMakes_wD (wd : List Wr) : flatMakes (.tuple (wd.map wD)) = true := by
  show (wd.map wD).all flatMake = true
  rw [List.all_eq_true]
  intro x hx
  obtain ⟨y, _, rfl⟩ := List.mem_map.mp hx
  rfl
theorem thing_n (n : Nat) : isThing n (.int (n : Int)) = false := by
  simp only [isThing, isNum]
  rw [Bool.and_eq_false_iff]
  right
  exact decide_eq_false (by omega)
theorem oddD_bad (n : Nat) (rd : List Int) (wd : List Wr) : ∀ d ∈ oddD (n : Int) (.tuple (rd.map PyData.int)) (.tuple (wd.map wD)), flatDeed d = true ∧ isDeed n d = false := by
  have fw := flatMakes_wD wd
  have tn := thing_n n
  have mput : isMake (.str "put") = false := by decide +kernel
  intro d hd
  unfold oddD at hd
  have key : ∀ l : List PyData, (∀ d ∈ l, flatDeed d = true ∧ isDeed n d = false) ↔ l.all (fun d => flatDeed d && !isDeed n d) = true := fun l => by
    rw [List.all_eq_true]
    exact forall₂_congr fun d _ => by rw [Bool.and_eq_true, Bool.not_eq_true']
  refine (key _).mpr ?_ d hd
  generalize PyData.tuple (wd.map wD) = W at fw
  generalize PyData.tuple (rd.map PyData.int) = R
  have f1 : ∀ ds, flatMakes (.tuple ds) = ds.all flatMake := fun _ => rfl
  have f2 : ∀ ds, flatMakes (.list ds) = true := fun _ => rfl
  have w1 : ∀ ds, areWrites n (.tuple ds) = (decide (1 ≤ ds.length) && decide (ds.length ≤ 3) && ds.all (isWrite n) && rising (ds.map fun x => intOf (firstD x))) := fun _ => rfl
  have w2 : ∀ ds, areWrites n (.list ds) = false := fun _ => rfl
  have r1 : ∀ ds, areReads n (.tuple ds) = (decide (ds.length ≤ 3) && ds.all (isThing n) && rising (ds.map intOf)) := fun _ => rfl
  have r2 : ∀ ds, areReads n (.list ds) = false := fun _ => rfl
  have r3 : areReads n .none = false := rfl
  have t1 : isThing n (.bool true) = false := rfl
  have m0 : isMake .none = false := rfl
  simp [fw, f1, f2, w1, w2, r1, r2, r3, t1, flatDeed, flatMake, flatD, isDeed, isWrite, rising, intOf, firstD, isNum, tn, mput, m0, cutG, HT.sIx]
theorem badAt_one {n : Nat} {pre post : List PyData} {d : PyData} {j : V} (hp : ∀ x ∈ pre, isDeed n x = true) (hd : isDeed n d = false) (hl : (pre ++ d :: post).length ≤ 60) (h : BadAt n (.tuple (pre ++ d :: post)) j) : j = .int (pre.length : Int) := by
  cases h with
  | whole z =>
    exfalso
    rw [show isTup (.tuple (pre ++ d :: post)) 0 60 = _ from isTup_dec _ 0 60] at z
    simp only [Nat.zero_le, decide_true, Bool.true_and, decide_eq_false_iff_not] at z
    exact z hl
  | @one ds i x e l60 gi z all =>
    injection e with e
    subst e
    congr 1
    rcases Nat.lt_trichotomy i pre.length with h | h | h
    · exfalso
      rw [List.getElem?_append_left h] at gi
      rw [hp x (List.mem_of_getElem? gi)] at z
      cases z
    · rw [h]
    · exfalso
      have q := all pre.length d h (by rw [List.getElem?_append_right (Nat.le_refl _), Nat.sub_self]; rfl)
      rw [hd] at q
      cases q
theorem badAt_whole {n : Nat} {d : PyData} {j : V} (hd : isTup d 0 60 = false) (h : BadAt n d j) : j = .non := by
  cases h with
  | whole z => rfl
  | @one ds i x e l60 gi z all =>
    exfalso
    subst e
    rw [show isTup (.tuple ds) 0 60 = _ from isTup_dec _ 0 60] at hd
    simp only [Nat.zero_le, decide_true, Bool.true_and, decide_eq_false_iff_not] at hd
    exact hd l60
end KB

set_option Elab.async false
set_option linter.all false
set_option maxRecDepth 100000
set_option maxHeartbeats 8000000
namespace KB
open PySem PyProof.Rows L2 Evl
theorem pss_imp {X : Cx} {l : List Stmt} {t u : TS} (h : PSs X l t) (k : ∀ D σ H, u D σ H → t D σ H) : PSs X l u := ⟨fun pins s σ H D I q => h.run pins s σ H D I (k D σ H q)⟩
theorem whole_bad (xs : List (List Int × List Wr)) (rd : List Int) (wd : List Wr) : ∀ d ∈ ([.none, .list (xs.map fun x => deedD x.1 x.2), .int 5, .tuple (List.replicate (61 : Int).toNat [deedD rd wd]).flatten] : List PyData), isTup d 0 60 = false ∧ flatDeeds d = true := by
  intro d hd
  rcases List.mem_cons.mp hd with rfl | hd
  · exact ⟨rfl, rfl⟩
  rcases List.mem_cons.mp hd with rfl | hd
  · exact ⟨rfl, rfl⟩
  rcases List.mem_cons.mp hd with rfl | hd
  · exact ⟨rfl, rfl⟩
  rw [List.mem_singleton.mp hd, show (61 : Int).toNat = 61 from rfl, flat_one]
  refine ⟨?_, ?_⟩
  · rw [show isTup (.tuple (List.replicate 61 (deedD rd wd))) 0 60 = _ from isTup_dec _ 0 60, List.length_replicate]
    rfl
  · show (List.replicate 61 (deedD rd wd)).all flatDeed = true
    rw [List.all_eq_true]
    intro x hx
    rw [List.eq_of_mem_replicate hx]
    exact flat_deed rd wd
theorem drop9 {α : Type} {a0 a1 a2 a3 a4 a5 a6 a7 a8 : α} {rest l : List α} (h : l = a0 :: a1 :: a2 :: a3 :: a4 :: a5 :: a6 :: a7 :: a8 :: rest) : List.drop 9 l = rest := by
  subst h
  rfl
theorem drop16 {α : Type} {a0 a1 a2 a3 a4 a5 a6 a7 a8 a9 b0 b1 b2 b3 b4 b5 : α} {rest l : List α} (h : l = a0 :: a1 :: a2 :: a3 :: a4 :: a5 :: a6 :: a7 :: a8 :: a9 :: b0 :: b1 :: b2 :: b3 :: b4 :: b5 :: rest) : List.drop 16 l = rest := by
  subst h
  rfl
end KB
namespace K8
open PySem PyProof.Rows L2 KB Evl
section
variable {P : Program} {w : World} {K : PySem.W.Frag} {mg : Str → Option Value} {base : Heap}
theorem law_b {CB CD CK g c Pt f : Addr} {fdg : FuncData} {A : Around} {outer : List Env} {s : Shared} {H : Hp} {E : XK} (T : Txt mg) (F_wrong : Fun K "_law_wrong" "_law_wrong" s__law_wrong g fdg) (m_wrong : mg "_law_wrong" = some (.ref g)) (b_wrong : L2.Binds K fdg ["work"] []) (Wf : WrF K mg CB CD CK) (TB : LamX.TabB base mg c Pt)
    (d__law_taken : Df P w K mg base 1 "_law_taken" (spTaken K)) (d__law_pick : Df P w K mg base 2 "_law_pick" (spPick K)) (d_plain : Df P w K mg base 7 "plain" (spPlain CB CD)) (d_is_deed : Df P w K mg base 6 "is_deed" (spIsDeed CB))
    (hr : Room 11 (A.deeper (envOfC "law" (defScope s_law) s.heap.objs.size f (.ref c))))
    (tail : PSs (cxOf (L2.CX P w) P w K mg base Nlaw "law" (defScope s_law) f (.ref c) A outer s H E) (List.drop 16 (defBody s_law)) (tM1 K [(Pt, qLam)])) :
    PSs (cxOf (L2.CX P w) P w K mg base Nlaw "law" (defScope s_law) f (.ref c) A outer s H E) (List.drop 9 (defBody s_law)) (tM1 K [(Pt, qLam)]) := by
  have hcode : (cxOf (L2.CX P w) P w K mg base Nlaw "law" (defScope s_law) f (.ref c) A outer s H E).env.code = .ref c := rfl
  have hmT : (Pt, (cxOf (L2.CX P w) P w K mg base Nlaw "law" (defScope s_law) f (.ref c) A outer s H E).env.qual ++ "<lambda>") ∈ [(Pt, qLam)] := List.mem_singleton.mpr rfl
  have huT : ∀ p ∈ [(Pt, qLam)], p.1 = Pt → p.2 = (cxOf (L2.CX P w) P w K mg base Nlaw "law" (defScope s_law) f (.ref c) A outer s H E).env.qual ++ "<lambda>" := fun p hp _ => congrArg Prod.snd (List.mem_singleton.mp hp)
  rw [drop16 (l := defBody s_law) rfl] at tail
  rw [drop9 (l := defBody s_law) rfl]
  refine pss_imp (pss_cons (ps_set (i := 9) sc_law.nd rfl (Or.inl rfl) (pe_lst (pa_cons pe_non (pa_cons (pe_tup pa_nil) (pa_cons (pe_tup (pa_cons (pe_tup pa_nil) pa_nil)) (pa_cons (pe_tup (pa_cons (pe_tup pa_nil) (pa_cons (pe_tup pa_nil) pa_nil))) (pa_cons (pe_slice sl_tupA (pv 13) po_none (po_some pe_int)) (pa_cons (pe_op op_catA (pv 13) (pe_tup (pa_cons (pe_tup pa_nil) pa_nil))) (pa_cons (pe_callTy call_list_of (by rfl) T.z_list (by decide +kernel) (pa_cons (pv 13) pa_nil)) (pa_cons (pe_tup (pa_cons (pe_tup (pa_cons (pv 8) pa_nil)) (pa_cons (pe_ix ix_tup (pv 13) pe_int (fun _ _ => rfl)) pa_nil))) (pa_cons (pe_tup (pa_cons (pe_tup (pa_cons pe_int (pa_cons pe_int pa_nil))) (pa_cons (pe_ix ix_tup (pv 13) pe_int (fun _ _ => rfl)) pa_nil))) (pa_cons (pe_tup (pa_cons (pe_tup pa_nil) (pa_cons (pe_tup (pa_cons (pe_tup (pa_cons (pv 8) (pa_cons pe_str (pa_cons pe_int pa_nil)))) pa_nil)) pa_nil))) pa_nil))))))))))))
      (pss_cons (ps_set (i := 9) sc_law.nd rfl (Or.inl rfl) (pe_op op_cat (pv 9) (pe_lst (pa_cons (pe_tup (pa_cons (pe_tup pa_nil) (pa_cons (pe_tup (pa_cons (pe_tup (pa_cons pe_int (pa_cons pe_str (pa_cons pe_int pa_nil)))) pa_nil)) pa_nil))) (pa_cons (pe_tup (pa_cons (pe_tup pa_nil) (pa_cons (pe_tup (pa_cons (pe_tup (pa_cons pe_int (pa_cons pe_str (pa_cons pe_int pa_nil)))) pa_nil)) pa_nil))) (pa_cons (pe_tup (pa_cons (pe_tup pa_nil) (pa_cons (pe_tup (pa_cons (pe_tup (pa_cons pe_int (pa_cons pe_str pa_nil))) pa_nil)) pa_nil))) (pa_cons (pe_tup (pa_cons (pe_tup pa_nil) (pa_cons (pe_tup (pa_cons (pe_tup (pa_cons pe_int (pa_cons pe_str (pa_cons (pe_un un_neg pe_int) pa_nil)))) pa_nil)) pa_nil))) (pa_cons (pe_tup (pa_cons (pe_lst pa_nil) (pa_cons (pe_ix ix_tup (pv 13) pe_int (fun _ _ => rfl)) pa_nil))) (pa_cons (pe_tup (pa_cons (pe_tup (pa_cons pe_bl pa_nil)) (pa_cons (pe_ix ix_tup (pv 13) pe_int (fun _ _ => rfl)) pa_nil))) pa_nil)))))))))
      (pss_cons (ps_set (i := 9) sc_law.nd rfl (Or.inl rfl) (pe_op op_cat (pv 9) (pe_lst (pa_cons (pe_tup (pa_cons (pe_tup pa_nil) (pa_cons (pe_tup (pa_cons (pe_tup (pa_cons pe_int (pa_cons pe_str (pa_cons pe_int pa_nil)))) (pa_cons (pe_tup (pa_cons pe_int (pa_cons pe_str (pa_cons pe_int pa_nil)))) pa_nil))) pa_nil))) (pa_cons (pe_tup (pa_cons (pe_tup pa_nil) (pa_cons (pe_lst (pa_cons (pe_tup (pa_cons pe_int (pa_cons pe_str (pa_cons pe_int pa_nil)))) pa_nil)) pa_nil))) (pa_cons (pe_tup (pa_cons (pe_tup pa_nil) (pa_cons (pe_tup (pa_cons (pe_tup (pa_cons pe_int (pa_cons pe_str (pa_cons pe_non pa_nil)))) pa_nil)) pa_nil))) (pa_cons (pe_tup (pa_cons pe_non (pa_cons (pe_ix ix_tup (pv 13) pe_int (fun _ _ => rfl)) pa_nil))) (pa_cons (pe_tup (pa_cons (pe_tup pa_nil) (pa_cons (pe_tup (pa_cons (pe_tup (pa_cons pe_int (pa_cons pe_non (pa_cons pe_int pa_nil)))) pa_nil)) pa_nil))) pa_nil))))))))
      (pss_cons (ps_set (i := 12) sc_law.nd rfl (Or.inr rfl) (pe_ix ix_list (pv 9) (pe_d d__law_taken hr (by decide) (by rfl) (pa_cons (pv 16) (pa_cons (pe_callB call_len_seq (by rfl) T.z_len (by decide +kernel) (pa_cons (pv 9) pa_nil)) pa_nil))) (fun _ _ => rfl)))
      (pss_cons (ps_set (i := 11) sc_law.nd rfl (Or.inr rfl) (pe_d d__law_taken hr (by decide) (by rfl) (pa_cons (pv 16) (pa_cons (pe_op op_add (pe_callB call_len_seq (by rfl) T.z_len (by decide +kernel) (pa_cons (pv 14) pa_nil)) pe_int) pa_nil))))
      (pss_cons (ps_if (PW.pt (pw_or (pt_cmpR op_notBl (pe_dX d_is_deed hr (by decide) (by rfl) (takes_of rfl rfl rfl rfl) (pa_cons (pv 15) (pa_cons (pv 12) pa_nil))) pe_bl (nomark _)) (pw_or1 (pt_cmpR (op_neD hr.units) (pe_wrong (k := 7) F_wrong m_wrong b_wrong Wf T hr (by decide) (by rfl) (pe_lam0 (k := 7) TB hcode hmT huT (lamV_by (sc := defScope s_law) (N := ["script", "here", "reads", "writes", "thing", "total", "make", "number", "many", "odd", "works", "at", "bad", "deed", "deeds", "homes", "row", "turn"]) (by decide +kernel)) rfl (fun _ _ _ _ _ _ _ => rfl) (fun A outer s H E f c' hr => (pe_dX d_plain hr (by decide) (by rfl) (takes_of rfl rfl rfl rfl) (pa_cons (pv 15) (pa_cons (pe_op (op_catA : OpR _ _ (rCatA K)) (pe_op (op_catA : OpR _ _ (rCatA K)) (pe_slice (sl_tupA : SlR _ (rSlA K)) (pv 14) po_none (po_some (pv 11))) (pe_tup (pa_cons (pv 12) pa_nil))) (pe_slice (sl_tupA : SlR _ (rSlA K)) (pv 14) (po_some (pv 11)) po_none)) pa_nil)))))) (pe_tup (pa_cons pe_str (pa_cons (pv 11) pa_nil))) (nomark _))))) (pss_one (ps_ret pe_bl)) pss_nil)
      (pss_cons (ps_if (pt_cmpR (op_neD hr.units) (pe_wrong (k := 7) F_wrong m_wrong b_wrong Wf T hr (by decide) (by rfl) (pe_lam0 (k := 7) TB hcode hmT huT (lamV_by (sc := defScope s_law) (N := ["script", "here", "reads", "writes", "thing", "total", "make", "number", "many", "odd", "works", "at", "bad", "deed", "deeds", "homes", "row", "turn"]) (by decide +kernel)) rfl (fun _ _ _ _ _ _ _ => rfl) (fun A outer s H E f c' hr => (pe_dX d_plain hr (by decide) (by rfl) (takes_of rfl rfl rfl rfl) (pa_cons (pv 15) (pa_cons (pe_d d__law_pick hr (by decide) (by rfl) (pa_cons (pv 16) (pa_cons (pe_lst (pa_cons pe_non (pa_cons (pe_callTy (call_list_of : CallR _ (.type "list") (Evl.rListS K)) (by rfl) T.z_list (by decide +kernel) (pa_cons (pv 14) pa_nil)) (pa_cons pe_int (pa_cons (pe_op (op_repA : OpR _ _ (fun x y H Q => rRep1 K x y H Q ∨ rRepT K x y H Q)) (pe_tup (pa_cons (pv 13) pa_nil)) pe_int) pa_nil))))) pa_nil))) pa_nil)))))) (pe_tup (pa_cons pe_str (pa_cons pe_non pa_nil))) (nomark _)) (pss_one (ps_ret pe_bl)) pss_nil)
      tail))))))) ?_
  rintro D σ H1 ⟨⟨S, r, h, ds, dd, hs, xs, rd, wd, ⟨x0, x1, x2, x3, x4, x5, x6, x7, x9, x10, x11, x12, x17, rfl⟩, L1⟩, fin⟩
  have ok := L1.ok
  -- what is no deed
  refine q_asgD (ed_lst L1.std (eda_cons ed_non (eda_cons (ed_t0 L1.std) (eda_cons (ed_t1 L1.std (ed_t0 L1.std)) (eda_cons (ed_t2 L1.std (ed_t0 L1.std) (ed_t0 L1.std)) (eda_cons (ed_sl L1.std (L1.deedV rfl) eo_none (eo_some ev_c)) (eda_cons (ed_cat L1.std (L1.deedV rfl) (ed_t1 L1.std (ed_t0 L1.std)) (show 3 ≤ 100000 by decide))
    (eda_cons (ed_list L1.std (L1.deedV rfl)) (eda_cons (ed_t2 L1.std (ed_t1 L1.std (ed_vi rfl)) (L1.ixW rfl)) (eda_cons (ed_t2 L1.std (ed_t2 L1.std ed_int ed_int) (L1.ixW rfl)) (eda_cons (ed_t2 L1.std (ed_t0 L1.std) (ed_t1 L1.std (ed_t3 L1.std (ed_vi rfl) ed_str ed_int))) eda_nil)))))))))) (show 10 ≤ 100000 by decide)) fun v9 H2 e2 hv9 => ?_
  have L2 := L1.ex e2
  refine q_asgD (ed_catL L2.std (ed_ev (ev_var rfl) hv9) (ed_lst L2.std (eda_cons (ed_t2 L2.std (ed_t0 L2.std) (ed_t1 L2.std (ed_t3 L2.std ed_int ed_str ed_int))) (eda_cons (ed_t2 L2.std (ed_t0 L2.std) (ed_t1 L2.std (ed_t3 L2.std ed_int ed_str ed_int))) (eda_cons (ed_t2 L2.std (ed_t0 L2.std) (ed_t1 L2.std (ed_t2 L2.std ed_int ed_str)))
    (eda_cons (ed_t2 L2.std (ed_t0 L2.std) (ed_t1 L2.std (ed_t3 L2.std ed_int ed_str ed_neg))) (eda_cons (ed_t2 L2.std (ed_lst L2.std eda_nil (Nat.zero_le _)) (L2.ixW rfl)) (eda_cons (ed_t2 L2.std (ed_t1 L2.std ed_bl) (L2.ixW rfl)) eda_nil)))))) (show 6 ≤ 100000 by decide)) (show 10 + 6 ≤ 100000 by decide)) fun v10 H3 e3 hv10 => ?_
  have L3 := L2.ex e3
  refine q_asgD (ed_catL L3.std (ed_ev (ev_var rfl) hv10) (ed_lst L3.std (eda_cons (ed_t2 L3.std (ed_t0 L3.std) (ed_t2 L3.std (ed_t3 L3.std ed_int ed_str ed_int) (ed_t3 L3.std ed_int ed_str ed_int))) (eda_cons (ed_t2 L3.std (ed_t0 L3.std) (ed_lst L3.std (eda_cons (ed_t3 L3.std ed_int ed_str ed_int) eda_nil) (show 1 ≤ 100000 by decide)))
    (eda_cons (ed_t2 L3.std (ed_t0 L3.std) (ed_t1 L3.std (ed_t3 L3.std ed_int ed_str ed_non))) (eda_cons (ed_t2 L3.std ed_non (L3.ixW rfl)) (eda_cons (ed_t2 L3.std (ed_t0 L3.std) (ed_t1 L3.std (ed_t3 L3.std ed_int ed_non ed_int))) eda_nil))))) (show 5 ≤ 100000 by decide)) (show 16 + 5 ≤ 100000 by decide)) fun v11 H4 e4 hv11 => ?_
  have L4 := L3.ex e4
  have hv11 : Da (Is r) H4 v11 (.list (oddD (hs.length : Int) (.tuple (rd.map PyData.int)) (.tuple (wd.map wD)))) := hv11
  clear hv9 hv10
  obtain ⟨ol, ovs, rfl, nol, hol, lo⟩ := hv11.lst_of
  have l21 : ovs.length = 21 := lo.length
  -- one of them
  refine ⟨_, rfl, _, rfl, _, rfl, ol, ovs, rfl, .inl (.of hol), S, r, _, rfl, L4.row, by omega, by omega, fun n H5 n0 n1 c5 row5 => ?_⟩
  have hlt : n.toNat < ovs.length := by omega
  obtain ⟨d, gd, da⟩ := lo.get (List.getElem?_eq_getElem hlt)
  have L5 := L4.step c5 row5
  have gq : atI ovs n = some ovs[n.toNat] := by
    have q := atI_nat (xs := ovs) (j := n.toNat) (List.getElem?_eq_getElem hlt)
    rwa [show ((n.toNat : Nat) : Int) = n from by omega] at q
  refine ⟨ol, ovs, n, _, rfl, rfl, .of (c5 _ _ nol hol), gq, ?_⟩
  have da5 := da.go c5
  obtain ⟨fl, nd⟩ := oddD_bad hs.length rd wd d (List.mem_of_getElem? gd)
  generalize ovs[n.toNat] = bv at da5 ⊢
  clear gq da gd lo hol nol hv11 hlt
  -- a place
  obtain ⟨ads, bx, eds, nds, hbx, lbx⟩ := L5.hds.tup_of
  cases eds
  have lbl : bx.length = xs.length := by rw [lbx.length, List.length_map]
  refine ⟨_, rfl, _, rfl, ds, bx, rfl, .inr (.of hbx), _, _, rfl, rfl, S, r, _, rfl, row5, by omega, by have := L5.few; omega, fun a H6 a0 a1 c6 row6 => ?_⟩
  have L6 := L5.step c6 row6
  have da6 := da5.go c6
  obtain ⟨k, rfl⟩ : ∃ k : Nat, a = (k : Int) := ⟨a.toNat, by omega⟩
  have hk : k ≤ xs.length := by omega
  clear da5 hbx lbx c6 row6 row5 c5 L5
  -- is_deed says no; plain says where
  refine q_ifOr (et_test (b := false) (ev_is (ev_op (ev_callS (ea_cons (ev_var rfl) (ea_cons (ev_var rfl) ea_nil)) (v_isDeed L6.hh L6.h1 L6.h5 L6.hb da6 fl)) ev_c (rv_val fun H1 _ Q q => ⟨_, _, rfl, rfl, q⟩)) (by rw [nd, decide_eq_true rfl]; rfl))) fun H7 e7 => ?_
  have L7 := L6.ex e7
  have da7 := da6.go (M := Is r) (ex_chg e7)
  refine ⟨L7.tab, fun fl1 H8 eN T8 cal => ⟨fl1, _, rfl, cal, ?_⟩⟩
  have L8 := L7.lam eN T8
  have da8 := da7.goK (kp_ext eN)
  have few := L8.few
  have lD : (xs.map fun x => deedD x.1 x.2).length = xs.length := List.length_map ..
  have elo := cut_lo (xs.map fun x => deedD x.1 x.2) k (by omega)
  have ehi := cut_hi (xs.map fun x => deedD x.1 x.2) k (by omega)
  refine ⟨.ref h, rfl, ed_cat (K := K) L8.std (ed_cat (K := K) L8.std (ed_sl (K := K) L8.std (ed_ev (ev_var rfl) L8.hds) eo_none (eo_some (ev_var rfl))) (ed_t1 L8.std (ed_ev (ev_var rfl) da8)) (by rw [elo, List.length_take]; show _ + 1 ≤ _; omega)) (ed_sl (K := K) L8.std (ed_ev (ev_var rfl) L8.hds) (eo_some (ev_var rfl)) eo_none) (by rw [List.length_append, elo, ehi, List.length_take, List.length_drop]; show _ + 1 + _ ≤ _; omega) H8 (Ex.refl H8) _ fun v H9 e9 hv => ?_⟩
  rw [elo, ehi, List.append_assoc] at hv
  have L9 := L8.ex e9
  have pre : ∀ x ∈ (xs.map fun x => deedD x.1 x.2), isDeed hs.length x = true := fun x hx => by
    obtain ⟨y, hy, rfl⟩ := List.mem_map.mp hx
    exact isDeed_ok (L9.oks y hy)
  have flx : ∀ x ∈ (xs.map fun x => deedD x.1 x.2), flatDeed x = true := fun x hx => by
    obtain ⟨y, hy, rfl⟩ := List.mem_map.mp hx
    exact flat_deed _ _
  have lP : (((xs.map fun x => deedD x.1 x.2).take k) ++ d :: ((xs.map fun x => deedD x.1 x.2).drop k)).length ≤ 60 := by
    rw [List.length_append, List.length_cons, List.length_take, List.length_drop]
    omega
  have lk : ((xs.map fun x => deedD x.1 x.2).take k).length = k := by
    rw [List.length_take]
    omega
  refine ⟨Is r, .ref h, v, .tuple (hs.map PyData.int), rfl, .tup (L9.row.ne_tup L9.hh) L9.hh DaL.ints, fun z => (by rw [L9.homes] at z; cases z), fun _ => ⟨Is r, _, hv, ?_, fun ys p H10 ed _ oky _ _ _ => ?_, fun j ee H10 bad sm hee => ?_⟩⟩
  · show (((xs.map fun x => deedD x.1 x.2).take k) ++ d :: ((xs.map fun x => deedD x.1 x.2).drop k)).all flatDeed = true
    rw [List.all_eq_true]
    intro x hx
    rcases List.mem_append.mp hx with z | z
    · exact flx x (List.mem_of_mem_take z)
    · rcases List.mem_cons.mp z with z | z
      · rw [z]; exact fl
      · exact flx x (List.mem_of_mem_drop z)
  · exfalso
    injection ed with ed
    have hm : d ∈ ys.map fun x => deedD x.1 x.2 := by
      rw [← ed]
      exact List.mem_append_right _ List.mem_cons_self
    obtain ⟨y, hy, rfl⟩ := List.mem_map.mp hm
    have q := oky y hy
    rw [nHomes_eq] at q
    rw [isDeed_ok q] at nd
    cases nd
  · rw [nHomes_eq] at bad
    have ej := badAt_one (fun x hx => pre x (List.mem_of_mem_take hx)) nd lP bad
    rw [lk] at ej
    subst ej
    refine .inr ⟨ee, _, rfl, rfl, hee, fun p H11 sm2 hp => ?_⟩
    refine eu_tup (ea_cons ev_c (ea_cons (ev_var rfl) ea_nil)) (show 2 ≤ 100000 by decide) H11 (Ex.refl H11) _ fun q H12 nq e12 hq => ?_
    refine ⟨.tuple [.str "deeds", .int (k : Int)], .tuple [.str "deeds", .int (k : Int)], .tup (.of (e12 _ _ hp)) (.cons (.str _) (.cons (.int _) .nil)), .tup (.of hq) (.cons (.str _) (.cons (.int _) .nil)), sh2 _, sh2 _, ?_⟩
    rw [er]
    refine ⟨false, rfl, iteF ?_⟩
    have L12 := ((L9.ex sm).ex sm2).ex e12
    clear hq nq hp sm2 hee sm bad lk lP pre flx hv elo ehi lD few cal da8 da7 da6 L8 L9 L7 L6 eN T8
    -- no deeds at all
    refine ⟨L12.tab, fun fl2 H13 eN2 T13 cal2 => ⟨fl2, _, rfl, cal2, ?_⟩⟩
    have L13 := L12.lam eN2 T13
    refine ⟨.ref h, rfl, .ref r, rfl, ed_lst L13.std (eda_cons ed_non (eda_cons (ed_list (K := K) L13.std (ed_ev (ev_var rfl) L13.hds)) (eda_cons ed_int (eda_cons (ed_rep (K := K) L13.std (ed_t1 L13.std (ed_ev (ev_var rfl) L13.hdd)) (fun _ _ => ev_c) (by decide) (by decide) (show 1 ≤ 1 by decide) (show 1 ≤ 1000 by decide)) eda_nil)))) (show 4 ≤ 100000 by decide) H13 (Ex.refl H13) _ fun lv H14 e14 hlv => ?_⟩
    have L14 := L13.ex e14
    obtain ⟨pl, pvs, rfl, npl, hpl, lpl⟩ := hlv.lst_of
    have l4 : pvs.length = 4 := lpl.length
    refine ⟨S, r, pl, pvs, rfl, L14.row, npl, hpl, by omega, by omega, fun i bv2 H15 gi c15 row15 => ?_⟩
    obtain ⟨d2, gd2, da2⟩ := lpl.get gi
    have L15 := L14.step c15 row15
    obtain ⟨wb, wf⟩ := whole_bad xs rd wd d2 (List.mem_of_getElem? gd2)
    refine ⟨Is r, .ref h, bv2, .tuple (hs.map PyData.int), rfl, .tup (L15.row.ne_tup L15.hh) L15.hh DaL.ints, fun z => (by rw [L15.homes] at z; cases z), fun _ => ⟨Is r, d2, da2.go c15, wf, fun ys p2 H16 ed l60 _ _ _ _ => ?_, fun j ee2 H16 bad2 sm3 hee2 => ?_⟩⟩
    · exfalso
      subst ed
      rw [show isTup (.tuple (ys.map fun x => deedD x.1 x.2)) 0 60 = _ from isTup_dec _ 0 60, List.length_map] at wb
      simp only [Nat.zero_le, decide_true, Bool.true_and, decide_eq_false_iff_not] at wb
      exact wb l60
    · have ej := badAt_whole wb bad2
      subst ej
      refine .inr ⟨ee2, _, rfl, rfl, hee2, fun p2 H17 sm4 hp2 => ?_⟩
      refine eu_tup (ea_cons ev_c (ea_cons ev_c ea_nil)) (show 2 ≤ 100000 by decide) H17 (Ex.refl H17) _ fun q2 H18 nq2 e18 hq2 => ?_
      refine ⟨.tuple [.str "deeds", .none], .tuple [.str "deeds", .none], .tup (.of (e18 _ _ hp2)) (.cons (.str _) (.cons .non .nil)), .tup (.of hq2) (.cons (.str _) (.cons .non .nil)), sh3, sh3, ?_⟩
      rw [show PyData.eqv (.tuple [.str "deeds", .none]) (.tuple [.str "deeds", .none]) = true from SeqAt.eqv_refl _ (SeqAt.canLay_of_shaped sh3)]
      refine ⟨false, rfl, iteF ?_⟩
      exact ⟨⟨S, r, h, ds, dd, hs, xs, rd, wd, ⟨_, _, _, _, _, _, _, _, _, _, _, _, _, rfl⟩, ((L15.ex sm3).ex sm4).ex e18⟩, fin⟩
end
end K8

set_option Elab.async false
set_option linter.all false
set_option maxRecDepth 100000
set_option maxHeartbeats 8000000
namespace KB
open PySem PyProof.Rows L2 Evl
theorem homes_bad : ∀ d ∈ ([.none, .tuple [], .tuple [.int 4], .tuple [.int (-1)], .list [.int 0], .tuple (List.replicate (7 : Int).toNat [PyData.int 0]).flatten, .tuple [.bool true], .str "0", .tuple [.int 0, .none], .int 0] : List PyData), isHomes d = false := by
  intro d hd
  rcases List.mem_cons.mp hd with rfl | hd
  · rfl
  rcases List.mem_cons.mp hd with rfl | hd
  · rfl
  rcases List.mem_cons.mp hd with rfl | hd
  · rfl
  rcases List.mem_cons.mp hd with rfl | hd
  · rfl
  rcases List.mem_cons.mp hd with rfl | hd
  · rfl
  rcases List.mem_cons.mp hd with rfl | hd
  · rfl
  rcases List.mem_cons.mp hd with rfl | hd
  · rfl
  rcases List.mem_cons.mp hd with rfl | hd
  · rfl
  rcases List.mem_cons.mp hd with rfl | hd
  · rfl
  rw [List.mem_singleton.mp hd]
  rfl
end KB
namespace K8
open PySem PyProof.Rows L2 KB Evl
section
variable {P : Program} {w : World} {K : PySem.W.Frag} {mg : Str → Option Value} {base : Heap}
theorem law_c {CB CD CK g c Pt f : Addr} {fdg : FuncData} {A : Around} {outer : List Env} {s : Shared} {H : Hp} {E : XK} (T : Txt mg) (F_wrong : Fun K "_law_wrong" "_law_wrong" s__law_wrong g fdg) (m_wrong : mg "_law_wrong" = some (.ref g)) (b_wrong : L2.Binds K fdg ["work"] []) (Wf : WrF K mg CB CD CK) (TB : LamX.TabB base mg c Pt)
    (d__law_taken : Df P w K mg base 1 "_law_taken" (spTaken K)) (d__law_pick : Df P w K mg base 2 "_law_pick" (spPick K)) (d_plain : Df P w K mg base 7 "plain" (spPlain CB CD)) (d_houses_of : Df P w K mg base 3 "houses_of" (spHouses CB)) (d_is_deed : Df P w K mg base 6 "is_deed" (spIsDeed CB))
    (hr : Room 11 (A.deeper (envOfC "law" (defScope s_law) s.heap.objs.size f (.ref c)))) :
    PSs (cxOf (L2.CX P w) P w K mg base Nlaw "law" (defScope s_law) f (.ref c) A outer s H E) (List.drop 16 (defBody s_law)) (tM1 K [(Pt, qLam)]) := by
  have hcode : (cxOf (L2.CX P w) P w K mg base Nlaw "law" (defScope s_law) f (.ref c) A outer s H E).env.code = .ref c := rfl
  have hmT : (Pt, (cxOf (L2.CX P w) P w K mg base Nlaw "law" (defScope s_law) f (.ref c) A outer s H E).env.qual ++ "<lambda>") ∈ [(Pt, qLam)] := List.mem_singleton.mpr rfl
  have huT : ∀ p ∈ [(Pt, qLam)], p.1 = Pt → p.2 = (cxOf (L2.CX P w) P w K mg base Nlaw "law" (defScope s_law) f (.ref c) A outer s H E).env.qual ++ "<lambda>" := fun p hp _ => congrArg Prod.snd (List.mem_singleton.mp hp)
  rw [drop16 (l := defBody s_law) rfl]
  refine pss_imp (pss_cons (ps_set (i := 12) sc_law.nd rfl (Or.inr rfl) (pe_d d__law_pick hr (by decide) (by rfl) (pa_cons (pv 16) (pa_cons (pe_lst (pa_cons pe_non (pa_cons (pe_tup pa_nil) (pa_cons (pe_tup (pa_cons pe_int pa_nil)) (pa_cons (pe_tup (pa_cons (pe_un un_neg pe_int) pa_nil)) (pa_cons (pe_lst (pa_cons pe_int pa_nil)) (pa_cons (pe_op op_repA (pe_tup (pa_cons pe_int pa_nil)) pe_int) (pa_cons (pe_tup (pa_cons pe_bl pa_nil)) (pa_cons pe_str (pa_cons (pe_tup (pa_cons pe_int (pa_cons pe_non pa_nil))) (pa_cons pe_int pa_nil))))))))))) pa_nil))))
      (pss_cons (ps_set (i := 10) sc_law.nd rfl (Or.inl rfl) (pe_lst (pa_cons (pe_lam0 (k := 7) TB hcode hmT huT (lamV_by (sc := defScope s_law) (N := ["script", "here", "reads", "writes", "thing", "total", "make", "number", "many", "odd", "works", "at", "bad", "deed", "deeds", "homes", "row", "turn"]) (by decide +kernel)) rfl (fun _ _ _ _ _ _ _ => rfl) (fun A outer s H E f c' hr => (pe_dX d_houses_of hr (by decide) (by rfl) (takes_of rfl rfl rfl rfl) (pa_cons (pv 12) pa_nil)))) (pa_cons (pe_lam1 (k := 7) (a := "a") TB hcode hmT huT (lamV_by (sc := defScope s_law) (N := ["script", "here", "reads", "writes", "thing", "total", "make", "number", "many", "odd", "works", "at", "bad", "deed", "deeds", "homes", "row", "turn"]) (by decide +kernel)) rfl pe_int rfl (fun _ _ _ _ _ _ _ _ _ _ _ _ _ _ _ _ => bind_one) (fun A outer s H E f c' hr => (pe_dX d_is_deed hr (by decide) (by rfl) (takes_of rfl rfl rfl rfl) (pa_cons (pv 12) (pa_cons pe_non pa_nil))))) (pa_cons (pe_lam1 (k := 7) (a := "b") TB hcode hmT huT (lamV_by (sc := defScope s_law) (N := ["script", "here", "reads", "writes", "thing", "total", "make", "number", "many", "odd", "works", "at", "bad", "deed", "deeds", "homes", "row", "turn"]) (by decide +kernel)) rfl pe_int rfl (fun _ _ _ _ _ _ _ _ _ _ _ _ _ _ _ _ => bind_one) (fun A outer s H E f c' hr => (pe_dX d_plain hr (by decide) (by rfl) (takes_of rfl rfl rfl rfl) (pa_cons (pv 12) (pa_cons pe_non pa_nil))))) pa_nil)))))
      (pss_one (ps_ret (pe_and (pe_cmpR op_eq (pe_wrong (k := 7) F_wrong m_wrong b_wrong Wf T hr (by decide) (by rfl) (pe_ix ix_list (pv 10) (pe_d d__law_taken hr (by decide) (by rfl) (pa_cons (pv 16) (pa_cons pe_int pa_nil))) (fun _ _ => rfl))) pe_str (nomark _)) (pe_one (pe_cmpR (op_eqD hr.units) (pe_dX d_plain hr (by decide) (by rfl) (takes_of rfl rfl rfl rfl) (pa_cons (pv 15) (pa_cons (pe_tup pa_nil) pa_nil))) (pe_op op_repA (pe_tup (pa_cons pe_int pa_nil)) (pv 8)) (nomark _)))))))) ?_
  rintro D σ H1 ⟨⟨S, r, h, ds, dd, hs, xs, rd, wd, ⟨x0, x1, x2, x3, x4, x5, x6, x7, x9, x10, x11, x12, x17, rfl⟩, L1⟩, fin⟩
  -- no homes
  refine ⟨.ref r, rfl, ed_lst L1.std (eda_cons ed_non (eda_cons (ed_t0 L1.std) (eda_cons (ed_t1 L1.std ed_int) (eda_cons (ed_t1 L1.std ed_neg) (eda_cons (ed_lst L1.std (eda_cons ed_int eda_nil) (show 1 ≤ 100000 by decide)) (eda_cons (ed_rep (K := K) L1.std (ed_t1 L1.std ed_int) (fun _ _ => ev_c) (by decide) (by decide) (show 1 ≤ 1 by decide) (show 1 ≤ 1000 by decide))
    (eda_cons (ed_t1 L1.std ed_bl) (eda_cons ed_str (eda_cons (ed_t2 L1.std ed_int ed_non) (eda_cons ed_int eda_nil)))))))))) (show 10 ≤ 100000 by decide) H1 (Ex.refl H1) _ fun lv H2 e2 hlv => ?_⟩
  have L2' := L1.ex e2
  obtain ⟨pl, pvs, rfl, npl, hpl, lpl⟩ := hlv.lst_of
  have l10 : pvs.length = 10 := lpl.length
  refine ⟨S, r, pl, pvs, rfl, L2'.row, npl, hpl, by omega, by omega, fun i bv H3 gi c3 row3 => ?_⟩
  obtain ⟨d, gd, da⟩ := lpl.get gi
  have nh := homes_bad d (List.mem_of_getElem? gd)
  have L3' := L2'.step c3 row3
  have da3 := da.go c3
  clear gd da gi c3 lpl hpl npl l10 L2' hlv e2 L1
  -- three works
  refine ⟨L3'.tab, fun f0 H4 eN0 T4 cal0 => ⟨T4, fun f1 H5 eN1 T5 cal1 => ⟨T5, fun f2 H6 eN2 T6 cal2 => ⟨(show 3 ≤ sizeLine by decide), fun o ho => ?_⟩⟩⟩⟩
  have n7 : Same H6 (upd H6 o (.lst [.ref f0, .ref f1, .ref f2])) := Same.new ho
  have L7' := (((L3'.lam eN0 T4).lam eN1 T5).lam eN2 T6).ex n7
  have da7 := (((da3.goK (kp_ext eN0)).goK (kp_ext eN1)).goK (kp_ext eN2)).go (M := Is r) (same_chg n7)
  have hw : (upd H6 o (.lst [.ref f0, .ref f1, .ref f2])) o = some (.lst [.ref f0, .ref f1, .ref f2]) := upd_same
  have no : ¬ Is r o := ((L3'.lam eN0 T4).lam eN1 T5).lam eN2 T6 |>.row.ne_new ho
  have cal0' := cal0.go (H' := upd H6 o (.lst [.ref f0, .ref f1, .ref f2])) fun b u _ n e => n7 _ _ (eN2 _ _ (eN1 _ _ e n) n)
  have cal1' := cal1.go (H' := upd H6 o (.lst [.ref f0, .ref f1, .ref f2])) fun b u _ n e => n7 _ _ (eN2 _ _ e n)
  have cal2' := cal2.go (H' := upd H6 o (.lst [.ref f0, .ref f1, .ref f2])) fun b u _ n e => n7 _ _ e
  generalize upd H6 o (.lst [.ref f0, .ref f1, .ref f2]) = H7 at L7' da7 hw cal0' cal1' cal2' ⊢
  clear n7 cal0 cal1 cal2 ho T6 eN2 T5 eN1 T4 eN0 da3 L3'
  -- one of them
  refine ⟨_, rfl, _, rfl, S, r, 3, rfl, L7'.row, by decide, by decide, fun n H8 n0 n1 c8 row8 => ?_⟩
  have L8' := L7'.step c8 row8
  have da8 := da7.go c8
  have hw8 := c8 _ _ no hw
  have cal0'' := cal0'.go (H' := H8) fun b u nl _ e => c8 _ _ (fun z => by
    obtain ⟨ys, hr⟩ := L7'.row.lst
    rw [(show b = r from z), hr] at e
    exact nl ys (Option.some.inj e).symm) e
  have cal1'' := cal1'.go (H' := H8) fun b u nl _ e => c8 _ _ (fun z => by
    obtain ⟨ys, hr⟩ := L7'.row.lst
    rw [(show b = r from z), hr] at e
    exact nl ys (Option.some.inj e).symm) e
  have cal2'' := cal2'.go (H' := H8) fun b u nl _ e => c8 _ _ (fun z => by
    obtain ⟨ys, hr⟩ := L7'.row.lst
    rw [(show b = r from z), hr] at e
    exact nl ys (Option.some.inj e).symm) e
  clear cal0' cal1' cal2' da7 hw c8 row8 L7'
  -- plain of no deeds, once _law_wrong has told
  have last : ∀ {σ1 : L2.St} {H9 : Hp}, σ1[15]? = some (some (.ref h)) → σ1[8]? = some (some (.int (hs.length : Int))) → LawK K S [(Pt, qLam)] r h ds dd hs xs rd wd H9 → ∀ Q : VK, (∀ H', Q (.bl true) H') →
      (tOp (rEqD K) (tCallS (spPlain CB CD) (WE fun cls d _ H => E cls d H) (tCons (tVar 15) (tCons (tTup tNil) tNil))) (tOp (fun x y H Q => rRep1 K x y H Q ∨ rRepT K x y H Q) (tTup (tCons (tC (.int 0)) tNil)) (tVar 8))) σ1 H9 Q := fun {σ1 H9} h15 h8 L9 Q fin => by
    refine ⟨_, h15, Nat.zero_le _, fun p hp => ?_⟩
    have L10 := L9.ex (Ex.new (o := .tup []) hp)
    dsimp only [tNil]
    refine v_plain (xs := []) L10.hh L10.h1 L10.h5 L10.hb (.tup (M := Nv) (fun z => z) upd_same .nil) (Nat.zero_le _) (fun x hx => by cases hx) _ (Ex.refl _) _ (fun q H11 nq e11 hq => ?_) _
    have L11 := L10.ex e11
    have h1 := L11.h1
    have h5 := L11.h5
    refine ed_rep (K := K) L11.std (ed_t1 L11.std ed_int) (fun _ _ => ev_var h8) (by omega) (by omega) (show 1 ≤ 1 by decide) (show 1 ≤ 1000 by decide) H11 (Ex.refl H11) _ fun v H12 e12 hv => ?_
    have em : plainM hs.length [] = List.replicate hs.length 0 := rfl
    rw [em] at hq
    rw [flat_one, show ((hs.length : Nat) : Int).toNat = hs.length from by omega, show List.replicate hs.length (PyData.int 0) = (List.replicate hs.length (0 : Int)).map PyData.int from by rw [List.map_replicate]] at hv
    refine ⟨.tuple ((List.replicate hs.length (0 : Int)).map PyData.int), .tuple ((List.replicate hs.length (0 : Int)).map PyData.int), .tup (.of (e12 _ _ hq)) (DaL.dp (M := Nv) DaL.ints), hv.dp, sh4 _, sh4 _, ?_⟩
    rw [SeqAt.eqv_refl _ (SeqAt.canLay_of_shaped (sh4 _))]
    exact fin _
  have ns : n = 0 ∨ n = 1 ∨ n = 2 := by omega
  rcases ns with rfl | rfl | rfl
  · refine ⟨o, _, 0, _, rfl, rfl, .of hw8, rfl, f0, _, rfl, cal0'', ?_⟩
    refine ⟨bv, rfl, Is r, bv, d, rfl, da8, fun z => (by rw [nh] at z; cases z), fun _ H9 sm => .inl ⟨rfl, rfl, fun H10 sm2 => ⟨rfl, true, ?_, iteT (last rfl rfl ((L8'.ex sm).ex sm2) _ fin)⟩⟩⟩
    rw [decide_eq_true rfl]
  · refine ⟨o, _, 1, _, rfl, rfl, .of hw8, rfl, f1, _, rfl, cal1'', ?_⟩
    refine ⟨bv, rfl, Is r, bv, .non, d, rfl, da8, fun _ H9 sm => .inl ⟨rfl, rfl, fun H10 sm2 => ⟨rfl, true, ?_, iteT (last rfl rfl ((L8'.ex sm).ex sm2) _ fin)⟩⟩, fun z => (by rw [nh] at z; cases z)⟩
    rw [decide_eq_true rfl]
  · refine ⟨o, _, 2, _, rfl, rfl, .of hw8, rfl, f2, _, rfl, cal2'', ?_⟩
    refine ⟨bv, rfl, Is r, bv, .non, d, rfl, da8, fun _ H9 sm => .inl ⟨rfl, rfl, fun H10 sm2 => ⟨rfl, true, ?_, iteT (last rfl rfl ((L8'.ex sm).ex sm2) _ fin)⟩⟩, fun z => (by rw [nh] at z; cases z)⟩
    rw [decide_eq_true rfl]
end
end K8

set_option Elab.async false
set_option linter.all false
set_option maxRecDepth 100000
set_option maxHeartbeats 8000000
namespace K8
open PySem PyProof.Rows L2 KB Evl
theorem ok_law {P : Program} {w : World} {K : PySem.W.Frag} {mg : Str → Option Value} {base : Heap} {CB CD CK g c Pt f : Addr} {fdg : FuncData} {oc kV doc pm ct : Value} {od an : Option Addr} {osl : Array (Option Value)}
    (lk : K.lookup f = some ⟨oc, od, .func (PySem.W.fnOf "law" "law" (defArgs s_law) (defBody s_law) (defScope s_law) .none kV doc pm an (.ref c) ct), osl⟩) (hcd : PySem.W.codeIn K (.ref c) "law" = true)
    (T : Txt mg) (F_wrong : Fun K "_law_wrong" "_law_wrong" s__law_wrong g fdg) (m_wrong : mg "_law_wrong" = some (.ref g)) (b_wrong : L2.Binds K fdg ["work"] []) (Wf : WrF K mg CB CD CK) (TB : LamX.TabB base mg c Pt)
    (d__law_taken : Df P w K mg base 1 "_law_taken" (spTaken K)) (d__law_pick : Df P w K mg base 2 "_law_pick" (spPick K)) (d__law_homes : Df P w K mg base 2 "_law_homes" (spLawHomes K)) (d__law_deed : Df P w K mg base 3 "_law_deed" (spLawDeed K))
    (d__law_alike : Df P w K mg base 2 "_law_alike" spAlike1) (d_plain : Df P w K mg base 7 "plain" (spPlain CB CD)) (d_houses_of : Df P w K mg base 3 "houses_of" (spHouses CB)) (d_is_deed : Df P w K mg base 6 "is_deed" (spIsDeed CB)) :
    FnOk P w K mg base (L2.CX P w) 12 f (PySem.W.fnOf "law" "law" (defArgs s_law) (defBody s_law) (defScope s_law) .none kV doc pm an (.ref c) ct) ["script"] (spLaw K Pt) :=
  fn_of lk hcd sc_law (fun vs H Q E h => by
    obtain ⟨S, rfl, _⟩ := h
    rfl) fun A outer s H vs Q E hr hsp => law_a T d__law_taken d__law_homes d__law_deed d__law_alike d_plain d_houses_of d_is_deed hr hsp
      (law_b T F_wrong m_wrong b_wrong Wf TB d__law_taken d__law_pick d_plain d_is_deed hr (law_c T F_wrong m_wrong b_wrong Wf TB d__law_taken d__law_pick d_plain d_houses_of d_is_deed hr))
theorem all_mk {l : PySem.W.OpenLaw} {w : World} {K : PySem.W.Frag} {h : Heap} {mg : Str → Option Value} {fa : Addr} (X : K.In h) (G : h.Ns mainGlobals mg) (hfa : mg "law" = some (.ref fa)) (own : LamX.OwnTab K fa h)
    {f1 : Addr} {od1 an1 : Option Addr} {sl1 : Array (Option Value)} {oc1 kV1 dc1 pm1 cd1 ct1 : Value} {f2 : Addr} {od2 an2 : Option Addr} {sl2 : Array (Option Value)} {oc2 kV2 dc2 pm2 cd2 ct2 : Value} {f3 : Addr} {od3 an3 : Option Addr} {sl3 : Array (Option Value)} {oc3 kV3 dc3 pm3 cd3 ct3 : Value} {f4 : Addr} {od4 an4 : Option Addr} {sl4 : Array (Option Value)} {oc4 kV4 dc4 pm4 cd4 ct4 : Value} {f5 : Addr} {od5 an5 : Option Addr} {sl5 : Array (Option Value)} {oc5 kV5 dc5 pm5 cd5 ct5 : Value} {f6 : Addr} {od6 an6 : Option Addr} {sl6 : Array (Option Value)} {oc6 kV6 dc6 pm6 cd6 ct6 : Value} {f7 : Addr} {od7 an7 : Option Addr} {sl7 : Array (Option Value)} {oc7 kV7 dc7 pm7 cd7 ct7 : Value} {f8 : Addr} {od8 an8 : Option Addr} {sl8 : Array (Option Value)} {oc8 kV8 dc8 pm8 cd8 ct8 : Value} {f9 : Addr} {od9 an9 : Option Addr} {sl9 : Array (Option Value)} {oc9 kV9 dc9 pm9 cd9 ct9 : Value} {f10 : Addr} {od10 an10 : Option Addr} {sl10 : Array (Option Value)} {oc10 kV10 dc10 pm10 cd10 ct10 : Value} {f11 : Addr} {od11 an11 : Option Addr} {sl11 : Array (Option Value)} {oc11 kV11 dc11 pm11 cd11 ct11 : Value} {f12 : Addr} {od12 an12 : Option Addr} {sl12 : Array (Option Value)} {oc12 kV12 dc12 pm12 cd12 ct12 : Value} {f13 : Addr} {od13 an13 : Option Addr} {sl13 : Array (Option Value)} {oc13 kV13 dc13 pm13 cd13 ct13 : Value} {f14 : Addr} {od14 an14 : Option Addr} {sl14 : Array (Option Value)} {oc14 kV14 dc14 pm14 cd14 ct14 : Value} {f15 : Addr} {od15 an15 : Option Addr} {sl15 : Array (Option Value)} {oc15 kV15 dc15 pm15 cd15 ct15 : Value} {f16 : Addr} {od16 an16 : Option Addr} {sl16 : Array (Option Value)} {oc16 kV16 dc16 pm16 cd16 ct16 : Value} {f17 : Addr} {od17 an17 : Option Addr} {sl17 : Array (Option Value)} {oc17 kV17 dc17 pm17 cd17 ct17 : Value} {f18 : Addr} {od18 an18 : Option Addr} {sl18 : Array (Option Value)} {oc18 kV18 dc18 pm18 cd18 ct18 : Value} {f19 : Addr} {od19 an19 : Option Addr} {sl19 : Array (Option Value)} {oc19 kV19 dc19 pm19 cd19 ct19 : Value} {f20 : Addr} {od20 an20 : Option Addr} {sl20 : Array (Option Value)} {oc20 kV20 dc20 pm20 cd20 ct20 : Value} {f21 : Addr} {od21 an21 : Option Addr} {sl21 : Array (Option Value)} {oc21 kV21 dc21 pm21 cd21 ct21 : Value} {f0 c0 : Addr} {od0 an0 : Option Addr} {sl0 : Array (Option Value)} {oc0 kV0 dc0 pm0 ct0 : Value} {dd0 : Option Addr} {vs0 : Array Value} {sc0 : Array (Option Value)} {P0 : Addr} {t_MOST_HOMES : Tok} {t_LAST_HOUSE : Tok} {t_MOST_READS : Tok} {t_MOST_WRITES : Tok} {t_MOST_DEEDS : Tok} {t_WORDS : Tok} {CB CD CK : Addr} {fI cda ccI : Addr} {odI anI : Option Addr} {slI : Array (Option Value)} {ocI kVI dcI pmI ctI : Value} {eI eC : Value} {ddI ddC : Option Addr} {vsI : Array Value} {scI slC : Array (Option Value)} {fileI : Str} {tfI : Tok} {nmD qD : Str} {ND : Addr} {bsD bmD subD : List Value} {snD : List Str} {abD : Bool} {colD : Option Bool} {ddD : Option Addr} {n0D n1D n2D n3D n5D : Option Value}
    (a1 : PySem.W.nsIn K mainGlobals "is_number" = some (some (.ref f1)))
    (l1 : K.lookup f1 = some ⟨oc1, od1, .func (PySem.W.fnOf "is_number" "is_number" (defArgs s_is_number) (defBody s_is_number) (defScope s_is_number) .none kV1 dc1 pm1 an1 cd1 ct1), sl1⟩)
    (c1 : PySem.W.codeIn K cd1 "is_number" = true)
    (k1 : PySem.W.keepIn K (.ref f1) = true)
    (a2 : PySem.W.nsIn K mainGlobals "is_tuple" = some (some (.ref f2)))
    (l2 : K.lookup f2 = some ⟨oc2, od2, .func (PySem.W.fnOf "is_tuple" "is_tuple" (defArgs s_is_tuple) (defBody s_is_tuple) (defScope s_is_tuple) .none kV2 dc2 pm2 an2 cd2 ct2), sl2⟩)
    (c2 : PySem.W.codeIn K cd2 "is_tuple" = true)
    (k2 : PySem.W.keepIn K (.ref f2) = true)
    (a3 : PySem.W.nsIn K mainGlobals "is_rising" = some (some (.ref f3)))
    (l3 : K.lookup f3 = some ⟨oc3, od3, .func (PySem.W.fnOf "is_rising" "is_rising" (defArgs s_is_rising) (defBody s_is_rising) (defScope s_is_rising) .none kV3 dc3 pm3 an3 cd3 ct3), sl3⟩)
    (c3 : PySem.W.codeIn K cd3 "is_rising" = true)
    (k3 : PySem.W.keepIn K (.ref f3) = true)
    (a4 : PySem.W.nsIn K mainGlobals "houses_of" = some (some (.ref f4)))
    (l4 : K.lookup f4 = some ⟨oc4, od4, .func (PySem.W.fnOf "houses_of" "houses_of" (defArgs s_houses_of) (defBody s_houses_of) (defScope s_houses_of) .none kV4 dc4 pm4 an4 cd4 ct4), sl4⟩)
    (c4 : PySem.W.codeIn K cd4 "houses_of" = true)
    (k4 : PySem.W.keepIn K (.ref f4) = true)
    (a5 : PySem.W.nsIn K mainGlobals "is_deed" = some (some (.ref f5)))
    (l5 : K.lookup f5 = some ⟨oc5, od5, .func (PySem.W.fnOf "is_deed" "is_deed" (defArgs s_is_deed) (defBody s_is_deed) (defScope s_is_deed) .none kV5 dc5 pm5 an5 cd5 ct5), sl5⟩)
    (c5 : PySem.W.codeIn K cd5 "is_deed" = true)
    (k5 : PySem.W.keepIn K (.ref f5) = true)
    (a6 : PySem.W.nsIn K mainGlobals "plain" = some (some (.ref f6)))
    (l6 : K.lookup f6 = some ⟨oc6, od6, .func (PySem.W.fnOf "plain" "plain" (defArgs s_plain) (defBody s_plain) (defScope s_plain) .none kV6 dc6 pm6 an6 cd6 ct6), sl6⟩)
    (c6 : PySem.W.codeIn K cd6 "plain" = true)
    (k6 : PySem.W.keepIn K (.ref f6) = true)
    (a7 : PySem.W.nsIn K mainGlobals "check_homes" = some (some (.ref f7)))
    (l7 : K.lookup f7 = some ⟨oc7, od7, .func (PySem.W.fnOf "check_homes" "check_homes" (defArgs s_check_homes) (defBody s_check_homes) (defScope s_check_homes) .none kV7 dc7 pm7 an7 cd7 ct7), sl7⟩)
    (c7 : PySem.W.codeIn K cd7 "check_homes" = true)
    (k7 : PySem.W.keepIn K (.ref f7) = true)
    (a8 : PySem.W.nsIn K mainGlobals "check_deeds" = some (some (.ref f8)))
    (l8 : K.lookup f8 = some ⟨oc8, od8, .func (PySem.W.fnOf "check_deeds" "check_deeds" (defArgs s_check_deeds) (defBody s_check_deeds) (defScope s_check_deeds) .none kV8 dc8 pm8 an8 cd8 ct8), sl8⟩)
    (c8 : PySem.W.codeIn K cd8 "check_deeds" = true)
    (k8 : PySem.W.keepIn K (.ref f8) = true)
    (a9 : PySem.W.nsIn K mainGlobals "has_deed_form" = some (some (.ref f9)))
    (l9 : K.lookup f9 = some ⟨oc9, od9, .func (PySem.W.fnOf "has_deed_form" "has_deed_form" (defArgs s_has_deed_form) (defBody s_has_deed_form) (defScope s_has_deed_form) .none kV9 dc9 pm9 an9 cd9 ct9), sl9⟩)
    (c9 : PySem.W.codeIn K cd9 "has_deed_form" = true)
    (k9 : PySem.W.keepIn K (.ref f9) = true)
    (a10 : PySem.W.nsIn K mainGlobals "is_thing" = some (some (.ref f10)))
    (l10 : K.lookup f10 = some ⟨oc10, od10, .func (PySem.W.fnOf "is_thing" "is_thing" (defArgs s_is_thing) (defBody s_is_thing) (defScope s_is_thing) .none kV10 dc10 pm10 an10 cd10 ct10), sl10⟩)
    (c10 : PySem.W.codeIn K cd10 "is_thing" = true)
    (k10 : PySem.W.keepIn K (.ref f10) = true)
    (a11 : PySem.W.nsIn K mainGlobals "are_reads" = some (some (.ref f11)))
    (l11 : K.lookup f11 = some ⟨oc11, od11, .func (PySem.W.fnOf "are_reads" "are_reads" (defArgs s_are_reads) (defBody s_are_reads) (defScope s_are_reads) .none kV11 dc11 pm11 an11 cd11 ct11), sl11⟩)
    (c11 : PySem.W.codeIn K cd11 "are_reads" = true)
    (k11 : PySem.W.keepIn K (.ref f11) = true)
    (a12 : PySem.W.nsIn K mainGlobals "are_writes" = some (some (.ref f12)))
    (l12 : K.lookup f12 = some ⟨oc12, od12, .func (PySem.W.fnOf "are_writes" "are_writes" (defArgs s_are_writes) (defBody s_are_writes) (defScope s_are_writes) .none kV12 dc12 pm12 an12 cd12 ct12), sl12⟩)
    (c12 : PySem.W.codeIn K cd12 "are_writes" = true)
    (k12 : PySem.W.keepIn K (.ref f12) = true)
    (a13 : PySem.W.nsIn K mainGlobals "is_write" = some (some (.ref f13)))
    (l13 : K.lookup f13 = some ⟨oc13, od13, .func (PySem.W.fnOf "is_write" "is_write" (defArgs s_is_write) (defBody s_is_write) (defScope s_is_write) .none kV13 dc13 pm13 an13 cd13 ct13), sl13⟩)
    (c13 : PySem.W.codeIn K cd13 "is_write" = true)
    (k13 : PySem.W.keepIn K (.ref f13) = true)
    (a14 : PySem.W.nsIn K mainGlobals "written" = some (some (.ref f14)))
    (l14 : K.lookup f14 = some ⟨oc14, od14, .func (PySem.W.fnOf "written" "written" (defArgs s_written) (defBody s_written) (defScope s_written) .none kV14 dc14 pm14 an14 cd14 ct14), sl14⟩)
    (c14 : PySem.W.codeIn K cd14 "written" = true)
    (k14 : PySem.W.keepIn K (.ref f14) = true)
    (a15 : PySem.W.nsIn K mainGlobals "_law_taken" = some (some (.ref f15)))
    (l15 : K.lookup f15 = some ⟨oc15, od15, .func (PySem.W.fnOf "_law_taken" "_law_taken" (defArgs s__law_taken) (defBody s__law_taken) (defScope s__law_taken) .none kV15 dc15 pm15 an15 cd15 ct15), sl15⟩)
    (c15 : PySem.W.codeIn K cd15 "_law_taken" = true)
    (k15 : PySem.W.keepIn K (.ref f15) = true)
    (a16 : PySem.W.nsIn K mainGlobals "_law_pick" = some (some (.ref f16)))
    (l16 : K.lookup f16 = some ⟨oc16, od16, .func (PySem.W.fnOf "_law_pick" "_law_pick" (defArgs s__law_pick) (defBody s__law_pick) (defScope s__law_pick) .none kV16 dc16 pm16 an16 cd16 ct16), sl16⟩)
    (c16 : PySem.W.codeIn K cd16 "_law_pick" = true)
    (k16 : PySem.W.keepIn K (.ref f16) = true)
    (a17 : PySem.W.nsIn K mainGlobals "_law_alike" = some (some (.ref f17)))
    (l17 : K.lookup f17 = some ⟨oc17, od17, .func (PySem.W.fnOf "_law_alike" "_law_alike" (defArgs s__law_alike) (defBody s__law_alike) (defScope s__law_alike) .none kV17 dc17 pm17 an17 cd17 ct17), sl17⟩)
    (c17 : PySem.W.codeIn K cd17 "_law_alike" = true)
    (k17 : PySem.W.keepIn K (.ref f17) = true)
    (a18 : PySem.W.nsIn K mainGlobals "_law_homes" = some (some (.ref f18)))
    (l18 : K.lookup f18 = some ⟨oc18, od18, .func (PySem.W.fnOf "_law_homes" "_law_homes" (defArgs s__law_homes) (defBody s__law_homes) (defScope s__law_homes) .none kV18 dc18 pm18 an18 cd18 ct18), sl18⟩)
    (c18 : PySem.W.codeIn K cd18 "_law_homes" = true)
    (k18 : PySem.W.keepIn K (.ref f18) = true)
    (a19 : PySem.W.nsIn K mainGlobals "_law_things" = some (some (.ref f19)))
    (l19 : K.lookup f19 = some ⟨oc19, od19, .func (PySem.W.fnOf "_law_things" "_law_things" (defArgs s__law_things) (defBody s__law_things) (defScope s__law_things) .none kV19 dc19 pm19 an19 cd19 ct19), sl19⟩)
    (c19 : PySem.W.codeIn K cd19 "_law_things" = true)
    (k19 : PySem.W.keepIn K (.ref f19) = true)
    (a20 : PySem.W.nsIn K mainGlobals "_law_deed" = some (some (.ref f20)))
    (l20 : K.lookup f20 = some ⟨oc20, od20, .func (PySem.W.fnOf "_law_deed" "_law_deed" (defArgs s__law_deed) (defBody s__law_deed) (defScope s__law_deed) .none kV20 dc20 pm20 an20 cd20 ct20), sl20⟩)
    (c20 : PySem.W.codeIn K cd20 "_law_deed" = true)
    (k20 : PySem.W.keepIn K (.ref f20) = true)
    (a21 : PySem.W.nsIn K mainGlobals "_law_wrong" = some (some (.ref f21)))
    (l21 : K.lookup f21 = some ⟨oc21, od21, .func (PySem.W.fnOf "_law_wrong" "_law_wrong" (defArgs s__law_wrong) (defBody s__law_wrong) (defScope s__law_wrong) .none kV21 dc21 pm21 an21 cd21 ct21), sl21⟩)
    (c21 : PySem.W.codeIn K cd21 "_law_wrong" = true)
    (k21 : PySem.W.keepIn K (.ref f21) = true)
    (a0 : PySem.W.nsIn K mainGlobals "law" = some (some (.ref f0)))
    (l0 : K.lookup f0 = some ⟨oc0, od0, .func (PySem.W.fnOf "law" "law" (defArgs s_law) (defBody s_law) (defScope s_law) .none kV0 dc0 pm0 an0 (.ref c0) ct0), sl0⟩)
    (c0_ : PySem.W.codeIn K (.ref c0) "law" = true)
    (k0 : PySem.W.keepIn K (.ref f0) = true)
    (lc0 : K.lookup c0 = some ⟨.type "code", dd0, .fields vs0, sc0⟩)
    (vp0 : vs0[11]? = some (.ref P0))
    (nP0 : K.lookup P0 = none)
    (hd0 : ∃ (file : Str) (tf : Tok) (flags : Int) (tg : Tok) (inF : Bool) (text : Int) (tt : Tok), vs0.getD 11 .none = .ref P0 ∧ vs0.getD 18 .none = .str file tf ∧ vs0.getD 7 .none = .int flags tg ∧ vs0.getD 9 .none = .bool inF ∧ vs0.getD 10 .none = .int text tt ∧ c0 ≠ P0)
    (z_all : PySem.W.nsIn K mainGlobals "all" = some none)
    (z_bool : PySem.W.nsIn K mainGlobals "bool" = some none)
    (z_enumerate : PySem.W.nsIn K mainGlobals "enumerate" = some none)
    (z_int : PySem.W.nsIn K mainGlobals "int" = some none)
    (z_isinstance : PySem.W.nsIn K mainGlobals "isinstance" = some none)
    (z_len : PySem.W.nsIn K mainGlobals "len" = some none)
    (z_list : PySem.W.nsIn K mainGlobals "list" = some none)
    (z_max : PySem.W.nsIn K mainGlobals "max" = some none)
    (z_range : PySem.W.nsIn K mainGlobals "range" = some none)
    (z_set : PySem.W.nsIn K mainGlobals "set" = some none)
    (z_sorted : PySem.W.nsIn K mainGlobals "sorted" = some none)
    (z_str : PySem.W.nsIn K mainGlobals "str" = some none)
    (z_sum : PySem.W.nsIn K mainGlobals "sum" = some none)
    (z_super : PySem.W.nsIn K mainGlobals "super" = some none)
    (z_tuple : PySem.W.nsIn K mainGlobals "tuple" = some none)
    (z_zip : PySem.W.nsIn K mainGlobals "zip" = some none)
    (g_MOST_HOMES : PySem.W.nsIn K mainGlobals "MOST_HOMES" = some (some (.int 6 t_MOST_HOMES)))
    (g_LAST_HOUSE : PySem.W.nsIn K mainGlobals "LAST_HOUSE" = some (some (.int 3 t_LAST_HOUSE)))
    (g_MOST_READS : PySem.W.nsIn K mainGlobals "MOST_READS" = some (some (.int 3 t_MOST_READS)))
    (g_MOST_WRITES : PySem.W.nsIn K mainGlobals "MOST_WRITES" = some (some (.int 3 t_MOST_WRITES)))
    (g_MOST_DEEDS : PySem.W.nsIn K mainGlobals "MOST_DEEDS" = some (some (.int 60 t_MOST_DEEDS)))
    (g_WORDS : PySem.W.nsIn K mainGlobals "WORDS" = some (some (.int 1000 t_WORDS)))
    (mCB : PySem.W.nsIn K mainGlobals "BadHomes" = some (some (.ref CB)))
    (mCD : PySem.W.nsIn K mainGlobals "BadDeeds" = some (some (.ref CD)))
    (mCK : PySem.W.nsIn K mainGlobals "KeepError" = some (some (.ref CK)))
    (bx : PySem.W.excIn K CB [.type "ValueError", .type "Exception", .type "BaseException", .type "object"] "ValueError.__new__" = true)
    (bk : PySem.W.keepIn K (.ref CB) = true)
    (bb : PySem.W.subIn K (.ref CB) (.type "BaseException") = some true)
    (bt : PySem.W.typeIn K (.ref CB) = some (.type "type"))
    (exB : PySem.W.exmOne K (.ref CB) (.ref CK) = some true)
    (exD : PySem.W.exmOne K (.ref CD) (.ref CK) = some true)
    (kDD : PySem.W.kitOne K (.ref CD) (.ref CD) = some true)
    (kBD : PySem.W.kitOne K (.ref CB) (.ref CD) = some false)
    (kBB : PySem.W.kitOne K (.ref CB) (.ref CB) = some true)
    (xf : xfB K CD = true)
    (ix : PySem.W.findIn K (.ref CD) "index" = some none)
    (e1CB : PySem.W.findIn K (.ref CB) "__getattribute__" = some (some (.builtin "BaseException.__getattribute__")))
    (e2CB : PySem.W.findIn K (.ref CB) "__getattr__" = some none)
    (e3CB : PySem.W.subIn K (.ref CB) (.type "BaseException") = some true)
    (e4CB : PySem.W.hasDictIn K CB = true)
    (e5CB : PySem.W.findIn K (.ref CB) "__class__" = some (some (.builtin "object.__class__")))
    (e7CB : PySem.W.mroIn K CB (.type "object") = some true)
    (e1CD : PySem.W.findIn K (.ref CD) "__getattribute__" = some (some (.builtin "BaseException.__getattribute__")))
    (e2CD : PySem.W.findIn K (.ref CD) "__getattr__" = some none)
    (e3CD : PySem.W.subIn K (.ref CD) (.type "BaseException") = some true)
    (e4CD : PySem.W.hasDictIn K CD = true)
    (e5CD : PySem.W.findIn K (.ref CD) "__class__" = some (some (.builtin "object.__class__")))
    (e7CD : PySem.W.mroIn K CD (.type "object") = some true)
    (e6 : PySem.W.specialIn K (.builtin "object.__class__") "__get__" = some (some (.builtin "getset_descriptor.__get__")))
    (e8 : PySem.W.takesIn K (.builtin "object.__class__") = some true)
    (zsup : PySem.W.nsIn K mainGlobals "super" = some none)
    (iI : PySem.W.findIn K (.ref CD) "__init__" = some (some (.ref fI)))
    (lI : K.lookup fI = some ⟨ocI, odI, .func (PySem.W.ksFn "__init__" "BadDeeds.__init__" (defArgs s_BadDeeds___init__) (defBody s_BadDeeds___init__) (defScope s_BadDeeds___init__) .none kVI dcI pmI anI (.ref cda) ctI ccI), slI⟩)
    (cI : PySem.W.codeIn K (.ref cda) "BadDeeds.__init__" = true)
    (tI : PySem.W.typeIn K (.ref fI) = some (.type "function"))
    (lcI : K.lookup cda = some ⟨eI, ddI, .fields vsI, scI⟩)
    (v2I : vsI[2]? = some (.str fileI tfI))
    (fiI : ((l.prog.main.file : Str) == fileI) = true)
    (clI : K.lookup ccI = some ⟨eC, ddC, .cell (some (.ref CD)), slC⟩)
    (mrI : PySem.W.mroIn K CD (.ref CD) = some true)
    (suI : PySem.W.ks_superIn K CD CD "__init__" = some (some (.builtin "ValueError.__init__")))
    (sbI : PySem.W.subIn K (.ref CD) (.type "ValueError") = some true)
    (anyI : PySem.W.nsIn K PySem.cStatics "thirdparty.any" = some none)
    (topI : (l.prog.main.scope.names.lookup ("super" : Str)).isSome = false)
    (xL : K.lookup CD = some (excClassObj nmD qD CD ND bsD bmD true snD subD abD colD ddD n0D n1D n2D n3D n5D "ValueError.__new__"))
    (rfD : PySem.HandSPX.refsVE bmD = true)
    (saD : PySem.W.findIn K (.ref CD) "__setattr__" = some (some (.builtin "object.__setattr__")))
    (tyD_ : PySem.W.typeIn K (.ref CD) = some (.type "type"))
    (kpD : PySem.W.keepIn K (.ref CD) = true) :
    LamX.LawAtS l w K (L2.CX l.prog w) 12 63 "script" mg fa h := by
  have e := hfa.symm.trans (PySem.W.mg_of X G a0)
  cases e
  have T : Txt mg := ⟨PySem.W.mg_none_of X G z_all, PySem.W.mg_none_of X G z_bool, PySem.W.mg_none_of X G z_enumerate, PySem.W.mg_none_of X G z_int, PySem.W.mg_none_of X G z_isinstance, PySem.W.mg_none_of X G z_len, PySem.W.mg_none_of X G z_list, PySem.W.mg_none_of X G z_max, PySem.W.mg_none_of X G z_range, PySem.W.mg_none_of X G z_set, PySem.W.mg_none_of X G z_sorted, PySem.W.mg_none_of X G z_str, PySem.W.mg_none_of X G z_sum, PySem.W.mg_none_of X G z_super, PySem.W.mg_none_of X G z_tuple, PySem.W.mg_none_of X G z_zip, ⟨_, PySem.W.mg_of X G g_MOST_HOMES, ⟨_, rfl⟩⟩, ⟨_, PySem.W.mg_of X G g_LAST_HOUSE, ⟨_, rfl⟩⟩, ⟨_, PySem.W.mg_of X G g_MOST_READS, ⟨_, rfl⟩⟩, ⟨_, PySem.W.mg_of X G g_MOST_WRITES, ⟨_, rfl⟩⟩, ⟨_, PySem.W.mg_of X G g_MOST_DEEDS, ⟨_, rfl⟩⟩, ⟨_, PySem.W.mg_of X G g_WORDS, ⟨_, rfl⟩⟩⟩
  have eB : Er K mg "BadHomes" CB := ⟨PySem.W.mg_of X G mCB, bx, bk, bb, bt⟩
  have Wf : WrF K mg CB CD CK := ⟨PySem.W.mg_of X G mCK, PySem.W.mg_of X G mCB, PySem.W.mg_of X G mCD, exB, exD, ⟨e1CB, e2CB, e3CB, e4CB, e5CB, e6, e8, e7CB⟩, ⟨e1CD, e2CD, e3CD, e4CD, e5CD, e6, e8, e7CD⟩, kDD, kBD, kBB, xfB_ok xf, ix⟩
  have eD : EcI l.prog K mg "BadDeeds" CD := ⟨fI, "BadDeeds.__init__", defArgs s_BadDeeds___init__, defBody s_BadDeeds___init__, defScope s_BadDeeds___init__, .none, kVI, dcI, pmI, anI, cda, ctI, ccI, {
    g := PySem.W.mg_of X G mCD, oex := ⟨⟨nmD, qD, ND, bsD, bmD, snD, subD, abD, colD, ddD, n0D, n1D, n2D, n3D, n5D, xL, rfD⟩, saD, e3CD, tyD_, kpD⟩, sup := PySem.W.mg_none_of X G zsup, lk := ⟨_, _, _, lI⟩, code := cI, binds := .all fun us hl => (match us, hl with | [_, _], _ => rfl), init := iI, ty := tI,
    kind := rfl, co := rfl, gen := rfl, nocell := by decide +kernel, free := by decide +kernel, s_self := by decide +kernel, s_index := by decide +kernel, s_super := by decide +kernel, s_class := by decide +kernel,
    par := ⟨_, rfl, rfl⟩, cd := ⟨_, _, _, _, _, _, lcI, v2I, fiI⟩, cell := ⟨_, _, _, clI⟩, mro := mrI, supIn := suI, sub := sbI, any := anyI, ixno := ix, top := topI,
    body := ⟨"no tuple of deeds, index ", 0, _, _, _, _, _, _, _, _, _, _, _, _, _, by decide +kernel, fun env => ⟨_, rfl⟩, rfl⟩ }⟩
  have F1 := fun_mk (st := s_is_number) l1 c1 k1
  have b1 := F1.binds (ps := ps_is_number) fun _ _ _ _ _ _ us hl => match us, hl with | [_, _, _], _ => rfl
  have m1 := PySem.W.mg_of X G a1
  have F2 := fun_mk (st := s_is_tuple) l2 c2 k2
  have b2 := F2.binds (ps := ps_is_tuple) fun _ _ _ _ _ _ us hl => match us, hl with | [_, _, _], _ => rfl
  have m2 := PySem.W.mg_of X G a2
  have F3 := fun_mk (st := s_is_rising) l3 c3 k3
  have b3 := F3.binds (ps := ps_is_rising) fun _ _ _ _ _ _ us hl => match us, hl with | [_], _ => rfl
  have m3 := PySem.W.mg_of X G a3
  have F4 := fun_mk (st := s_houses_of) l4 c4 k4
  have b4 := F4.binds (ps := ps_houses_of) fun _ _ _ _ _ _ us hl => match us, hl with | [_], _ => rfl
  have m4 := PySem.W.mg_of X G a4
  have F5 := fun_mk (st := s_is_deed) l5 c5 k5
  have b5 := F5.binds (ps := ps_is_deed) fun _ _ _ _ _ _ us hl => match us, hl with | [_, _], _ => rfl
  have m5 := PySem.W.mg_of X G a5
  have F6 := fun_mk (st := s_plain) l6 c6 k6
  have b6 := F6.binds (ps := ps_plain) fun _ _ _ _ _ _ us hl => match us, hl with | [_, _], _ => rfl
  have m6 := PySem.W.mg_of X G a6
  have F7 := fun_mk (st := s_check_homes) l7 c7 k7
  have b7 := F7.binds (ps := ps_check_homes) fun _ _ _ _ _ _ us hl => match us, hl with | [_], _ => rfl
  have m7 := PySem.W.mg_of X G a7
  have F8 := fun_mk (st := s_check_deeds) l8 c8 k8
  have b8 := F8.binds (ps := ps_check_deeds) fun _ _ _ _ _ _ us hl => match us, hl with | [_, _], _ => rfl
  have m8 := PySem.W.mg_of X G a8
  have F9 := fun_mk (st := s_has_deed_form) l9 c9 k9
  have b9 := F9.binds (ps := ps_has_deed_form) fun _ _ _ _ _ _ us hl => match us, hl with | [_, _], _ => rfl
  have m9 := PySem.W.mg_of X G a9
  have F10 := fun_mk (st := s_is_thing) l10 c10 k10
  have b10 := F10.binds (ps := ps_is_thing) fun _ _ _ _ _ _ us hl => match us, hl with | [_, _], _ => rfl
  have m10 := PySem.W.mg_of X G a10
  have F11 := fun_mk (st := s_are_reads) l11 c11 k11
  have b11 := F11.binds (ps := ps_are_reads) fun _ _ _ _ _ _ us hl => match us, hl with | [_, _], _ => rfl
  have m11 := PySem.W.mg_of X G a11
  have F12 := fun_mk (st := s_are_writes) l12 c12 k12
  have b12 := F12.binds (ps := ps_are_writes) fun _ _ _ _ _ _ us hl => match us, hl with | [_, _], _ => rfl
  have m12 := PySem.W.mg_of X G a12
  have F13 := fun_mk (st := s_is_write) l13 c13 k13
  have b13 := F13.binds (ps := ps_is_write) fun _ _ _ _ _ _ us hl => match us, hl with | [_, _], _ => rfl
  have m13 := PySem.W.mg_of X G a13
  have F14 := fun_mk (st := s_written) l14 c14 k14
  have b14 := F14.binds (ps := ps_written) fun _ _ _ _ _ _ us hl => match us, hl with | [_, _], _ => rfl
  have m14 := PySem.W.mg_of X G a14
  have F15 := fun_mk (st := s__law_taken) l15 c15 k15
  have b15 := F15.binds (ps := ps__law_taken) fun _ _ _ _ _ _ us hl => match us, hl with | [_, _], _ => rfl
  have m15 := PySem.W.mg_of X G a15
  have F16 := fun_mk (st := s__law_pick) l16 c16 k16
  have b16 := F16.binds (ps := ps__law_pick) fun _ _ _ _ _ _ us hl => match us, hl with | [_, _], _ => rfl
  have m16 := PySem.W.mg_of X G a16
  have F17 := fun_mk (st := s__law_alike) l17 c17 k17
  have b17 := F17.binds (ps := ps__law_alike) fun _ _ _ _ _ _ us hl => match us, hl with | [_, _], _ => rfl
  have m17 := PySem.W.mg_of X G a17
  have F18 := fun_mk (st := s__law_homes) l18 c18 k18
  have b18 := F18.binds (ps := ps__law_homes) fun _ _ _ _ _ _ us hl => match us, hl with | [_], _ => rfl
  have m18 := PySem.W.mg_of X G a18
  have F19 := fun_mk (st := s__law_things) l19 c19 k19
  have b19 := F19.binds (ps := ps__law_things) fun _ _ _ _ _ _ us hl => match us, hl with | [_, _, _, _], _ => rfl
  have m19 := PySem.W.mg_of X G a19
  have F20 := fun_mk (st := s__law_deed) l20 c20 k20
  have b20 := F20.binds (ps := ps__law_deed) fun _ _ _ _ _ _ us hl => match us, hl with | [_, _], _ => rfl
  have m20 := PySem.W.mg_of X G a20
  have F21 := fun_mk (st := s__law_wrong) l21 c21 k21
  have b21 := F21.binds (ps := ps__law_wrong) fun _ _ _ _ _ _ us hl => match us, hl with | [_], _ => rfl
  have m21 := PySem.W.mg_of X G a21
  obtain ⟨file, tf, flags, tg, inF, text, tt, q1, q2, q3, q4, q5, q6⟩ := hd0
  refine ⟨PySem.W.fnOf "law" "law" (defArgs s_law) (defBody s_law) (defScope s_law) .none kV0 dc0 pm0 an0 (.ref c0) ct0, [(c0, P0)], spLaw K P0, fun p hp => ?_, fun p hp => ?_, fun p hp => ?_, fun s u => .of_eq rfl, fun H a ns hl _ hT hS => ⟨⟨a, ns⟩, rfl, hS, hl, hT (c0, P0) (List.mem_singleton.mpr rfl), fun _ => rfl⟩, fun base hK hN hTB => ?_⟩
  · rw [List.mem_singleton.mp hp]
    exact own c0 P0 _ _ _ _ _ _ l0 rfl rfl lc0 vp0
  · rw [List.mem_singleton.mp hp]
    exact nP0
  · rw [List.mem_singleton.mp hp]
    exact ⟨_, vs0, file, tf, flags, tg, inF, text, tt, X _ _ lc0, rfl, rfl, vp0, q1, q2, q3, q4, q5, q6⟩
  · have TB := hTB (c0, P0) (List.mem_singleton.mpr rfl)
    have d_is_number : Df l.prog w K mg base _ "is_number" _ := ⟨_, _, _, (ok_is_number F1 T), m1, F1.kp, b1⟩
    have d_is_tuple : Df l.prog w K mg base _ "is_tuple" _ := ⟨_, _, _, (ok_is_tuple F2 T), m2, F2.kp, b2⟩
    have d_is_rising : Df l.prog w K mg base _ "is_rising" _ := ⟨_, _, _, (ok_is_rising F3 T), m3, F3.kp, b3⟩
    have d_is_thing : Df l.prog w K mg base _ "is_thing" _ := ⟨_, _, _, (ok_is_thing F10 T d_is_number), m10, F10.kp, b10⟩
    have d_are_reads : Df l.prog w K mg base _ "are_reads" _ := ⟨_, _, _, (ok_are_reads F11 T d_is_tuple d_is_rising d_is_thing), m11, F11.kp, b11⟩
    have d_is_write : Df l.prog w K mg base _ "is_write" _ := ⟨_, _, _, (ok_is_write F13 T d_is_tuple d_is_number d_is_thing), m13, F13.kp, b13⟩
    have d_are_writes : Df l.prog w K mg base _ "are_writes" _ := ⟨_, _, _, (ok_are_writes F12 T d_is_tuple d_is_rising d_is_write), m12, F12.kp, b12⟩
    have d_has_deed_form : Df l.prog w K mg base _ "has_deed_form" _ := ⟨_, _, _, (ok_has_deed_form F9 T d_is_tuple d_are_reads d_are_writes), m9, F9.kp, b9⟩
    have d_written : Df l.prog w K mg base _ "written" _ := ⟨_, _, _, (ok_written F14 T), m14, F14.kp, b14⟩
    have d_check_homes : Df l.prog w K mg base _ "check_homes" _ := ⟨_, _, _, (ok_check_homes F7 T eB d_is_tuple d_is_number), m7, F7.kp, b7⟩
    have d_houses_of : Df l.prog w K mg base _ "houses_of" _ := ⟨_, _, _, (ok_houses_of F4 T d_check_homes), m4, F4.kp, b4⟩
    have d_is_deed : Df l.prog w K mg base _ "is_deed" _ := ⟨_, _, _, (ok_is_deed F5 T d_check_homes d_has_deed_form), m5, F5.kp, b5⟩
    have d_check_deeds : Df l.prog w K mg base _ "check_deeds" _ := ⟨_, _, _, (ok_check_deeds F8 T eD d_is_tuple d_has_deed_form), m8, F8.kp, b8⟩
    have d_plain : Df l.prog w K mg base _ "plain" _ := ⟨_, _, _, (ok_plain F6 T d_check_homes d_check_deeds d_written), m6, F6.kp, b6⟩
    have d__law_taken : Df l.prog w K mg base _ "_law_taken" _ := ⟨_, _, _, (ok_law_taken F15 T), m15, F15.kp, b15⟩
    have d__law_pick : Df l.prog w K mg base _ "_law_pick" _ := ⟨_, _, _, (ok_law_pick F16 T d__law_taken), m16, F16.kp, b16⟩
    have d__law_homes : Df l.prog w K mg base _ "_law_homes" _ := ⟨_, _, _, (ok_law_homes F18 T d__law_taken), m18, F18.kp, b18⟩
    have d__law_things : Df l.prog w K mg base _ "_law_things" _ := ⟨_, _, _, (ok_law_things F19 T d__law_taken), m19, F19.kp, b19⟩
    have d__law_deed : Df l.prog w K mg base _ "_law_deed" _ := ⟨_, _, _, (ok_law_deed F20 T d__law_taken d__law_pick d__law_things), m20, F20.kp, b20⟩
    have d_no : Df l.prog w K mg base 0 "_law_alike" spNo := ⟨_, _, ps__law_alike, fnOk_no, m17, F17.kp, b17⟩
    have d_al0 : Df l.prog w K mg base 1 "_law_alike" spAlike0 := ⟨_, _, _, ok_law_alike0 F17 T d_no, m17, F17.kp, b17⟩
    have d_al1 : Df l.prog w K mg base 2 "_law_alike" spAlike1 := ⟨_, _, _, ok_law_alike1 F17 T d_al0, m17, F17.kp, b17⟩
    exact ok_law (P := l.prog) (w := w) (base := base) (CK := CK) l0 c0_ T F21 m21 b21 Wf TB d__law_taken d__law_pick d__law_homes d__law_deed d_al1 d_plain d_houses_of d_is_deed
end K8

set_option Elab.async false
set_option maxRecDepth 100000
open PySem PySem.W PyProof.Rows in
set_option maxRecDepth 100000 in
set_option maxHeartbeats 0 in
theorem PySem.Challenge.cw_keptabroad_k08_whole_deeds_holds : PySem.Challenge.rw_keptabroad_k08_whole_deeds.Holds := by
  w_on; o_law; k_head; (case hw => w_witness2)
  k_fill
  refine LamX.walk_ofOwn (n := 63) (k := 12) (x := "script") (CX := fun w => L2.CX PySem.Challenge.rw_keptabroad_k08_whole_deeds.prog w) (l := PySem.Challenge.rw_keptabroad_k08_whole_deeds) rfl (by decide) rfl ⟨rfl, by decide, by decide⟩ (by decide +kernel) (fun w h Y => PySem.W.km_in_of Y) ?F ?Z
  case F =>
    intro w mg fa h Y KX G hmg own
    refine' K8.all_mk KX G hmg own ?a1 ?l1 ?c1 ?k1 ?a2 ?l2 ?c2 ?k2 ?a3 ?l3 ?c3 ?k3 ?a4 ?l4 ?c4 ?k4 ?a5 ?l5 ?c5 ?k5 ?a6 ?l6 ?c6 ?k6 ?a7 ?l7 ?c7 ?k7 ?a8 ?l8 ?c8 ?k8 ?a9 ?l9 ?c9 ?k9 ?a10 ?l10 ?c10 ?k10 ?a11 ?l11 ?c11 ?k11 ?a12 ?l12 ?c12 ?k12 ?a13 ?l13 ?c13 ?k13 ?a14 ?l14 ?c14 ?k14 ?a15 ?l15 ?c15 ?k15 ?a16 ?l16 ?c16 ?k16 ?a17 ?l17 ?c17 ?k17 ?a18 ?l18 ?c18 ?k18 ?a19 ?l19 ?c19 ?k19 ?a20 ?l20 ?c20 ?k20 ?a21 ?l21 ?c21 ?k21 ?a0 ?l0 ?c0_ ?k0 ?lc0 ?vp0 ?nP0 ?hd0 ?z_all ?z_bool ?z_enumerate ?z_int ?z_isinstance ?z_len ?z_list ?z_max ?z_range ?z_set ?z_sorted ?z_str ?z_sum ?z_super ?z_tuple ?z_zip ?g_MOST_HOMES ?g_LAST_HOUSE ?g_MOST_READS ?g_MOST_WRITES ?g_MOST_DEEDS ?g_WORDS ?mCB ?mCD ?mCK ?bx ?bk ?bb ?bt ?exB ?exD ?kDD ?kBD ?kBB ?xf ?ix ?e1CB ?e2CB ?e3CB ?e4CB ?e5CB ?e7CB ?e1CD ?e2CD ?e3CD ?e4CD ?e5CD ?e7CD ?e6 ?e8 ?zsup ?iI ?lI ?cI ?tI ?lcI ?v2I ?fiI ?clI ?mrI ?suI ?sbI ?anyI ?topI ?xL ?rfD ?saD ?tyD_ ?kpD
    (case a1 => first | k_is | rfl | decide +kernel)
    (case l1 => first | k_is | rfl | decide +kernel)
    (case c1 => first | k_is | rfl | decide +kernel)
    (case k1 => first | k_is | rfl | decide +kernel)
    (case a2 => first | k_is | rfl | decide +kernel)
    (case l2 => first | k_is | rfl | decide +kernel)
    (case c2 => first | k_is | rfl | decide +kernel)
    (case k2 => first | k_is | rfl | decide +kernel)
    (case a3 => first | k_is | rfl | decide +kernel)
    (case l3 => first | k_is | rfl | decide +kernel)
    (case c3 => first | k_is | rfl | decide +kernel)
    (case k3 => first | k_is | rfl | decide +kernel)
    (case a4 => first | k_is | rfl | decide +kernel)
    (case l4 => first | k_is | rfl | decide +kernel)
    (case c4 => first | k_is | rfl | decide +kernel)
    (case k4 => first | k_is | rfl | decide +kernel)
    (case a5 => first | k_is | rfl | decide +kernel)
    (case l5 => first | k_is | rfl | decide +kernel)
    (case c5 => first | k_is | rfl | decide +kernel)
    (case k5 => first | k_is | rfl | decide +kernel)
    (case a6 => first | k_is | rfl | decide +kernel)
    (case l6 => first | k_is | rfl | decide +kernel)
    (case c6 => first | k_is | rfl | decide +kernel)
    (case k6 => first | k_is | rfl | decide +kernel)
    (case a7 => first | k_is | rfl | decide +kernel)
    (case l7 => first | k_is | rfl | decide +kernel)
    (case c7 => first | k_is | rfl | decide +kernel)
    (case k7 => first | k_is | rfl | decide +kernel)
    (case a8 => first | k_is | rfl | decide +kernel)
    (case l8 => first | k_is | rfl | decide +kernel)
    (case c8 => first | k_is | rfl | decide +kernel)
    (case k8 => first | k_is | rfl | decide +kernel)
    (case a9 => first | k_is | rfl | decide +kernel)
    (case l9 => first | k_is | rfl | decide +kernel)
    (case c9 => first | k_is | rfl | decide +kernel)
    (case k9 => first | k_is | rfl | decide +kernel)
    (case a10 => first | k_is | rfl | decide +kernel)
    (case l10 => first | k_is | rfl | decide +kernel)
    (case c10 => first | k_is | rfl | decide +kernel)
    (case k10 => first | k_is | rfl | decide +kernel)
    (case a11 => first | k_is | rfl | decide +kernel)
    (case l11 => first | k_is | rfl | decide +kernel)
    (case c11 => first | k_is | rfl | decide +kernel)
    (case k11 => first | k_is | rfl | decide +kernel)
    (case a12 => first | k_is | rfl | decide +kernel)
    (case l12 => first | k_is | rfl | decide +kernel)
    (case c12 => first | k_is | rfl | decide +kernel)
    (case k12 => first | k_is | rfl | decide +kernel)
    (case a13 => first | k_is | rfl | decide +kernel)
    (case l13 => first | k_is | rfl | decide +kernel)
    (case c13 => first | k_is | rfl | decide +kernel)
    (case k13 => first | k_is | rfl | decide +kernel)
    (case a14 => first | k_is | rfl | decide +kernel)
    (case l14 => first | k_is | rfl | decide +kernel)
    (case c14 => first | k_is | rfl | decide +kernel)
    (case k14 => first | k_is | rfl | decide +kernel)
    (case a15 => first | k_is | rfl | decide +kernel)
    (case l15 => first | k_is | rfl | decide +kernel)
    (case c15 => first | k_is | rfl | decide +kernel)
    (case k15 => first | k_is | rfl | decide +kernel)
    (case a16 => first | k_is | rfl | decide +kernel)
    (case l16 => first | k_is | rfl | decide +kernel)
    (case c16 => first | k_is | rfl | decide +kernel)
    (case k16 => first | k_is | rfl | decide +kernel)
    (case a17 => first | k_is | rfl | decide +kernel)
    (case l17 => first | k_is | rfl | decide +kernel)
    (case c17 => first | k_is | rfl | decide +kernel)
    (case k17 => first | k_is | rfl | decide +kernel)
    (case a18 => first | k_is | rfl | decide +kernel)
    (case l18 => first | k_is | rfl | decide +kernel)
    (case c18 => first | k_is | rfl | decide +kernel)
    (case k18 => first | k_is | rfl | decide +kernel)
    (case a19 => first | k_is | rfl | decide +kernel)
    (case l19 => first | k_is | rfl | decide +kernel)
    (case c19 => first | k_is | rfl | decide +kernel)
    (case k19 => first | k_is | rfl | decide +kernel)
    (case a20 => first | k_is | rfl | decide +kernel)
    (case l20 => first | k_is | rfl | decide +kernel)
    (case c20 => first | k_is | rfl | decide +kernel)
    (case k20 => first | k_is | rfl | decide +kernel)
    (case a21 => first | k_is | rfl | decide +kernel)
    (case l21 => first | k_is | rfl | decide +kernel)
    (case c21 => first | k_is | rfl | decide +kernel)
    (case k21 => first | k_is | rfl | decide +kernel)
    (case a0 => first | k_is | rfl | decide +kernel)
    (case l0 => first | k_is | rfl | decide +kernel)
    (case c0_ => first | k_is | rfl | decide +kernel)
    (case k0 => first | k_is | rfl | decide +kernel)
    (case lc0 => first | k_is | rfl | decide +kernel)
    (case vp0 => rfl)
    (case nP0 => first | k_is | rfl | decide +kernel)
    (case hd0 => exact ⟨_, _, _, _, _, _, _, rfl, rfl, rfl, rfl, rfl, by decide⟩)
    (case z_all => first | k_is | rfl | decide +kernel)
    (case z_bool => first | k_is | rfl | decide +kernel)
    (case z_enumerate => first | k_is | rfl | decide +kernel)
    (case z_int => first | k_is | rfl | decide +kernel)
    (case z_isinstance => first | k_is | rfl | decide +kernel)
    (case z_len => first | k_is | rfl | decide +kernel)
    (case z_list => first | k_is | rfl | decide +kernel)
    (case z_max => first | k_is | rfl | decide +kernel)
    (case z_range => first | k_is | rfl | decide +kernel)
    (case z_set => first | k_is | rfl | decide +kernel)
    (case z_sorted => first | k_is | rfl | decide +kernel)
    (case z_str => first | k_is | rfl | decide +kernel)
    (case z_sum => first | k_is | rfl | decide +kernel)
    (case z_super => first | k_is | rfl | decide +kernel)
    (case z_tuple => first | k_is | rfl | decide +kernel)
    (case z_zip => first | k_is | rfl | decide +kernel)
    (case g_MOST_HOMES => first | k_is | rfl | decide +kernel)
    (case g_LAST_HOUSE => first | k_is | rfl | decide +kernel)
    (case g_MOST_READS => first | k_is | rfl | decide +kernel)
    (case g_MOST_WRITES => first | k_is | rfl | decide +kernel)
    (case g_MOST_DEEDS => first | k_is | rfl | decide +kernel)
    (case g_WORDS => first | k_is | rfl | decide +kernel)
    (case mCB => first | k_is | rfl | decide +kernel)
    (case mCD => first | k_is | rfl | decide +kernel)
    (case mCK => first | k_is | rfl | decide +kernel)
    (case bx => first | k_is | rfl | kx_is | with_unfolding_all rfl)
    (case bk => first | k_is | rfl | decide +kernel)
    (case bb => first | k_is | rfl | decide +kernel)
    (case bt => first | k_is | rfl | decide +kernel)
    (case exB => first | k_is | rfl | decide +kernel)
    (case exD => first | k_is | rfl | decide +kernel)
    (case kDD => first | k_is | rfl | decide +kernel)
    (case kBD => first | k_is | rfl | decide +kernel)
    (case kBB => first | k_is | rfl | decide +kernel)
    (case xf => first | k_is | rfl | decide +kernel)
    (case ix => first | k_is | rfl | decide +kernel)
    (case e1CB => first | k_is | rfl | decide +kernel)
    (case e2CB => first | k_is | rfl | decide +kernel)
    (case e3CB => first | k_is | rfl | decide +kernel)
    (case e4CB => first | k_is | rfl | decide +kernel)
    (case e5CB => first | k_is | rfl | decide +kernel)
    (case e7CB => first | k_is | rfl | decide +kernel)
    (case e1CD => first | k_is | rfl | decide +kernel)
    (case e2CD => first | k_is | rfl | decide +kernel)
    (case e3CD => first | k_is | rfl | decide +kernel)
    (case e4CD => first | k_is | rfl | decide +kernel)
    (case e5CD => first | k_is | rfl | decide +kernel)
    (case e7CD => first | k_is | rfl | decide +kernel)
    (case e6 => first | k_is | rfl | decide +kernel)
    (case e8 => first | k_is | rfl | decide +kernel)
    (case zsup => first | k_is | rfl | decide +kernel)
    (case iI => first | k_is | rfl | decide +kernel)
    (case lI => first | k_is | rfl | decide +kernel)
    (case cI => first | k_is | rfl | decide +kernel)
    (case tI => first | k_is | rfl | decide +kernel)
    (case lcI => first | k_is | rfl | decide +kernel)
    (case v2I => rfl)
    (case fiI => first | rfl | decide +kernel)
    (case clI => first | k_is | rfl | decide +kernel)
    (case mrI => first | k_is | rfl | decide +kernel)
    (case suI => first | k_is | rfl | decide +kernel)
    (case sbI => first | k_is | rfl | decide +kernel)
    (case anyI => first | k_is | rfl | decide +kernel)
    (case topI => first | rfl | decide +kernel)
    (case xL => first | k_is | rfl | decide +kernel)
    (case rfD => first | rfl | decide +kernel)
    (case saD => first | k_is | rfl | decide +kernel)
    (case tyD_ => first | k_is | rfl | decide +kernel)
    (case kpD => first | k_is | rfl | decide +kernel)
  case Z =>
    intro w H s e s' z
    obtain ⟨_, _, _, _, _, _, _, _, _, _, _, _, q⟩ := z
    exact q
#print axioms PySem.Challenge.cw_keptabroad_k08_whole_deeds_holds
