import PyProof.Rows.All
import Wide.All
import OpenK.AllK
import Wide.FinOn
import HandS.ForMost
import HandS.Flow
import HandS.IsInst
import HandS.ExcInit
import HandS.ExcField
import KE.KExcIs
import KE.KExcMake
import KE.KExcInit
import HandS.Defaults
import HandS.StrSplit
import HandS.Head0
import HandS.Head1
import HandS.Head2
import HandS.HeadEnd
import HandS.HeadHook1
import HandS.HeadHook2
import HandS.HeadHook3
import HandS.HeadHook4
import HandS.Ends
import KE.KDictList
import HandS.Walk
import HandS.ReplaceLit
import HandS.ReplaceDef
import HandS.FStr
import HandS.Style
import HandS.NoneIn
import HandS.Zip
import HandS.More
import KE.DataEq
import PyProof.ReprLen
import PyProof.StrLawsRepr
import PySem.Challenge.RW_shapekeep_k16_errors_and_limits
set_option Elab.async false
set_option linter.all false
set_option maxRecDepth 100000
set_option maxHeartbeats 0
namespace KX
open PySem L2 PyProof.Rows
def top (i : Nat) : Stmt := PySem.Challenge.pw_shapekeep_k16_errors_and_limits.main.body.getD i (.Pass ⟨0, 0, 0, 0⟩)
/-- all but p is as it was -/
def Keep (p : Addr) (H H' : Hp) : Prop := ∀ b o, b ≠ p → H b = some o → H' b = some o
theorem Keep.refl (p : Addr) (H : Hp) : Keep p H H := fun _ _ _ h => h
theorem Keep.trans {p : Addr} {H H1 H2 : Hp} (a : Keep p H H1) (b : Keep p H1 H2) : Keep p H H2 := fun c o n h => b c o n (a c o n h)
theorem Keep.new {p q : Addr} {H : Hp} (h : H q = none) (o : HO) : Keep p H (upd H q o) := fun b u _ e => by
  rw [upd_ne (ne_of_none e h)]
  exact e
theorem Keep.self {p : Addr} {H : Hp} {o : HO} : Keep p H (upd H p o) := fun b u n e => by
  rw [upd_ne n]
  exact e
theorem Keep.at' {p q : Addr} {H H' : Hp} {o : HO} (k : Keep p H H') (e : H q = some o) (n : q ≠ p) : H' q = some o := k q o n e
theorem Keep.seq {K : PySem.W.Frag} {p a : Addr} {H H' : Hp} {xs : List V} (k : Keep p H H') (n : a ≠ p) (h : SqL K H a xs) : SqL K H' a xs := by
  rcases h with (h | ⟨o, h⟩) | h
  · exact .inl (.inl (k _ _ n h))
  · exact .inl (.inr ⟨o, k _ _ n h⟩)
  · exact .inr h
theorem same_new {q : Addr} {G : Hp} (fresh : G q = none) (what : HO) : Same G (upd G q what) := by
  intro b u there
  have other : b ≠ q := by
    rintro rfl
    exact absurd (there.symm.trans fresh) (Option.some_ne_none u)
  exact (upd_ne other).trans there
theorem Same.keep {p : Addr} {H H' : Hp} (s : Same H H') : Keep p H H' := fun b o _ e => s b o e

/-- the pool of draws -/
def PoolAt (H : Hp) (p : Addr) : Prop := ∃ s d c : Int, H p = some (.lst [.int s, .int d, .int c]) ∧ 0 ≤ s ∧ s < 1000000007 ∧ 0 ≤ d
theorem PoolAt.same {H H' : Hp} {p : Addr} (h : PoolAt H p) (s : Same H H') : PoolAt H' p := by
  obtain ⟨a, d, c, e, r⟩ := h
  exact ⟨a, d, c, s _ _ e, r⟩
theorem PoolAt.ne {H : Hp} {p q : Addr} (h : PoolAt H p) (n : H q = none) : q ≠ p := by
  obtain ⟨a, d, c, e, r⟩ := h
  exact (ne_of_none e n).symm

theorem Keep.upd {p D : Addr} {H H' : Hp} {o : HO} (k : Keep p H H') (n : H D = none) : Keep p H (upd H' D o) := fun b u nb e => by
  rw [upd_ne (ne_of_none e n)]
  exact k b u nb e
theorem PoolAt.upd {H : Hp} {p D : Addr} {o : HO} (h : PoolAt H p) (n : D ≠ p) : PoolAt (upd H D o) p := by
  obtain ⟨a, d, c, e, r⟩ := h
  exact ⟨a, d, c, by rw [upd_ne (Ne.symm n)]; exact e, r⟩
theorem Keep.gone {p r : Addr} {H H' : Hp} (k : Keep p H H') (n : r ≠ p) (h : H' r = Option.none) : H r = Option.none := by
  cases e : H r with
  | none => rfl
  | some o =>
    rw [k r o n e] at h
    cases h
theorem map_snoc {α : Type} (g : Nat → α) (i : Nat) : (List.range i).map g ++ [g i] = (List.range (i + 1)).map g := by
  rw [List.range_succ, List.map_append]
  rfl
theorem yesT {σ : L2.St} {H : Hp} {F G : Hp → Prop} (h : F H) : tYes σ H (fun b H3 => if b = true then F H3 else G H3) := by
  show (if true = true then F H else G H)
  rw [if_pos rfl]
  exact h
structure Bl (mg : Str → Option Value) : Prop where
  len : mg "len" = none
  abs : mg "abs" = none
  divmod : mg "divmod" = none
  min : mg "min" = none
  max : mg "max" = none
  all : mg "all" = none
  sorted : mg "sorted" = none
  isinstance : mg "isinstance" = none
  repr : mg "repr" = none
  ord : mg "ord" = none
  range : mg "range" = none
  zip : mg "zip" = none
  tuple : mg "tuple" = none
  list : mg "list" = none
  str : mg "str" = none
  int : mg "int" = none
  bool : mg "bool" = none
  dict : mg "dict" = none
section
variable {X : Cx}
theorem op_inK (K : PySem.W.Frag) (h : X.K = K) : OpR X (compareOp .In) (rIn K false) := by subst h; exact op_in_seq
theorem op_notInK (K : PySem.W.Frag) (h : X.K = K) : OpR X (compareOp .NotIn) (rIn K true) := by subst h; exact op_notIn_seq
theorem op_eqK (K : PySem.W.Frag) (h : X.K = K) (hu : X.A.units + 64 < cLine) : OpR X (compareOp .Eq) (rEqD K) := by subst h; exact op_eqD hu
theorem op_neK (K : PySem.W.Frag) (h : X.K = K) (hu : X.A.units + 64 < cLine) : OpR X (compareOp .NotEq) (rNeD K) := by subst h; exact op_neD hu
theorem ix_listK (K : PySem.W.Frag) (h : X.K = K) : IxR X (rIxL K) := by subst h; exact ix_list
theorem ix_tupK (K : PySem.W.Frag) (h : X.K = K) : IxR X (rIxT K) := by subst h; exact ix_tup
theorem sl_listK (K : PySem.W.Frag) (h : X.K = K) : SlR X (rSlL K) := by subst h; exact sl_list
theorem sl_tupK (K : PySem.W.Frag) (h : X.K = K) : SlR X (rSlT K) := by subst h; exact sl_tup
def rLenV (K : PySem.W.Frag) : List V → Hp → VK → Prop := fun xs H Q => ∃ x n, xs = [x] ∧ LenV K x H n ∧ Q (.int n) H
theorem call_lenK (K : PySem.W.Frag) (h : X.K = K) : CallR X (.builtin "len") (rLenV K) := by subst h; exact call_len
end
end KX

namespace KX
open PySem PySem.Spec L2 PyProof.Rows
open Builtin.ObjectAttr
/-- what is looked up at the class for a name of the interpreter's own is this built-in -/
def Finds (K : PySem.W.Frag) (C : Addr) (name found : String) : Prop := PySem.W.findIn K (.ref C) name = some (some (.builtin found))
/-- what the written part says of an own error class over the built-in error B -/
structure Er (K : PySem.W.Frag) (C : Addr) (B nw ii : String) (tl : List Value) : Prop where
  F : ExcBaseFacts B nw ii tl
  SF : StoreFacts B tl "object.__setattr__" "object"
  obj : PySem.W.excInitIn K C tl nw = true
  over : PySem.W.excOver K C tl = true
  sa : Finds K C "__setattr__" "object.__setattr__"
  ga : Finds K C "__getattribute__" "BaseException.__getattribute__"
  gt : PySem.W.findIn K (.ref C) "__getattr__" = some none
  sub : PySem.W.subIn K (.ref C) (.type "BaseException") = some true
  hd : PySem.W.hasDictIn K C = true
  cl : PySem.W.findIn K (.ref C) "__class__" = some (some (.builtin "object.__class__"))
  dn : PySem.W.specialIn K (.builtin "object.__class__") "__get__" = some (some (.builtin "getset_descriptor.__get__"))
  dt : PySem.W.takesIn K (.builtin "object.__class__") = some true
  ob : PySem.W.mroIn K C (.type "object") = some true
  kp : PySem.W.keepIn K (.ref C) = true
/-- an error at a: of the class at C, with these fields -/
def ErrAt (H : Hp) (a C : Addr) (fs : List (Str × V)) : Prop := (fs = [] ∧ H a = some (exo a C none)) ∨ ∃ dx, H a = some (exo a C (some dx)) ∧ H dx = some (exd dx fs)
theorem ErrAt.same {H H' : Hp} {a C : Addr} {fs : List (Str × V)} (h : ErrAt H a C fs) (s : Same H H') : ErrAt H' a C fs := by
  rcases h with ⟨h1, h2⟩ | ⟨dx, h1, h2⟩
  · exact .inl ⟨h1, s _ _ h2⟩
  · exact .inr ⟨dx, s _ _ h1, s _ _ h2⟩
section
variable {X : Cx} {pins : List (Addr × Obj)} {σ : L2.St} {H : Hp} {s : Shared} {a C : Addr} {fs : List (Str × V)} {B nw ii : String} {tl : List Value}
/-- the object and its dict, as the library's rules want them -/
theorem ErrAt.inst (h : ErrAt H a C fs) (I : Inv X pins σ H s) : ∃ (ox : Obj) (od : Option Obj), PySem.W.InstAt s.heap a ox C od ∧ ∀ f v, fs.lookup f = some v → ∃ (o : Obj) (u : Value), od = some o ∧ PySem.W.lookIn f o = some (some u) ∧ RelV v u := by
  rcases h with ⟨rfl, h2⟩ | ⟨dx, h1, h2⟩
  · obtain ⟨t1, e1⟩ := exo_at I.hok h2
    exact ⟨_, none, ⟨e1, rfl, rfl, trivial⟩, fun f v e => nomatch e⟩
  · obtain ⟨t1, e1⟩ := exo_at I.hok h1
    obtain ⟨mA, hn, hr⟩ := exd_at I.hok h2
    obtain ⟨o, ho, hl⟩ := lookIn_ns hn
    refine ⟨_, some o, ⟨e1, rfl, rfl, ho⟩, fun f v e => ?_⟩
    obtain ⟨u, hu, ru⟩ := RelO.some_of (v := v) (o := mA f) (by rw [← e]; exact hr f)
    exact ⟨o, u, rfl, by rw [hl, hu], ru⟩
/-! ### isinstance -/
def rIsX (K : PySem.W.Frag) : List V → Hp → VK → Prop := fun xs H Q => ∃ (a C : Addr) (fs : List (Str × V)) (c : V) (u : Value) (b : Bool) (B nw ii : String) (tl : List Value), xs = [.ref a, c] ∧ ErrAt H a C fs ∧ Er K C B nw ii tl ∧ ClsV c u ∧
  PySem.W.kitOne K (.ref C) u = some b ∧ Q (.bl b) H
def rIsXT (K : PySem.W.Frag) : List V → Hp → VK → Prop := fun xs H Q => ∃ (a C t : Addr) (fs : List (Str × V)) (cs : List V) (us : List Value) (b : Bool) (B nw ii : String) (tl : List Value), xs = [.ref a, .ref t] ∧ ErrAt H a C fs ∧ Er K C B nw ii tl ∧ H t = some (.tup cs) ∧ Paired ClsV cs us ∧
  PySem.W.kitAny K (.ref C) us = some b ∧ Q (.bl b) H
theorem call_isX (K : PySem.W.Frag) (hK : X.K = K) : CallR X (.builtin "isinstance") (rIsX K) := by
  subst hK
  intro pins s σ H xs us Q I r h
  obtain ⟨a, C, fs, c, u, b, B, nw, ii, tl, rfl, he, T, hc, e, q⟩ := h
  obtain ⟨u1, u2, rfl, r1, r2⟩ := vals2 r
  obtain rfl := hc.eq r2
  cases (show u1 = Value.ref a from r1)
  obtain ⟨ox, od, J, _⟩ := he.inst I
  obtain ⟨cd, hcd, _⟩ := PySem.W.any_some T.hd
  exact PySem.W.kia_one (PySem.W.kitx_exc (ox := ox) (od := od) (by rw [hcd]; rfl) T.ga T.gt T.sub T.cl T.dn T.dt T.ob) I.kIn J e (fun z => nomatch z) fun tk => ⟨.bl b, H, I.tok tk, rfl, q⟩
theorem call_isXT (K : PySem.W.Frag) (hK : X.K = K) : CallR X (.builtin "isinstance") (rIsXT K) := by
  subst hK
  intro pins s σ H xs us Q I r h
  obtain ⟨a, C, t, fs, cs, ws, b, B, nw, ii, tl, rfl, he, T, ht, hc, e, q⟩ := h
  obtain ⟨u1, u2, rfl, r1, r2⟩ := vals2 r
  cases (show u1 = Value.ref a from r1)
  cases (show u2 = Value.ref t from r2)
  obtain ⟨ox, od, J, _⟩ := he.inst I
  obtain ⟨cd, hcd, _⟩ := PySem.W.any_some T.hd
  obtain ⟨_, its, rv, o, h1, h2, n, h3⟩ := (show ObjOk X.prog X.w H s.heap t (.tup cs) from I.hok t _ ht)
  have e3 := ClsV.all hc rv
  subst e3
  obtain ⟨oc, od', dd, sl⟩ := o
  simp only at h2 h3
  subst h2 h3
  exact PySem.W.kia_tup (PySem.W.kitx_exc (ox := ox) (od := od) (by rw [hcd]; rfl) T.ga T.gt T.sub T.cl T.dn T.dt T.ob) I.kIn J h1 e (fun z => nomatch z) fun tk => ⟨.bl b, H, I.tok tk, rfl, q⟩
/-! ### fields -/
def tErF (K : PySem.W.Frag) (f : Str) (te : TE) : TE := fun σ H Q => te σ H fun x H1 => ∃ (a C : Addr) (fs : List (Str × V)) (v : V) (B nw ii : String) (tl : List Value), x = .ref a ∧ ErrAt H1 a C fs ∧ Er K C B nw ii tl ∧ PySem.W.findIn K (.ref C) f = some none ∧ fs.lookup f = some v ∧ Q v H1
theorem pe_erF (K : PySem.W.Frag) (hK : X.K = K) {e : Expr} {te : TE} {pos : Pos} {f : Str} (he : PE X e te) (hb : attributeBase e f X.env (eval e X.env) = eval e X.env := by rfl) : PE X (.Attribute e f pos) (tErF K f te) := by
  subst hK
  refine ⟨fun pins s σ H Q I h => attr_of hb (thn (he.run pins s σ H _ I h) fun u s1 hh => ?_)⟩
  obtain ⟨x, H1, I1, rx, a, C, fs, v, B, nw, ii, tl, rfl, hx, T, hno, hl, q⟩ := hh
  cases (show u = Value.ref a from rx)
  obtain ⟨ox, od, J, fl⟩ := hx.inst I1
  obtain ⟨o, u, rfl, hlk, ru⟩ := fl f v hl
  exact HandSPX.exc_get I1.kIn J T.ga T.gt T.sub (PySem.W.findObj_own T.hd hno rfl hlk) (handed_of ru) ⟨v, H1, I1.tok _, ru, q⟩
/-! ### the fields are stored -/
theorem er_cls (T : Er X.K C B nw ii tl) : ∃ cd, PySem.W.clsIn X.K C = some cd ∧ cd.hasDict = true := PySem.W.any_some T.hd
/-- the class lets a store of a name that it knows nothing of pass to the object's own dict -/
theorem er_open {M : Tok} {f : Str} {u : Value} {ox : Obj} {od : Option Obj} {A : Around} {R : Result → Shared → Prop} (T : Er X.K C B nw ii tl) (I : X.K.In s.heap) (at' : PySem.W.InstAt s.heap a ox C od) (free : PySem.W.findIn X.K (.ref C) f = some none)
    (put : ∀ b, wpAny (model X.prog X.w) A.in1 (storeInOwnDict (.ref a) (.ref C) (.str f M) f u b)
      (fun fin s' => match fin with | .done r => R (.ok r) s' | .again c => c.quiet = true ∧ codeAny (model X.prog X.w) A c R s') (fun e s' => R (.error e) s') s) :
    codeAny (model X.prog X.w) A (.call (.builtin "object.__setattr__") ⟨[.ref a, .str f M, u], []⟩) R s := by
  have none' : PySem.W.takerIn X.K C f = some none := by
    unfold PySem.W.takerIn
    rw [free]
    rfl
  exact PySem.W.osa_openX T.SF I at' T.over none' put
/-- the first field of an error: its dict is made -/
theorem er_first {f : Str} {y : V} {u : Value} {Q : Unit → Shared → Prop} {E : Value → Shared → Prop} {A : Around} (T : Er X.K C B nw ii tl) (I : Inv X pins σ H s) (bare : H a = some (exo a C none)) (free : PySem.W.findIn X.K (.ref C) f = some none) (rel : RelV y u)
    (next : ∀ dx s', H dx = none → dx ≠ a → Inv X pins σ (upd (upd H a (exo a C (some dx))) dx (exd dx [(f, y)])) s' → Q () s') : wpAny (model X.prog X.w) A (setAttr (.ref a) f u) Q E s := by
  obtain ⟨cd, isCls, hasD⟩ := er_cls T
  obtain ⟨t1, there⟩ := exo_at I.hok bare
  have kIn := I.kIn
  obtain ⟨hp, g, d, t, os⟩ := s
  have J : PySem.W.InstAt hp a _ C none := ⟨there, rfl, rfl, trivial⟩
  refine PySem.W.set_plain kIn J T.sa (er_open T kIn J free fun b => ?_)
  -- the heap with the new dict, and the error that has it
  have old : a ≠ hp.objs.size := Nat.ne_of_lt (Heap.lt_size there)
  refine wpAny_bind (wpAny_pure (wpAny_bind (PySem.W.instanceDict_exc there (PySem.W.looks_clsIn kIn isCls) hasD ?_)))
  refine PySem.HandSPX.store_in_new (dx := hp.objs.size) ⟨_, #[], _, (Heap.get?_update_other _ _ old).trans (Heap.get?_push_at rfl rfl), rfl, fun e he => absurd he (by simp), fun _ => rfl⟩ ?_
  rintro h' tk' ns same
  -- first the error, then its dict
  have set : (hp.update a fun o => { o with dict := some hp.objs.size }).get? a = some { cls := .ref C, dict := some hp.objs.size, data := .fields #[.ref t1, .none, .none, .none, .bool false, .none] } := Heap.get?_update_self _ there rfl
  have I1 : Inv X pins σ (upd H a (exo a C (some hp.objs.size))) ⟨hp.update a fun o => { o with dict := some hp.objs.size }, g, d, t, os⟩ :=
    I.write (t' := t) (x := a) (e := a) (by rw [bare]; exact True.intro) (.inl rfl) (fun b o ne e => (Heap.get?_update_other _ _ (Ne.symm ne)).trans e) ⟨_, set⟩ (exo_ok set)
  have I2 : Inv X pins σ (upd (upd H a (exo a C (some hp.objs.size))) hp.objs.size (exd hp.objs.size [(f, y)])) ⟨h', g, d, tk', os⟩ := by
    refine I1.laid (t' := tk') (a := hp.objs.size) (h' := h') (fun b o e => ?_) (by rw [Heap.size_after_update]; exact Nat.le_refl _) (exd_ok ns (relO_put (fs := []) rel fun _ => True.intro))
    have was : b ≠ hp.objs.size := by
      have lt := Heap.lt_size e
      rw [Heap.size_after_update] at lt
      exact Nat.ne_of_lt lt
    rw [same.2 b was]
    by_cases ba : b = a
    · subst ba
      rw [set] at e
      rw [← e]
      exact Heap.get?_update_self _ (Heap.get?_push_of_some _ there) rfl
    · rw [Heap.get?_update_other _ _ (Ne.symm ba)] at e ⊢
      exact Heap.get?_push_of_some _ e
  exact next hp.objs.size _ (I.hok.fresh (Nat.le_refl _)) (Ne.symm old) I2
/-- a further field -/
theorem er_more {f : Str} {y : V} {u : Value} {dx : Addr} {Q : Unit → Shared → Prop} {E : Value → Shared → Prop} {A : Around} (T : Er X.K C B nw ii tl) (I : Inv X pins σ H s) (has : H a = some (exo a C (some dx))) (dict : H dx = some (exd dx fs)) (few : fs.length ≤ 900)
    (free : PySem.W.findIn X.K (.ref C) f = some none) (rel : RelV y u) (next : ∀ s', Inv X pins σ (upd H dx (exd dx ((f, y) :: fs))) s' → Q () s') : wpAny (model X.prog X.w) A (setAttr (.ref a) f u) Q E s := by
  obtain ⟨cd, isCls, hasD⟩ := er_cls T
  obtain ⟨t1, there⟩ := exo_at I.hok has
  obtain ⟨was, ns, each⟩ := exd_at I.hok dict
  have names := within_of each
  obtain ⟨od, _, _, atD, _, _⟩ := ns.count names
  have kIn := I.kIn
  obtain ⟨hp, g, d, t, os⟩ := s
  have J : PySem.W.InstAt hp a _ C (some od) := ⟨there, rfl, rfl, atD⟩
  refine PySem.W.set_plain kIn J T.sa (er_open T kIn J free fun b => ?_)
  refine wpAny_bind (wpAny_pure (wpAny_bind (wpAny_bind (wpAny_loadPart there (wpAny_bind ((PySem.W.looks_clsIn kIn isCls).at ?_))))))
  rw [hasD]
  refine wpAny_pure (a := some dx) ?_
  refine PySem.OEX.store_in_old ns names (by rw [List.length_map]; omega) ?_
  rintro h' tk' ns' same
  have at' : ∃ o, h'.get? dx = some o := by
    obtain ⟨o, _, _, e, _⟩ := ns'
    exact ⟨o, e⟩
  exact next _ (I.write (t' := tk') (x := dx) (e := dx) (by rw [dict]; exact True.intro) (.inl rfl) (fun b o ne e => (same.2 b ne).trans e) at' (exd_ok ns' (relO_put rel each)))
end
/-- o.f = e, o an error: its first field, or a further one -/
def tErS (K : PySem.W.Frag) (f : Str) (to te : TE) : TS := fun D σ H => te σ H fun y H1 => to σ H1 fun x H2 => ∃ (a C : Addr) (B nw ii : String) (tl : List Value), x = .ref a ∧ Er K C B nw ii tl ∧ PySem.W.findIn K (.ref C) f = some none ∧
  ((H2 a = some (exo a C none) ∧ ∀ dx, H2 dx = none → dx ≠ a → D.nx σ (upd (upd H2 a (exo a C (some dx))) dx (exd dx [(f, y)]))) ∨
    ∃ (fs : List (Str × V)) (dx : Addr), fs.length ≤ 900 ∧ H2 a = some (exo a C (some dx)) ∧ H2 dx = some (exd dx fs) ∧ D.nx σ (upd H2 dx (exd dx ((f, y) :: fs))))
/-- C(..): the new error, then the class's __init__ -/
def tNew (C : Addr) (sp : Sp) (ta : TA) : TE := fun σ H Q => ta σ H fun vs H1 => vs.length ≤ 1000 ∧ ∀ a, H1 a = none → sp (.ref a :: vs) (upd H1 a (exo a C none)) (fun v H2 => v = .non ∧ Q (.ref a) H2) E0
section
variable {X : Cx} {o e : Expr} {es : List Expr} {to te : TE} {ta : TA} {f : Str} {p p' pos : Pos} {C : Addr} {B nw ii : String} {tl : List Value}
theorem ps_er (K : PySem.W.Frag) (same : X.K = K) (obj : PE X o to) (val : PE X e te) (plain : swapsWith e (some (.Attribute o f p')) pos.line X.env = pure false := by rfl) : PS X (.Assign [.Attribute o f p'] e pos) (tErS K f to te) := by
  subst same
  constructor
  intro pins s σ H D want
  intro asked
  refine plainObj_wpAny_Assign_Attribute (thn (val.run pins s σ H _ want asked) ?_) plain
  rintro u s1 ⟨y, H1, I1, ry, q1⟩
  refine thn (obj.run pins s1 σ H1 _ I1 q1) ?_
  rintro v s2 ⟨x, H2, I2, rx, a, C, B, nw, ii, tl, rfl, T, free, way⟩
  obtain rfl : v = Value.ref a := rx
  rcases way with ⟨bare, q⟩ | ⟨fs, dx, few, has, dict, q⟩
  · exact er_first T I2 bare free ry fun dx s3 n ne I3 => ⟨σ, _, I3, q dx n ne⟩
  · exact er_more T I2 has dict few free ry fun s3 I3 => ⟨σ, _, I3, q⟩
/-- the error that a call of its class lays, ahead of the class's __init__ -/
theorem er_laid {pins : List (Addr × Obj)} {σ : L2.St} {H : Hp} {hp : Heap} {g : Array GenState} {d : Drawn} {t : Nat} {os : OsState} {us : List Value} (I : Inv X pins σ H ⟨hp, g, d, t, os⟩) :
    H (hp.objs.size + 1) = none ∧ Inv X pins σ (upd H (hp.objs.size + 1) (exo (hp.objs.size + 1) C none)) ⟨(hp.push (PySem.W.kdv_tup us)).push (PySem.HandSPX.excO C hp.objs.size), g, d, t, os⟩ := by
  have up : hp.objs.size ≤ hp.objs.size + 1 := Nat.le_succ _
  refine ⟨I.hok.fresh up, I.laid (t' := t) (fun b o e => ?_) up (exo_ok (t1 := hp.objs.size) (by heap_get))⟩
  exact Heap.get?_push_of_some _ (Heap.get?_push_of_some _ e)
/-- C(e, ..), whose __init__ is a def of the class's own -/
theorem pe_new {k : Nat} {fI : Addr} {fd : FuncData} {ps : List Str} {sp : Sp} {x : Str} (T : Er X.K C B nw ii tl) (iC : PySem.W.findIn X.K (.ref C) "__init__" = some (some (.ref fI))) (isFn : PySem.W.typeIn X.K (.ref fI) = some (.type "function"))
    (F : FnOk X.prog X.w X.K X.mg X.base CX0 k fI fd ps sp) (room : Room (k + 1) X.A) (bind : Binds X.K fd ps []) (isG : Gl X x) (named : X.mg x = some (.ref C)) (args : PA X (e :: es) ta)
    (noDebug : (x == ("__debug__" : Str)) = false := by decide) (stars : starEach (e :: es) X.env = (false, eval e X.env) :: starEach es X.env := by rfl) (noStar : (backTo pos (starEach es X.env)).any (·.1) = false := by rfl) :
    PE X (.Call (.Name x p) (e :: es) [] pos) (tNew C sp ta) := by
  constructor
  intro pins s σ H Q I want
  refine wpAny_Call_Name_kw (ld_glob I isG named ?_ noDebug)
  refine PySem.W.callWith_K (h₀ := X.base) I.ok.mod.kin T.kp (thn (args.run pos pins s σ H _ I want) ?_) stars noStar
  rintro us ⟨hp, g, d, t, os⟩ ⟨vs, H1, J, rel, few, next⟩
  obtain ⟨fresh, J2⟩ := er_laid (C := C) (us := us) J
  have asked := next _ fresh
  have rel2 : Vals (.ref (hp.objs.size + 1) :: vs) (Value.ref (hp.objs.size + 1) :: us) := .cons rfl rel
  have many : (Value.ref (hp.objs.size + 1) :: us).length = ps.length := rel2.length.symm.trans (F.len _ _ _ _ asked)
  have bound := bind _ (Value.ref (hp.objs.size + 1) :: us) J2.kIn (by rw [List.append_nil]; exact many)
  rw [List.append_nil] at bound
  have short : us.length ≤ sizeLine := by
    rw [← rel.length, sizeLine_eq]
    omega
  obtain ⟨nm, N, qn, bs, bm, hdct, sn, sub, ab, col, dd, k0, k1, k2, k3, k5, isC, tail⟩ := PySem.W.excInit_of J.kIn T.obj
  have does := F.run _ X.stack _ _ ⟨_, []⟩ _ _ _ _ (room.make C us []) (J2.env0.make C us []) bound rel2 asked
  refine ⟨J.kIn, wpAny_call (PySem.HandSPX.call_own T.F tail isC (PySem.W.looks_findIn J.kIn iC) (fun self => PySem.W.bind_fn J.kIn self isFn) short (codeAny_mono does ?_))⟩
  rintro (er | fl) s' h
  · exact h.elim
  cases fl with
  | ret u =>
    obtain ⟨v, H3, J3, rv, rfl, q⟩ := J2.after h
    exact ⟨rv, .ref (hp.objs.size + 1), H3, J3, rfl, q⟩
  | next => exact h.elim
  | brk => exact h.elim
  | cont => exact h.elim
end
end KX

namespace KX
open PySem PySem.Spec PySem.Calls PyProof.Rows L2
section
variable {prog : Program} {w : World} {A : Around} {R : Result → Shared → Prop} {K : PySem.W.Frag} {h : Heap} {g : Array GenState} {d : Drawn} {t : Nat} {os : OsState} {C fI : Addr} {B nw ii : String} {tl : List Value} {kws : List (Str × Value)}
/-- C(k = v, ..) with keywords alone: the error without arguments is laid, and its __init__ is called with the keywords -/
theorem er_kw (T : Er K C B nw ii tl) (kIn : K.In h) (iC : PySem.W.findIn K (.ref C) "__init__" = some (some (.ref fI))) (isFn : PySem.W.typeIn K (.ref fI) = some (.type "function"))
    (goOn : codeAny (model prog w) (A.under (.builtin "type.__call__" ⟨[.ref C], kws⟩)) (.call (.ref fI) ⟨[.ref (h.objs.size + 1)], kws⟩) (PySem.W.InitBack (h.objs.size + 1) R) ⟨(h.push (PySem.W.kdv_tup [])).push (PySem.HandSPX.excO C h.objs.size), g, d, t, os⟩) :
    codeAny (model prog w) A (.call (.ref C) ⟨[], kws⟩) R ⟨h, g, d, t, os⟩ := by
  obtain ⟨nm, N, qn, bs, bm, hdct, sn, sub, ab, col, dd, k0, k1, k2, k3, k5, isC, tail⟩ := PySem.W.excInit_of kIn T.obj
  have F := T.F
  have up : ∀ X : String, (Value.ref C :: bm).contains (.type X) = tl.contains (.type X) := fun X => by
    rw [List.contains_cons, tail X]
    rfl
  have toB := (up B).trans F.hasB
  have toA := (up "AttributeError").trans F.noAttr
  have toN := (up "NameError").trans F.noName
  have toC : (Value.ref C :: bm).contains (.ref C) = true := by simp
  have star := F.noStar
  have z1 := tc_lookup
  have z2 := tc_bind (.ref C)
  have z3 := tc_sub
  have isT : (⟨h, g, d, t, os⟩ : Shared).TypeIs (.ref C) "type" := ⟨_, isC, rfl⟩
  refine codeAny_of_tree ?_
  show wpAny _ _ (callAny (.ref C) _) _ _ _
  repeat (any_goals (first | assumption | with_reducible refine wpAny_loadPart_at isC ?_ | wp_step))
  refine ⟨rfl, codeAny_call_builtin_at (Code.quiet_builtin _ (by decide +kernel)) entry_typeCall ?_⟩
  have typ : PySem.W.Looks (model prog w) h (isInstance (.ref C) (.type "type")) true := ((PySem.W.Looks.ld (part := none) isC).andThen .now).andThen (by show PySem.W.Looks _ _ (isSubtype (.type "type") (.type "type")) true; rw [z3]; exact .now)
  refine PySem.W.check_slot tc_kind tc_split typ (PySem.W.tc_args _ _ _) ?_
  show wpAny _ _ (Builtin.«type.__call__» ⟨[.ref C], kws⟩) _ _ _
  repeat (first | with_reducible refine wpAny_loadPart_at isC ?_ | with_reducible refine wpAny_madeBy_exc isC ?_ | wp_step)
  refine codeAny_call_builtin_code (Code.quiet_builtin _ F.quiet) ?_
  simp only [checkBuiltinCall, F.newKind, F.newSplit, F.newRow]
  repeat (first | with_reducible refine wpAny_loadPart_at isC ?_ | (with_reducible refine wpAny_isSubtype_exc isC ?_; rw [toB]) | with_reducible refine wpAny_staticBase_exc isC ?_ | with_reducible refine wpAny_madeBy_exc isC ?_ | simp only [bne_self_eq_false, Bool.false_eq_true, if_false] | wp_step)
  -- the error is laid
  refine codeAny_builtinAt F.entry ?_
  unfold Builtin.«BaseException.__new__»
  have ends := F.ends
  refine PyProof.Rows.wpAt_bind (PyProof.Rows.wpAt_bind (PyProof.Rows.wpAt_stack fun p below => wpAt_of_wpAny ?_))
  wp_walk
  refine wpAt_of_wpAny ?_
  rw [F.owner]
  repeat (first | with_reducible refine wpAny_madeHere_exc F.canon isC ?_ | with_reducible refine wpAny_loadPart_at isC ?_ | (with_reducible refine wpAny_isSubtype_exc isC ?_; first | rw [toB] | rw [toA] | rw [toN]) | wp_step)
  -- it is one of its class, and its __init__ is called
  rw [Heap.size_push]
  have keeps : ∀ b o, h.get? b = some o → ((h.push (PySem.W.kdv_tup [])).push (PySem.HandSPX.excO C h.objs.size)).get? b = some o := fun b o e => Heap.get?_push_of_some _ (Heap.get?_push_of_some _ e)
  have isC2 := keeps _ _ isC
  have made : ((h.push (PySem.W.kdv_tup [])).push (PySem.HandSPX.excO C h.objs.size)).get? (h.objs.size + 1) = some (PySem.HandSPX.excO C h.objs.size) := by heap_get
  show wpAny _ _ (isSubtype (.ref C) (.ref C)) _ _ ⟨(h.push (PySem.W.kdv_tup [])).push (PySem.HandSPX.excO C h.objs.size), g, d, _, os⟩
  refine wpAny_isSubtype_exc isC2 ?_
  rw [toC]
  have find : PySem.W.Looks (model prog w) h (typeLookup (.ref C) "__init__") (some (.ref fI)) := PySem.W.looks_findIn kIn iC
  have bound : PySem.W.Looks (model prog w) h (bindSpecial (.ref fI) (.ref (h.objs.size + 1))) (.ref fI, [.ref (h.objs.size + 1)]) := PySem.W.bind_fn kIn _ isFn
  have find2 := find.keeps keeps
  have bound2 := bound.keeps keeps
  unfold callSpecial? specialOf
  repeat (first | with_reducible refine wpAny_loadPart_at made ?_ | with_reducible refine find2.at ?_ | with_reducible refine bound2.at ?_ | wp_step)
  refine codeAny_mono goOn ?_
  rintro (e | fl) s' z
  · exact z
  cases fl with
  | ret v =>
    obtain ⟨rfl, z⟩ := z
    exact wpAny_pure (wpAny_pure z)
  | next => exact z.elim
  | brk => exact z.elim
  | cont => exact z.elim
end
/-- C(k = v, ..) -/
def tNewK (C : Addr) (n : Nat) (sp : Sp) (gV : List V → List V → List V) (tk : TA) : TE := fun σ H Q => tk σ H fun zs H1 => zs.length = n ∧ ∀ a, H1 a = none → sp (gV [.ref a] zs) (upd H1 a (exo a C none)) (fun v H2 => v = .non ∧ Q (.ref a) H2) E0
section
variable {X : Cx} {kws : List Keyword} {tk : TA} {x : Str} {p pos : Pos} {C fI : Addr} {B nw ii : String} {tl : List Value} {k : Nat} {fd : FuncData} {ps ks : List Str} {sp : Sp} {gA : List Value → List Value → List Value} {gV : List V → List V → List V}
theorem pe_newK (T : Er X.K C B nw ii tl) (iC : PySem.W.findIn X.K (.ref C) "__init__" = some (some (.ref fI))) (isFn : PySem.W.typeIn X.K (.ref fI) = some (.type "function"))
    (F : FnOk X.prog X.w X.K X.mg X.base CX0 k fI fd ps sp) (room : Room (k + 1) X.A) (bind : KBn X.K fd ps 1 ks gA gV) (isG : Gl X x) (there : X.mg x = some (.ref C)) (given : PK X kws tk)
    (named : (backToKw pos (keywordEach kws X.env)).all (·.1.isSome) = true := by rfl) (names : (backToKw pos (keywordEach kws X.env)).filterMap (·.1) = ks := by rfl)
    (noDebug : (x == ("__debug__" : Str)) = false := by decide) (plain : ((backTo pos (starEach [] X.env)).any (·.1) || (backToKw pos (keywordEach kws X.env)).any (·.1.isNone)) = false := by rfl) :
    PE X (.Call (.Name x p) [] kws pos) (tNewK C ks.length sp gV tk) := by
  constructor
  intro pins s σ H Q I want
  refine wpAny_Call_Name_kw (ld_glob I isG there ?_ noDebug)
  refine PySem.W.callWith_KW0 (h₀ := X.base) I.ok.mod.kin T.kp named (thn (given.run pos pins s σ H _ I want) ?_) plain
  rintro ws ⟨hp, g, d, t, os⟩ ⟨zs, H1, J, rel, many, next⟩
  rw [names]
  obtain ⟨fresh, J2⟩ := er_laid (C := C) (us := []) J
  have asked := next _ fresh
  have self : Vals [.ref (hp.objs.size + 1)] [Value.ref (hp.objs.size + 1)] := .cons rfl .nil
  have bound := bind.to _ [.ref (hp.objs.size + 1)] ws J2.kIn rfl (rel.length.symm.trans many)
  have does := F.run _ X.stack _ _ _ _ _ _ _ (room.make C [] (ks.zip ws)) (J2.env0.make C [] (ks.zip ws)) bound (bind.rel self rel) asked
  refine ⟨J.kIn, wpAny_call (er_kw T J.kIn iC isFn (codeAny_mono does ?_))⟩
  rintro (e | fl) s' h
  · exact h.elim
  cases fl with
  | ret u =>
    obtain ⟨v, H3, J3, rv, rfl, q⟩ := J2.after h
    exact ⟨rv, .ref (hp.objs.size + 1), H3, J3, rfl, q⟩
  | next => exact h.elim
  | brk => exact h.elim
  | cont => exact h.elim
end
end KX

namespace KX
open PySem PySem.Spec L2 PyProof.Rows
/-- the fields of an error, given by name, the last one first -/
theorem kb_of {K : PySem.W.Frag} {fd : FuncData} {fs : List Str} (to : ∀ (s : Shared) (us ws : List Value), us.length = 1 → ws.length = fs.reverse.length → BindsTo s fd ⟨us, fs.reverse.zip ws⟩ ((("self" : Str) :: fs).zip (us ++ ws.reverse))) :
    KBn K fd ("self" :: fs) 1 fs.reverse (fun us ws => us ++ ws.reverse) (fun vs zs => vs ++ zs.reverse) :=
  ⟨fun s us ws _ => to s us ws, fun r1 r2 => r1.append r2.reverse⟩
/-! ### xs.count(b), a list of truth values -/
def rCntB (K : PySem.W.Frag) : V → List V → Hp → VK → Prop := fun x xs H Q => ∃ (a : Addr) (bs : List Bool) (b : Bool), x = .ref a ∧ xs = [.bl b] ∧ SqL K H a (bs.map V.bl) ∧ Q (.int ((bs.filter (· == b)).length : Nat)) H
theorem cnt_bls (b : Bool) : ∀ {bs : List Bool} {us : List Value}, Vals (bs.map V.bl) us → us.countP (eqU (.bl b)) = (bs.filter (· == b)).length
  | [], _, .nil => rfl
  | c :: bs, _, .cons r t => by
    cases r
    have ih := cnt_bls b t
    rw [List.countP_cons, ih]
    cases b <;> cases c <;> simp [eqU, eqV]
theorem bls_flat (bs : List Bool) : (bs.map V.bl).all flatV = true := by
  rw [List.all_eq_true]
  intro x hx
  obtain ⟨b, _, rfl⟩ := List.mem_map.mp hx
  rfl
theorem mt_countB {X : Cx} (K : PySem.W.Frag) (same : X.K = K) : MtR X "list.count" (rCntB K) := by
  subst same
  intro pins s σ H x xs v us Q I rx rxs want
  obtain ⟨a, bs, b, rfl, rfl, seq, q⟩ := want
  obtain rfl : v = Value.ref a := rx
  obtain ⟨u, rfl, ru⟩ := vals1 rxs
  obtain rfl : u = Value.bool b := ru
  obtain ⟨its, each, ⟨o, n, there, cls, noDict, data⟩, _⟩ := I.list seq
  obtain ⟨oc, od, da, sl⟩ := o
  obtain rfl : oc = .type "list" := cls
  obtain rfl : da = .seq its.toArray n := data
  have isL : s.TypeIs (.ref a) "list" := ⟨_, there, rfl⟩
  have look := SeqAt.list_countAt a its.toArray n od sl (.bool b) (eqU (.bl b))
  have all := mem_eqAt (A := X.A.in1) (s := s) (x := .bl b) (v := .bool b) rfl rfl each (bls_flat bs)
  have many : its.toArray.toList.countP (eqU (.bl b)) = (bs.filter (· == b)).length := cnt_bls b each
  refine call_meets PySem.F.slot_list_count isL PySem.F.entry_list_count
    (PySem.F.args_list_count_2 _ _) look ⟨there, fun y hy => all y (by simpa using hy), .int ((bs.filter (· == b)).length : Nat), H, I.tok _, ⟨s.toks, ?_⟩, q⟩
  rw [many]
end KX

namespace KX
open PySem PySem.Spec L2 PyProof.Rows
/-- the error classes, in the order of the law's words -/
def errNames : List Str := ("InvalidName" : Str) :: ("InvalidText" : Str) :: ("InvalidValue" : Str) :: ("InvalidTree" : Str) :: ("InvalidContext" : Str) :: ("InvalidPage" : Str) :: ("InvalidBody" : Str) :: ("InvalidTag" : Str) :: ("Misplaced" : Str) :: ("InvalidPlan" : Str) :: ("InvalidPass" : Str) :: ("InvalidPatches" : Str) :: ("InvalidSize" : Str) :: ("InvalidAction" : Str) :: ("InvalidCommand" : Str) :: ("NotALibrary" : Str) :: ("TypeTrouble" : Str) :: ("NameTaken" : Str) :: ("MissingTemplate" : Str) :: ("InUse" : Str) :: ("Ring" : Str) :: ("Unfit" : Str) :: ("NoSuchPath" : Str) :: ("NotLate" : Str) :: ("NotDone" : Str) :: ("Busy" : Str) :: ("NothingToUndo" : Str) :: ("TooManyTemplates" : Str) :: ("TooManyLevels" : Str) :: ("TooManyNodes" : Str) :: ("TooManyElements" : Str) :: ("TooManyEntries" : Str) :: ("TooDeep" : Str) :: []
/-- the fields with which each is made -/
def errFields : List (List Str) := (["called"] : List Str) :: (["written"] : List Str) :: (["value"] : List Str) :: (["value"] : List Str) :: (["context"] : List Str) :: (["position"] : List Str) :: (["position"] : List Str) :: (["position"] : List Str) :: (["position", "reason"] : List Str) :: (["value"] : List Str) :: (["index"] : List Str) :: (["index"] : List Str) :: (["size"] : List Str) :: (["index"] : List Str) :: (["command"] : List Str) :: (["value"] : List Str) :: (["part"] : List Str) :: (["called"] : List Str) :: (["called"] : List Str) :: (["called"] : List Str) :: (["called"] : List Str) :: (["path"] : List Str) :: (["path"] : List Str) :: (["called"] : List Str) :: ([] : List Str) :: ([] : List Str) :: ([] : List Str) :: (["found"] : List Str) :: (["found"] : List Str) :: (["found"] : List Str) :: (["found"] : List Str) :: (["found"] : List Str) :: (["found"] : List Str) :: []
def nameE (i : Nat) : Str := errNames.getD i ""
def fieldsE (i : Nat) : List Str := errFields.getD i []
/-- an error's __init__: it keeps its fields -/
def spErr (C : Addr) (fs : List Str) : Sp := fun vs H Q _ => ∃ (a : Addr) (ys : List V), vs = .ref a :: ys ∧ ys.length = fs.length ∧ H a = some (exo a C none) ∧
  ∀ H' : Hp, ErrAt H' a C (fs.zip ys).reverse → (∀ b o, b ≠ a → H b = some o → H' b = some o) → Q .non H'
section
variable {base : Heap} {P : Program} {w : World} {K : PySem.W.Frag} {mg : Str → Option Value} {C f : Addr} {fd : FuncData} {B nw ii : String} {tl : List Value}
theorem spErr_len {fs : List Str} : ∀ vs H Q E, spErr C fs vs H Q E → vs.length = fs.length + 1 := fun vs H Q E h => by
  obtain ⟨a, ys, rfl, hl, _⟩ := h
  rw [List.length_cons, hl]
abbrev s_i0 : Stmt := inClass (top 2) 0
abbrev N_i0 : List Str := ["self", "called"]
abbrev P_i0 : List Str := ["self", "called"]
theorem sc_i0 : FnScope N_i0 P_i0 (defScope s_i0) := ⟨rfl, rfl, rfl, by decide +kernel, rfl, by decide +kernel, by decide +kernel⟩
theorem ok_i0 (F : Fun K "__init__" "InvalidName.__init__" s_i0 f fd) (T : Er K C B nw ii tl) (n0 : PySem.W.findIn K (.ref C) "called" = some none) : FnOk P w K mg base CX0 1 f fd P_i0 (spErr C ["called"]) := by
  refine F.ok sc_i0 (fun vs H Q E h => spErr_len vs H Q E h) (fun cdv A outer s H vs Q E hr h => ?_)
  obtain ⟨a, ys, rfl, hl, ha, q⟩ := h
  match ys, hl, q with
  | [y], _, q =>
    refine ⟨_, (pss_one (ps_er K rfl (pv 0) (pv 1))), ?_⟩
    refine ⟨_, rfl, _, rfl, a, C, B, nw, ii, tl, rfl, T, n0, .inl ⟨ha, fun dx hd hn => ?_⟩⟩
    exact q _ (.inr ⟨dx, by rw [upd_ne (Ne.symm hn)]; exact upd_same, upd_same⟩) fun b o hb e => by rw [upd_ne (ne_of_none e hd), upd_ne hb]; exact e
abbrev s_i1 : Stmt := inClass (top 3) 0
abbrev N_i1 : List Str := ["self", "written"]
abbrev P_i1 : List Str := ["self", "written"]
theorem sc_i1 : FnScope N_i1 P_i1 (defScope s_i1) := ⟨rfl, rfl, rfl, by decide +kernel, rfl, by decide +kernel, by decide +kernel⟩
theorem ok_i1 (F : Fun K "__init__" "InvalidText.__init__" s_i1 f fd) (T : Er K C B nw ii tl) (n0 : PySem.W.findIn K (.ref C) "written" = some none) : FnOk P w K mg base CX0 1 f fd P_i1 (spErr C ["written"]) := by
  refine F.ok sc_i1 (fun vs H Q E h => spErr_len vs H Q E h) (fun cdv A outer s H vs Q E hr h => ?_)
  obtain ⟨a, ys, rfl, hl, ha, q⟩ := h
  match ys, hl, q with
  | [y], _, q =>
    refine ⟨_, (pss_one (ps_er K rfl (pv 0) (pv 1))), ?_⟩
    refine ⟨_, rfl, _, rfl, a, C, B, nw, ii, tl, rfl, T, n0, .inl ⟨ha, fun dx hd hn => ?_⟩⟩
    exact q _ (.inr ⟨dx, by rw [upd_ne (Ne.symm hn)]; exact upd_same, upd_same⟩) fun b o hb e => by rw [upd_ne (ne_of_none e hd), upd_ne hb]; exact e
abbrev s_i2 : Stmt := inClass (top 4) 0
abbrev N_i2 : List Str := ["self", "value"]
abbrev P_i2 : List Str := ["self", "value"]
theorem sc_i2 : FnScope N_i2 P_i2 (defScope s_i2) := ⟨rfl, rfl, rfl, by decide +kernel, rfl, by decide +kernel, by decide +kernel⟩
theorem ok_i2 (F : Fun K "__init__" "InvalidValue.__init__" s_i2 f fd) (T : Er K C B nw ii tl) (n0 : PySem.W.findIn K (.ref C) "value" = some none) : FnOk P w K mg base CX0 1 f fd P_i2 (spErr C ["value"]) := by
  refine F.ok sc_i2 (fun vs H Q E h => spErr_len vs H Q E h) (fun cdv A outer s H vs Q E hr h => ?_)
  obtain ⟨a, ys, rfl, hl, ha, q⟩ := h
  match ys, hl, q with
  | [y], _, q =>
    refine ⟨_, (pss_one (ps_er K rfl (pv 0) (pv 1))), ?_⟩
    refine ⟨_, rfl, _, rfl, a, C, B, nw, ii, tl, rfl, T, n0, .inl ⟨ha, fun dx hd hn => ?_⟩⟩
    exact q _ (.inr ⟨dx, by rw [upd_ne (Ne.symm hn)]; exact upd_same, upd_same⟩) fun b o hb e => by rw [upd_ne (ne_of_none e hd), upd_ne hb]; exact e
abbrev s_i3 : Stmt := inClass (top 5) 0
abbrev N_i3 : List Str := ["self", "value"]
abbrev P_i3 : List Str := ["self", "value"]
theorem sc_i3 : FnScope N_i3 P_i3 (defScope s_i3) := ⟨rfl, rfl, rfl, by decide +kernel, rfl, by decide +kernel, by decide +kernel⟩
theorem ok_i3 (F : Fun K "__init__" "InvalidTree.__init__" s_i3 f fd) (T : Er K C B nw ii tl) (n0 : PySem.W.findIn K (.ref C) "value" = some none) : FnOk P w K mg base CX0 1 f fd P_i3 (spErr C ["value"]) := by
  refine F.ok sc_i3 (fun vs H Q E h => spErr_len vs H Q E h) (fun cdv A outer s H vs Q E hr h => ?_)
  obtain ⟨a, ys, rfl, hl, ha, q⟩ := h
  match ys, hl, q with
  | [y], _, q =>
    refine ⟨_, (pss_one (ps_er K rfl (pv 0) (pv 1))), ?_⟩
    refine ⟨_, rfl, _, rfl, a, C, B, nw, ii, tl, rfl, T, n0, .inl ⟨ha, fun dx hd hn => ?_⟩⟩
    exact q _ (.inr ⟨dx, by rw [upd_ne (Ne.symm hn)]; exact upd_same, upd_same⟩) fun b o hb e => by rw [upd_ne (ne_of_none e hd), upd_ne hb]; exact e
abbrev s_i4 : Stmt := inClass (top 6) 0
abbrev N_i4 : List Str := ["self", "context"]
abbrev P_i4 : List Str := ["self", "context"]
theorem sc_i4 : FnScope N_i4 P_i4 (defScope s_i4) := ⟨rfl, rfl, rfl, by decide +kernel, rfl, by decide +kernel, by decide +kernel⟩
theorem ok_i4 (F : Fun K "__init__" "InvalidContext.__init__" s_i4 f fd) (T : Er K C B nw ii tl) (n0 : PySem.W.findIn K (.ref C) "context" = some none) : FnOk P w K mg base CX0 1 f fd P_i4 (spErr C ["context"]) := by
  refine F.ok sc_i4 (fun vs H Q E h => spErr_len vs H Q E h) (fun cdv A outer s H vs Q E hr h => ?_)
  obtain ⟨a, ys, rfl, hl, ha, q⟩ := h
  match ys, hl, q with
  | [y], _, q =>
    refine ⟨_, (pss_one (ps_er K rfl (pv 0) (pv 1))), ?_⟩
    refine ⟨_, rfl, _, rfl, a, C, B, nw, ii, tl, rfl, T, n0, .inl ⟨ha, fun dx hd hn => ?_⟩⟩
    exact q _ (.inr ⟨dx, by rw [upd_ne (Ne.symm hn)]; exact upd_same, upd_same⟩) fun b o hb e => by rw [upd_ne (ne_of_none e hd), upd_ne hb]; exact e
abbrev s_i5 : Stmt := inClass (top 7) 0
abbrev N_i5 : List Str := ["self", "position"]
abbrev P_i5 : List Str := ["self", "position"]
theorem sc_i5 : FnScope N_i5 P_i5 (defScope s_i5) := ⟨rfl, rfl, rfl, by decide +kernel, rfl, by decide +kernel, by decide +kernel⟩
theorem ok_i5 (F : Fun K "__init__" "InvalidPage.__init__" s_i5 f fd) (T : Er K C B nw ii tl) (n0 : PySem.W.findIn K (.ref C) "position" = some none) : FnOk P w K mg base CX0 1 f fd P_i5 (spErr C ["position"]) := by
  refine F.ok sc_i5 (fun vs H Q E h => spErr_len vs H Q E h) (fun cdv A outer s H vs Q E hr h => ?_)
  obtain ⟨a, ys, rfl, hl, ha, q⟩ := h
  match ys, hl, q with
  | [y], _, q =>
    refine ⟨_, (pss_one (ps_er K rfl (pv 0) (pv 1))), ?_⟩
    refine ⟨_, rfl, _, rfl, a, C, B, nw, ii, tl, rfl, T, n0, .inl ⟨ha, fun dx hd hn => ?_⟩⟩
    exact q _ (.inr ⟨dx, by rw [upd_ne (Ne.symm hn)]; exact upd_same, upd_same⟩) fun b o hb e => by rw [upd_ne (ne_of_none e hd), upd_ne hb]; exact e
abbrev s_i6 : Stmt := inClass (top 8) 0
abbrev N_i6 : List Str := ["self", "position"]
abbrev P_i6 : List Str := ["self", "position"]
theorem sc_i6 : FnScope N_i6 P_i6 (defScope s_i6) := ⟨rfl, rfl, rfl, by decide +kernel, rfl, by decide +kernel, by decide +kernel⟩
theorem ok_i6 (F : Fun K "__init__" "InvalidBody.__init__" s_i6 f fd) (T : Er K C B nw ii tl) (n0 : PySem.W.findIn K (.ref C) "position" = some none) : FnOk P w K mg base CX0 1 f fd P_i6 (spErr C ["position"]) := by
  refine F.ok sc_i6 (fun vs H Q E h => spErr_len vs H Q E h) (fun cdv A outer s H vs Q E hr h => ?_)
  obtain ⟨a, ys, rfl, hl, ha, q⟩ := h
  match ys, hl, q with
  | [y], _, q =>
    refine ⟨_, (pss_one (ps_er K rfl (pv 0) (pv 1))), ?_⟩
    refine ⟨_, rfl, _, rfl, a, C, B, nw, ii, tl, rfl, T, n0, .inl ⟨ha, fun dx hd hn => ?_⟩⟩
    exact q _ (.inr ⟨dx, by rw [upd_ne (Ne.symm hn)]; exact upd_same, upd_same⟩) fun b o hb e => by rw [upd_ne (ne_of_none e hd), upd_ne hb]; exact e
abbrev s_i7 : Stmt := inClass (top 9) 0
abbrev N_i7 : List Str := ["self", "position"]
abbrev P_i7 : List Str := ["self", "position"]
theorem sc_i7 : FnScope N_i7 P_i7 (defScope s_i7) := ⟨rfl, rfl, rfl, by decide +kernel, rfl, by decide +kernel, by decide +kernel⟩
theorem ok_i7 (F : Fun K "__init__" "InvalidTag.__init__" s_i7 f fd) (T : Er K C B nw ii tl) (n0 : PySem.W.findIn K (.ref C) "position" = some none) : FnOk P w K mg base CX0 1 f fd P_i7 (spErr C ["position"]) := by
  refine F.ok sc_i7 (fun vs H Q E h => spErr_len vs H Q E h) (fun cdv A outer s H vs Q E hr h => ?_)
  obtain ⟨a, ys, rfl, hl, ha, q⟩ := h
  match ys, hl, q with
  | [y], _, q =>
    refine ⟨_, (pss_one (ps_er K rfl (pv 0) (pv 1))), ?_⟩
    refine ⟨_, rfl, _, rfl, a, C, B, nw, ii, tl, rfl, T, n0, .inl ⟨ha, fun dx hd hn => ?_⟩⟩
    exact q _ (.inr ⟨dx, by rw [upd_ne (Ne.symm hn)]; exact upd_same, upd_same⟩) fun b o hb e => by rw [upd_ne (ne_of_none e hd), upd_ne hb]; exact e
abbrev s_i8 : Stmt := inClass (top 10) 0
abbrev N_i8 : List Str := ["self", "position", "reason"]
abbrev P_i8 : List Str := ["self", "position", "reason"]
theorem sc_i8 : FnScope N_i8 P_i8 (defScope s_i8) := ⟨rfl, rfl, rfl, by decide +kernel, rfl, by decide +kernel, by decide +kernel⟩
theorem ok_i8 (F : Fun K "__init__" "Misplaced.__init__" s_i8 f fd) (T : Er K C B nw ii tl) (n0 : PySem.W.findIn K (.ref C) "position" = some none) (n1 : PySem.W.findIn K (.ref C) "reason" = some none) : FnOk P w K mg base CX0 1 f fd P_i8 (spErr C ["position", "reason"]) := by
  refine F.ok sc_i8 (fun vs H Q E h => spErr_len vs H Q E h) (fun cdv A outer s H vs Q E hr h => ?_)
  obtain ⟨a, ys, rfl, hl, ha, q⟩ := h
  match ys, hl, q with
  | [y, z], _, q =>
    refine ⟨_, (pss_cons (ps_er K rfl (pv 0) (pv 1))
    (pss_one (ps_er K rfl (pv 0) (pv 2)))), ?_⟩
    refine ⟨_, rfl, _, rfl, a, C, B, nw, ii, tl, rfl, T, n0, .inl ⟨ha, fun dx hd hn => ?_⟩⟩
    refine ⟨_, rfl, _, rfl, a, C, B, nw, ii, tl, rfl, T, n1, .inr ⟨_, dx, (by show 1 ≤ 900; decide), (by rw [upd_ne (Ne.symm hn)]; exact upd_same), upd_same, ?_⟩⟩
    exact q _ (.inr ⟨dx, by rw [upd_ne (Ne.symm hn), upd_ne (Ne.symm hn)]; exact upd_same, upd_same⟩) fun b o hb e => by rw [upd_ne (ne_of_none e hd), upd_ne (ne_of_none e hd), upd_ne hb]; exact e
abbrev s_i9 : Stmt := inClass (top 11) 0
abbrev N_i9 : List Str := ["self", "value"]
abbrev P_i9 : List Str := ["self", "value"]
theorem sc_i9 : FnScope N_i9 P_i9 (defScope s_i9) := ⟨rfl, rfl, rfl, by decide +kernel, rfl, by decide +kernel, by decide +kernel⟩
theorem ok_i9 (F : Fun K "__init__" "InvalidPlan.__init__" s_i9 f fd) (T : Er K C B nw ii tl) (n0 : PySem.W.findIn K (.ref C) "value" = some none) : FnOk P w K mg base CX0 1 f fd P_i9 (spErr C ["value"]) := by
  refine F.ok sc_i9 (fun vs H Q E h => spErr_len vs H Q E h) (fun cdv A outer s H vs Q E hr h => ?_)
  obtain ⟨a, ys, rfl, hl, ha, q⟩ := h
  match ys, hl, q with
  | [y], _, q =>
    refine ⟨_, (pss_one (ps_er K rfl (pv 0) (pv 1))), ?_⟩
    refine ⟨_, rfl, _, rfl, a, C, B, nw, ii, tl, rfl, T, n0, .inl ⟨ha, fun dx hd hn => ?_⟩⟩
    exact q _ (.inr ⟨dx, by rw [upd_ne (Ne.symm hn)]; exact upd_same, upd_same⟩) fun b o hb e => by rw [upd_ne (ne_of_none e hd), upd_ne hb]; exact e
abbrev s_i10 : Stmt := inClass (top 12) 0
abbrev N_i10 : List Str := ["self", "index"]
abbrev P_i10 : List Str := ["self", "index"]
theorem sc_i10 : FnScope N_i10 P_i10 (defScope s_i10) := ⟨rfl, rfl, rfl, by decide +kernel, rfl, by decide +kernel, by decide +kernel⟩
theorem ok_i10 (F : Fun K "__init__" "InvalidPass.__init__" s_i10 f fd) (T : Er K C B nw ii tl) (n0 : PySem.W.findIn K (.ref C) "index" = some none) : FnOk P w K mg base CX0 1 f fd P_i10 (spErr C ["index"]) := by
  refine F.ok sc_i10 (fun vs H Q E h => spErr_len vs H Q E h) (fun cdv A outer s H vs Q E hr h => ?_)
  obtain ⟨a, ys, rfl, hl, ha, q⟩ := h
  match ys, hl, q with
  | [y], _, q =>
    refine ⟨_, (pss_one (ps_er K rfl (pv 0) (pv 1))), ?_⟩
    refine ⟨_, rfl, _, rfl, a, C, B, nw, ii, tl, rfl, T, n0, .inl ⟨ha, fun dx hd hn => ?_⟩⟩
    exact q _ (.inr ⟨dx, by rw [upd_ne (Ne.symm hn)]; exact upd_same, upd_same⟩) fun b o hb e => by rw [upd_ne (ne_of_none e hd), upd_ne hb]; exact e
abbrev s_i11 : Stmt := inClass (top 13) 0
abbrev N_i11 : List Str := ["self", "index"]
abbrev P_i11 : List Str := ["self", "index"]
theorem sc_i11 : FnScope N_i11 P_i11 (defScope s_i11) := ⟨rfl, rfl, rfl, by decide +kernel, rfl, by decide +kernel, by decide +kernel⟩
theorem ok_i11 (F : Fun K "__init__" "InvalidPatches.__init__" s_i11 f fd) (T : Er K C B nw ii tl) (n0 : PySem.W.findIn K (.ref C) "index" = some none) : FnOk P w K mg base CX0 1 f fd P_i11 (spErr C ["index"]) := by
  refine F.ok sc_i11 (fun vs H Q E h => spErr_len vs H Q E h) (fun cdv A outer s H vs Q E hr h => ?_)
  obtain ⟨a, ys, rfl, hl, ha, q⟩ := h
  match ys, hl, q with
  | [y], _, q =>
    refine ⟨_, (pss_one (ps_er K rfl (pv 0) (pv 1))), ?_⟩
    refine ⟨_, rfl, _, rfl, a, C, B, nw, ii, tl, rfl, T, n0, .inl ⟨ha, fun dx hd hn => ?_⟩⟩
    exact q _ (.inr ⟨dx, by rw [upd_ne (Ne.symm hn)]; exact upd_same, upd_same⟩) fun b o hb e => by rw [upd_ne (ne_of_none e hd), upd_ne hb]; exact e
abbrev s_i12 : Stmt := inClass (top 14) 0
abbrev N_i12 : List Str := ["self", "size"]
abbrev P_i12 : List Str := ["self", "size"]
theorem sc_i12 : FnScope N_i12 P_i12 (defScope s_i12) := ⟨rfl, rfl, rfl, by decide +kernel, rfl, by decide +kernel, by decide +kernel⟩
theorem ok_i12 (F : Fun K "__init__" "InvalidSize.__init__" s_i12 f fd) (T : Er K C B nw ii tl) (n0 : PySem.W.findIn K (.ref C) "size" = some none) : FnOk P w K mg base CX0 1 f fd P_i12 (spErr C ["size"]) := by
  refine F.ok sc_i12 (fun vs H Q E h => spErr_len vs H Q E h) (fun cdv A outer s H vs Q E hr h => ?_)
  obtain ⟨a, ys, rfl, hl, ha, q⟩ := h
  match ys, hl, q with
  | [y], _, q =>
    refine ⟨_, (pss_one (ps_er K rfl (pv 0) (pv 1))), ?_⟩
    refine ⟨_, rfl, _, rfl, a, C, B, nw, ii, tl, rfl, T, n0, .inl ⟨ha, fun dx hd hn => ?_⟩⟩
    exact q _ (.inr ⟨dx, by rw [upd_ne (Ne.symm hn)]; exact upd_same, upd_same⟩) fun b o hb e => by rw [upd_ne (ne_of_none e hd), upd_ne hb]; exact e
abbrev s_i13 : Stmt := inClass (top 15) 0
abbrev N_i13 : List Str := ["self", "index"]
abbrev P_i13 : List Str := ["self", "index"]
theorem sc_i13 : FnScope N_i13 P_i13 (defScope s_i13) := ⟨rfl, rfl, rfl, by decide +kernel, rfl, by decide +kernel, by decide +kernel⟩
theorem ok_i13 (F : Fun K "__init__" "InvalidAction.__init__" s_i13 f fd) (T : Er K C B nw ii tl) (n0 : PySem.W.findIn K (.ref C) "index" = some none) : FnOk P w K mg base CX0 1 f fd P_i13 (spErr C ["index"]) := by
  refine F.ok sc_i13 (fun vs H Q E h => spErr_len vs H Q E h) (fun cdv A outer s H vs Q E hr h => ?_)
  obtain ⟨a, ys, rfl, hl, ha, q⟩ := h
  match ys, hl, q with
  | [y], _, q =>
    refine ⟨_, (pss_one (ps_er K rfl (pv 0) (pv 1))), ?_⟩
    refine ⟨_, rfl, _, rfl, a, C, B, nw, ii, tl, rfl, T, n0, .inl ⟨ha, fun dx hd hn => ?_⟩⟩
    exact q _ (.inr ⟨dx, by rw [upd_ne (Ne.symm hn)]; exact upd_same, upd_same⟩) fun b o hb e => by rw [upd_ne (ne_of_none e hd), upd_ne hb]; exact e
abbrev s_i14 : Stmt := inClass (top 16) 0
abbrev N_i14 : List Str := ["self", "command"]
abbrev P_i14 : List Str := ["self", "command"]
theorem sc_i14 : FnScope N_i14 P_i14 (defScope s_i14) := ⟨rfl, rfl, rfl, by decide +kernel, rfl, by decide +kernel, by decide +kernel⟩
theorem ok_i14 (F : Fun K "__init__" "InvalidCommand.__init__" s_i14 f fd) (T : Er K C B nw ii tl) (n0 : PySem.W.findIn K (.ref C) "command" = some none) : FnOk P w K mg base CX0 1 f fd P_i14 (spErr C ["command"]) := by
  refine F.ok sc_i14 (fun vs H Q E h => spErr_len vs H Q E h) (fun cdv A outer s H vs Q E hr h => ?_)
  obtain ⟨a, ys, rfl, hl, ha, q⟩ := h
  match ys, hl, q with
  | [y], _, q =>
    refine ⟨_, (pss_one (ps_er K rfl (pv 0) (pv 1))), ?_⟩
    refine ⟨_, rfl, _, rfl, a, C, B, nw, ii, tl, rfl, T, n0, .inl ⟨ha, fun dx hd hn => ?_⟩⟩
    exact q _ (.inr ⟨dx, by rw [upd_ne (Ne.symm hn)]; exact upd_same, upd_same⟩) fun b o hb e => by rw [upd_ne (ne_of_none e hd), upd_ne hb]; exact e
abbrev s_i15 : Stmt := inClass (top 17) 0
abbrev N_i15 : List Str := ["self", "value"]
abbrev P_i15 : List Str := ["self", "value"]
theorem sc_i15 : FnScope N_i15 P_i15 (defScope s_i15) := ⟨rfl, rfl, rfl, by decide +kernel, rfl, by decide +kernel, by decide +kernel⟩
theorem ok_i15 (F : Fun K "__init__" "NotALibrary.__init__" s_i15 f fd) (T : Er K C B nw ii tl) (n0 : PySem.W.findIn K (.ref C) "value" = some none) : FnOk P w K mg base CX0 1 f fd P_i15 (spErr C ["value"]) := by
  refine F.ok sc_i15 (fun vs H Q E h => spErr_len vs H Q E h) (fun cdv A outer s H vs Q E hr h => ?_)
  obtain ⟨a, ys, rfl, hl, ha, q⟩ := h
  match ys, hl, q with
  | [y], _, q =>
    refine ⟨_, (pss_one (ps_er K rfl (pv 0) (pv 1))), ?_⟩
    refine ⟨_, rfl, _, rfl, a, C, B, nw, ii, tl, rfl, T, n0, .inl ⟨ha, fun dx hd hn => ?_⟩⟩
    exact q _ (.inr ⟨dx, by rw [upd_ne (Ne.symm hn)]; exact upd_same, upd_same⟩) fun b o hb e => by rw [upd_ne (ne_of_none e hd), upd_ne hb]; exact e
abbrev s_i16 : Stmt := inClass (top 18) 0
abbrev N_i16 : List Str := ["self", "part"]
abbrev P_i16 : List Str := ["self", "part"]
theorem sc_i16 : FnScope N_i16 P_i16 (defScope s_i16) := ⟨rfl, rfl, rfl, by decide +kernel, rfl, by decide +kernel, by decide +kernel⟩
theorem ok_i16 (F : Fun K "__init__" "TypeTrouble.__init__" s_i16 f fd) (T : Er K C B nw ii tl) (n0 : PySem.W.findIn K (.ref C) "part" = some none) : FnOk P w K mg base CX0 1 f fd P_i16 (spErr C ["part"]) := by
  refine F.ok sc_i16 (fun vs H Q E h => spErr_len vs H Q E h) (fun cdv A outer s H vs Q E hr h => ?_)
  obtain ⟨a, ys, rfl, hl, ha, q⟩ := h
  match ys, hl, q with
  | [y], _, q =>
    refine ⟨_, (pss_one (ps_er K rfl (pv 0) (pv 1))), ?_⟩
    refine ⟨_, rfl, _, rfl, a, C, B, nw, ii, tl, rfl, T, n0, .inl ⟨ha, fun dx hd hn => ?_⟩⟩
    exact q _ (.inr ⟨dx, by rw [upd_ne (Ne.symm hn)]; exact upd_same, upd_same⟩) fun b o hb e => by rw [upd_ne (ne_of_none e hd), upd_ne hb]; exact e
abbrev s_i17 : Stmt := inClass (top 20) 0
abbrev N_i17 : List Str := ["self", "called"]
abbrev P_i17 : List Str := ["self", "called"]
theorem sc_i17 : FnScope N_i17 P_i17 (defScope s_i17) := ⟨rfl, rfl, rfl, by decide +kernel, rfl, by decide +kernel, by decide +kernel⟩
theorem ok_i17 (F : Fun K "__init__" "NameTaken.__init__" s_i17 f fd) (T : Er K C B nw ii tl) (n0 : PySem.W.findIn K (.ref C) "called" = some none) : FnOk P w K mg base CX0 1 f fd P_i17 (spErr C ["called"]) := by
  refine F.ok sc_i17 (fun vs H Q E h => spErr_len vs H Q E h) (fun cdv A outer s H vs Q E hr h => ?_)
  obtain ⟨a, ys, rfl, hl, ha, q⟩ := h
  match ys, hl, q with
  | [y], _, q =>
    refine ⟨_, (pss_one (ps_er K rfl (pv 0) (pv 1))), ?_⟩
    refine ⟨_, rfl, _, rfl, a, C, B, nw, ii, tl, rfl, T, n0, .inl ⟨ha, fun dx hd hn => ?_⟩⟩
    exact q _ (.inr ⟨dx, by rw [upd_ne (Ne.symm hn)]; exact upd_same, upd_same⟩) fun b o hb e => by rw [upd_ne (ne_of_none e hd), upd_ne hb]; exact e
abbrev s_i18 : Stmt := inClass (top 21) 0
abbrev N_i18 : List Str := ["self", "called"]
abbrev P_i18 : List Str := ["self", "called"]
theorem sc_i18 : FnScope N_i18 P_i18 (defScope s_i18) := ⟨rfl, rfl, rfl, by decide +kernel, rfl, by decide +kernel, by decide +kernel⟩
theorem ok_i18 (F : Fun K "__init__" "MissingTemplate.__init__" s_i18 f fd) (T : Er K C B nw ii tl) (n0 : PySem.W.findIn K (.ref C) "called" = some none) : FnOk P w K mg base CX0 1 f fd P_i18 (spErr C ["called"]) := by
  refine F.ok sc_i18 (fun vs H Q E h => spErr_len vs H Q E h) (fun cdv A outer s H vs Q E hr h => ?_)
  obtain ⟨a, ys, rfl, hl, ha, q⟩ := h
  match ys, hl, q with
  | [y], _, q =>
    refine ⟨_, (pss_one (ps_er K rfl (pv 0) (pv 1))), ?_⟩
    refine ⟨_, rfl, _, rfl, a, C, B, nw, ii, tl, rfl, T, n0, .inl ⟨ha, fun dx hd hn => ?_⟩⟩
    exact q _ (.inr ⟨dx, by rw [upd_ne (Ne.symm hn)]; exact upd_same, upd_same⟩) fun b o hb e => by rw [upd_ne (ne_of_none e hd), upd_ne hb]; exact e
abbrev s_i19 : Stmt := inClass (top 22) 0
abbrev N_i19 : List Str := ["self", "called"]
abbrev P_i19 : List Str := ["self", "called"]
theorem sc_i19 : FnScope N_i19 P_i19 (defScope s_i19) := ⟨rfl, rfl, rfl, by decide +kernel, rfl, by decide +kernel, by decide +kernel⟩
theorem ok_i19 (F : Fun K "__init__" "InUse.__init__" s_i19 f fd) (T : Er K C B nw ii tl) (n0 : PySem.W.findIn K (.ref C) "called" = some none) : FnOk P w K mg base CX0 1 f fd P_i19 (spErr C ["called"]) := by
  refine F.ok sc_i19 (fun vs H Q E h => spErr_len vs H Q E h) (fun cdv A outer s H vs Q E hr h => ?_)
  obtain ⟨a, ys, rfl, hl, ha, q⟩ := h
  match ys, hl, q with
  | [y], _, q =>
    refine ⟨_, (pss_one (ps_er K rfl (pv 0) (pv 1))), ?_⟩
    refine ⟨_, rfl, _, rfl, a, C, B, nw, ii, tl, rfl, T, n0, .inl ⟨ha, fun dx hd hn => ?_⟩⟩
    exact q _ (.inr ⟨dx, by rw [upd_ne (Ne.symm hn)]; exact upd_same, upd_same⟩) fun b o hb e => by rw [upd_ne (ne_of_none e hd), upd_ne hb]; exact e
abbrev s_i20 : Stmt := inClass (top 23) 0
abbrev N_i20 : List Str := ["self", "called"]
abbrev P_i20 : List Str := ["self", "called"]
theorem sc_i20 : FnScope N_i20 P_i20 (defScope s_i20) := ⟨rfl, rfl, rfl, by decide +kernel, rfl, by decide +kernel, by decide +kernel⟩
theorem ok_i20 (F : Fun K "__init__" "Ring.__init__" s_i20 f fd) (T : Er K C B nw ii tl) (n0 : PySem.W.findIn K (.ref C) "called" = some none) : FnOk P w K mg base CX0 1 f fd P_i20 (spErr C ["called"]) := by
  refine F.ok sc_i20 (fun vs H Q E h => spErr_len vs H Q E h) (fun cdv A outer s H vs Q E hr h => ?_)
  obtain ⟨a, ys, rfl, hl, ha, q⟩ := h
  match ys, hl, q with
  | [y], _, q =>
    refine ⟨_, (pss_one (ps_er K rfl (pv 0) (pv 1))), ?_⟩
    refine ⟨_, rfl, _, rfl, a, C, B, nw, ii, tl, rfl, T, n0, .inl ⟨ha, fun dx hd hn => ?_⟩⟩
    exact q _ (.inr ⟨dx, by rw [upd_ne (Ne.symm hn)]; exact upd_same, upd_same⟩) fun b o hb e => by rw [upd_ne (ne_of_none e hd), upd_ne hb]; exact e
abbrev s_i21 : Stmt := inClass (top 24) 0
abbrev N_i21 : List Str := ["self", "path"]
abbrev P_i21 : List Str := ["self", "path"]
theorem sc_i21 : FnScope N_i21 P_i21 (defScope s_i21) := ⟨rfl, rfl, rfl, by decide +kernel, rfl, by decide +kernel, by decide +kernel⟩
theorem ok_i21 (F : Fun K "__init__" "Unfit.__init__" s_i21 f fd) (T : Er K C B nw ii tl) (n0 : PySem.W.findIn K (.ref C) "path" = some none) : FnOk P w K mg base CX0 1 f fd P_i21 (spErr C ["path"]) := by
  refine F.ok sc_i21 (fun vs H Q E h => spErr_len vs H Q E h) (fun cdv A outer s H vs Q E hr h => ?_)
  obtain ⟨a, ys, rfl, hl, ha, q⟩ := h
  match ys, hl, q with
  | [y], _, q =>
    refine ⟨_, (pss_one (ps_er K rfl (pv 0) (pv 1))), ?_⟩
    refine ⟨_, rfl, _, rfl, a, C, B, nw, ii, tl, rfl, T, n0, .inl ⟨ha, fun dx hd hn => ?_⟩⟩
    exact q _ (.inr ⟨dx, by rw [upd_ne (Ne.symm hn)]; exact upd_same, upd_same⟩) fun b o hb e => by rw [upd_ne (ne_of_none e hd), upd_ne hb]; exact e
abbrev s_i22 : Stmt := inClass (top 25) 0
abbrev N_i22 : List Str := ["self", "path"]
abbrev P_i22 : List Str := ["self", "path"]
theorem sc_i22 : FnScope N_i22 P_i22 (defScope s_i22) := ⟨rfl, rfl, rfl, by decide +kernel, rfl, by decide +kernel, by decide +kernel⟩
theorem ok_i22 (F : Fun K "__init__" "NoSuchPath.__init__" s_i22 f fd) (T : Er K C B nw ii tl) (n0 : PySem.W.findIn K (.ref C) "path" = some none) : FnOk P w K mg base CX0 1 f fd P_i22 (spErr C ["path"]) := by
  refine F.ok sc_i22 (fun vs H Q E h => spErr_len vs H Q E h) (fun cdv A outer s H vs Q E hr h => ?_)
  obtain ⟨a, ys, rfl, hl, ha, q⟩ := h
  match ys, hl, q with
  | [y], _, q =>
    refine ⟨_, (pss_one (ps_er K rfl (pv 0) (pv 1))), ?_⟩
    refine ⟨_, rfl, _, rfl, a, C, B, nw, ii, tl, rfl, T, n0, .inl ⟨ha, fun dx hd hn => ?_⟩⟩
    exact q _ (.inr ⟨dx, by rw [upd_ne (Ne.symm hn)]; exact upd_same, upd_same⟩) fun b o hb e => by rw [upd_ne (ne_of_none e hd), upd_ne hb]; exact e
abbrev s_i23 : Stmt := inClass (top 26) 0
abbrev N_i23 : List Str := ["self", "called"]
abbrev P_i23 : List Str := ["self", "called"]
theorem sc_i23 : FnScope N_i23 P_i23 (defScope s_i23) := ⟨rfl, rfl, rfl, by decide +kernel, rfl, by decide +kernel, by decide +kernel⟩
theorem ok_i23 (F : Fun K "__init__" "NotLate.__init__" s_i23 f fd) (T : Er K C B nw ii tl) (n0 : PySem.W.findIn K (.ref C) "called" = some none) : FnOk P w K mg base CX0 1 f fd P_i23 (spErr C ["called"]) := by
  refine F.ok sc_i23 (fun vs H Q E h => spErr_len vs H Q E h) (fun cdv A outer s H vs Q E hr h => ?_)
  obtain ⟨a, ys, rfl, hl, ha, q⟩ := h
  match ys, hl, q with
  | [y], _, q =>
    refine ⟨_, (pss_one (ps_er K rfl (pv 0) (pv 1))), ?_⟩
    refine ⟨_, rfl, _, rfl, a, C, B, nw, ii, tl, rfl, T, n0, .inl ⟨ha, fun dx hd hn => ?_⟩⟩
    exact q _ (.inr ⟨dx, by rw [upd_ne (Ne.symm hn)]; exact upd_same, upd_same⟩) fun b o hb e => by rw [upd_ne (ne_of_none e hd), upd_ne hb]; exact e
abbrev s_i24 : Stmt := inClass (top 27) 0
abbrev N_i24 : List Str := ["self"]
abbrev P_i24 : List Str := ["self"]
theorem sc_i24 : FnScope N_i24 P_i24 (defScope s_i24) := ⟨rfl, rfl, rfl, by decide +kernel, rfl, by decide +kernel, by decide +kernel⟩
theorem ok_i24 (F : Fun K "__init__" "NotDone.__init__" s_i24 f fd) : FnOk P w K mg base CX0 1 f fd P_i24 (spErr C []) := by
  refine F.ok sc_i24 (fun vs H Q E h => spErr_len vs H Q E h) (fun cdv A outer s H vs Q E hr h => ?_)
  obtain ⟨a, ys, rfl, hl, ha, q⟩ := h
  obtain rfl := List.eq_nil_of_length_eq_zero hl
  refine ⟨_, (pss_one ps_pass), ?_⟩
  exact q H (.inl ⟨rfl, ha⟩) fun b o _ e => e
abbrev s_i25 : Stmt := inClass (top 28) 0
abbrev N_i25 : List Str := ["self"]
abbrev P_i25 : List Str := ["self"]
theorem sc_i25 : FnScope N_i25 P_i25 (defScope s_i25) := ⟨rfl, rfl, rfl, by decide +kernel, rfl, by decide +kernel, by decide +kernel⟩
theorem ok_i25 (F : Fun K "__init__" "Busy.__init__" s_i25 f fd) : FnOk P w K mg base CX0 1 f fd P_i25 (spErr C []) := by
  refine F.ok sc_i25 (fun vs H Q E h => spErr_len vs H Q E h) (fun cdv A outer s H vs Q E hr h => ?_)
  obtain ⟨a, ys, rfl, hl, ha, q⟩ := h
  obtain rfl := List.eq_nil_of_length_eq_zero hl
  refine ⟨_, (pss_one ps_pass), ?_⟩
  exact q H (.inl ⟨rfl, ha⟩) fun b o _ e => e
abbrev s_i26 : Stmt := inClass (top 29) 0
abbrev N_i26 : List Str := ["self"]
abbrev P_i26 : List Str := ["self"]
theorem sc_i26 : FnScope N_i26 P_i26 (defScope s_i26) := ⟨rfl, rfl, rfl, by decide +kernel, rfl, by decide +kernel, by decide +kernel⟩
theorem ok_i26 (F : Fun K "__init__" "NothingToUndo.__init__" s_i26 f fd) : FnOk P w K mg base CX0 1 f fd P_i26 (spErr C []) := by
  refine F.ok sc_i26 (fun vs H Q E h => spErr_len vs H Q E h) (fun cdv A outer s H vs Q E hr h => ?_)
  obtain ⟨a, ys, rfl, hl, ha, q⟩ := h
  obtain rfl := List.eq_nil_of_length_eq_zero hl
  refine ⟨_, (pss_one ps_pass), ?_⟩
  exact q H (.inl ⟨rfl, ha⟩) fun b o _ e => e
abbrev s_i27 : Stmt := inClass (top 31) 0
abbrev N_i27 : List Str := ["self", "found"]
abbrev P_i27 : List Str := ["self", "found"]
theorem sc_i27 : FnScope N_i27 P_i27 (defScope s_i27) := ⟨rfl, rfl, rfl, by decide +kernel, rfl, by decide +kernel, by decide +kernel⟩
theorem ok_i27 (F : Fun K "__init__" "TooManyTemplates.__init__" s_i27 f fd) (T : Er K C B nw ii tl) (n0 : PySem.W.findIn K (.ref C) "found" = some none) : FnOk P w K mg base CX0 1 f fd P_i27 (spErr C ["found"]) := by
  refine F.ok sc_i27 (fun vs H Q E h => spErr_len vs H Q E h) (fun cdv A outer s H vs Q E hr h => ?_)
  obtain ⟨a, ys, rfl, hl, ha, q⟩ := h
  match ys, hl, q with
  | [y], _, q =>
    refine ⟨_, (pss_one (ps_er K rfl (pv 0) (pv 1))), ?_⟩
    refine ⟨_, rfl, _, rfl, a, C, B, nw, ii, tl, rfl, T, n0, .inl ⟨ha, fun dx hd hn => ?_⟩⟩
    exact q _ (.inr ⟨dx, by rw [upd_ne (Ne.symm hn)]; exact upd_same, upd_same⟩) fun b o hb e => by rw [upd_ne (ne_of_none e hd), upd_ne hb]; exact e
abbrev s_i28 : Stmt := inClass (top 32) 0
abbrev N_i28 : List Str := ["self", "found"]
abbrev P_i28 : List Str := ["self", "found"]
theorem sc_i28 : FnScope N_i28 P_i28 (defScope s_i28) := ⟨rfl, rfl, rfl, by decide +kernel, rfl, by decide +kernel, by decide +kernel⟩
theorem ok_i28 (F : Fun K "__init__" "TooManyLevels.__init__" s_i28 f fd) (T : Er K C B nw ii tl) (n0 : PySem.W.findIn K (.ref C) "found" = some none) : FnOk P w K mg base CX0 1 f fd P_i28 (spErr C ["found"]) := by
  refine F.ok sc_i28 (fun vs H Q E h => spErr_len vs H Q E h) (fun cdv A outer s H vs Q E hr h => ?_)
  obtain ⟨a, ys, rfl, hl, ha, q⟩ := h
  match ys, hl, q with
  | [y], _, q =>
    refine ⟨_, (pss_one (ps_er K rfl (pv 0) (pv 1))), ?_⟩
    refine ⟨_, rfl, _, rfl, a, C, B, nw, ii, tl, rfl, T, n0, .inl ⟨ha, fun dx hd hn => ?_⟩⟩
    exact q _ (.inr ⟨dx, by rw [upd_ne (Ne.symm hn)]; exact upd_same, upd_same⟩) fun b o hb e => by rw [upd_ne (ne_of_none e hd), upd_ne hb]; exact e
abbrev s_i29 : Stmt := inClass (top 33) 0
abbrev N_i29 : List Str := ["self", "found"]
abbrev P_i29 : List Str := ["self", "found"]
theorem sc_i29 : FnScope N_i29 P_i29 (defScope s_i29) := ⟨rfl, rfl, rfl, by decide +kernel, rfl, by decide +kernel, by decide +kernel⟩
theorem ok_i29 (F : Fun K "__init__" "TooManyNodes.__init__" s_i29 f fd) (T : Er K C B nw ii tl) (n0 : PySem.W.findIn K (.ref C) "found" = some none) : FnOk P w K mg base CX0 1 f fd P_i29 (spErr C ["found"]) := by
  refine F.ok sc_i29 (fun vs H Q E h => spErr_len vs H Q E h) (fun cdv A outer s H vs Q E hr h => ?_)
  obtain ⟨a, ys, rfl, hl, ha, q⟩ := h
  match ys, hl, q with
  | [y], _, q =>
    refine ⟨_, (pss_one (ps_er K rfl (pv 0) (pv 1))), ?_⟩
    refine ⟨_, rfl, _, rfl, a, C, B, nw, ii, tl, rfl, T, n0, .inl ⟨ha, fun dx hd hn => ?_⟩⟩
    exact q _ (.inr ⟨dx, by rw [upd_ne (Ne.symm hn)]; exact upd_same, upd_same⟩) fun b o hb e => by rw [upd_ne (ne_of_none e hd), upd_ne hb]; exact e
abbrev s_i30 : Stmt := inClass (top 34) 0
abbrev N_i30 : List Str := ["self", "found"]
abbrev P_i30 : List Str := ["self", "found"]
theorem sc_i30 : FnScope N_i30 P_i30 (defScope s_i30) := ⟨rfl, rfl, rfl, by decide +kernel, rfl, by decide +kernel, by decide +kernel⟩
theorem ok_i30 (F : Fun K "__init__" "TooManyElements.__init__" s_i30 f fd) (T : Er K C B nw ii tl) (n0 : PySem.W.findIn K (.ref C) "found" = some none) : FnOk P w K mg base CX0 1 f fd P_i30 (spErr C ["found"]) := by
  refine F.ok sc_i30 (fun vs H Q E h => spErr_len vs H Q E h) (fun cdv A outer s H vs Q E hr h => ?_)
  obtain ⟨a, ys, rfl, hl, ha, q⟩ := h
  match ys, hl, q with
  | [y], _, q =>
    refine ⟨_, (pss_one (ps_er K rfl (pv 0) (pv 1))), ?_⟩
    refine ⟨_, rfl, _, rfl, a, C, B, nw, ii, tl, rfl, T, n0, .inl ⟨ha, fun dx hd hn => ?_⟩⟩
    exact q _ (.inr ⟨dx, by rw [upd_ne (Ne.symm hn)]; exact upd_same, upd_same⟩) fun b o hb e => by rw [upd_ne (ne_of_none e hd), upd_ne hb]; exact e
abbrev s_i31 : Stmt := inClass (top 35) 0
abbrev N_i31 : List Str := ["self", "found"]
abbrev P_i31 : List Str := ["self", "found"]
theorem sc_i31 : FnScope N_i31 P_i31 (defScope s_i31) := ⟨rfl, rfl, rfl, by decide +kernel, rfl, by decide +kernel, by decide +kernel⟩
theorem ok_i31 (F : Fun K "__init__" "TooManyEntries.__init__" s_i31 f fd) (T : Er K C B nw ii tl) (n0 : PySem.W.findIn K (.ref C) "found" = some none) : FnOk P w K mg base CX0 1 f fd P_i31 (spErr C ["found"]) := by
  refine F.ok sc_i31 (fun vs H Q E h => spErr_len vs H Q E h) (fun cdv A outer s H vs Q E hr h => ?_)
  obtain ⟨a, ys, rfl, hl, ha, q⟩ := h
  match ys, hl, q with
  | [y], _, q =>
    refine ⟨_, (pss_one (ps_er K rfl (pv 0) (pv 1))), ?_⟩
    refine ⟨_, rfl, _, rfl, a, C, B, nw, ii, tl, rfl, T, n0, .inl ⟨ha, fun dx hd hn => ?_⟩⟩
    exact q _ (.inr ⟨dx, by rw [upd_ne (Ne.symm hn)]; exact upd_same, upd_same⟩) fun b o hb e => by rw [upd_ne (ne_of_none e hd), upd_ne hb]; exact e
abbrev s_i32 : Stmt := inClass (top 36) 0
abbrev N_i32 : List Str := ["self", "found"]
abbrev P_i32 : List Str := ["self", "found"]
theorem sc_i32 : FnScope N_i32 P_i32 (defScope s_i32) := ⟨rfl, rfl, rfl, by decide +kernel, rfl, by decide +kernel, by decide +kernel⟩
theorem ok_i32 (F : Fun K "__init__" "TooDeep.__init__" s_i32 f fd) (T : Er K C B nw ii tl) (n0 : PySem.W.findIn K (.ref C) "found" = some none) : FnOk P w K mg base CX0 1 f fd P_i32 (spErr C ["found"]) := by
  refine F.ok sc_i32 (fun vs H Q E h => spErr_len vs H Q E h) (fun cdv A outer s H vs Q E hr h => ?_)
  obtain ⟨a, ys, rfl, hl, ha, q⟩ := h
  match ys, hl, q with
  | [y], _, q =>
    refine ⟨_, (pss_one (ps_er K rfl (pv 0) (pv 1))), ?_⟩
    refine ⟨_, rfl, _, rfl, a, C, B, nw, ii, tl, rfl, T, n0, .inl ⟨ha, fun dx hd hn => ?_⟩⟩
    exact q _ (.inr ⟨dx, by rw [upd_ne (Ne.symm hn)]; exact upd_same, upd_same⟩) fun b o hb e => by rw [upd_ne (ne_of_none e hd), upd_ne hb]; exact e
end
end KX

namespace KX
open PySem PySem.Spec L2 PyProof.Rows
def bE (i : Nat) : String := if i < 17 then "ValueError" else if i < 27 then "LookupError" else "ArithmeticError"
def nE (i : Nat) : String := if i < 17 then "ValueError.__new__" else if i < 27 then "LookupError.__new__" else "ArithmeticError.__new__"
def iE (i : Nat) : String := if i < 17 then "ValueError.__init__" else if i < 27 then "LookupError.__init__" else "ArithmeticError.__init__"
def tE (i : Nat) : List Value := [.type (bE i), .type "Exception", .type "BaseException", .type "object"]
/-- one error class, with its __init__ -/
structure ED (P : Program) (w : World) (K : PySem.W.Frag) (mg : Str → Option Value) (base : Heap) (x : Str) (C fI : Addr) (fd : FuncData) (fs : List Str) (B nw ii : String) (tl : List Value) : Prop where
  er : Er K C B nw ii tl
  g : mg x = some (.ref C)
  i : PySem.W.findIn K (.ref C) "__init__" = some (some (.ref fI))
  ty : PySem.W.typeIn K (.ref fI) = some (.type "function")
  b : Binds K fd ("self" :: fs) []
  kb : KBn K fd ("self" :: fs) 1 fs.reverse (fun us ws => us ++ ws.reverse) (fun vs zs => vs ++ zs.reverse)
  ok : FnOk P w K mg base CX0 1 fI fd ("self" :: fs) (spErr C fs)
  no : ∀ f ∈ fs, PySem.W.findIn K (.ref C) f = some none
def eqb (i j : Nat) : Bool := decide (i = j)
/-- all error classes -/
structure Errs (P : Program) (w : World) (K : PySem.W.Frag) (mg : Str → Option Value) (base : Heap) (C fI : Nat → Addr) (fd : Nat → FuncData) (Sh St Sz : Addr) : Prop where
  d : ∀ i, i < 33 → ED P w K mg base (nameE i) (C i) (fI i) (fd i) (fieldsE i) (bE i) (nE i) (iE i) (tE i)
  kit : ∀ i j, i < 33 → j < 33 → PySem.W.kitOne K (.ref (C i)) (.ref (C j)) = some (eqb i j)
  gSh : mg "ShapeError" = some (.ref Sh)
  gSt : mg "StateError" = some (.ref St)
  gSz : mg "SizeError" = some (.ref Sz)
  kSh : ∀ i, i < 33 → PySem.W.kitOne K (.ref (C i)) (.ref Sh) = some (decide (i < 17))
  kSt : ∀ i, i < 33 → PySem.W.kitOne K (.ref (C i)) (.ref St) = some (decide (16 < i) && decide (i < 27))
  kSz : ∀ i, i < 33 → PySem.W.kitOne K (.ref (C i)) (.ref Sz) = some (decide (26 < i))
  kVE : ∀ i, i < 33 → PySem.W.kitOne K (.ref (C i)) (.type "ValueError") = some (decide (i < 17))
  kLE : ∀ i, i < 33 → PySem.W.kitOne K (.ref (C i)) (.type "LookupError") = some (decide (16 < i) && decide (i < 27))
  kAE : ∀ i, i < 33 → PySem.W.kitOne K (.ref (C i)) (.type "ArithmeticError") = some (decide (26 < i))
  nVE : mg "ValueError" = none
  nLE : mg "LookupError" = none
  nAE : mg "ArithmeticError" = none
/-- the fields of the i-th error, as they are kept -/
def fsE (i : Nat) (m n : V) : List (Str × V) := ((fieldsE i).zip [m, n]).reverse
theorem sp_new {H : Hp} {R : Addr → Hp → Prop} {C : Addr} {fs : List Str} {vs : List V} (hl : vs.length = fs.length) (h : ∀ a H', H a = none → Same H H' → ErrAt H' a C (fs.zip vs).reverse → R a H') (a : Addr) (na : H a = none) :
    spErr C fs (.ref a :: vs) (upd H a (exo a C none)) (fun v H2 => v = .non ∧ R a H2) E0 :=
  ⟨a, vs, rfl, hl, upd_same, fun H' e k => ⟨rfl, h a H' na (fun b o eb => k b o (ne_of_none eb na) (by rw [upd_ne (ne_of_none eb na)]; exact eb)) e⟩⟩
theorem at_n {σ : List (Option V)} {i j : Nat} {u : Option V} {v : Option V} (h : (i == j) = false) (e : σ[j]? = some v) : (σ.set i u)[j]? = some v := by
  rw [List.getElem?_set_ne (by simpa using h)]
  exact e
theorem at_s {σ : List (Option V)} {i : Nat} {u w : Option V} (e : σ[i]? = some w) : (σ.set i u)[i]? = some u := by
  rw [List.getElem?_set_self (List.getElem?_eq_some_iff.mp e).1]
/-- errors in a row, of these classes -/
def AllE (H : Hp) (C : Nat → Addr) (m n : V) : List Nat → List Addr → Prop
  | [], [] => True
  | i :: is, a :: r => ErrAt H a (C i) (fsE i m n) ∧ AllE H C m n is r
  | _, _ => False
theorem AllE.len {H : Hp} {C : Nat → Addr} {m n : V} : ∀ {is : List Nat} {es : List Addr}, AllE H C m n is es → es.length = is.length
  | [], [], _ => rfl
  | _ :: _, _ :: _, h => by rw [List.length_cons, List.length_cons, AllE.len h.2]
theorem AllE.get {H : Hp} {C : Nat → Addr} {m n : V} : ∀ {is : List Nat} {es : List Addr} {k : Nat} {a : Addr}, AllE H C m n is es → es[k]? = some a → ∃ i, is[k]? = some i ∧ ErrAt H a (C i) (fsE i m n)
  | [], [], _, _, _, e => by simp at e
  | i :: _, _ :: _, 0, _, h, e => by simp at e; subst e; exact ⟨i, rfl, h.1⟩
  | _ :: _, _ :: _, k + 1, _, h, e => by
    obtain ⟨i, h1, h2⟩ := AllE.get (k := k) h.2 (by simpa using e)
    exact ⟨i, by simpa using h1, h2⟩
theorem AllE.same {H H' : Hp} {C : Nat → Addr} {m n : V} (s : Same H H') : ∀ {is : List Nat} {es : List Addr}, AllE H C m n is es → AllE H' C m n is es
  | [], [], _ => True.intro
  | _ :: _, _ :: _, h => ⟨h.1.same s, h.2.same s⟩
end KX

namespace KX
open PySem PySem.Spec L2 PyProof.Rows
/-! the head -/
def dd0 : He.DefD := ⟨("is_sign", none), "is_sign", "is_sign", defArgs (top 49), defBody (top 49), defScope (top 49), [], []⟩
def dd1 : He.DefD := ⟨("is_text", none), "is_text", "is_text", defArgs (top 50), defBody (top 50), defScope (top 50), [], []⟩
def dd2 : He.DefD := ⟨("is_letter", none), "is_letter", "is_letter", defArgs (top 51), defBody (top 51), defScope (top 51), [], []⟩
def dd3 : He.DefD := ⟨("is_name", none), "is_name", "is_name", defArgs (top 54), defBody (top 54), defScope (top 54), [], []⟩
def dd4 : He.DefD := ⟨("is_value", none), "is_value", "is_value", defArgs (top 56), defBody (top 56), defScope (top 56), [], []⟩
def dd5 : He.DefD := ⟨("same", none), "same", "same", defArgs (top 57), defBody (top 57), defScope (top 57), [], []⟩
def dd6 : He.DefD := ⟨("kind_of", none), "kind_of", "kind_of", defArgs (top 58), defBody (top 58), defScope (top 58), [], []⟩
def dd7 : He.DefD := ⟨("_is_value_within", none), "_is_value_within", "_is_value_within", defArgs (top 59), defBody (top 59), defScope (top 59), [], []⟩
def dd8 : He.DefD := ⟨("agree", none), "agree", "agree", defArgs (top 60), defBody (top 60), defScope (top 60), [], []⟩
def dd9 : He.DefD := ⟨("_law_cell", none), "_law_cell", "_law_cell", defArgs (top 62), defBody (top 62), defScope (top 62), [], []⟩
def dd10 : He.DefD := ⟨("_law_pool", none), "_law_pool", "_law_pool", defArgs (top 63), defBody (top 63), defScope (top 63), [], []⟩
def dd11 : He.DefD := ⟨("_law_draw", none), "_law_draw", "_law_draw", defArgs (top 64), defBody (top 64), defScope (top 64), [], []⟩
def dd12 : He.DefD := ⟨("_law_words", none), "_law_words", "_law_words", defArgs (top 65), defBody (top 65), defScope (top 65), [], []⟩
def dd13 : He.DefD := ⟨("_law_chars", none), "_law_chars", "_law_chars", defArgs (top 66), defBody (top 66), defScope (top 66), [], []⟩
def dd14 : He.DefD := ⟨("_law_form", none), "_law_form", "_law_form", defArgs (top 67), defBody (top 67), defScope (top 67), [], []⟩
def dd15 : He.DefD := ⟨("_law_thing_of", none), "_law_thing_of", "_law_thing_of", defArgs (top 68), defBody (top 68), defScope (top 68), [], []⟩
def dd16 : He.DefD := ⟨("_law_kind", none), "_law_kind", "_law_kind", defArgs (top 69), defBody (top 69), defScope (top 69), [], []⟩
def dd17 : He.DefD := ⟨("_law_fields_of", none), "_law_fields_of", "_law_fields_of", defArgs (top 70), defBody (top 70), defScope (top 70), [], []⟩
def dd18 : He.DefD := ⟨("_law_other_fields", none), "_law_other_fields", "_law_other_fields", defArgs (top 71), defBody (top 71), defScope (top 71), [], []⟩
def dd19 : He.DefD := ⟨("_law_made", none), "_law_made", "_law_made", defArgs (top 72), defBody (top 72), defScope (top 72), [], []⟩
def dd20 : He.DefD := ⟨("_law_named", none), "_law_named", "_law_named", defArgs (top 73), defBody (top 73), defScope (top 73), [], []⟩
def dd21 : He.DefD := ⟨("_law_right", none), "_law_right", "_law_right", defArgs (top 74), defBody (top 74), defScope (top 74), [], []⟩
def dd22 : He.DefD := ⟨("law", none), "law", "law", defArgs (top 75), defBody (top 75), defScope (top 75), [], []⟩
def dd23 : He.DefD := ⟨("InvalidName", some "__init__"), "__init__", "InvalidName.__init__", defArgs (inClass (top 2) 0), defBody (inClass (top 2) 0), defScope (inClass (top 2) 0), [], []⟩
def dd24 : He.DefD := ⟨("InvalidText", some "__init__"), "__init__", "InvalidText.__init__", defArgs (inClass (top 3) 0), defBody (inClass (top 3) 0), defScope (inClass (top 3) 0), [], []⟩
def dd25 : He.DefD := ⟨("InvalidValue", some "__init__"), "__init__", "InvalidValue.__init__", defArgs (inClass (top 4) 0), defBody (inClass (top 4) 0), defScope (inClass (top 4) 0), [], []⟩
def dd26 : He.DefD := ⟨("InvalidTree", some "__init__"), "__init__", "InvalidTree.__init__", defArgs (inClass (top 5) 0), defBody (inClass (top 5) 0), defScope (inClass (top 5) 0), [], []⟩
def dd27 : He.DefD := ⟨("InvalidContext", some "__init__"), "__init__", "InvalidContext.__init__", defArgs (inClass (top 6) 0), defBody (inClass (top 6) 0), defScope (inClass (top 6) 0), [], []⟩
def dd28 : He.DefD := ⟨("InvalidPage", some "__init__"), "__init__", "InvalidPage.__init__", defArgs (inClass (top 7) 0), defBody (inClass (top 7) 0), defScope (inClass (top 7) 0), [], []⟩
def dd29 : He.DefD := ⟨("InvalidBody", some "__init__"), "__init__", "InvalidBody.__init__", defArgs (inClass (top 8) 0), defBody (inClass (top 8) 0), defScope (inClass (top 8) 0), [], []⟩
def dd30 : He.DefD := ⟨("InvalidTag", some "__init__"), "__init__", "InvalidTag.__init__", defArgs (inClass (top 9) 0), defBody (inClass (top 9) 0), defScope (inClass (top 9) 0), [], []⟩
def dd31 : He.DefD := ⟨("Misplaced", some "__init__"), "__init__", "Misplaced.__init__", defArgs (inClass (top 10) 0), defBody (inClass (top 10) 0), defScope (inClass (top 10) 0), [], []⟩
def dd32 : He.DefD := ⟨("InvalidPlan", some "__init__"), "__init__", "InvalidPlan.__init__", defArgs (inClass (top 11) 0), defBody (inClass (top 11) 0), defScope (inClass (top 11) 0), [], []⟩
def dd33 : He.DefD := ⟨("InvalidPass", some "__init__"), "__init__", "InvalidPass.__init__", defArgs (inClass (top 12) 0), defBody (inClass (top 12) 0), defScope (inClass (top 12) 0), [], []⟩
def dd34 : He.DefD := ⟨("InvalidPatches", some "__init__"), "__init__", "InvalidPatches.__init__", defArgs (inClass (top 13) 0), defBody (inClass (top 13) 0), defScope (inClass (top 13) 0), [], []⟩
def dd35 : He.DefD := ⟨("InvalidSize", some "__init__"), "__init__", "InvalidSize.__init__", defArgs (inClass (top 14) 0), defBody (inClass (top 14) 0), defScope (inClass (top 14) 0), [], []⟩
def dd36 : He.DefD := ⟨("InvalidAction", some "__init__"), "__init__", "InvalidAction.__init__", defArgs (inClass (top 15) 0), defBody (inClass (top 15) 0), defScope (inClass (top 15) 0), [], []⟩
def dd37 : He.DefD := ⟨("InvalidCommand", some "__init__"), "__init__", "InvalidCommand.__init__", defArgs (inClass (top 16) 0), defBody (inClass (top 16) 0), defScope (inClass (top 16) 0), [], []⟩
def dd38 : He.DefD := ⟨("NotALibrary", some "__init__"), "__init__", "NotALibrary.__init__", defArgs (inClass (top 17) 0), defBody (inClass (top 17) 0), defScope (inClass (top 17) 0), [], []⟩
def dd39 : He.DefD := ⟨("TypeTrouble", some "__init__"), "__init__", "TypeTrouble.__init__", defArgs (inClass (top 18) 0), defBody (inClass (top 18) 0), defScope (inClass (top 18) 0), [], []⟩
def dd40 : He.DefD := ⟨("NameTaken", some "__init__"), "__init__", "NameTaken.__init__", defArgs (inClass (top 20) 0), defBody (inClass (top 20) 0), defScope (inClass (top 20) 0), [], []⟩
def dd41 : He.DefD := ⟨("MissingTemplate", some "__init__"), "__init__", "MissingTemplate.__init__", defArgs (inClass (top 21) 0), defBody (inClass (top 21) 0), defScope (inClass (top 21) 0), [], []⟩
def dd42 : He.DefD := ⟨("InUse", some "__init__"), "__init__", "InUse.__init__", defArgs (inClass (top 22) 0), defBody (inClass (top 22) 0), defScope (inClass (top 22) 0), [], []⟩
def dd43 : He.DefD := ⟨("Ring", some "__init__"), "__init__", "Ring.__init__", defArgs (inClass (top 23) 0), defBody (inClass (top 23) 0), defScope (inClass (top 23) 0), [], []⟩
def dd44 : He.DefD := ⟨("Unfit", some "__init__"), "__init__", "Unfit.__init__", defArgs (inClass (top 24) 0), defBody (inClass (top 24) 0), defScope (inClass (top 24) 0), [], []⟩
def dd45 : He.DefD := ⟨("NoSuchPath", some "__init__"), "__init__", "NoSuchPath.__init__", defArgs (inClass (top 25) 0), defBody (inClass (top 25) 0), defScope (inClass (top 25) 0), [], []⟩
def dd46 : He.DefD := ⟨("NotLate", some "__init__"), "__init__", "NotLate.__init__", defArgs (inClass (top 26) 0), defBody (inClass (top 26) 0), defScope (inClass (top 26) 0), [], []⟩
def dd47 : He.DefD := ⟨("NotDone", some "__init__"), "__init__", "NotDone.__init__", defArgs (inClass (top 27) 0), defBody (inClass (top 27) 0), defScope (inClass (top 27) 0), [], []⟩
def dd48 : He.DefD := ⟨("Busy", some "__init__"), "__init__", "Busy.__init__", defArgs (inClass (top 28) 0), defBody (inClass (top 28) 0), defScope (inClass (top 28) 0), [], []⟩
def dd49 : He.DefD := ⟨("NothingToUndo", some "__init__"), "__init__", "NothingToUndo.__init__", defArgs (inClass (top 29) 0), defBody (inClass (top 29) 0), defScope (inClass (top 29) 0), [], []⟩
def dd50 : He.DefD := ⟨("TooManyTemplates", some "__init__"), "__init__", "TooManyTemplates.__init__", defArgs (inClass (top 31) 0), defBody (inClass (top 31) 0), defScope (inClass (top 31) 0), [], []⟩
def dd51 : He.DefD := ⟨("TooManyLevels", some "__init__"), "__init__", "TooManyLevels.__init__", defArgs (inClass (top 32) 0), defBody (inClass (top 32) 0), defScope (inClass (top 32) 0), [], []⟩
def dd52 : He.DefD := ⟨("TooManyNodes", some "__init__"), "__init__", "TooManyNodes.__init__", defArgs (inClass (top 33) 0), defBody (inClass (top 33) 0), defScope (inClass (top 33) 0), [], []⟩
def dd53 : He.DefD := ⟨("TooManyElements", some "__init__"), "__init__", "TooManyElements.__init__", defArgs (inClass (top 34) 0), defBody (inClass (top 34) 0), defScope (inClass (top 34) 0), [], []⟩
def dd54 : He.DefD := ⟨("TooManyEntries", some "__init__"), "__init__", "TooManyEntries.__init__", defArgs (inClass (top 35) 0), defBody (inClass (top 35) 0), defScope (inClass (top 35) 0), [], []⟩
def dd55 : He.DefD := ⟨("TooDeep", some "__init__"), "__init__", "TooDeep.__init__", defArgs (inClass (top 36) 0), defBody (inClass (top 36) 0), defScope (inClass (top 36) 0), [], []⟩
def fn0 : List He.DefD := [dd0, dd1, dd2, dd3, dd4, dd5, dd6, dd7, dd8, dd9, dd10, dd11, dd12, dd13, dd14, dd15, dd16, dd17, dd18, dd19]
def fn1 : List He.DefD := [dd20, dd21, dd22, dd23, dd24, dd25, dd26, dd27, dd28, dd29, dd30, dd31, dd32, dd33, dd34, dd35, dd36, dd37, dd38, dd39]
def fn2 : List He.DefD := [dd40, dd41, dd42, dd43, dd44, dd45, dd46, dd47, dd48, dd49, dd50, dd51, dd52, dd53, dd54, dd55]
def fn : List He.DefD := fn0 ++ fn1 ++ fn2
def fa0 : List He.Fa := [.glo "is_sign", .glo "is_text", .glo "is_letter", .glo "is_name", .glo "is_value", .glo "same", .glo "kind_of", .glo "_is_value_within", .glo "agree", .glo "_law_cell", .glo "_law_pool", .glo "_law_draw", .glo "_law_words", .glo "_law_chars", .glo "_law_form", .glo "_law_thing_of", .glo "_law_kind", .glo "_law_fields_of", .glo "_law_other_fields", .glo "_law_made"]
def fa1 : List He.Fa := [.glo "_law_named", .glo "_law_right", .glo "law", .glo "InvalidName", .glo "InvalidText", .glo "InvalidValue", .glo "InvalidTree", .glo "InvalidContext", .glo "InvalidPage", .glo "InvalidBody", .glo "InvalidTag", .glo "Misplaced", .glo "InvalidPlan", .glo "InvalidPass", .glo "InvalidPatches", .glo "InvalidSize", .glo "InvalidAction", .glo "InvalidCommand", .glo "NotALibrary", .glo "TypeTrouble"]
def fa2 : List He.Fa := [.glo "NameTaken", .glo "MissingTemplate", .glo "InUse", .glo "Ring", .glo "Unfit", .glo "NoSuchPath", .glo "NotLate", .glo "NotDone", .glo "Busy", .glo "NothingToUndo", .glo "TooManyTemplates", .glo "TooManyLevels", .glo "TooManyNodes", .glo "TooManyElements", .glo "TooManyEntries", .glo "TooDeep", .glo "ShapeError", .glo "StateError", .glo "SizeError", .free "len"]
def fa3 : List He.Fa := [.free "abs", .free "divmod", .free "min", .free "max", .free "all", .free "sorted", .free "isinstance", .free "repr", .free "ord", .free "range", .free "zip", .free "tuple", .free "list", .free "str", .free "int", .free "bool", .free "dict", .free "ValueError", .free "LookupError", .free "ArithmeticError"]
def fa4 : List He.Fa := [.int "MAX_ELEMENTS" 60, .int "MAX_LEVELS" 6, .int "MAX_NESTED" 30, .int "MAX_TEMPLATES" 40, .int "MAX_NODES" 3000, .int "MAX_DEPTH" 100, .int "MAX_ENTRIES" 100, .int "NEWLINE" 10, .int "SPACE" 32, .int "PERCENT" 37, .int "TILDE" 126, .int "MAX_LETTERS" 12]
def fa : List He.Fa := fa0 ++ fa1 ++ fa2 ++ fa3 ++ fa4
def loose0 : List PySem.Str := ["ShapeError", "InvalidName", "InvalidText", "InvalidValue", "InvalidTree", "InvalidContext", "InvalidPage", "InvalidBody", "InvalidTag", "Misplaced", "InvalidPlan", "InvalidPass", "InvalidPatches", "InvalidSize", "InvalidAction", "InvalidCommand", "NotALibrary", "TypeTrouble", "StateError", "NameTaken"]
def loose1 : List PySem.Str := ["MissingTemplate", "InUse", "Ring", "Unfit", "NoSuchPath", "NotLate", "NotDone", "Busy", "NothingToUndo", "SizeError", "TooManyTemplates", "TooManyLevels", "TooManyNodes", "TooManyElements", "TooManyEntries", "TooDeep", "MAX_ELEMENTS", "MAX_LEVELS", "MAX_NESTED", "MAX_TEMPLATES"]
def loose2 : List PySem.Str := ["MAX_NODES", "MAX_DEPTH", "MAX_ENTRIES", "NEWLINE", "SPACE", "PERCENT", "TILDE", "is_sign", "is_text", "is_letter", "MAX_LETTERS", "is_name", "is_value", "same", "kind_of", "_is_value_within", "agree", "_law_cell", "_law_pool", "_law_draw"]
def loose3 : List PySem.Str := ["_law_words", "_law_chars", "_law_form", "_law_thing_of", "_law_kind", "_law_fields_of", "_law_other_fields", "_law_made", "_law_named", "_law_right"]
def loose : List PySem.Str := loose0 ++ loose1 ++ loose2 ++ loose3
/-- the error classes, their __init__ -/
def cA (K : PySem.W.Frag) (i : Nat) : Addr := He.ga K (nameE i)
def iA (K : PySem.W.Frag) (i : Nat) : Addr := He.ma K (cA K i) "__init__"
/-- a built-in is found at a class -/
def findB (K : PySem.W.Frag) (C : Addr) (n b : String) : Bool := He.eqO (PySem.W.findIn K (.ref C) n) (some (some (.builtin b)))
def lookB (K : PySem.W.Frag) (C : Addr) : Bool := findB K C "__setattr__" "object.__setattr__" && (findB K C "__getattribute__" "BaseException.__getattribute__" && (findB K C "__class__" "object.__class__" && He.eqO (PySem.W.findIn K (.ref C) "__getattr__") (some none)))
def baseB (K : PySem.W.Frag) (C : Addr) : Bool := PySem.W.hasDictIn K C && PySem.W.keepIn K (.ref C)
def makeB (K : PySem.W.Frag) (i : Nat) : Bool := PySem.W.excInitIn K (cA K i) (tE i) (nE i) && (PySem.W.excOver K (cA K i) (tE i) && (He.eqO (PySem.W.findIn K (.ref (cA K i)) "__init__") (some (some (.ref (iA K i)))) &&
  (decide (PySem.W.typeIn K (.ref (iA K i)) = some (.type "function")) && (fieldsE i).all fun f => He.eqO (PySem.W.findIn K (.ref (cA K i)) f) (some none))))
def allN : List Str := ("ShapeError" : Str) :: ("InvalidName" : Str) :: ("InvalidText" : Str) :: ("InvalidValue" : Str) :: ("InvalidTree" : Str) :: ("InvalidContext" : Str) :: ("InvalidPage" : Str) :: ("InvalidBody" : Str) :: ("InvalidTag" : Str) :: ("Misplaced" : Str) :: ("InvalidPlan" : Str) :: ("InvalidPass" : Str) :: ("InvalidPatches" : Str) :: ("InvalidSize" : Str) :: ("InvalidAction" : Str) :: ("InvalidCommand" : Str) :: ("NotALibrary" : Str) :: ("TypeTrouble" : Str) :: ("StateError" : Str) :: ("NameTaken" : Str) :: ("MissingTemplate" : Str) :: ("InUse" : Str) :: ("Ring" : Str) :: ("Unfit" : Str) :: ("NoSuchPath" : Str) :: ("NotLate" : Str) :: ("NotDone" : Str) :: ("Busy" : Str) :: ("NothingToUndo" : Str) :: ("SizeError" : Str) :: ("TooManyTemplates" : Str) :: ("TooManyLevels" : Str) :: ("TooManyNodes" : Str) :: ("TooManyElements" : Str) :: ("TooManyEntries" : Str) :: ("TooDeep" : Str) :: []
/-- the classes as they are made, one behind the other: the three bases stand at 0, 18, 29 -/
def aK (K : PySem.W.Frag) (k : Nat) : Addr := He.ga K (allN.getD k "")
def ci (i : Nat) : Nat := if i < 17 then i + 1 else if i < 27 then i + 2 else i + 3
def bi (i : Nat) : Nat := if i < 17 then 0 else if i < 27 then 18 else 29
def upB (K : PySem.W.Frag) : Bool := (List.range 35).all fun k => decide (aK K k < aK K (k + 1))
def clB (K : PySem.W.Frag) (k : Nat) : Bool := (PySem.W.clsIn K (aK K k)).isSome && PySem.W.typeIn K (.ref (aK K k)) == some (.type "type")
def lineE (K : PySem.W.Frag) (i : Nat) : List Value := .ref (cA K i) :: .ref (aK K (bi i)) :: tE i
def lineB (K : PySem.W.Frag) (i : Nat) : Bool := (PySem.W.clsIn K (cA K i)).any fun cd => decide (cd.mro = lineE K i)
def onceB (K : PySem.W.Frag) : Bool := He.eqO (PySem.W.specialIn K (.builtin "object.__class__") "__get__") (some (some (.builtin "getset_descriptor.__get__"))) && (decide (PySem.W.takesIn K (.builtin "object.__class__") = some true) && He.dictB K sysModules)
def ex (K : PySem.W.Frag) : Bool := (onceB K && (upB K && (List.range 36).all (clB K))) && (List.range 33).all fun i => (lookB K (cA K i) && baseB K (cA K i)) && (makeB K i && lineB K i)
/-- the written part, and the system's table of modules -/
def keepAs (g : Addr → Option Obj) : List Addr := sysModules :: He.asD g 4
def partOf (g : Addr → Option Obj) : PySem.W.Frag := He.frT g (keepAs g)
structure Told (w : World) (K : PySem.W.Frag) : Prop where
  facts : He.SaysT fa fn [] w K
  more : ex K = true
abbrev seen (g : Addr → Option Obj) : He.AlT × Bool := (He.obsT fa fn [] (partOf g), ex (partOf g))
def hk : PySem.W.Hook where
  α := He.AlT × Bool
  obs := fun s => seen s.heap.get?
  val := fun w => (He.valT fn [] w, true)
  says := fun w h => ∃ K : PySem.W.Frag, K.In h ∧ Told w K
  of := fun _ _ e => ⟨partOf _, He.frT_in, (Prod.mk.inj e).1, (Prod.mk.inj e).2⟩
  keeps := fun _ _ _ h k => h.imp fun _ t => ⟨t.1.keeps k, t.2⟩
def ob (s : PySem.W.SharedT) : He.AlT × Bool := seen (HandSHeadRun.getT s)
theorem ob_eq (s : PySem.W.SharedT) : ob s = hk.obs s.abs := by
  have e : HandSHeadRun.getT s = s.abs.heap.get? := funext (HandSHeadRun.getT_eq s)
  unfold ob
  rw [e]
  rfl
abbrev R : PySem.W.OpenRow := PySem.W.OpenLaw.row PySem.Challenge.rw_shapekeep_k16_errors_and_limits
end KX
namespace KX.Top
open HandSHeadRun PySem PySem.W PySem.Calls PyProof.Rows KX
theorem looks (w : World) : ∀ os : OsState, (endF (stepQ (denQ tabQ) KX.R.prog w) 14000 KX.R.prog w os).map (fun s => (looksF KX.R.prog (boot_heap w.params) s.abs, seenQ (view KX.R.prog [75]) KX.loose (importedModules KX.R.prog.main.body) (fun s => xlAt (view KX.R.prog [75]) [] s && recOk KX.R.toRowW.records s) s.abs)) = some (true, openGood (view KX.R.prog [75]) KX.loose) := by
  intro os
  kernel_rfl
theorem told (w : World) : ∀ os : OsState, (endF (stepQ (denQ tabQ) KX.R.prog w) 14000 KX.R.prog w os).map ob = some (hk.val w) := by
  intro os
  kernel_rfl
theorem both {S A B C : Type} {o : Option S} {f : S → A} {g : S → B} {h : S → C} {a : A} {b : B} {c : C} (p : o.map (fun s => (f s, g s)) = some (a, b)) (q : o.map h = some c) : o.map (fun s => (f s, g s, h s)) = some (a, b, c) := by
  cases o with
  | none => cases p
  | some s =>
    obtain ⟨rfl, rfl⟩ := Prod.mk.inj (Option.some.inj p)
    obtain rfl := Option.some.inj q
    rfl
end KX.Top
namespace KX
open PySem PySem.Spec L2 PyProof.Rows
theorem run (w : World) : HandSHeadRun.RunEq R (PySem.W.view R.prog [75]) hk ob 14000 loose w := fun os => Top.both (Top.looks w os) (Top.told w os)
end KX

namespace KX
open PySem PySem.Spec L2 PyProof.Rows
section
variable {K : PySem.W.Frag}
theorem ci_name : ∀ i, i < 33 → nameE i = allN.getD (ci i) "" := by decide +kernel
theorem cA_eq {i : Nat} (h : i < 33) : cA K i = aK K (ci i) := congrArg (He.ga K) (ci_name i h)
theorem aK_up (u : upB K = true) : ∀ (b a : Nat), a < b → b < 36 → aK K a < aK K b
  | 0, _, h, _ => absurd h (Nat.not_lt_zero _)
  | b + 1, a, h, l => by
    have one : aK K b < aK K (b + 1) := of_decide_eq_true (List.all_eq_true.mp u b (List.mem_range.mpr (by omega)))
    rcases Nat.lt_succ_iff_lt_or_eq.mp h with z | rfl
    · exact Nat.lt_trans (aK_up u b a z (by omega)) one
    · exact one
theorem aK_ne (u : upB K = true) {a b : Nat} (n : a ≠ b) (ha : a < 36) (hb : b < 36) : aK K a ≠ aK K b := fun e => by
  rcases Nat.lt_or_gt_of_ne n with z | z
  · exact absurd e (Nat.ne_of_lt (aK_up u b a z hb))
  · exact absurd e.symm (Nat.ne_of_lt (aK_up u a b z ha))
theorem line_of {i : Nat} (l : lineB K i = true) : ∃ cd, PySem.W.clsIn K (cA K i) = some cd ∧ cd.mro = lineE K i := by
  unfold lineB at l
  cases e : PySem.W.clsIn K (cA K i) with
  | none =>
    rw [e] at l
    cases l
  | some cd =>
    rw [e] at l
    exact ⟨cd, rfl, of_decide_eq_true l⟩
theorem sub_line {i : Nat} (l : lineB K i = true) (c : Value) : PySem.W.subIn K (.ref (cA K i)) c = some ((lineE K i).contains c) := by
  obtain ⟨cd, e, m⟩ := line_of l
  show PySem.W.mroIn K (cA K i) c = _
  unfold PySem.W.mroIn
  rw [e]
  show (if cd.mro.isEmpty then none else some (cd.mro.contains c)) = _
  rw [m]
  rfl
theorem bi_lt (i : Nat) : bi i < 36 := by
  unfold bi
  split
  · omega
  · split <;> omega
theorem ci_lt {i : Nat} (h : i < 33) : ci i < 36 := by
  unfold ci
  split
  · omega
  · split <;> omega
theorem ref_ne {a b : Addr} (n : a ≠ b) : (Value.ref a == Value.ref b) = false := by
  rw [beq_eq_false_iff_ne]
  exact fun e => n (Value.ref.inj e)
theorem tE_ref (i : Nat) (a : Addr) : (tE i).contains (.ref a) = false := rfl
/-- an error is of no class but its own and its base -/
theorem kit_ref (u : upB K = true) (c : (List.range 36).all (clB K) = true) {i k : Nat} (hi : i < 33) (hk : k < 36) (l : lineB K i = true) : PySem.W.kitOne K (.ref (cA K i)) (.ref (aK K k)) = some (decide (k = ci i ∨ k = bi i)) := by
  by_cases e : k = ci i
  · unfold PySem.W.kitOne
    rw [e, cA_eq hi, if_pos (beq_self_eq_true _), decide_eq_true (.inl rfl)]
  · have n : aK K (ci i) ≠ aK K k := aK_ne u (fun z => e z.symm) (ci_lt hi) hk
    unfold PySem.W.kitOne
    rw [if_neg (by rw [cA_eq hi, ref_ne n]; exact Bool.false_ne_true)]
    show (if _ then PySem.W.subIn K (.ref (cA K i)) (.ref (aK K k)) else none) = _
    have here : ((PySem.W.clsIn K (aK K k)).isSome && PySem.W.typeIn K (.ref (aK K k)) == some (.type "type")) = true := List.all_eq_true.mp c k (List.mem_range.mpr hk)
    rw [if_pos here, sub_line l]
    show some ((Value.ref (aK K k) == .ref (cA K i)) || ((Value.ref (aK K k) == .ref (aK K (bi i))) || (tE i).contains (.ref (aK K k)))) = _
    rw [cA_eq hi, ref_ne fun z => n z.symm, tE_ref, Bool.false_or, Bool.or_false]
    congr 1
    by_cases f : k = bi i
    · rw [f, beq_self_eq_true, decide_eq_true (.inr rfl)]
    · rw [ref_ne (aK_ne u f hk (bi_lt i)), decide_eq_false (fun z => z.elim e f)]
theorem kit_type {i : Nat} (hi : i < 33) (l : lineB K i = true) {T : String} (m : PySem.W.kitMeta T = true) : PySem.W.kitOne K (.ref (cA K i)) (.type T) = some ((tE i).contains (.type T)) := by
  unfold PySem.W.kitOne
  rw [if_neg (by exact Bool.false_ne_true)]
  show (if _ then PySem.W.subIn K (.ref (cA K i)) (.type T) else none) = _
  rw [if_pos m, sub_line l]
  rfl
theorem kit_pair (u : upB K = true) (c : (List.range 36).all (clB K) = true) {i j : Nat} (hi : i < 33) (hj : j < 33) (l : lineB K i = true) : PySem.W.kitOne K (.ref (cA K i)) (.ref (cA K j)) = some (eqb i j) := by
  rw [cA_eq hj, kit_ref u c hi (ci_lt hj) l]
  congr 1
  unfold eqb
  rw [decide_eq_decide]
  unfold ci bi
  split <;> split <;> (try split) <;> (try split) <;> omega
theorem kit_base (u : upB K = true) (c : (List.range 36).all (clB K) = true) {i : Nat} (hi : i < 33) (l : lineB K i = true) :
    PySem.W.kitOne K (.ref (cA K i)) (.ref (He.ga K "ShapeError")) = some (decide (i < 17)) ∧ PySem.W.kitOne K (.ref (cA K i)) (.ref (He.ga K "StateError")) = some (decide (16 < i) && decide (i < 27)) ∧ PySem.W.kitOne K (.ref (cA K i)) (.ref (He.ga K "SizeError")) = some (decide (26 < i)) := by
  refine ⟨(kit_ref u c hi (k := 0) (by decide) l).trans ?_, (kit_ref u c hi (k := 18) (by decide) l).trans ?_, (kit_ref u c hi (k := 29) (by decide) l).trans ?_⟩
  · congr 1
    rw [decide_eq_decide]
    unfold ci bi
    split <;> (try split) <;> omega
  · congr 1
    rw [← Bool.decide_and, decide_eq_decide]
    unfold ci bi
    split <;> (try split) <;> omega
  · congr 1
    rw [decide_eq_decide]
    unfold ci bi
    split <;> (try split) <;> omega
theorem kit_made {i : Nat} (hi : i < 33) (l : lineB K i = true) :
    PySem.W.kitOne K (.ref (cA K i)) (.type "ValueError") = some (decide (i < 17)) ∧ PySem.W.kitOne K (.ref (cA K i)) (.type "LookupError") = some (decide (16 < i) && decide (i < 27)) ∧ PySem.W.kitOne K (.ref (cA K i)) (.type "ArithmeticError") = some (decide (26 < i)) := by
  refine ⟨(kit_type hi l (by kernel_rfl)).trans ?_, (kit_type hi l (by kernel_rfl)).trans ?_, (kit_type hi l (by kernel_rfl)).trans ?_⟩
  all_goals
    unfold tE bE
    rcases Nat.lt_or_ge i 17 with z | z
    · rw [if_pos z]
      first
        | rw [decide_eq_false (by omega : ¬ 16 < i), Bool.false_and]
        | rw [decide_eq_true z]
        | rw [decide_eq_false (by omega : ¬ 26 < i)]
      rfl
    · rw [if_neg (by omega : ¬ i < 17)]
      rcases Nat.lt_or_ge i 27 with y | y
      · rw [if_pos y]
        first
          | rw [decide_eq_true (by omega : 16 < i), decide_eq_true y]
          | rw [decide_eq_false (by omega : ¬ i < 17)]
          | rw [decide_eq_false (by omega : ¬ 26 < i)]
        rfl
      · rw [if_neg (by omega : ¬ i < 27)]
        first
          | rw [decide_eq_false (by omega : ¬ i < 27), Bool.and_false]
          | rw [decide_eq_false (by omega : ¬ i < 17)]
          | rw [decide_eq_true (by omega : 26 < i)]
        rfl
theorem line_base {i : Nat} (l : lineB K i = true) : PySem.W.subIn K (.ref (cA K i)) (.type "BaseException") = some true ∧ PySem.W.mroIn K (cA K i) (.type "object") = some true := by
  refine ⟨(sub_line l _).trans ?_, (sub_line l _).trans ?_⟩
  all_goals
    unfold lineE tE bE
    split
    · rfl
    · split <;> rfl
end
end KX

namespace KX
open PySem L2 PyProof.Rows
section
variable {base : Heap} {P : Program} {w : World} {K : PySem.W.Frag} {mg : Str → Option Value}

/-! ### _law_cell -/
abbrev s_cell : Stmt := top 62
abbrev N_cell : List Str := ["_law_script", "_law_k", "_law_state", "_law_cell_here"]
abbrev P_cell : List Str := ["_law_script", "_law_k"]
theorem sc_cell : FnScope N_cell P_cell (defScope s_cell) := ⟨rfl, rfl, rfl, by decide +kernel, rfl, by decide +kernel, by decide +kernel⟩
def spCell (K : PySem.W.Frag) : Sp := fun vs H Q _ => ∃ (a : Addr) (ns : List Int) (k : Int), vs = [.ref a, .int k] ∧ SqL K H a (ns.map V.int) ∧ ns.length ≤ 63 ∧ 0 ≤ k ∧ k ≤ 63 ∧ ∀ (H' : Hp) (i : Int), Same H H' → Q (.int i) H'
theorem int_item {ns : List Int} {i : Nat} {x : V} (h : (ns.map V.int)[i]? = some x) : ∃ z, x = .int z := by
  rw [List.getElem?_map] at h
  cases e : ns[i]? with
  | none => rw [e] at h; cases h
  | some z => rw [e] at h; exact ⟨z, (Option.some.inj h).symm⟩
theorem cutV_int {ns : List Int} {lo hi : Option Int} : ∃ ms : List Int, cutV (ns.map V.int) lo hi = ms.map V.int := by
  unfold cutV
  rw [← List.map_drop, ← List.map_take]
  exact ⟨_, rfl⟩
theorem ok_cell {f : Addr} {fd : FuncData} (F : Fun K "_law_cell" "_law_cell" s_cell f fd) (T : Bl mg) : FnOk P w K mg base CX0 1 f fd P_cell (spCell K) := by
  refine F.ok sc_cell (fun vs H Q E h => ?_) (fun cdv A outer s H vs Q E hr h => ?_)
  · obtain ⟨a, ns, k, rfl, _⟩ := h
    rfl
  obtain ⟨a, ns, k, rfl, hS, h63, h0, h1, q⟩ := h
  have hl : (ns.map V.int).length = ns.length := List.length_map _
  refine ⟨_, (pss_cons (ps_if (pt_cmpR op_lt (pv 1) (pe_callB (call_lenK K rfl) (by rfl) T.len PySem.boot_len (pa_cons (pv 0) pa_nil)) (nomark _))
      (pss_one (ps_ret (pe_ix (ix_listK K rfl) (pv 0) (pv 1) (fun _ _ => rfl))))
      pss_nil)
    (pss_cons (ps_set (i := 2) sc_cell.nd rfl (Or.inl rfl) (pe_op op_mod (pe_op op_mul pe_int (pe_op op_add (pe_op op_add (pe_op op_mul (pv 1) (pv 1)) (pe_op op_mul pe_int (pv 1))) pe_int)) pe_int))
    (pss_cons (ps_for PassesOwn.never rfl (pi_list (pe_slice (sl_listK K rfl) (pv 0) po_none (po_some pe_int))) (pg_name (i := 3) sc_cell.nd rfl (Or.inl rfl))
      (pss_one (ps_set (i := 2) sc_cell.nd rfl (Or.inl rfl) (pe_op op_mod (pe_op op_add (pe_op op_mul (pv 2) pe_int) (pv 3)) pe_int))))
    (pss_one (ps_ret (pv 2)))))), ?_⟩
  refine ⟨_, rfl, _, rfl, .ref a, ns.length, rfl, .inl ⟨_, hS, hl.symm⟩, _, _, rfl, rfl, _, rfl, ?_⟩
  refine ite2 (fun c => ?_) (fun c => ?_)
  · have c' : k < (ns.length : Int) := of_decide_eq_true c
    have hk : k.toNat < ns.length := by omega
    have ek : k = ((k.toNat : Nat) : Int) := by omega
    refine ⟨_, rfl, _, rfl, a, _, k, _, rfl, rfl, hS, at_of (v := .int ns[k.toNat]) ek ?_, ?_⟩
    · rw [List.getElem?_map, List.getElem?_eq_getElem hk] <;> rfl
    · exact q H _ (Same.refl H)
  · refine ⟨_, rfl, _, rfl, _, _, rfl, rfl, .inl ⟨by omega, by omega⟩, _, rfl, _, _, rfl, rfl, .inl ⟨by decide, by decide⟩, _, _, rfl, rfl, _, _, rfl, rfl, _, _, rfl, rfl, .inl ⟨by decide, by decide⟩, _, _, rfl, rfl, (by show (0 : Int) < 1000000007; decide), ?_⟩
    refine ⟨_, rfl, _, rfl, a, _, rfl, hS, fun p hp => ?_⟩
    obtain ⟨ms, hms⟩ := cutV_int (ns := ns) (lo := none) (hi := some 3)
    rw [hms]
    refine ⟨p, rfl, ⟨_, SqL.of upd_same⟩, for_list (K := K) (a := p) (xs := ms.map V.int) (fun i σ H' => ∃ (z : Int) (v : Option V), σ = [some (.ref a), some (.int k), some (.int z), v] ∧ 0 ≤ z ∧ z < 1000000007 ∧ H' = upd H p (.lst (ms.map V.int)))
      ⟨_, none, rfl, by omega, by omega, rfl⟩ (fun i σ H' _ ⟨_, _, _, _, _, e⟩ => by rw [e]; exact SqL.of upd_same) ?_ ?_⟩
    · rintro i x σ H' hx ⟨z, v, rfl, z0, z1, rfl⟩
      obtain ⟨y, rfl⟩ := int_item hx
      refine ⟨_, rfl, _, _, rfl, rfl, .inl ⟨by omega, by omega⟩, _, rfl, _, _, rfl, rfl, _, _, rfl, rfl, (by show (0 : Int) < 1000000007; decide), ?_⟩
      exact ⟨_, _, rfl, by omega, by omega, rfl⟩
    · rintro σ H' ⟨z, v, rfl, z0, z1, rfl⟩
      exact ⟨_, rfl, q _ _ (same_new hp _)⟩

/-! ### _law_pool -/
abbrev s_pool : Stmt := top 63
abbrev N_pool : List Str := ["_law_cell_here", "_law_digits"]
abbrev P_pool : List Str := ["_law_cell_here"]
theorem sc_pool : FnScope N_pool P_pool (defScope s_pool) := ⟨rfl, rfl, rfl, by decide +kernel, rfl, by decide +kernel, by decide +kernel⟩
def spPool : Sp := fun vs H Q _ => ∃ i : Int, vs = [.int i] ∧ ∀ (H' : Hp) (p : Addr), H p = none → Same H H' → PoolAt H' p → Q (.ref p) H'
theorem ok_pool {f : Addr} {fd : FuncData} (F : Fun K "_law_pool" "_law_pool" s_pool f fd) (T : Bl mg) : FnOk P w K mg base CX0 1 f fd P_pool spPool := by
  refine F.ok sc_pool (fun vs H Q E h => ?_) (fun cdv A outer s H vs Q E hr h => ?_)
  · obtain ⟨i, rfl, _⟩ := h
    rfl
  obtain ⟨i, rfl, q⟩ := h
  refine ⟨_, (pss_cons (ps_set (i := 1) sc_pool.nd rfl (Or.inl rfl) pe_int)
    (pss_cons (ps_if (PW.pt (pw_or (pt_cmpR op_lt (pv 0) pe_int (nomark _)) (pw_or1 (pt_cmpR op_ge (pv 0) (pe_op op_pow pe_int pe_int) (nomark _)))))
      (pss_one (ps_set (i := 1) sc_pool.nd rfl (Or.inl rfl) (pe_callB call_abs (by rfl) T.abs (by decide +kernel) (pa_cons (pv 0) pa_nil))))
      pss_nil)
    (pss_one (ps_ret (pe_lst (pa_cons (pe_op op_mod (pv 0) pe_int) (pa_cons (pv 1) (pa_cons pe_int pa_nil)))))))), ?_⟩
  have fin : ∀ d : Int, 0 ≤ d → ∀ p, H p = none → Q (.ref p) (upd H p (.lst [.int (i % 1000000007), .int d, .int 0])) := fun d hd p hp =>
    q _ p hp (same_new hp _) ⟨_, _, _, upd_same, by omega, by omega, hd⟩
  refine ⟨_, rfl, _, _, rfl, rfl, _, rfl, ?_⟩
  refine ite2 (fun c => ?_) (fun c => ?_)
  · have c' : i < 0 := of_decide_eq_true c
    refine iteT ⟨_, rfl, _, rfl, ?_⟩
    refine ⟨_, rfl, _, _, rfl, rfl, (by show (0 : Int) < 1000000007; decide), _, rfl, (by show 3 ≤ sizeLine; decide), fun p hp => fin _ (by split <;> omega) p hp⟩
  · have c' : ¬ i < 0 := of_decide_eq_false (Bool.eq_false_iff.mpr c)
    refine ⟨_, rfl, _, _, rfl, rfl, ⟨by decide, by decide, by decide⟩, _, _, rfl, rfl, _, rfl, ?_⟩
    refine ite2 (fun c2 => ?_) (fun c2 => ?_)
    · refine ⟨_, rfl, _, rfl, ?_⟩
      refine ⟨_, rfl, _, _, rfl, rfl, (by show (0 : Int) < 1000000007; decide), _, rfl, (by show 3 ≤ sizeLine; decide), fun p hp => fin _ (by split <;> omega) p hp⟩
    · exact ⟨_, rfl, _, _, rfl, rfl, (by show (0 : Int) < 1000000007; decide), _, rfl, (by show 3 ≤ sizeLine; decide), fun p hp => fin _ (by omega) p hp⟩

/-! ### _law_draw -/
abbrev s_draw : Stmt := top 64
abbrev N_draw : List Str := ["_law_pool_here", "_law_many", "_law_state", "_law_digit"]
abbrev P_draw : List Str := ["_law_pool_here", "_law_many"]
theorem sc_draw : FnScope N_draw P_draw (defScope s_draw) := ⟨rfl, rfl, rfl, by decide +kernel, rfl, by decide +kernel, by decide +kernel⟩
def spDraw : Sp := fun vs H Q _ => ∃ (p : Addr) (m : Int), vs = [.ref p, .int m] ∧ PoolAt H p ∧ 0 < m ∧ m < 1073741824 ∧ ∀ (H' : Hp) (r : Int), Keep p H H' → PoolAt H' p → 0 ≤ r → r < m → Q (.int r) H'
theorem ok_draw {f : Addr} {fd : FuncData} (F : Fun K "_law_draw" "_law_draw" s_draw f fd) (T : Bl mg) : FnOk P w K mg base CX0 1 f fd P_draw spDraw := by
  refine F.ok sc_draw (fun vs H Q E h => ?_) (fun cdv A outer s H vs Q E hr h => ?_)
  · obtain ⟨p, m, rfl, _⟩ := h
    rfl
  obtain ⟨p, m, rfl, ⟨st, d, c, hp, s0, s1, d0⟩, m0, m1, q⟩ := h
  refine ⟨_, (pss_cons (ps_asg (pe_op op_add (pe_ix (ix_listK K rfl) (pv 0) pe_int (fun _ _ => rfl)) pe_int) (pg_sub (pv 0) pe_int set_list))
    (pss_cons (ps_set (i := 2) sc_draw.nd rfl (Or.inl rfl) (pe_ix (ix_listK K rfl) (pv 0) pe_int (fun _ _ => rfl)))
    (pss_cons (ps_asg (pe_op op_mod (pe_op op_add (pe_op op_add (pe_op op_mul (pv 2) (pe_op op_add (pe_op op_mod (pv 2) pe_int) pe_int)) (pe_op op_mul pe_int (pe_ix (ix_listK K rfl) (pv 0) pe_int (fun _ _ => rfl)))) pe_int) pe_int) (pg_sub (pv 0) pe_int set_list))
    (pss_cons (ps_if (pt_cmpR op_gt (pe_ix (ix_listK K rfl) (pv 0) pe_int (fun _ _ => rfl)) pe_int (nomark _))
      (pss_cons (ps_asg (pe_callB call_divmod (by rfl) T.divmod (by decide +kernel) (pa_cons (pe_ix (ix_listK K rfl) (pv 0) pe_int (fun _ _ => rfl)) (pa_cons (pv 1) pa_nil))) (pg_tup rfl (pgs_cons (pg_sub (pv 0) pe_int set_list) (pgs_cons (pg_name (i := 3) sc_draw.nd rfl (Or.inl rfl)) pgs_nil))))
    (pss_one (ps_ret (pv 3))))
      pss_nil)
    (pss_one (ps_ret (pe_op op_mod (pe_op op_fdiv (pe_ix (ix_listK K rfl) (pv 0) pe_int (fun _ _ => rfl)) pe_int) (pv 1)))))))), ?_⟩
  have at0 : ∀ {x y z : V}, atI [x, y, z] 0 = some x := fun {x y z} => rfl
  have at1 : ∀ {x y z : V}, atI [x, y, z] 1 = some y := fun {x y z} => rfl
  have at2 : ∀ {x y z : V}, atI [x, y, z] 2 = some z := fun {x y z} => rfl
  refine ⟨_, rfl, p, _, _, _, rfl, rfl, SqL.of hp, at2, _, _, rfl, rfl, _, rfl, p, _, _, 2, rfl, rfl, hp, rfl, ?_⟩
  have e1 : (upd H p (.lst ([V.int st, .int d, .int c].set 2 (.int (c + 1))))) p = some (.lst [.int st, .int d, .int (c + 1)]) := upd_same
  generalize hH1 : upd H p (.lst ([V.int st, .int d, .int c].set 2 (.int (c + 1)))) = H1 at e1 ⊢
  have k1 : Keep p H H1 := by rw [← hH1]; exact Keep.self
  refine ⟨_, rfl, p, _, _, _, rfl, rfl, SqL.of e1, at0, ?_⟩
  refine ⟨_, rfl, _, rfl, _, _, rfl, rfl, (by show (0 : Int) < 46007; decide), _, _, rfl, rfl, _, _, rfl, rfl, .inl ⟨by omega, by omega⟩, ?_⟩
  refine ⟨_, rfl, p, _, _, _, rfl, rfl, SqL.of e1, at2, _, _, rfl, rfl, .inl ⟨by decide, by decide⟩, _, _, rfl, rfl, _, _, rfl, rfl, _, _, rfl, rfl, (by show (0 : Int) < 1000000007; decide), ?_⟩
  generalize hz : (st * (st % 46007 + 20011) + 60013 * (c + 1) + 5) % 1000000007 = z
  have z0 : 0 ≤ z := by omega
  have z1 : z < 1000000007 := by omega
  refine ⟨_, rfl, p, _, _, 0, rfl, rfl, e1, rfl, ?_⟩
  generalize hH2 : upd H1 p _ = H2
  have e2 : H2 p = some (.lst [.int z, .int d, .int (c + 1)]) := by rw [← hH2, ← hz]; exact upd_same
  have k2 : Keep p H H2 := k1.trans (by rw [← hH2]; exact Keep.self)
  refine ⟨_, rfl, p, _, _, _, rfl, rfl, SqL.of e2, at1, _, _, rfl, rfl, _, rfl, ?_⟩
  refine ite2 (fun cc => ?_) (fun cc => ?_)
  · refine ⟨_, rfl, p, _, _, _, rfl, rfl, SqL.of e2, at1, _, rfl, _, _, rfl, ⟨m0, by omega⟩, fun t ht => ?_⟩
    have npt : p ≠ t := ne_of_none e2 ht
    refine ⟨t, _, rfl, SqT.of upd_same, rfl, _, _, rfl, _, rfl, p, _, _, 1, rfl, rfl, (by rw [upd_ne npt]; exact e2), rfl, ?_⟩
    refine ⟨_, _, rfl, rfl, _, rfl, ?_⟩
    refine q _ _ (k2.trans ((Keep.new ht _).trans Keep.self)) ⟨_, _, _, upd_same, z0, z1, ?_⟩ (Int.emod_nonneg _ (by omega)) (Int.emod_lt_of_pos _ m0)
    exact Int.ediv_nonneg d0 (by omega)
  · refine ⟨_, rfl, p, _, _, _, rfl, rfl, SqL.of e2, at0, _, _, rfl, rfl, ⟨by decide, by decide⟩, _, rfl, _, _, rfl, rfl, m0, ?_⟩
    exact q _ _ k2 ⟨_, _, _, e2, z0, z1, d0⟩ (Int.emod_nonneg _ (by omega)) (Int.emod_lt_of_pos _ m0)
end
end KX

namespace KX
open PySem L2 PyProof.Rows
/-! ### texts as lists of codes -/
abbrev ql (x : Str) : List Nat := x.cps.toList
theorem ql_len (x : Str) : x.length = (ql x).length := by simp [Str.length]
theorem ql_ext {a b : Str} (h : ql a = ql b) : a = b := Str.ext' (Array.toList_inj.mp h)
theorem ql_app (x y : Str) : ql (x ++ y) = ql x ++ ql y := TL.tl_append x y
theorem ql_one (c : Nat) : ql ⟨#[c]⟩ = [c] := rfl
/-- a name: one to twelve small letters -/
def IsNm (z : Str) : Prop := 1 ≤ z.length ∧ z.length ≤ 12 ∧ ∀ c ∈ ql z, 97 ≤ c ∧ c ≤ 122
def isNmB (z : Str) : Bool := decide (1 ≤ z.length) && decide (z.length ≤ 12) && (ql z).all fun c => decide (97 ≤ c) && decide (c ≤ 122)
theorem isNm_of {z : Str} (h : isNmB z = true) : IsNm z := by
  unfold isNmB at h
  simp only [Bool.and_eq_true, decide_eq_true_eq, List.all_eq_true] at h
  exact ⟨h.1.1, h.1.2, fun c hc => h.2 c hc⟩
/-- text * int -/
def repS (z : Str) (n : Nat) : Str := ⟨(List.replicate n (ql z)).flatten.toArray⟩
theorem ql_rep (z : Str) (n : Nat) : ql (repS z n) = (List.replicate n (ql z)).flatten := rfl
theorem foldl_app (a : Array Nat) : ∀ (n : Nat) (acc : Array Nat), ((List.replicate n a).foldl (· ++ ·) acc).toList = acc.toList ++ (List.replicate n a.toList).flatten
  | 0, acc => by simp
  | n + 1, acc => by
    rw [List.replicate_succ, List.replicate_succ, List.foldl_cons, foldl_app a n, List.flatten_cons, Array.toList_append, List.append_assoc]
section
variable {X : Cx}
theorem op_mulS : OpR X (binaryOp .Mult) (fun x y H Q => ∃ (z : Str) (n : Int), x = .str z ∧ y = .int n ∧ 1 ≤ n ∧ n ≤ 1000 ∧ 1 ≤ z.length ∧ z.length ≤ 1000 ∧ Q (.str (repS z n.toNat)) H) := by
  intro pins s σ H x y v u Q I rx ry h
  obtain ⟨z, n, rfl, rfl, n1, n2, z1, z2, q⟩ := h
  obtain ⟨t, rfl⟩ := rx
  obtain ⟨t', rfl⟩ := ry
  have hs : sizeLine = 16777216 := sizeLine_eq
  have e1 : decide (n < -(2 ^ 63 : Int)) = false := decide_eq_false (by omega)
  have e2 : decide (n ≥ 2 ^ 63) = false := decide_eq_false (by omega)
  have hmul : z.length * n.toNat ≤ 1000 * 1000 := Nat.mul_le_mul z2 (by omega)
  have hz : (z.length == 0) = false := by
    rw [beq_eq_false_iff_ne]
    omega
  refine P.mul_str (by rw [e1, e2]; rfl) (fun _ _ => ?_) (fun _ _ => ?_) ?_
  · have : (1000 : Int) ≤ (2 ^ 63 - 1) / n := by
      refine (Int.le_ediv_iff_mul_le (by omega)).mpr ?_
      omega
    omega
  · show decide (z.length * n.toNat > sizeLine) = false
    exact decide_eq_false (by omega)
  · rw [if_neg (by omega), hz, Bool.or_false]
    by_cases h1 : n = 1
    · subst h1
      rw [if_pos (by rfl)]
      have e : repS z (Int.toNat 1) = z := ql_ext (by rw [ql_rep]; simp)
      rw [e] at q
      exact ⟨.str z, H, I, ⟨t, rfl⟩, q⟩
    · have hb : (n == 1) = false := beq_eq_false_iff_ne.mpr h1
      rw [hb, if_neg Bool.false_ne_true]
      have e : (⟨(List.replicate n.toNat z.cps).foldl (· ++ ·) #[]⟩ : Str) = repS z n.toNat := ql_ext (by
        show ((List.replicate n.toNat z.cps).foldl (· ++ ·) #[]).toList = _
        rw [foldl_app]
        rfl)
      rw [e]
      refine ⟨?_, .str _, H, I.tok _, ⟨_, rfl⟩, q⟩
      have el : (repS z n.toNat).length = n.toNat * z.length := by
        rw [ql_len, ql_rep, List.length_flatten, List.map_replicate, List.sum_replicate_nat, ← ql_len]
      show (repS z n.toNat).length ≤ sizeLine
      rw [el, Nat.mul_comm]
      omega
end
end KX

namespace KX
open PySem L2 PyProof.Rows
/-! ### the mathematics of the names -/
def menuW : List Str := ["data", "href", "text", "part", "page", "use", "for", "end", "else", "slot", "size", "has", "sum", "equal", "name", "x", "y", "items", "id", "link", "null", "by", "let", "if"]
theorem menuW_len : menuW.length = 24 := rfl
theorem menuW_nd : menuW.Nodup := by decide +kernel
theorem menuW_nm : ∀ z ∈ menuW, IsNm z := by
  have h : menuW.all isNmB = true := by decide +kernel
  exact fun z hz => isNm_of (List.all_eq_true.mp h z hz)
def alpha : Str := "abcdefghijklmnopqrstuvwxyz"
theorem alpha_ql : ql alpha = (List.range 26).map (· + 97) := by decide +kernel
theorem alpha_at {j : Int} (h0 : 0 ≤ j) (h1 : j < 26) : atI alpha.cps.toList j = some (97 + j.toNat) := by
  have e : (ql alpha)[j.toNat]? = some (97 + j.toNat) := by
    rw [alpha_ql, List.getElem?_map, List.getElem?_range (by omega)]
    exact congrArg some (Nat.add_comm _ _)
  have ej : j = ((j.toNat : Nat) : Int) := by omega
  rw [ej]
  exact atI_nat e
/-- names that differ -/
def Names (zs : List Str) : Prop := zs.Nodup ∧ ∀ z ∈ zs, IsNm z
theorem nodup_map_range {α : Type} {n : Nat} {g : Nat → α} (h : ∀ i j, i < j → j < n → g i ≠ g j) : ((List.range n).map g).Nodup := by
  unfold List.Nodup
  rw [List.pairwise_map]
  have hp : (List.range n).Pairwise (· < ·) := List.pairwise_lt_range
  refine List.Pairwise.imp_of_mem (fun {a b} ha hb hab => ?_) hp
  exact h a b hab (List.mem_range.mp hb)
/-- 0 -/
def g0 (b : Int) (k : Nat) : Str := menuW.getD ((b + 5 * (k : Int)) % 24).toNat ""
theorem names0 {b : Int} (h0 : 0 ≤ b) (h1 : b < 24) {n : Nat} (hn : n ≤ 24) : Names ((List.range n).map (g0 b)) := by
  refine ⟨nodup_map_range fun i j hij hj e => ?_, fun z hz => ?_⟩
  · have hi' : ((b + 5 * (i : Int)) % 24).toNat < menuW.length := by rw [menuW_len]; omega
    have hj' : ((b + 5 * (j : Int)) % 24).toNat < menuW.length := by rw [menuW_len]; omega
    unfold g0 at e
    rw [List.getD_eq_getElem?_getD, List.getD_eq_getElem?_getD, List.getElem?_eq_getElem hi', List.getElem?_eq_getElem hj'] at e
    have q := (List.getElem_inj menuW_nd).mp (show menuW[((b + 5 * (i : Int)) % 24).toNat] = menuW[((b + 5 * (j : Int)) % 24).toNat] from e)
    omega
  · obtain ⟨k, hk, rfl⟩ := List.mem_map.mp hz
    have hk' : ((b + 5 * (k : Int)) % 24).toNat < menuW.length := by rw [menuW_len]; omega
    refine menuW_nm _ ?_
    unfold g0
    rw [List.getD_eq_getElem?_getD, List.getElem?_eq_getElem hk']
    exact List.getElem_mem hk'
/-- 1 -/
def g1 (b : Int) (k : Nat) : Str := repS ⟨#[97 + ((b + 7 * (k : Int)) % 26).toNat]⟩ (1 + (k : Int) % 12).toNat
theorem names1 {b : Int} (h0 : 0 ≤ b) (h1 : b < 24) {n : Nat} (hn : n ≤ 24) : Names ((List.range n).map (g1 b)) := by
  have e1 : ∀ k, ql (g1 b k) = List.replicate (1 + (k : Int) % 12).toNat (97 + ((b + 7 * (k : Int)) % 26).toNat) := fun k => by
    unfold g1
    rw [ql_rep]
    show (List.replicate _ [_]).flatten = _
    rw [List.flatten_replicate_singleton]
  refine ⟨nodup_map_range fun i j hij hj e => ?_, fun z hz => ?_⟩
  · have q : ql (g1 b i) = ql (g1 b j) := by rw [e]
    rw [e1, e1] at q
    have hd : (List.replicate (1 + (i : Int) % 12).toNat (97 + ((b + 7 * (i : Int)) % 26).toNat)).head? = (List.replicate (1 + (j : Int) % 12).toNat (97 + ((b + 7 * (j : Int)) % 26).toNat)).head? := by rw [q]
    rw [List.head?_replicate, List.head?_replicate, if_neg (by omega), if_neg (by omega)] at hd
    have := Option.some.inj hd
    omega
  · obtain ⟨k, hk, rfl⟩ := List.mem_map.mp hz
    refine ⟨?_, ?_, fun c hc => ?_⟩
    · rw [ql_len, e1, List.length_replicate]
      omega
    · rw [ql_len, e1, List.length_replicate]
      omega
    · rw [e1] at hc
      have := List.eq_of_mem_replicate hc
      omega
/-- 2 -/
def g2 (stem : Str) (a b : Int) (k : Nat) : Str := cutS stem none (some a) ++ ⟨#[97 + ((b + 5 * (k : Int)) % 26).toNat]⟩ ++ cutS stem (some a) none
theorem ql_cut_to {z : Str} {a : Int} (h0 : 0 ≤ a) (h1 : a ≤ (z.length : Int)) : ql (cutS z none (some a)) = (ql z).take a.toNat := by
  have e : a = ((a.toNat : Nat) : Int) := by omega
  show ((z.cps.toList.drop (HT.sIx z.length 0 none)).take (HT.sIx z.length z.length (some a) - HT.sIx z.length 0 none)) = _
  rw [HT.sIx_none, e, HT.sIx_nat, List.drop_zero, Nat.sub_zero, Int.toNat_natCast, Nat.min_eq_left (by omega)]
theorem ql_cut_from {z : Str} {a : Int} (h0 : 0 ≤ a) (h1 : a ≤ (z.length : Int)) : ql (cutS z (some a) none) = (ql z).drop a.toNat := by
  have e : a = ((a.toNat : Nat) : Int) := by omega
  show ((z.cps.toList.drop (HT.sIx z.length 0 (some a))).take (HT.sIx z.length z.length none - HT.sIx z.length 0 (some a))) = _
  rw [HT.sIx_none, e, HT.sIx_nat, Int.toNat_natCast, Nat.min_eq_left (by omega)]
  have hl := ql_len z
  exact List.take_of_length_le (by rw [List.length_drop]; show (ql z).length - _ ≤ _; omega)
theorem ql_g2 {stem : Str} {a b : Int} (h0 : 0 ≤ a) (h1 : a ≤ (stem.length : Int)) (k : Nat) : ql (g2 stem a b k) = (ql stem).take a.toNat ++ [97 + ((b + 5 * (k : Int)) % 26).toNat] ++ (ql stem).drop a.toNat := by
  unfold g2
  rw [ql_app, ql_app, ql_cut_to h0 h1, ql_cut_from h0 h1]
theorem len_g2 {stem : Str} {a b : Int} (h0 : 0 ≤ a) (h1 : a ≤ (stem.length : Int)) (k : Nat) : (g2 stem a b k).length = stem.length + 1 := by
  have hl := ql_len stem
  rw [ql_len, ql_g2 h0 h1, List.length_append, List.length_append, List.length_take, List.length_drop, List.length_singleton, ql_len]
  omega
theorem g2_ne {stem : Str} {a b : Int} (h0 : 0 ≤ a) (h1 : a ≤ (stem.length : Int)) {i j : Nat} (hij : i < j) (hj : j < 24) : g2 stem a b i ≠ g2 stem a b j := fun e => by
  have q : ql (g2 stem a b i) = ql (g2 stem a b j) := by rw [e]
  rw [ql_g2 h0 h1, ql_g2 h0 h1] at q
  have q1 := List.append_inj_left q (by simp)
  have q2 := List.append_cancel_left q1
  have q3 := List.singleton_inj.mp q2
  omega
theorem g2_nm {stem : Str} {a b : Int} (h0 : 0 ≤ a) (h1 : a ≤ (stem.length : Int)) (hs : stem.length ≤ 11) (hc : ∀ c ∈ ql stem, 97 ≤ c ∧ c ≤ 122) (k : Nat) : IsNm (g2 stem a b k) := by
  refine ⟨by rw [len_g2 h0 h1]; omega, by rw [len_g2 h0 h1]; omega, fun c h => ?_⟩
  rw [ql_g2 h0 h1] at h
  rcases List.mem_append.mp h with h | h
  · rcases List.mem_append.mp h with h | h
    · exact hc c (List.mem_of_mem_take h)
    · have := List.mem_singleton.mp h
      omega
  · exact hc c (List.mem_of_mem_drop h)
/-- true, false, self are put aside -/
def g3 (z : Str) : Str := if z = "true" ∨ z = "false" ∨ z = "self" then z ++ "x" else z
theorem g3_nm {z : Str} (h : IsNm z) : IsNm (g3 z) := by
  unfold g3
  by_cases c : z = "true" ∨ z = "false" ∨ z = "self"
  · rw [if_pos c]
    rcases c with rfl | rfl | rfl <;> exact isNm_of (by decide +kernel)
  · rw [if_neg c]
    exact h
theorem g3_ne {y z : Str} (hl : y.length = z.length) (h : y ≠ z) : g3 y ≠ g3 z := fun e => by
  have l1 : ∀ x : Str, (x ++ "x").length = x.length + 1 := fun x => by rw [ql_len, ql_app, List.length_append, ← ql_len]; rfl
  unfold g3 at e
  by_cases cy : y = "true" ∨ y = "false" ∨ y = "self"
  · by_cases cz : z = "true" ∨ z = "false" ∨ z = "self"
    · rw [if_pos cy, if_pos cz] at e
      have q : ql (y ++ "x") = ql (z ++ "x") := by rw [e]
      rw [ql_app, ql_app] at q
      exact h (ql_ext (List.append_cancel_right q))
    · rw [if_pos cy, if_neg cz] at e
      have := congrArg Str.length e
      rw [l1] at this
      omega
  · by_cases cz : z = "true" ∨ z = "false" ∨ z = "self"
    · rw [if_neg cy, if_pos cz] at e
      have := congrArg Str.length e
      rw [l1] at this
      omega
    · rw [if_neg cy, if_neg cz] at e
      exact h e
theorem names2 {stem : Str} {a b : Int} (h0 : 0 ≤ a) (h1 : a ≤ (stem.length : Int)) (hs : stem.length ≤ 11) (hc : ∀ c ∈ ql stem, 97 ≤ c ∧ c ≤ 122) {n : Nat} (hn : n ≤ 24) : Names ((List.range n).map fun k => g3 (g2 stem a b k)) := by
  refine ⟨nodup_map_range fun i j hij hj => g3_ne (by rw [len_g2 h0 h1, len_g2 h0 h1]) (g2_ne h0 h1 hij (by omega)), fun z hz => ?_⟩
  obtain ⟨k, _, rfl⟩ := List.mem_map.mp hz
  exact g3_nm (g2_nm h0 h1 hs hc k)
/-! ### joined one-letter texts -/
def One (z : Str) : Prop := ∃ c, ql z = [c] ∧ 97 ≤ c ∧ c ≤ 122
theorem one_len {z : Str} (h : One z) : z.length = 1 := by
  obtain ⟨c, e, _⟩ := h
  rw [ql_len, e]
  rfl
theorem sum_len : ∀ {zs : List Str}, (∀ z ∈ zs, One z) → (zs.map (·.length)).sum = zs.length
  | [], _ => rfl
  | z :: r, h => by
    have q := sum_len (zs := r) fun x hx => h x (List.mem_cons_of_mem _ hx)
    rw [List.map_cons, List.sum_cons, q, one_len (h z List.mem_cons_self), List.length_cons]
    omega
theorem joinL_nil : ∀ ls : List (List Nat), TL.joinL [] ls = ls.flatten
  | [] => rfl
  | [p] => by simp [TL.joinL]
  | p :: q :: r => by
    have ih := joinL_nil (q :: r)
    show p ++ ([] ++ TL.joinL [] (q :: r)) = _
    rw [ih]
    rfl
theorem ql_join0 (zs : List Str) : ql (Txt.join "" zs) = (zs.map ql).flatten := by
  rw [TL.join_eq]
  have q := TL.tl_join "" zs
  show TL.tl (Str.join "" zs) = _
  rw [q]
  exact joinL_nil _
theorem stem_len : ∀ {zs : List Str}, (∀ z ∈ zs, One z) → ((zs.map ql).flatten).length = zs.length
  | [], _ => rfl
  | z :: r, h => by
    have q := stem_len (zs := r) fun x hx => h x (List.mem_cons_of_mem _ hx)
    obtain ⟨c, e, _⟩ := h z List.mem_cons_self
    rw [List.map_cons, List.flatten_cons, List.length_append, q, e]
    show 1 + r.length = r.length + 1
    omega
theorem stem_in {zs : List Str} (h : ∀ z ∈ zs, One z) : ∀ c ∈ (zs.map ql).flatten, 97 ≤ c ∧ c ≤ 122 := fun c hc => by
  obtain ⟨l, hl, hc⟩ := List.mem_flatten.mp hc
  obtain ⟨z, hz, rfl⟩ := List.mem_map.mp hl
  obtain ⟨d, e, h1, h2⟩ := h z hz
  rw [e] at hc
  have := List.mem_singleton.mp hc
  omega
theorem inV3 (z a b c : Str) : inV (.str z) [.str a, .str b, .str c] = true ↔ (z = a ∨ z = b ∨ z = c) := by
  show ((a == z) || ((b == z) || ((c == z) || false))) = true ↔ _
  simp only [Bool.or_eq_true, beq_iff_eq, Bool.false_eq_true, or_false]
  constructor
  · rintro (h | h | h)
    · exact .inl h.symm
    · exact .inr (.inl h.symm)
    · exact .inr (.inr h.symm)
  · rintro (h | h | h)
    · exact .inl h.symm
    · exact .inr (.inl h.symm)
    · exact .inr (.inr h.symm)
end KX

namespace KX
open PySem L2 PyProof.Rows
/-- a def of the module that keeps a promise -/
structure Def (P : Program) (w : World) (K : PySem.W.Frag) (mg : Str → Option Value) (base : Heap) (x : Str) (n : Nat) (ps : List Str) (sp : Sp) (f : Addr) (fd : FuncData) : Prop where
  g : mg x = some (.ref f)
  kp : PySem.W.keepIn K (.ref f) = true
  b : Binds K fd ps []
  ok : FnOk P w K mg base CX0 n f fd ps sp
section
variable {base : Heap} {P : Program} {w : World} {K : PySem.W.Frag} {mg : Str → Option Value}
abbrev s_words : Stmt := top 65
abbrev N_words : List Str := ["_law_pool_here", "_law_many", "_law_letters", "_law_menu", "_law_way", "_law_begin", "_law_stem", "_law_at", "_law_found", "_law_k", "_law_word"]
abbrev P_words : List Str := ["_law_pool_here", "_law_many"]
theorem sc_words : FnScope N_words P_words (defScope s_words) := ⟨rfl, rfl, rfl, by decide +kernel, rfl, by decide +kernel, by decide +kernel⟩
def spWords : Sp := fun vs H Q _ => ∃ (p : Addr) (m : Int), vs = [.ref p, .int m] ∧ PoolAt H p ∧ 0 ≤ m ∧ m ≤ 24 ∧
  ∀ (H' : Hp) (r : Addr) (zs : List Str), Keep p H H' → PoolAt H' p → H r = none → H' r = some (.lst (zs.map V.str)) → zs.length = m.toNat → Names zs → Q (.ref r) H'
theorem ok_words {f fdr : Addr} {fd fdd : FuncData} (F : Fun K "_law_words" "_law_words" s_words f fd) (T : Bl mg) (D_draw : Def P w K mg base "_law_draw" 1 P_draw spDraw fdr fdd) : FnOk P w K mg base CX0 2 f fd P_words spWords := by
  refine F.ok sc_words (fun vs H Q E h => ?_) (fun cdv A outer s H vs Q E hr h => ?_)
  · obtain ⟨p, m, rfl, _⟩ := h
    rfl
  obtain ⟨p, m, rfl, hp, m1, m2, q⟩ := h
  refine ⟨_, (pss_cons (ps_set (i := 2) sc_words.nd rfl (Or.inr rfl) pe_str)
    (pss_cons (ps_set (i := 3) sc_words.nd rfl (Or.inr rfl) (pe_lst (pa_cons pe_str (pa_cons pe_str (pa_cons pe_str (pa_cons pe_str (pa_cons pe_str (pa_cons pe_str (pa_cons pe_str (pa_cons pe_str (pa_cons pe_str (pa_cons pe_str (pa_cons pe_str (pa_cons pe_str pa_nil))))))))))))))
    (pss_cons (ps_set (i := 3) sc_words.nd rfl (Or.inr rfl) (pe_op op_cat (pv 3) (pe_lst (pa_cons pe_str (pa_cons pe_str (pa_cons pe_str (pa_cons pe_str (pa_cons pe_str (pa_cons pe_str (pa_cons pe_str (pa_cons pe_str (pa_cons pe_str (pa_cons pe_str (pa_cons pe_str (pa_cons pe_str pa_nil)))))))))))))))
    (pss_cons (ps_asg (pe_tup (pa_cons (pe_call D_draw.ok (hr.mono (by first | decide | omega)) rfl D_draw.g D_draw.kp D_draw.b .nil pass0 (pa_cons (pv 0) (pa_cons pe_int pa_nil))) (pa_cons (pe_call D_draw.ok (hr.mono (by first | decide | omega)) rfl D_draw.g D_draw.kp D_draw.b .nil pass0 (pa_cons (pv 0) (pa_cons pe_int pa_nil))) pa_nil))) (pg_tup rfl (pgs_cons (pg_name (i := 4) sc_words.nd rfl (Or.inl rfl)) (pgs_cons (pg_name (i := 5) sc_words.nd rfl (Or.inr rfl)) pgs_nil))))
    (pss_cons (ps_if (pt_cmpR op_eq (pv 4) pe_int (nomark _))
      (pss_one (ps_ret (pe_lc (own := [("_law_k", 9)]) (g := (gName 9)) (tt := tYes) rfl sc_words.nd (pi_range1 rfl T.range (pa_cons (pv 1) pa_nil)) (blkOk_by (own := [("_law_k", 9)]) (N := N_words) (sc := defScope s_words) (by decide +kernel)) (fun _ _ _ _ _ => (pg_name (i := 9) sc_words.nd rfl (Or.inl rfl))) (fun _ _ _ _ _ => pts_nil) (fun _ _ _ _ _ => (pe_ix (ix_listK K rfl) (pv 3) (pe_op op_mod (pe_op op_add (pv 5) (pe_op op_mul pe_int (pv 9))) pe_int) (fun _ _ => rfl))))))
      pss_nil)
    (pss_cons (ps_if (pt_cmpR op_eq (pv 4) pe_int (nomark _))
      (pss_one (ps_ret (pe_lc (own := [("_law_k", 9)]) (g := (gName 9)) (tt := tYes) rfl sc_words.nd (pi_range1 rfl T.range (pa_cons (pv 1) pa_nil)) (blkOk_by (own := [("_law_k", 9)]) (N := N_words) (sc := defScope s_words) (by decide +kernel)) (fun _ _ _ _ _ => (pg_name (i := 9) sc_words.nd rfl (Or.inl rfl))) (fun _ _ _ _ _ => pts_nil) (fun _ _ _ _ _ => (pe_op op_mulS (pe_ix ix_str (pv 2) (pe_op op_mod (pe_op op_add (pv 5) (pe_op op_mul pe_int (pv 9))) pe_int) (fun _ _ => rfl)) (pe_op op_add pe_int (pe_op op_mod (pv 9) pe_int)))))))
      pss_nil)
    (pss_cons (ps_set (i := 6) sc_words.nd rfl (Or.inr rfl) (pe_join pe_str (pe_lc (own := [("_law_k", 9)]) (g := (gName 9)) (tt := tYes) rfl sc_words.nd (pi_range1 rfl T.range (pa_cons (pe_call D_draw.ok (hr.mono (by first | decide | omega)) rfl D_draw.g D_draw.kp D_draw.b .nil pass0 (pa_cons (pv 0) (pa_cons pe_int pa_nil))) pa_nil)) (blkOk_by (own := [("_law_k", 9)]) (N := N_words) (sc := defScope s_words) (by decide +kernel)) (fun _ _ _ _ _ => (pg_name (i := 9) sc_words.nd rfl (Or.inl rfl))) (fun _ _ _ _ _ => pts_nil) (fun _ _ _ _ _ => (pe_ix ix_str (pv 2) (pe_call D_draw.ok (hr.mono (by first | decide | omega)) rfl D_draw.g D_draw.kp D_draw.b .nil pass0 (pa_cons (pv 0) (pa_cons pe_int pa_nil))) (fun _ _ => rfl))))))
    (pss_cons (ps_set (i := 7) sc_words.nd rfl (Or.inr rfl) (pe_call D_draw.ok (hr.mono (by first | decide | omega)) rfl D_draw.g D_draw.kp D_draw.b .nil pass0 (pa_cons (pv 0) (pa_cons (pe_op op_add (pe_callB (call_lenK K rfl) (by rfl) T.len PySem.boot_len (pa_cons (pv 6) pa_nil)) pe_int) pa_nil))))
    (pss_cons (ps_setLc (i := 8) (own := [("_law_k", 9)]) (g := (gName 9)) (tt := tYes) rfl sc_words.nd rfl rfl (sw_true rfl rfl rfl (by decide +kernel)) (pi_range1 rfl T.range (pa_cons (pv 1) pa_nil)) (blkOk_by (own := [("_law_k", 9)]) (N := N_words) (sc := defScope s_words) (by decide +kernel)) (fun _ _ _ _ _ => (pg_name (i := 9) sc_words.nd rfl (Or.inl rfl))) (fun _ _ _ _ _ => pts_nil) (fun _ _ _ _ _ => (pe_op op_add_str (pe_op op_add_str (pe_slice sl_str (pv 6) po_none (po_some (pv 7))) (pe_ix ix_str (pv 2) (pe_op op_mod (pe_op op_add (pv 5) (pe_op op_mul pe_int (pv 9))) pe_int) (fun _ _ => rfl))) (pe_slice sl_str (pv 6) (po_some (pv 7)) po_none))))
    (pss_one (ps_ret (pe_lc (own := [("_law_word", 10)]) (g := (gName 10)) (tt := tYes) rfl sc_words.nd (pi_list (pv 8)) (blkOk_by (own := [("_law_word", 10)]) (N := N_words) (sc := defScope s_words) (by decide +kernel)) (fun _ _ _ _ _ => (pg_name (i := 10) sc_words.nd rfl (Or.inl rfl))) (fun _ _ _ _ _ => pts_nil) (fun _ _ _ _ _ => (pe_ifExp (pt_cmpR (op_inK K rfl) (pv 10) (pe_lst (pa_cons pe_str (pa_cons pe_str (pa_cons pe_str pa_nil)))) (by with_unfolding_all rfl)) (pe_op op_add_str (pv 10) pe_str) (pv 10))))))))))))))), ?_⟩
  have small : ∀ n : Nat, n ≤ 1000 → n ≤ sizeLine := fun n h => Nat.le_of_lt (small1000 h)
  refine ⟨(by show 12 ≤ sizeLine; decide), fun l1 hl1 => ?_⟩
  refine ⟨_, rfl, (by show 12 ≤ sizeLine; decide), fun l2 hl2 => ?_⟩
  have n12 : l1 ≠ l2 := ne_of_none upd_same hl2
  refine ⟨l1, l2, _, _, rfl, rfl, Eq.trans (upd_ne n12) upd_same, upd_same, (by show 24 ≤ sizeLine; decide), fun l hl => ?_⟩
  generalize hH3 : upd (upd (upd H l1 _) l2 _) l _ = H3
  have e3 : H3 l = some (.lst (menuW.map V.str)) := by rw [← hH3]; exact upd_same
  have s3 : Same H H3 := by rw [← hH3]; exact (same_new hl1 _).trans ((same_new hl2 _).trans (same_new hl _))
  have k3 : Keep p H H3 := Same.keep s3
  have p3 := hp.same s3
  have nlp : l ≠ p := (hp.same ((same_new hl1 _).trans (same_new hl2 _))).ne hl
  clear hH3 hl hl1 hl2 n12
  refine ⟨_, rfl, p, 3, rfl, p3, by decide, by decide, fun H4 r1 k4 p4 a0 a1 => ?_⟩
  refine ⟨_, rfl, p, 24, rfl, p4, by decide, by decide, fun H5 r2 k5 p5 b0 b1 => ?_⟩
  refine ⟨(by show 2 ≤ sizeLine; decide), fun t ht => ?_⟩
  refine ⟨t, _, rfl, SqT.of upd_same, rfl, _, _, rfl, _, _, rfl, rfl, ?_⟩
  generalize hH6 : upd H5 t _ = H6
  have s6 : Same H5 H6 := by rw [← hH6]; exact same_new ht _
  have k6 : Keep p H H6 := k3.trans (k4.trans (k5.trans (Same.keep s6)))
  have p6 := p5.same s6
  have e6 : H6 l = some (.lst (menuW.map V.str)) := s6 _ _ (k5 _ _ nlp (k4 _ _ nlp e3))
  clear hH6 ht k3 p3 e3 k4 p4 k5 p5 s6 s3
  have fin : ∀ (Hx H' : Hp) (D : Addr) (g : Nat → Str), Keep p H Hx → Hx D = none → D ≠ p → Keep p Hx H' → PoolAt H' p → H' D = some (.lst ((List.range m.toNat).map fun k => V.str (g k))) → Names ((List.range m.toNat).map g) → Q (.ref D) H' :=
    fun Hx H' D g k1 n1 nD k2 pp e z => q H' D _ (k1.trans k2) pp (k1.gone nD n1) (by rw [List.map_map]; exact e) (by rw [List.length_map, List.length_range]) z
  have hm : ((m.toNat : Nat) : Int) = m := by omega
  refine ⟨_, rfl, rfl, _, rfl, ?_⟩
  refine ite2 (fun c => ?_) (fun c => ?_)
  · refine ⟨_, rfl, m, rfl, by omega, by omega, fun D hD => ?_⟩
    have nD := p6.ne hD
    refine lc_range (lo := 0) (n := m.toNat) (fun i H' => Keep p H6 H' ∧ PoolAt H' p ∧ H' D = some (.lst ((List.range i).map fun k => V.str (g0 r2 k)))) ⟨Keep.new hD _, p6.upd nD, upd_same⟩ ?_ (fun H' ⟨k7, p7, e7⟩ => fin H6 H' D _ k6 hD nD k7 p7 e7 (names0 b0 b1 (by omega)))
    rintro i H' hi ⟨k7, p7, e7⟩
    refine ⟨rfl, yesT ?_⟩
    refine ⟨_, rfl, _, rfl, _, rfl, _, _, rfl, rfl, .inl ⟨by decide, by decide⟩, _, _, rfl, rfl, _, _, rfl, rfl, (by show (0 : Int) < 24; decide), ?_⟩
    have hj : ((r2 + 5 * (i : Int)) % 24).toNat < menuW.length := by rw [menuW_len]; omega
    refine ⟨l, _, _, .str (g0 r2 i), rfl, rfl, SqL.of (k7 _ _ nlp e6), at_of (j := ((r2 + 5 * (i : Int)) % 24).toNat) (by show (r2 + 5 * (0 + (i : Int))) % 24 = _; omega) ?_, _, e7, ?_, ?_⟩
    · rw [List.getElem?_map, List.getElem?_eq_getElem hj]
      unfold g0
      rw [List.getD_eq_getElem?_getD, List.getElem?_eq_getElem hj]
      rfl
    · rw [List.length_map, List.length_range]
      exact small1000 (by omega)
    · exact ⟨k7.upd hD, p7.upd nD, by rw [upd_same, map_snoc (fun k => V.str (g0 r2 k))]⟩
  · refine ⟨_, rfl, rfl, _, rfl, ?_⟩
    refine ite2 (fun c2 => ?_) (fun c2 => ?_)
    · refine ⟨_, rfl, m, rfl, by omega, by omega, fun D hD => ?_⟩
      have nD := p6.ne hD
      refine lc_range (lo := 0) (n := m.toNat) (fun i H' => Keep p H6 H' ∧ PoolAt H' p ∧ H' D = some (.lst ((List.range i).map fun k => V.str (g1 r2 k)))) ⟨Keep.new hD _, p6.upd nD, upd_same⟩ ?_ (fun H' ⟨k7, p7, e7⟩ => fin H6 H' D _ k6 hD nD k7 p7 e7 (names1 b0 b1 (by omega)))
      rintro i H' hi ⟨k7, p7, e7⟩
      refine ⟨rfl, yesT ?_⟩
      refine ⟨_, rfl, _, rfl, _, rfl, _, _, rfl, rfl, .inl ⟨by decide, by decide⟩, _, _, rfl, rfl, _, _, rfl, rfl, (by show (0 : Int) < 26; decide), ?_⟩
      have z : (0 : Int) + (i : Int) = i := Int.zero_add _
      rw [z]
      refine ⟨alpha, _, _, rfl, rfl, (by show 26 ≤ sizeLine; decide), alpha_at (j := (r2 + 7 * (i : Int)) % 26) (by omega) (by omega), ?_⟩
      refine ⟨_, rfl, _, _, rfl, rfl, (by show (0 : Int) < 12; decide), _, _, rfl, rfl, ?_⟩
      refine ⟨_, _, rfl, rfl, by omega, by omega, (by show 1 ≤ 1; decide), (by show 1 ≤ 1000; decide), _, e7, ?_, ?_⟩
      · rw [List.length_map, List.length_range]
        exact small1000 (by omega)
      · exact ⟨k7.upd hD, p7.upd nD, by rw [upd_same]; exact congrArg (fun x => some (HO.lst x)) (map_snoc (fun k => V.str (g1 r2 k)) i)⟩
    · -- stem
      refine ⟨⟨_, rfl⟩, _, rfl, p, 12, rfl, p6, by decide, by decide, fun H7 r3 k7 p7 c0 c1 => ⟨r3, rfl, by omega, by omega, fun D hD => ?_⟩⟩
      have nD := p7.ne hD
      refine lc_range (lo := 0) (n := r3.toNat) (fun i H' => Keep p H7 H' ∧ PoolAt H' p ∧ ∃ zs : List Str, H' D = some (.lst (zs.map V.str)) ∧ zs.length = i ∧ ∀ z ∈ zs, One z) ⟨Keep.new hD _, p7.upd nD, [], upd_same, rfl, fun z hz => by cases hz⟩ ?_ ?_
      · rintro i H' hi ⟨k8, p8, zs, e8, l8, o8⟩
        refine ⟨rfl, yesT ?_⟩
        refine ⟨_, rfl, _, rfl, p, 26, rfl, p8, by decide, by decide, fun H9 r4 k9 p9 d0 d1 => ?_⟩
        refine ⟨alpha, _, _, rfl, rfl, (by show 26 ≤ sizeLine; decide), alpha_at d0 d1, _, k9 _ _ nD e8, ?_, ?_⟩
        · rw [List.length_map]
          exact small1000 (by omega)
        · refine ⟨(k8.trans k9).upd hD, p9.upd nD, zs ++ [⟨#[97 + r4.toNat]⟩], ?_, ?_, fun z hz => ?_⟩
          · rw [upd_same, List.map_append]
            rfl
          · rw [List.length_append, l8]
            rfl
          · rcases List.mem_append.mp hz with hz | hz
            · exact o8 z hz
            · rw [List.mem_singleton.mp hz]
              exact ⟨97 + r4.toNat, rfl, by omega, by omega⟩
      rintro H8 ⟨k8, p8, zs, e8, l8, o8⟩
      refine ⟨"", D, zs, rfl, rfl, .inl (SqL.of e8), ?_, ?_⟩
      · rw [sum_len o8]
        show zs.length + zs.length * 0 ≤ 16777216
        omega
      have hst : ql (Txt.join "" zs) = (zs.map ql).flatten := ql_join0 zs
      have hsl : (Txt.join "" zs).length ≤ 11 := by
        rw [ql_len, hst, stem_len o8]
        omega
      have hsc : ∀ c ∈ ql (Txt.join "" zs), 97 ≤ c ∧ c ≤ 122 := by
        rw [hst]
        exact stem_in o8
      generalize Txt.join "" zs = stem at hsl hsc
      have ks : Keep p H6 H8 := k7.trans k8
      have hz1 : stem.length ≤ sizeLine := small _ (by omega)
      clear hst e8 k8 k7 hD l8 o8
      -- at
      refine ⟨_, rfl, _, rfl, .str stem, stem.length, rfl, ⟨hz1, rfl⟩, _, _, rfl, rfl, p, ((stem.length : Int) + 1), rfl, p8, by omega, by omega, fun H9 a k9 p9 f0 f1 => ?_⟩
      have f1' : a ≤ (stem.length : Int) := by omega
      -- found
      refine ⟨_, rfl, m, rfl, by omega, by omega, fun D2 hD2 => ?_⟩
      have nD2 := p9.ne hD2
      refine lc_range (lo := 0) (n := m.toNat) (fun i H' => Keep p H9 H' ∧ PoolAt H' p ∧ H' D2 = some (.lst ((List.range i).map fun k => V.str (g2 stem a r2 k)))) ⟨Keep.new hD2 _, p9.upd nD2, upd_same⟩ ?_ ?_
      · rintro i H' hi ⟨k10, p10, e10⟩
        refine ⟨rfl, yesT ?_⟩
        have z : (0 : Int) + (i : Int) = i := Int.zero_add _
        rw [z]
        have l1 := cutS_length stem none (some a)
        have l2 := cutS_length stem (some a) none
        refine ⟨_, rfl, _, rfl, _, rfl, stem, rfl, hz1, _, rfl, _, rfl, _, rfl, _, _, rfl, rfl, .inl ⟨by decide, by decide⟩, _, _, rfl, rfl, _, _, rfl, rfl, (by show (0 : Int) < 26; decide), ?_⟩
        refine ⟨alpha, _, _, rfl, rfl, (by show 26 ≤ sizeLine; decide), alpha_at (j := (r2 + 5 * (i : Int)) % 26) (by omega) (by omega), _, _, rfl, rfl, ?_, ?_⟩
        · exact small _ (by show _ + 1 ≤ 1000; omega)
        refine ⟨_, rfl, _, rfl, _, rfl, stem, rfl, hz1, _, _, rfl, rfl, ?_, ?_⟩
        · have l3 : (cutS stem none (some a) ++ (⟨#[97 + ((r2 + 5 * (i : Int)) % 26).toNat]⟩ : Str)).length = (cutS stem none (some a)).length + 1 := by
            rw [ql_len, ql_app, List.length_append, ← ql_len]
            rfl
          exact small _ (by omega)
        · refine ⟨_, e10, ?_, k10.upd hD2, p10.upd nD2, by rw [upd_same]; exact congrArg (fun x => some (HO.lst x)) (map_snoc (fun k => V.str (g2 stem a r2 k)) i)⟩
          rw [List.length_map, List.length_range]
          exact small1000 (by omega)
      rintro H10 ⟨k10, p10, e10⟩
      refine ⟨_, rfl, D2, rfl, ⟨_, SqL.of e10⟩, fun D3 hD3 => ?_⟩
      have nD3 := p10.ne hD3
      refine lc_list (K := K) (a := D2) (xs := (List.range m.toNat).map fun k => V.str (g2 stem a r2 k)) (fun i H' => Keep p H10 H' ∧ PoolAt H' p ∧ H' D3 = some (.lst ((List.range i).map fun k => V.str (g3 (g2 stem a r2 k))))) ⟨Keep.new hD3 _, p10.upd nD3, upd_same⟩
        (fun i H' _ ⟨k11, p11, e11⟩ => SqL.of (k11 _ _ nD2 e10)) ?_ (fun H' ⟨k11, p11, e11⟩ => fin H10 H' D3 (fun k => g3 (g2 stem a r2 k)) (k6.trans (ks.trans (k9.trans k10))) hD3 nD3 k11 p11 (by rw [List.length_map, List.length_range] at e11; exact e11) (names2 f0 f1' hsl hsc (by omega)))
      rintro i x H' hx ⟨k11, p11, e11⟩
      obtain ⟨hi, rfl⟩ : i < m.toNat ∧ x = V.str (g2 stem a r2 i) := by
        have hlt := (List.getElem?_eq_some_iff.mp hx).1
        rw [List.length_map, List.length_range] at hlt
        rw [List.getElem?_map, List.getElem?_range hlt] at hx
        exact ⟨hlt, (Option.some.inj hx).symm⟩
      refine ⟨rfl, yesT ?_⟩
      refine ⟨_, rfl, (by show 3 ≤ sizeLine; decide), fun l3 hl3 => ⟨l3, _, rfl, .inl (SqL.of upd_same), rfl, rfl, _, rfl, ?_⟩⟩
      have e12 : (upd H' l3 (.lst [V.str "true", V.str "false", V.str "self"])) D3 = some (.lst ((List.range i).map fun k => V.str (g3 (g2 stem a r2 k)))) := by
        rw [upd_ne (ne_of_none e11 hl3)]
        exact e11
      have nl3 := p11.ne hl3
      have wl : (g2 stem a r2 i).length ≤ 12 := by rw [len_g2 f0 f1']; omega
      have step : ∀ z : Str, g3 (g2 stem a r2 i) = z → ∃ acc, (upd H' l3 (.lst [V.str "true", V.str "false", V.str "self"])) D3 = some (.lst acc) ∧ acc.length < sizeLine ∧ (Keep p H10 (upd (upd H' l3 (.lst [V.str "true", V.str "false", V.str "self"])) D3 (.lst (acc ++ [V.str z]))) ∧ PoolAt (upd (upd H' l3 (.lst [V.str "true", V.str "false", V.str "self"])) D3 (.lst (acc ++ [V.str z]))) p ∧ (upd (upd H' l3 (.lst [V.str "true", V.str "false", V.str "self"])) D3 (.lst (acc ++ [V.str z]))) D3 = some (.lst ((List.range (i + 1)).map fun k => V.str (g3 (g2 stem a r2 k))))) := fun z ez => by
        refine ⟨_, e12, ?_, (k11.trans (Keep.new hl3 _)).upd hD3, (p11.upd nl3).upd nD3, ?_⟩
        · rw [List.length_map, List.length_range]
          exact small1000 (by omega)
        · rw [upd_same, ← ez]
          exact congrArg (fun x => some (HO.lst x)) (map_snoc (fun k => V.str (g3 (g2 stem a r2 k))) i)
      refine ite2 (fun cc => ?_) (fun cc => ?_)
      · have cc' := (inV3 _ _ _ _).mp cc
        refine ⟨_, rfl, _, _, rfl, rfl, small _ (by show _ + 1 ≤ 1000; omega), ?_⟩
        exact step _ (by unfold g3; rw [if_pos cc'])
      · refine ⟨_, rfl, ?_⟩
        exact step _ (by unfold g3; rw [if_neg (fun h => cc ((inV3 _ _ _ _).mpr h))])
end
end KX

namespace KX
open PySem PySem.Spec L2 PyProof.Rows
/-! ### defs whose calls want to know that nothing is being shown -/
/-- what a def does where no repr is under way -/
structure FnG (P : Program) (w : World) (K : PySem.W.Frag) (mg : Str → Option Value) (base : Heap) (k : Nat) (f : Addr) (fd : FuncData) (ps : List Str) (sp : Sp) : Prop where
  long : ∀ vs H Q, sp vs H Q E0 → vs.length = ps.length
  does : ∀ (A : Around) (outer : List Env) (s : Shared) (H : Hp) (args : Args) (us : List Value) (vs : List V) (Q : VK), A.guards = some [] → Room k A → Env0 P w K mg base A outer s H → BindsTo s fd args (ps.zip us) → Vals vs us → sp vs H Q E0 →
    codeAny (model P w) A (.call (.ref f) args) (CR CX0 outer P w H s Q E0) s
structure DefG (P : Program) (w : World) (K : PySem.W.Frag) (mg : Str → Option Value) (base : Heap) (x : Str) (n : Nat) (ps : List Str) (sp : Sp) (f : Addr) (fd : FuncData) : Prop where
  named : mg x = some (.ref f)
  kept : PySem.W.keepIn K (.ref f) = true
  binds : Binds K fd ps []
  fn : FnG P w K mg base n f fd ps sp
theorem FnOk.g {P : Program} {w : World} {K : PySem.W.Frag} {mg : Str → Option Value} {base : Heap} {k : Nat} {f : Addr} {fd : FuncData} {ps : List Str} {sp : Sp} (F : FnOk P w K mg base CX0 k f fd ps sp) : FnG P w K mg base k f fd ps sp :=
  ⟨fun vs H Q => F.len vs H Q E0, fun A outer s H args us vs Q _ => F.run A outer s H args us vs Q E0⟩
section
variable {X : Cx}
/-- f(e, ..) of such a def -/
theorem pe_callG {k : Nat} {f : Addr} {fd : FuncData} {ps : List Str} {sp : Sp} {x : Str} {p pos : Pos} {e : Expr} {es : List Expr} {t : TA} (quiet : X.A.guards = some []) (D : DefG X.prog X.w X.K X.mg X.base x k ps sp f fd) (room : Room k X.A) (isG : Gl X x) (args : PA X (e :: es) t)
    (noDebug : (x == ("__debug__" : Str)) = false := by decide) (stars : starEach (e :: es) X.env = (false, eval e X.env) :: starEach es X.env := by rfl) (noStar : (backTo pos (starEach es X.env)).any (·.1) = false := by rfl) :
    PE X (.Call (.Name x p) (e :: es) [] pos) (tCall sp [] E0 t) := by
  constructor
  intro pins s σ H Q I want
  refine wpAny_Call_Name_kw (ld_glob I isG D.named ?_ noDebug)
  refine PySem.W.callWith_K (h₀ := X.base) I.ok.mod.kin D.kept (thn (args.run pos pins s σ H _ I want) ?_) stars noStar
  rintro us s1 ⟨vs, H1, J, rel, want1⟩
  have asked : sp vs H1 Q E0 := by
    have q : sp (vs ++ []) H1 Q E0 := want1
    rwa [List.append_nil] at q
  have ul : us.length = ps.length := rel.length.symm.trans (D.fn.long _ _ _ asked)
  have bound : BindsTo s1 fd ⟨us, []⟩ (ps.zip us) := by
    have q := D.binds s1 us J.kIn (by rw [List.append_nil]; exact ul)
    rwa [List.append_nil] at q
  refine ⟨J.kIn, wpAny_call (codeAny_mono (D.fn.does X.A X.stack s1 H1 ⟨us, []⟩ us vs Q quiet room J.env0 bound rel asked) ?_)⟩
  rintro (e | fl) s' h
  · exact h.elim
  · cases fl with
    | ret u => exact J.after h
    | next => exact h.elim
    | brk => exact h.elim
    | cont => exact h.elim
end
section
variable {base : Heap} {P : Program} {w : World} {K : PySem.W.Frag} {mg : Str → Option Value}
/-- a def's body, walked where nothing is being shown -/
theorem Fun.g {x qual : Str} {st : Stmt} {f : Addr} {fd : FuncData} {N ps : List Str} {k : Nat} {sp : Sp} (F : Fun K x qual st f fd) (S : FnScope N ps (defScope st)) (long : ∀ vs H Q, sp vs H Q E0 → vs.length = ps.length)
    (body : ∀ (cdv : Value) (A : Around) (outer : List Env) (s : Shared) (H : Hp) (vs : List V) (Q : VK), (cxOf CX0 P w K mg base N qual (defScope st) f cdv A outer s H E0).nox.A.guards = some [] → Room k (A.deeper (envOfC qual (defScope st) s.heap.objs.size f cdv)) → sp vs H Q E0 →
      ∃ t, PSs (cxOf CX0 P w K mg base N qual (defScope st) f cdv A outer s H E0).nox (defBody st) t ∧ t { nx := fun _ H' => Q .non H', rt := Q } (start N vs) H) : FnG P w K mg base (k + 1) f fd ps sp := by
  obtain ⟨oc, od, kV, doc, pm, an, cdv, ct, osl, rfl, lk, code⟩ := F.ex
  refine ⟨long, ?_⟩
  intro A outer s H args us vs Q quiet room e0 bound rel want
  have given := long _ _ _ want
  have here : ∀ b o, base.get? b = some o → s.heap.get? b = some o := fun b o e => (e0.bs b o e).1
  have kIn : K.In s.heap := e0.mod.kin.keeps here
  have kinds : ∀ y ∈ ps.zip us, (defScope st).names.lookup y.1 = some .local ∨ ((defScope st).names.lookup y.1 = some .cell ∧ ((cellsFrom (s.heap.objs.size + 1) (defScope st).names []).lookup y.1).isSome = true) := by
    rintro ⟨n, v⟩ hy
    exact (S.par n (List.of_mem_zip hy).1).imp id fun q => ⟨q, PySem.W.cellsFrom_some _ _ _ (.inl q)⟩
  refine codeAny_call_function room.depth (kIn _ _ lk) rfl S.co S.gen rfl (PySem.W.codeRec_of kIn code) (bound _ _ _ _ (wpAny_newFunctionEnv_cells S.kind kinds ?_))
  rintro env rfl s1 at1
  refine ⟨(e0.mod.nolimit.keeps here).keeps at1.toInCall.keep, codeAny_func ?_⟩
  obtain ⟨t, run, wish⟩ := body cdv A outer s H vs Q quiet (room.deeper _) want
  refine wpAny_mono (run.nox.run [] s1 (start N vs) H _ (inv_start S room.hd e0 given rel at1) wish) ?_ fun _ _ z => z
  rintro fl s' h
  cases fl with
  | ret u =>
    obtain ⟨v, σ', H', J', r, q⟩ := h
    exact ⟨v, H', J'.os, J'.bare, J'.base, J'.hok, r, q⟩
  | next =>
    obtain ⟨σ', H', J', q⟩ := h
    exact ⟨V.non, H', J'.os, J'.bare, J'.base, J'.hok, rfl, q⟩
  | brk => exact h.elim fun _ z => z.elim fun _ z => z.2.elim
  | cont => exact h.elim fun _ z => z.elim fun _ z => z.2.elim
/-- how a law's script may be seen: a list apart from all else, or one of the module's own -/
structure Seen (P : Program) (w : World) (K : PySem.W.Frag) (h : Heap) (a : Addr) (xs : List V) (H : Hp) : Prop where
  none' : ∀ b, b ≠ a → H b = none
  frozen : H a = none ∨ ∃ o ys, H a = some (.frz o (.lst ys))
  free : H a = none ∨ K.lookup a = none
  hok : HOk P w H h
  seq : SqL K H a xs
theorem seen_of {h : Heap} {a : Addr} {vs : List Value} {xs : List V} (kIn : K.In h) (at' : h.get? a = some { cls := .type "list", data := .seq vs.toArray }) (rel : Vals xs vs) (short : xs.length ≤ sizeLine) : ∃ H, Seen P w K h a xs H := by
  have short' : vs.toArray.size ≤ sizeLine := by
    rw [List.size_toArray, ← rel.length]
    exact short
  cases known : K.lookup a with
  | some o =>
    have e := (kIn a o known).symm.trans at'
    obtain rfl := Option.some.inj e
    exact ⟨fun _ => none, fun _ _ => rfl, .inl rfl, .inl rfl, fun _ _ z => (nomatch z), .inr ⟨_, _, _, known, rfl, rfl, rfl, short', rel⟩⟩
  | none =>
    have one : ∀ {b u}, (fun b => if b = a then some (HO.frz { cls := .type "list", data := .seq vs.toArray } (.lst xs)) else none) b = some u → b = a ∧ u = .frz { cls := .type "list", data := .seq vs.toArray } (.lst xs) := by
      intro b u z
      by_cases hb : b = a
      · exact ⟨hb, (Option.some.inj ((if_pos hb).symm.trans z)).symm⟩
      · exact nomatch (if_neg hb).symm.trans z
    refine ⟨fun b => if b = a then some (.frz { cls := .type "list", data := .seq vs.toArray } (.lst xs)) else none, fun b hb => if_neg hb, .inr ⟨_, xs, if_pos rfl⟩, .inr known, ?_, .inl (.inr ⟨_, if_pos rfl⟩)⟩
    intro b u z
    obtain ⟨rfl, rfl⟩ := one z
    exact ⟨at', short, vs, _, rel, at'⟩
/-- the law's def is called with its script -/
theorem script_call {mb : Str → Option Value} {k : Nat} {fa a : Addr} {fd : FuncData} {x : Str} {sp : Sp} {s : Shared} {vs : List Value} {ns : List Int} (kIn : K.In s.heap) (ns' : s.heap.Ns mainGlobals mg) (nb : s.heap.Ns builtinsNs mb)
    (boot : ∀ x : Str, x ≠ "__name__" → mb x = bootBuiltins x) (free : s.heap.NoLimit) (gens : s.gens = #[]) (at' : s.heap.get? a = some { cls := .type "list", data := .seq vs.toArray }) (whole : IntsAre vs ns) (short : ns.length ≤ sizeLine) (room : Room k callerA)
    (fn : ∀ base : Heap, K.In base → base.Ns mainGlobals mg → FnG P w K mg base k fa fd [x] sp) (binds : ∀ (s : Shared) (u : Value), BindsTo s fd ⟨[u], []⟩ [(x, u)]) (asked : ∀ H : Hp, SqL K H a (ns.map V.int) → sp [.ref a] H (fun v _ => v = .bl true) E0) :
    codeAny (model P w) callerA (.call (.ref fa) ⟨[.ref a], []⟩) (fun r s' => r = .ok (.ret (.bool true)) ∧ OldK s.heap s'.heap ∧ s'.os = s.os ∧ AllBare s'.gens) s := by
  obtain ⟨H, S⟩ := seen_of (P := P) (w := w) kIn at' (vals_ints whole) (by rw [List.length_map]; exact short)
  have keeps : ∀ {b o}, s.heap.get? b = some o → (b = a → H a = none) → (hidT s.heap H).get? b = some o := fun {b o} e q => hidT_get e (by
    by_cases hb : b = a
    · rw [hb]
      exact q hb
    · exact S.none' b hb)
  have spaces : ∀ {b m}, s.heap.Ns b m → (hidT s.heap H).Ns b m := by
    rintro b m ⟨o, es, ep, e, d, r⟩
    refine ⟨o, es, ep, keeps e fun hb => ?_, d, r⟩
    subst hb
    obtain rfl := Option.some.inj (e.symm.trans at')
    exact nomatch (show Data.seq vs.toArray _ = Data.dict es ep from d)
  have kIn' : K.In (hidT s.heap H) := fun b o e => keeps (kIn b o e) fun hb => S.free.resolve_right fun z => by
    subst hb
    rw [z] at e
    cases e
  have e0 : Env0 P w K mg (hidT s.heap H) callerA [] s H := by
    obtain ⟨mc, f1, f2⟩ := free
    refine ⟨rfl, ⟨kIn', spaces ns', ⟨mb, spaces nb, boot⟩, ⟨mc, spaces f1, f2⟩⟩, fun b o e => of_hidT e, ?_, trivial, fun b hb => (nomatch hb), S.hok, .of_eq gens⟩
    rw [hidT_size]
    exact Nat.le_refl _
  refine codeAny_mono ((fn _ kIn' (spaces ns')).does callerA [] s H ⟨[.ref a], []⟩ [.ref a] [.ref a] _ rfl room e0 (binds s _) (.cons rfl .nil) (asked H S.seq)) ?_
  rintro (e | fl) s' h
  · exact h.elim
  cases fl with
  | next => exact h.elim
  | brk => exact h.elim
  | cont => exact h.elim
  | ret u =>
    obtain ⟨v, H', os, bare, un, hok', rv, rfl⟩ := h
    obtain rfl : u = Value.bool true := rv
    refine ⟨rfl, OldK.of_keep fun b o e => ?_, os, bare⟩
    by_cases hb : H b = none
    · exact un.keep b o e hb (fun z => nomatch z) (fun z => nomatch z)
    · have ha : b = a := Classical.byContradiction fun z => hb (S.none' b z)
      subst ha
      obtain ⟨ob, ys, fz⟩ := S.frozen.resolve_left hb
      have old := (S.hok b _ fz).1
      exact (hok' b _ (un.frzs b ob _ fz)).1.trans (old.symm.trans e)
end
/-- the end of a law whose defs show nested values -/
theorem walk_g {l : PySem.W.OpenLaw} {n k : Nat} {q : Program} {loose : List Str} {XP : (Str → Option Value) → Heap → Prop} {YP : World → Heap → Prop} {d : DefRec} {x : Str} (most : l.most = some n) (small : n ≤ sizeLine) (plain : d.params.defaults = []) (room : Room k callerA)
    (law : ∀ (w : World) (mg : Str → Option Value) (fa : Addr) (h : Heap), YP w h → h.Ns mainGlobals mg → mg d.name = some (.ref fa) → ∃ (K : PySem.W.Frag) (fd : FuncData) (sp : Sp), K.In h ∧ (∀ (s : Shared) (u : Value), BindsTo s fd ⟨[u], []⟩ [(x, u)]) ∧
      (∀ (H : Hp) (a : Addr) (ns : List Int), ns.length ≤ n → SqL K H a (ns.map V.int) → sp [.ref a] H (fun v _ => v = .bl true) E0) ∧ ∀ base : Heap, K.In base → base.Ns mainGlobals mg → FnG l.prog w K mg base k fa fd [x] sp) :
    PySem.W.WalkO q loose XP YP l.row.toRowW d [] (fun f vs => PySem.call f vs) := by
  apply Att.attach_call most plain
  intro w s0 s1 mg mb fa o pm cd doc a vs ns G Y ho hd hcd named script whole long gens
  obtain ⟨K, fd, sp, kIn, binds, asked, fn⟩ := law w mg fa _ Y G.T.g named
  exact script_call kIn G.T.g G.T.b G.T.builtins G.T.nolimit gens script whole (Nat.le_trans long small) room fn binds fun H => asked H a ns long
end KX

namespace KX
open PySem PySem.Spec L2 PyProof.Rows
/-! ### data on the abstract heap, dicts too -/
def keyD : Key → PyData
  | .inl i => .int i
  | .inr x => .str x
mutual
inductive Dq (K : PySem.W.Frag) (H : Hp) : V → PyData → Prop
  | non : Dq K H .non .none
  | bl (b : Bool) : Dq K H (.bl b) (.bool b)
  | int (i : Int) : Dq K H (.int i) (.int i)
  | str (x : Str) : Dq K H (.str x) (.str x)
  | lst {a : Addr} {xs : List V} {ds : List PyData} : H a = some (.lst xs) → DqAll K H xs ds → Dq K H (.ref a) (.list ds)
  | tup {a : Addr} {xs : List V} {ds : List PyData} : H a = some (.tup xs) → DqAll K H xs ds → Dq K H (.ref a) (.tuple ds)
  | dct {a : Addr} {kvs : List (Key × V)} {ds : List (PyData × PyData)} : H a = some (.dK kvs) → DqKv K H kvs ds → Dq K H (.ref a) (.dict ds)
inductive DqAll (K : PySem.W.Frag) (H : Hp) : List V → List PyData → Prop
  | nil : DqAll K H [] []
  | cons {v : V} {vs : List V} {d : PyData} {ds : List PyData} : Dq K H v d → DqAll K H vs ds → DqAll K H (v :: vs) (d :: ds)
inductive DqKv (K : PySem.W.Frag) (H : Hp) : List (Key × V) → List (PyData × PyData) → Prop
  | nil : DqKv K H [] []
  | cons {k : Key} {v : V} {r : List (Key × V)} {d : PyData} {ds : List (PyData × PyData)} : Dq K H v d → DqKv K H r ds → DqKv K H ((k, v) :: r) ((keyD k, d) :: ds)
end
theorem Same.seqT {K : PySem.W.Frag} {H H' : Hp} {a : Addr} {xs : List V} (e : Same H H') (h : SqT K H a xs) : SqT K H' a xs := by
  rcases h with (h | ⟨o, h⟩) | h
  · exact .inl (.inl (e _ _ h))
  · exact .inl (.inr ⟨o, e _ _ h⟩)
  · exact .inr h
mutual
theorem Dq.same {K : PySem.W.Frag} {H H' : Hp} (e : Same H H') : ∀ (d : PyData) (v : V), Dq K H v d → Dq K H' v d
  | .none, _, .non => .non
  | .bool _, _, .bl b => .bl b
  | .int _, _, .int i => .int i
  | .str _, _, .str x => .str x
  | .list ds, _, .lst hs ha => .lst (e _ _ hs) (DqAll.same e ds _ ha)
  | .tuple ds, _, .tup hs ha => .tup (e _ _ hs) (DqAll.same e ds _ ha)
  | .dict ds, _, .dct hs ha => .dct (e _ _ hs) (DqKv.same e ds _ ha)
theorem DqAll.same {K : PySem.W.Frag} {H H' : Hp} (e : Same H H') : ∀ (ds : List PyData) (vs : List V), DqAll K H vs ds → DqAll K H' vs ds
  | [], _, .nil => .nil
  | d :: ds, _, .cons h1 h2 => .cons (Dq.same e d _ h1) (DqAll.same e ds _ h2)
theorem DqKv.same {K : PySem.W.Frag} {H H' : Hp} (e : Same H H') : ∀ (ds : List (PyData × PyData)) (vs : List (Key × V)), DqKv K H vs ds → DqKv K H' vs ds
  | [], _, .nil => .nil
  | (_, d) :: ds, _, .cons h1 h2 => .cons (Dq.same e d _ h1) (DqKv.same e ds _ h2)
end
/-- the heap without p -/
def hide (p : Addr) (H : Hp) : Hp := fun b => if b = p then none else H b
theorem hide_ne {p b : Addr} {H : Hp} (h : b ≠ p) : hide p H b = H b := if_neg h
theorem hide_sub (p : Addr) (H : Hp) : Same (hide p H) H := fun b o e => by
  by_cases h : b = p
  · subst h
    rw [show hide b H b = none from if_pos rfl] at e
    cases e
  · rw [hide_ne h] at e
    exact e
theorem Keep.hide {p : Addr} {H H' : Hp} (k : Keep p H H') : Same (hide p H) (hide p H') := fun b o e => by
  by_cases h : b = p
  · subst h
    rw [show KX.hide b H b = none from if_pos rfl] at e
    cases e
  · rw [hide_ne h] at e
    rw [hide_ne h]
    exact k b o h e
/-- what is new in H' -/
def sub (H H' : Hp) : Hp := fun b => match H b with
  | none => H' b
  | some _ => none
theorem sub_new {H H' : Hp} {b : Addr} (h : H b = none) : sub H H' b = H' b := by
  unfold sub
  rw [h]
theorem sub_old {H H' : Hp} {b : Addr} {o : HO} (h : H b = some o) : sub H H' b = none := by
  unfold sub
  rw [h]
theorem sub_same (H H' : Hp) : Same (sub H H') H' := fun b o e => by
  cases h : H b with
  | none => rw [sub_new h] at e; exact e
  | some u => rw [sub_old h] at e; cases e
/-- what was there is there -/
def Dom (H H' : Hp) : Prop := ∀ b, H' b = none → H b = none
theorem Dom.trans {H H1 H2 : Hp} (a : Dom H H1) (b : Dom H1 H2) : Dom H H2 := fun c h => a c (b c h)
theorem Same.dom {H H' : Hp} (s : Same H H') : Dom H H' := fun b h => s.free h
theorem dom_upd {H : Hp} {a : Addr} {o : HO} : Dom H (upd H a o) := fun b h => by
  by_cases e : b = a
  · subst e
    rw [upd_same] at h
    cases h
  · rw [upd_ne e] at h
    exact h
theorem Keep.dom {p : Addr} {H H' : Hp} (k : Keep p H H') (pp : PoolAt H' p) : Dom H H' := fun b h => by
  by_cases e : b = p
  · subst e
    obtain ⟨_, _, _, q, _⟩ := pp
    rw [q] at h
    cases h
  · exact k.gone e h
theorem sub_left {H0 H1 H2 : Hp} (d : Dom H0 H1) : Same (sub H1 H2) (sub H0 H2) := fun b o e => by
  cases h : H1 b with
  | none => rw [sub_new h] at e; rw [sub_new (d b h)]; exact e
  | some u => rw [sub_old h] at e; cases e
theorem sub_keep {p : Addr} {H0 H2 H3 : Hp} (k : Keep p H2 H3) (hp : ∃ o, H0 p = some o) : Same (sub H0 H2) (sub H0 H3) := fun b o e => by
  cases h : H0 b with
  | none =>
    rw [sub_new h] at e
    rw [sub_new h]
    refine k b o (fun z => ?_) e
    obtain ⟨u, hu⟩ := hp
    rw [z, hu] at h
    cases h
  | some u => rw [sub_old h] at e; cases e
theorem sub_upd {H0 H2 : Hp} {a : Addr} {o : HO} (h : ∃ u, H0 a = some u) : Same (sub H0 H2) (sub H0 (upd H2 a o)) := fun b u e => by
  cases q : H0 b with
  | none =>
    rw [sub_new q] at e
    rw [sub_new q, upd_ne (fun z => by
      obtain ⟨x, hx⟩ := h
      rw [z, hx] at q
      cases q)]
    exact e
  | some x => rw [sub_old q] at e; cases e
theorem sub_fresh {H0 H : Hp} {t : Addr} {o : HO} (h : H t = none) : Same (sub H0 H) (sub H0 (upd H t o)) := fun b u e => by
  cases q : H0 b with
  | none =>
    rw [sub_new q] at e
    rw [sub_new q, upd_ne (ne_of_none e h)]
    exact e
  | some x => rw [sub_old q] at e; cases e
theorem sub_hide {p : Addr} {H H' : Hp} (h : ∃ o, H p = some o) : Same (sub H H') (hide p H') := fun b o e => by
  cases q : H b with
  | none =>
    rw [sub_new q] at e
    rw [hide_ne (fun z => by
      obtain ⟨x, hx⟩ := h
      rw [z, hx] at q
      cases q)]
    exact e
  | some u => rw [sub_old q] at e; cases e
theorem PoolAt.has {H : Hp} {p : Addr} (h : PoolAt H p) : ∃ o, H p = some o := by
  obtain ⟨_, _, _, e, _⟩ := h
  exact ⟨_, e⟩
mutual
theorem Dq.det {K : PySem.W.Frag} {H : Hp} : ∀ (d : PyData) (v : V) (e : PyData), Dq K H v d → Dq K H v e → d = e
  | .none, _, _, .non, .non => rfl
  | .bool _, _, _, .bl b, .bl _ => rfl
  | .int _, _, _, .int i, .int _ => rfl
  | .str _, _, _, .str x, .str _ => rfl
  | .list ds, _, _, .lst hs ha, h2 => by
    cases h2 with
    | lst hs2 ha2 =>
      rw [hs] at hs2
      cases hs2
      rw [DqAll.det ds _ _ ha ha2]
    | tup hs2 _ => rw [hs] at hs2; cases hs2
    | dct hs2 _ => rw [hs] at hs2; cases hs2
  | .tuple ds, _, _, .tup hs ha, h2 => by
    cases h2 with
    | tup hs2 ha2 =>
      rw [hs] at hs2
      cases hs2
      rw [DqAll.det ds _ _ ha ha2]
    | lst hs2 _ => rw [hs] at hs2; cases hs2
    | dct hs2 _ => rw [hs] at hs2; cases hs2
  | .dict ds, _, _, .dct hs ha, h2 => by
    cases h2 with
    | dct hs2 ha2 =>
      rw [hs] at hs2
      cases hs2
      rw [DqKv.det ds _ _ ha ha2]
    | lst hs2 _ => rw [hs] at hs2; cases hs2
    | tup hs2 _ => rw [hs] at hs2; cases hs2
theorem DqAll.det {K : PySem.W.Frag} {H : Hp} : ∀ (ds : List PyData) (vs : List V) (es : List PyData), DqAll K H vs ds → DqAll K H vs es → ds = es
  | [], _, _, .nil, .nil => rfl
  | d :: ds, _, _, .cons h1 h2, .cons g1 g2 => by rw [Dq.det d _ _ h1 g1, DqAll.det ds _ _ h2 g2]
theorem DqKv.det {K : PySem.W.Frag} {H : Hp} : ∀ (ds : List (PyData × PyData)) (vs : List (Key × V)) (es : List (PyData × PyData)), DqKv K H vs ds → DqKv K H vs es → ds = es
  | [], _, _, .nil, .nil => rfl
  | (_, d) :: ds, _, _, .cons h1 h2, .cons g1 g2 => by rw [Dq.det d _ _ h1 g1, DqKv.det ds _ _ h2 g2]
end
/-! what is less deep than the thing at q does not hold it -/
mutual
theorem Dq.avoid {K : PySem.W.Frag} {H : Hp} {q : Addr} {D : PyData} (hD : Dq K H (.ref q) D) : ∀ (d : PyData) (v : V), Dq K H v d → d.depth < D.depth → Dq K (hide q H) v d
  | .none, _, .non, _ => .non
  | .bool _, _, .bl b, _ => .bl b
  | .int _, _, .int i, _ => .int i
  | .str _, _, .str x, _ => .str x
  | .list ds, _, .lst (a := a) hs ha, hd => by
    have ne : a ≠ q := fun z => by
      have := Dq.det _ _ _ (Dq.lst hs ha) (z ▸ hD)
      rw [this] at hd
      exact Nat.lt_irrefl _ hd
    refine .lst (by rw [hide_ne ne]; exact hs) (DqAll.avoid hD ds _ ha ?_)
    simp only [PyData.depth] at hd
    omega
  | .tuple ds, _, .tup (a := a) hs ha, hd => by
    have ne : a ≠ q := fun z => by
      have := Dq.det _ _ _ (Dq.tup hs ha) (z ▸ hD)
      rw [this] at hd
      exact Nat.lt_irrefl _ hd
    refine .tup (by rw [hide_ne ne]; exact hs) (DqAll.avoid hD ds _ ha ?_)
    simp only [PyData.depth] at hd
    omega
  | .dict ds, _, .dct (a := a) hs ha, hd => by
    have ne : a ≠ q := fun z => by
      have := Dq.det _ _ _ (Dq.dct hs ha) (z ▸ hD)
      rw [this] at hd
      exact Nat.lt_irrefl _ hd
    refine .dct (by rw [hide_ne ne]; exact hs) (DqKv.avoid hD ds _ ha ?_)
    simp only [PyData.depth] at hd
    omega
theorem DqAll.avoid {K : PySem.W.Frag} {H : Hp} {q : Addr} {D : PyData} (hD : Dq K H (.ref q) D) : ∀ (ds : List PyData) (vs : List V), DqAll K H vs ds → PyData.depthAll ds < D.depth → DqAll K (hide q H) vs ds
  | [], _, .nil, _ => .nil
  | d :: ds, _, .cons h1 h2, hd => by
    simp only [PyData.depthAll] at hd
    exact .cons (Dq.avoid hD d _ h1 (by omega)) (DqAll.avoid hD ds _ h2 (by omega))
theorem DqKv.avoid {K : PySem.W.Frag} {H : Hp} {q : Addr} {D : PyData} (hD : Dq K H (.ref q) D) : ∀ (ds : List (PyData × PyData)) (vs : List (Key × V)), DqKv K H vs ds → PyData.depthKv ds < D.depth → DqKv K (hide q H) vs ds
  | [], _, .nil, _ => .nil
  | (_, d) :: ds, _, .cons h1 h2, hd => by
    simp only [PyData.depthKv] at hd
    exact .cons (Dq.avoid hD d _ h1 (by omega)) (DqKv.avoid hD ds _ h2 (by omega))
end
theorem DqAll.snoc {K : PySem.W.Frag} {H : Hp} {v : V} {d : PyData} (h : Dq K H v d) : ∀ {vs : List V} {ds : List PyData}, DqAll K H vs ds → DqAll K H (vs ++ [v]) (ds ++ [d])
  | _, _, .nil => .cons h .nil
  | _, _, .cons h1 h2 => .cons h1 (DqAll.snoc h h2)
theorem DqKv.snoc {K : PySem.W.Frag} {H : Hp} {k : Key} {v : V} {d : PyData} (h : Dq K H v d) : ∀ {vs : List (Key × V)} {ds : List (PyData × PyData)}, DqKv K H vs ds → DqKv K H (vs ++ [(k, v)]) (ds ++ [(keyD k, d)])
  | _, _, .nil => .cons h .nil
  | _, _, .cons h1 h2 => .cons h1 (DqKv.snoc h h2)
theorem DqAll.length {K : PySem.W.Frag} {H : Hp} : ∀ {vs : List V} {ds : List PyData}, DqAll K H vs ds → vs.length = ds.length
  | _, _, .nil => rfl
  | _, _, .cons _ h2 => by rw [List.length_cons, List.length_cons, DqAll.length h2]
theorem DqAll.get {K : PySem.W.Frag} {H : Hp} : ∀ {vs : List V} {ds : List PyData} {i : Nat} {v : V}, DqAll K H vs ds → vs[i]? = some v → ∃ d, ds[i]? = some d ∧ Dq K H v d
  | _, _, _, _, .nil, e => by simp at e
  | _, _, 0, _, .cons h _, e => by simp at e; subst e; exact ⟨_, rfl, h⟩
  | _, _, i + 1, _, .cons _ t, e => by
    obtain ⟨d, h1, h2⟩ := DqAll.get (i := i) t (by simpa using e)
    exact ⟨d, by simpa using h1, h2⟩
/-- the system's table of modules stands in the written part -/
def SysK (K : PySem.W.Frag) : Prop := ∃ o, K.lookup sysModules = some o ∧ o.cls = .type "dict"
section
variable {X : Cx} {pins : List (Addr × Obj)} {σ : L2.St} {H : Hp} {s : Shared}
theorem sys_ne (I : Inv X pins σ H s) (S : SysK X.K) {a : Addr} {u : HO} (h : H a = some u) : a ≠ sysModules := by
  obtain ⟨o, e, _⟩ := S
  rintro rfl
  rw [(I.bs _ _ (I.ok.mod.kin _ _ e)).2] at h
  cases h
theorem keys_of {kvs : List (Key × V)} {ds : List (PyData × PyData)} {vs : List (Key × Value)} {es : List DictEntry} {prog : Program} {w : World} (h : DqKv X.K H kvs ds) (r : KV kvs vs) (p : Pairs (mixKind prog w) es vs) :
    ReadsAll s.heap (es.map (·.key)) (ds.map (·.1)) [] := by
  induction p generalizing kvs ds with
  | nil =>
    cases r
    cases h
    exact .nil
  | cons hk hv hp ih =>
    cases r with
    | cons r1 r2 =>
      cases h with
      | cons h1 h2 =>
        have q := ih h2 r2
        have e := r1.1
        simp only at e
        rw [← e] at hk
        refine ReadsAll.cons (as := []) ?_ q
        rcases keyIs_shape hk with ⟨i, t, z, ek⟩ | ⟨x, t, z, ek⟩
        · show Reads s.heap (DictEntry.key _) (keyD _) []
          rw [z, ek]
          exact Reads.int i t
        · show Reads s.heap (DictEntry.key _) (keyD _) []
          rw [z, ek]
          exact Reads.str x t
mutual
theorem Dq.reads (I : Inv X pins σ H s) (S : SysK X.K) : ∀ (d : PyData) (v : V) (u : Value), Dq X.K H v d → RelV v u → ∃ as, Reads s.heap u d as ∧ sysModules ∉ as
  | .none, _, _, .non, r => by
    cases r
    exact ⟨_, Reads.none, by simp⟩
  | .bool _, _, _, .bl b, r => by
    cases r
    exact ⟨_, Reads.bool b, by simp⟩
  | .int _, _, _, .int i, r => by
    obtain ⟨t, rfl⟩ := r
    exact ⟨_, Reads.int i t, by simp⟩
  | .str _, _, _, .str x, r => by
    obtain ⟨t, rfl⟩ := r
    exact ⟨_, Reads.str x t, by simp⟩
  | .list ds, _, _, .lst hs ha, r => by
    cases r
    have ne := sys_ne I S hs
    obtain ⟨its, rv, ⟨o, n, ho, hc, _, hd⟩, _⟩ := I.list (SqL.of hs)
    obtain ⟨as, hr, na⟩ := DqAll.reads I S ds _ its ha rv
    exact ⟨_, Reads.list ho hc hd hr, fun z => (List.mem_cons.mp z).elim (fun e => ne e.symm) na⟩
  | .tuple ds, _, _, .tup hs ha, r => by
    cases r
    obtain ⟨its, rv, ⟨o, ho, hc, n, hd⟩, _⟩ := I.tuple (SqT.of hs)
    obtain ⟨as, hr, na⟩ := DqAll.reads I S ds _ its ha rv
    exact ⟨_, Reads.tuple ho hc hd hr, na⟩
  | .dict ds, _, _, .dct hs ha, r => by
    cases r
    have ne := sys_ne I S hs
    obtain ⟨hz, _, vs, rv, o, es, ep, ho, hx, hd, _, hp, _⟩ := (show ObjOk X.prog X.w H s.heap _ (.dK _) from I.hok _ _ hs)
    have hk := keys_of (X := X) (s := s) ha rv hp
    obtain ⟨bs, hr, nb⟩ := DqKv.reads I S ds _ _ _ ha rv hp
    refine ⟨_, Reads.dict ho hx.1 hd hk hr, fun z => ?_⟩
    rcases List.mem_append.mp z with z | z
    · rcases List.mem_cons.mp z with e | z
      · exact ne e.symm
      · cases z
    · exact nb z
theorem DqAll.reads (I : Inv X pins σ H s) (S : SysK X.K) : ∀ (ds : List PyData) (vs : List V) (us : List Value), DqAll X.K H vs ds → Vals vs us → ∃ as, ReadsAll s.heap us ds as ∧ sysModules ∉ as
  | [], _, _, .nil, r => by
    cases r
    exact ⟨_, ReadsAll.nil, by simp⟩
  | d :: ds, _, _, .cons h1 h2, r => by
    cases r with
    | cons r1 r2 =>
      obtain ⟨as, q1, n1⟩ := Dq.reads I S d _ _ h1 r1
      obtain ⟨bs, q2, n2⟩ := DqAll.reads I S ds _ _ h2 r2
      exact ⟨_, ReadsAll.cons q1 q2, fun z => (List.mem_append.mp z).elim n1 n2⟩
theorem DqKv.reads (I : Inv X pins σ H s) (S : SysK X.K) : ∀ (ds : List (PyData × PyData)) (kvs : List (Key × V)) (vs : List (Key × Value)) (es : List DictEntry), DqKv X.K H kvs ds → KV kvs vs → Pairs (mixKind X.prog X.w) es vs →
    ∃ as, ReadsAll s.heap (es.map (·.val)) (ds.map (·.2)) as ∧ sysModules ∉ as
  | [], _, _, _, .nil, r, p => by
    cases r
    cases p
    exact ⟨_, ReadsAll.nil, by simp⟩
  | (_, d) :: ds, _, _, _, .cons h1 h2, r, p => by
    cases r with
    | cons r1 r2 =>
      cases p with
      | cons hk hv hp =>
        have rv := r1.2
        simp only at rv
        rw [← hv] at rv
        obtain ⟨as, q1, n1⟩ := Dq.reads I S d _ _ h1 rv
        obtain ⟨bs, q2, n2⟩ := DqKv.reads I S ds _ _ _ h2 r2 hp
        exact ⟨_, ReadsAll.cons q1 q2, fun z => (List.mem_append.mp z).elim n1 n2⟩
end
end
/-! ### repr -/
/-- data whose text may be made -/
structure Shows (d : PyData) : Prop where
  ok : d.showable = true
  deep : d.depth ≤ 60
  size : d.shown.length ≤ sizeLine
def rRepr (K : PySem.W.Frag) : List V → Hp → VK → Prop := fun xs H Q => ∃ v d, xs = [v] ∧ Dq K H v d ∧ Shows d ∧ Q (.str d.shown) H
theorem call_reprK {X : Cx} {n : Nat} (K : PySem.W.Frag) (hK : X.K = K) (S : SysK X.K) (g : X.A.guards = some []) (room : Room n X.A) : CallR X (.builtin "repr") (rRepr K) := by
  subst hK
  intro pins s σ H xs us Q I r h
  obtain ⟨v, d, rfl, hd, sh, q⟩ := h
  obtain ⟨u, rfl, ru⟩ := vals1 r
  have hu := room.un
  have sz := sh.size
  have ok := sh.ok
  have big : ∀ a, v = .ref a → wpAny (model X.prog X.w) X.A (call (.builtin "repr") [u]) (EP X pins σ Q) X.xe s := by
    rintro a rfl
    cases ru
    obtain ⟨as, rd, na⟩ := Dq.reads I S d _ _ hd rfl
    have dp := sh.deep
    exact repr_of_reads' (h₀ := s.heap) rd ok (fun _ => na) g (by omega) (fun _ _ e => e) (fun h' u tk k => ⟨.str _, H, I.kept k, ⟨_, rfl⟩, q⟩) sz
  cases hd with
  | non =>
    cases ru
    exact P.repr_of_none ⟨.str _, H, I.tok _, ⟨_, rfl⟩, by simpa only [PyData.shown] using q⟩
  | bl b =>
    cases ru
    exact P.repr_of_bool ⟨.str _, H, I.tok _, ⟨_, rfl⟩, by simpa only [PyData.shown] using q⟩
  | int i =>
    obtain ⟨t, rfl⟩ := ru
    simp only [PyData.showable, decide_eq_true_eq] at ok
    exact P.repr_of_int ok ⟨.str _, H, I.tok _, ⟨_, rfl⟩, by simpa only [PyData.shown] using q⟩
  | str x =>
    obtain ⟨t, rfl⟩ := ru
    simp only [PyData.shown] at sz
    exact P.repr_of_str ⟨.str _, H, I.tok _, ⟨_, rfl⟩, by simpa only [PyData.shown] using q⟩ sz
  | lst => exact big _ rfl
  | tup => exact big _ rfl
  | dct => exact big _ rfl
end KX

namespace KX
open PySem PySem.Spec L2 PyProof.Rows
/-- a sign that values may have -/
def AllowC (c : Nat) : Prop := c = 10 ∨ (32 ≤ c ∧ c ≤ 126 ∧ c ≠ 37)
instance (c : Nat) : Decidable (AllowC c) := by unfold AllowC; exact inferInstance
def TxOk (z : Str) : Prop := z.length ≤ 16 ∧ ∀ c ∈ ql z, AllowC c
def txB (n : Nat) (z : Str) : Bool := decide (z.length ≤ n) && (ql z).all fun c => decide (AllowC c)
theorem txB_of {n : Nat} {z : Str} (h : txB n z = true) : z.length ≤ n ∧ ∀ c ∈ ql z, AllowC c := by
  unfold txB at h
  simp only [Bool.and_eq_true, decide_eq_true_eq, List.all_eq_true] at h
  exact ⟨h.1, fun c hc => h.2 c hc⟩
def menuC : List Str := ["", "a", "A b", "<", "&", "&lt;", "\"", "~", "/", "?a=1;", "\\", "\n", "{x}", "}", "</p>", "'", "data", "0", "-7"]
theorem menuC_ok : ∀ z ∈ menuC, z.length ≤ 5 ∧ ∀ c ∈ ql z, AllowC c := by
  have h : menuC.all (txB 5) = true := by decide +kernel
  exact fun z hz => txB_of (List.all_eq_true.mp h z hz)
def signsC : Str := "ab <>&\"~/;=.-_Z9{}\\\n"
theorem signsC_ok : signsC.length = 20 ∧ ∀ c ∈ ql signsC, AllowC c := by
  have h : txB 20 signsC = true := by decide +kernel
  exact ⟨by decide +kernel, (txB_of h).2⟩
theorem menuC_at {j : Int} (h0 : 0 ≤ j) (h1 : j < 19) : ∃ z, z ∈ menuC ∧ atI (menuC.map V.str) j = some (.str z) := by
  have hj : j.toNat < menuC.length := by show j.toNat < 19; omega
  refine ⟨menuC[j.toNat], List.getElem_mem hj, at_of (j := j.toNat) (by omega) ?_⟩
  rw [List.getElem?_map, List.getElem?_eq_getElem hj]
  rfl
theorem signsC_at {j : Int} (h0 : 0 ≤ j) (h1 : j < 20) : ∃ c, AllowC c ∧ atI signsC.cps.toList j = some c := by
  have hl : (ql signsC).length = 20 := by rw [← ql_len]; exact signsC_ok.1
  have hj : j.toNat < (ql signsC).length := by omega
  have ej : j = ((j.toNat : Nat) : Int) := by omega
  refine ⟨(ql signsC)[j.toNat], signsC_ok.2 _ (List.getElem_mem hj), ?_⟩
  have q : atI (ql signsC) ((j.toNat : Nat) : Int) = some (ql signsC)[j.toNat] := atI_nat (List.getElem?_eq_getElem hj)
  rw [← ej] at q
  exact q
/-- a text of one sign -/
def OneC (z : Str) : Prop := ∃ c, ql z = [c] ∧ AllowC c
theorem oneC_len {z : Str} (h : OneC z) : z.length = 1 := by
  obtain ⟨c, e, _⟩ := h
  rw [ql_len, e]
  rfl
theorem oneC_sum : ∀ {zs : List Str}, (∀ z ∈ zs, OneC z) → (zs.map (·.length)).sum = zs.length
  | [], _ => rfl
  | z :: r, h => by
    have q := oneC_sum (zs := r) fun x hx => h x (List.mem_cons_of_mem _ hx)
    rw [List.map_cons, List.sum_cons, q, oneC_len (h z List.mem_cons_self), List.length_cons]
    omega
theorem oneC_flat : ∀ {zs : List Str}, (∀ z ∈ zs, OneC z) → ((zs.map ql).flatten).length = zs.length
  | [], _ => rfl
  | z :: r, h => by
    have q := oneC_flat (zs := r) fun x hx => h x (List.mem_cons_of_mem _ hx)
    obtain ⟨c, e, _⟩ := h z List.mem_cons_self
    rw [List.map_cons, List.flatten_cons, List.length_append, q, e]
    show 1 + r.length = r.length + 1
    omega
theorem oneC_in {zs : List Str} (h : ∀ z ∈ zs, OneC z) : ∀ c ∈ (zs.map ql).flatten, AllowC c := fun c hc => by
  obtain ⟨l, hl, hc⟩ := List.mem_flatten.mp hc
  obtain ⟨z, hz, rfl⟩ := List.mem_map.mp hl
  obtain ⟨d, e, h1⟩ := h z hz
  rw [e] at hc
  rw [List.mem_singleton.mp hc]
  exact h1
section
variable {base : Heap} {P : Program} {w : World} {K : PySem.W.Frag} {mg : Str → Option Value}
abbrev s_chars : Stmt := top 66
abbrev N_chars : List Str := ["_law_pool_here", "_law_menu", "_law_way", "_law_signs", "_law_k"]
abbrev P_chars : List Str := ["_law_pool_here"]
theorem sc_chars : FnScope N_chars P_chars (defScope s_chars) := ⟨rfl, rfl, rfl, by decide +kernel, rfl, by decide +kernel, by decide +kernel⟩
def spChars : Sp := fun vs H Q _ => ∃ p : Addr, vs = [.ref p] ∧ PoolAt H p ∧ ∀ (H' : Hp) (z : Str), Keep p H H' → PoolAt H' p → TxOk z → Q (.str z) H'
theorem ok_chars {f fdr : Addr} {fd fdd : FuncData} (F : Fun K "_law_chars" "_law_chars" s_chars f fd) (T : Bl mg) (D_draw : Def P w K mg base "_law_draw" 1 P_draw spDraw fdr fdd) : FnOk P w K mg base CX0 2 f fd P_chars spChars := by
  refine F.ok sc_chars (fun vs H Q E h => ?_) (fun cdv A outer s H vs Q E hr h => ?_)
  · obtain ⟨p, rfl, _⟩ := h
    rfl
  obtain ⟨p, rfl, hp, q⟩ := h
  refine ⟨_, (pss_cons (ps_set (i := 1) sc_chars.nd rfl (Or.inl rfl) (pe_lst (pa_cons pe_str (pa_cons pe_str (pa_cons pe_str (pa_cons pe_str (pa_cons pe_str (pa_cons pe_str (pa_cons pe_str (pa_cons pe_str (pa_cons pe_str (pa_cons pe_str (pa_cons pe_str (pa_cons pe_str (pa_cons pe_str (pa_cons pe_str pa_nil))))))))))))))))
    (pss_cons (ps_set (i := 1) sc_chars.nd rfl (Or.inl rfl) (pe_op op_cat (pv 1) (pe_lst (pa_cons pe_str (pa_cons pe_str (pa_cons pe_str (pa_cons pe_str (pa_cons pe_str pa_nil))))))))
    (pss_cons (ps_set (i := 2) sc_chars.nd rfl (Or.inl rfl) (pe_call D_draw.ok (hr.mono (by first | decide | omega)) rfl D_draw.g D_draw.kp D_draw.b .nil pass0 (pa_cons (pv 0) (pa_cons pe_int pa_nil))))
    (pss_cons (ps_if (pt_cmpR op_eq (pv 2) pe_int (nomark _))
      (pss_one (ps_ret (pe_ix (ix_listK K rfl) (pv 1) (pe_call D_draw.ok (hr.mono (by first | decide | omega)) rfl D_draw.g D_draw.kp D_draw.b .nil pass0 (pa_cons (pv 0) (pa_cons pe_int pa_nil))) (fun _ _ => rfl))))
      pss_nil)
    (pss_cons (ps_if (pt_cmpR op_eq (pv 2) pe_int (nomark _))
      (pss_one (ps_ret (pe_op op_add_str (pe_ix (ix_listK K rfl) (pv 1) (pe_call D_draw.ok (hr.mono (by first | decide | omega)) rfl D_draw.g D_draw.kp D_draw.b .nil pass0 (pa_cons (pv 0) (pa_cons pe_int pa_nil))) (fun _ _ => rfl)) (pe_ix (ix_listK K rfl) (pv 1) (pe_call D_draw.ok (hr.mono (by first | decide | omega)) rfl D_draw.g D_draw.kp D_draw.b .nil pass0 (pa_cons (pv 0) (pa_cons pe_int pa_nil))) (fun _ _ => rfl)))))
      pss_nil)
    (pss_cons (ps_set (i := 3) sc_chars.nd rfl (Or.inr rfl) pe_str)
    (pss_one (ps_ret (pe_join pe_str (pe_lc (own := [("_law_k", 4)]) (g := (gName 4)) (tt := tYes) rfl sc_chars.nd (pi_range1 rfl T.range (pa_cons (pe_call D_draw.ok (hr.mono (by first | decide | omega)) rfl D_draw.g D_draw.kp D_draw.b .nil pass0 (pa_cons (pv 0) (pa_cons pe_int pa_nil))) pa_nil)) (blkOk_by (own := [("_law_k", 4)]) (N := N_chars) (sc := defScope s_chars) (by decide +kernel)) (fun _ _ _ _ _ => (pg_name (i := 4) sc_chars.nd rfl (Or.inl rfl))) (fun _ _ _ _ _ => pts_nil) (fun _ _ _ _ _ => (pe_ix ix_str (pv 3) (pe_call D_draw.ok (hr.mono (by first | decide | omega)) rfl D_draw.g D_draw.kp D_draw.b .nil pass0 (pa_cons (pv 0) (pa_cons pe_int pa_nil))) (fun _ _ => rfl))))))))))))), ?_⟩
  have small : ∀ n : Nat, n ≤ 1000 → n ≤ sizeLine := fun n h => Nat.le_of_lt (small1000 h)
  refine ⟨(by show 14 ≤ sizeLine; decide), fun l1 hl1 => ?_⟩
  refine ⟨_, rfl, (by show 5 ≤ sizeLine; decide), fun l2 hl2 => ?_⟩
  have n12 : l1 ≠ l2 := ne_of_none upd_same hl2
  refine ⟨l1, l2, _, _, rfl, rfl, Eq.trans (upd_ne n12) upd_same, upd_same, (by show 19 ≤ sizeLine; decide), fun l hl => ?_⟩
  generalize hH3 : upd (upd (upd H l1 _) l2 _) l _ = H3
  have e3 : H3 l = some (.lst (menuC.map V.str)) := by rw [← hH3]; exact upd_same
  have s3 : Same H H3 := by rw [← hH3]; exact (same_new hl1 _).trans ((same_new hl2 _).trans (same_new hl _))
  have k3 : Keep p H H3 := Same.keep s3
  have p3 := hp.same s3
  have nlp : l ≠ p := (hp.same ((same_new hl1 _).trans (same_new hl2 _))).ne hl
  clear hH3 hl hl1 hl2 n12
  refine ⟨_, rfl, p, 3, rfl, p3, by decide, by decide, fun H4 r1 k4 p4 a0 a1 => ?_⟩
  refine ⟨_, rfl, rfl, _, rfl, ?_⟩
  refine ite2 (fun c => ?_) (fun c => ?_)
  · refine ⟨_, rfl, _, rfl, p, 19, rfl, p4, by decide, by decide, fun H5 r2 k5 p5 b0 b1 => ?_⟩
    obtain ⟨z, hz, ez⟩ := menuC_at b0 b1
    obtain ⟨z1, z2⟩ := menuC_ok z hz
    exact ⟨l, _, _, _, rfl, rfl, SqL.of (k5 _ _ nlp (k4 _ _ nlp e3)), ez, q _ _ (k3.trans (k4.trans k5)) p5 ⟨by omega, z2⟩⟩
  refine ⟨_, rfl, rfl, _, rfl, ?_⟩
  refine ite2 (fun c2 => ?_) (fun c2 => ?_)
  · refine ⟨_, rfl, _, rfl, p, 19, rfl, p4, by decide, by decide, fun H5 r2 k5 p5 b0 b1 => ?_⟩
    obtain ⟨z, hz, ez⟩ := menuC_at b0 b1
    obtain ⟨z1, z2⟩ := menuC_ok z hz
    refine ⟨l, _, _, _, rfl, rfl, SqL.of (k5 _ _ nlp (k4 _ _ nlp e3)), ez, ?_⟩
    refine ⟨_, rfl, _, rfl, p, 19, rfl, p5, by decide, by decide, fun H6 r3 k6 p6 d0 d1 => ?_⟩
    obtain ⟨y, hy, ey⟩ := menuC_at d0 d1
    obtain ⟨y1, y2⟩ := menuC_ok y hy
    refine ⟨l, _, _, _, rfl, rfl, SqL.of (k6 _ _ nlp (k5 _ _ nlp (k4 _ _ nlp e3))), ey, _, _, rfl, rfl, small _ (by omega), ?_⟩
    refine q _ _ (k3.trans (k4.trans (k5.trans k6))) p6 ⟨?_, fun c hc => ?_⟩
    · rw [ql_len, ql_app, List.length_append, ← ql_len, ← ql_len]
      omega
    · rw [ql_app] at hc
      rcases List.mem_append.mp hc with hc | hc
      · exact z2 c hc
      · exact y2 c hc
  · refine ⟨⟨_, rfl⟩, _, rfl, p, 9, rfl, p4, by decide, by decide, fun H7 r3 k7 p7 c0 c1 => ⟨r3, rfl, by omega, by omega, fun D hD => ?_⟩⟩
    have nD := p7.ne hD
    refine lc_range (lo := 0) (n := r3.toNat) (fun i H' => Keep p H7 H' ∧ PoolAt H' p ∧ ∃ zs : List Str, H' D = some (.lst (zs.map V.str)) ∧ zs.length = i ∧ ∀ z ∈ zs, OneC z) ⟨Keep.new hD _, p7.upd nD, [], upd_same, rfl, fun z hz => by cases hz⟩ ?_ ?_
    · rintro i H' hi ⟨k8, p8, zs, e8, l8, o8⟩
      refine ⟨rfl, yesT ?_⟩
      refine ⟨_, rfl, _, rfl, p, 20, rfl, p8, by decide, by decide, fun H9 r4 k9 p9 d0 d1 => ?_⟩
      obtain ⟨c, hc, ec⟩ := signsC_at d0 d1
      refine ⟨signsC, _, _, rfl, rfl, (by show 20 ≤ sizeLine; decide), ec, _, k9 _ _ nD e8, ?_, ?_⟩
      · rw [List.length_map]
        exact small1000 (by omega)
      · refine ⟨(k8.trans k9).upd hD, p9.upd nD, zs ++ [⟨#[c]⟩], ?_, ?_, fun z hz => ?_⟩
        · rw [upd_same, List.map_append]
          rfl
        · rw [List.length_append, l8]
          rfl
        · rcases List.mem_append.mp hz with hz | hz
          · exact o8 z hz
          · rw [List.mem_singleton.mp hz]
            exact ⟨c, rfl, hc⟩
    rintro H8 ⟨k8, p8, zs, e8, l8, o8⟩
    refine ⟨"", D, zs, rfl, rfl, .inl (SqL.of e8), ?_, ?_⟩
    · rw [oneC_sum o8]
      show zs.length + zs.length * 0 ≤ 16777216
      omega
    refine q _ _ (k3.trans (k4.trans (k7.trans k8))) p8 ⟨?_, ?_⟩
    · rw [ql_len, ql_join0, oneC_flat o8]
      omega
    · rw [ql_join0]
      exact oneC_in o8
end
end KX

namespace KX
open PySem PySem.Spec L2 PyProof.Rows
/-! ### the forms of types -/
inductive Fm where
  | text | number | flag
  | list (f : Fm)
  | opt (f : Fm)
  | rcd (fs : List (Str × Fm))
  | keyed (k : Str) (num : Bool) (w : Str) (f : Fm)
def kword : Bool → Str
  | true => "number"
  | false => "text"
mutual
def enc : Fm → PyData
  | .text => .tuple [.str "text"]
  | .number => .tuple [.str "number"]
  | .flag => .tuple [.str "flag"]
  | .list f => .tuple [.str "list", enc f]
  | .opt f => .tuple [.str "optional", enc f]
  | .rcd fs => .tuple [.str "record", .tuple (encFs fs)]
  | .keyed k num w f => .tuple [.str "keyed", .tuple [.str "record", .tuple [.tuple [.str k, .tuple [.str (kword num)]], .tuple [.str w, enc f]]], .str k]
def encFs : List (Str × Fm) → List PyData
  | [] => []
  | (w, f) :: r => .tuple [.str w, enc f] :: encFs r
end
def Fm.isOpt : Fm → Bool
  | .opt _ => true
  | _ => false
/-- a form of at most this many levels -/
def okF : Nat → Fm → Prop
  | _, .text => True
  | _, .number => True
  | _, .flag => True
  | 0, _ => False
  | n + 1, .list f => okF n f
  | n + 1, .opt f => okF n f ∧ f.isOpt = false
  | n + 1, .rcd fs => Names (fs.map (·.1)) ∧ sortedS (fs.map (·.1)) = true ∧ 1 ≤ fs.length ∧ fs.length ≤ 3 ∧ ∀ q ∈ fs, okF n q.2
  | n + 1, .keyed k _ w f => Names [k, w] ∧ sortedS [k, w] = true ∧ okF n f
theorem okF_up : ∀ (n : Nat) (f : Fm), okF n f → okF (n + 1) f
  | _, .text, _ => by simp [okF]
  | _, .number, _ => by simp [okF]
  | _, .flag, _ => by simp [okF]
  | 0, .list _, h => by simp [okF] at h
  | 0, .opt _, h => by simp [okF] at h
  | 0, .rcd _, h => by simp [okF] at h
  | 0, .keyed _ _ _ _, h => by simp [okF] at h
  | n + 1, .list f, h => by
    have h' : okF n f := by simpa [okF] using h
    show okF (n + 1 + 1) (.list f)
    simp only [okF]
    exact okF_up n f h'
  | n + 1, .opt f, h => by
    have h' : okF n f ∧ f.isOpt = false := by simpa [okF] using h
    show okF (n + 1 + 1) (.opt f)
    simp only [okF]
    exact ⟨okF_up n f h'.1, h'.2⟩
  | n + 1, .rcd fs, h => by
    have h' : Names (fs.map (·.1)) ∧ sortedS (fs.map (·.1)) = true ∧ 1 ≤ fs.length ∧ fs.length ≤ 3 ∧ ∀ q ∈ fs, okF n q.2 := by simpa only [okF] using h
    show okF (n + 1 + 1) (.rcd fs)
    simp only [okF]
    exact ⟨h'.1, h'.2.1, h'.2.2.1, h'.2.2.2.1, fun q hq => okF_up n q.2 (h'.2.2.2.2 q hq)⟩
  | n + 1, .keyed k num w f, h => by
    have h' : Names [k, w] ∧ sortedS [k, w] = true ∧ okF n f := by simpa only [okF] using h
    show okF (n + 1 + 1) (.keyed k num w f)
    simp only [okF]
    exact ⟨h'.1, h'.2.1, okF_up n f h'.2.2⟩
theorem encFs_snoc (w : Str) (f : Fm) : ∀ fs : List (Str × Fm), encFs (fs ++ [(w, f)]) = encFs fs ++ [.tuple [.str w, enc f]]
  | [] => by simp [encFs]
  | (w', f') :: r => by simp [encFs, encFs_snoc w f r]
theorem Names.perm {ys zs : List Str} (h : Names zs) (p : ys.Perm zs) : Names ys := ⟨p.nodup_iff.mpr h.1, fun z hz => h.2 z (p.mem_iff.mp hz)⟩
/-- the first word of a form -/
def Fm.word : Fm → Str
  | .text => "text"
  | .number => "number"
  | .flag => "flag"
  | .list _ => "list"
  | .opt _ => "optional"
  | .rcd _ => "record"
  | .keyed _ _ _ _ => "keyed"
theorem enc_head {K : PySem.W.Frag} {H : Hp} {v : V} (f : Fm) (h : Dq K H v (enc f)) : ∃ a xs, v = .ref a ∧ H a = some (.tup xs) ∧ xs[0]? = some (.str f.word) := by
  cases f <;> (simp only [enc] at h; cases h with | tup hs ha => cases ha with | cons h1 h2 => cases h1; exact ⟨_, _, rfl, hs, rfl⟩)
section
variable {base : Heap} {P : Program} {w : World} {K : PySem.W.Frag} {mg : Str → Option Value}
abbrev s_form : Stmt := top 67
abbrev N_form : List Str := ["_law_pool_here", "_law_deep", "_law_way", "_law_words_here", "_law_fields", "_law_key", "_law_inner", "_law_word"]
abbrev P_form : List Str := ["_law_pool_here", "_law_deep"]
theorem sc_form : FnScope N_form P_form (defScope s_form) := ⟨rfl, rfl, rfl, by decide +kernel, rfl, by decide +kernel, by decide +kernel⟩
/-- with that many levels less one (with none: it is not asked) -/
def spFormL (K : PySem.W.Frag) : Nat → Sp
  | 0 => fun _ _ _ _ => False
  | n + 1 => fun vs H Q _ => ∃ p : Addr, vs = [.ref p, .int (n : Int)] ∧ PoolAt H p ∧
    ∀ (H' : Hp) (v : V) (f : Fm), Keep p H H' → PoolAt H' p → Dq K (sub H H') v (enc f) → okF n f → Q v H'
theorem ok_formS {f fdr fwo : Addr} {fd fdd fdw : FuncData} {n : Nat} (F : Fun K "_law_form" "_law_form" s_form f fd) (T : Bl mg) (D_draw : Def P w K mg base "_law_draw" 1 P_draw spDraw fdr fdd) (D_words : Def P w K mg base "_law_words" 2 P_words spWords fwo fdw)
    (D_form : Def P w K mg base "_law_form" (n + 2) P_form (spFormL K n) f fd) : FnOk P w K mg base CX0 (n + 3) f fd P_form (spFormL K (n + 1)) := by
  refine F.ok sc_form (fun vs H Q E h => ?_) (fun cdv A outer s H vs Q E hr h => ?_)
  · obtain ⟨p, rfl, _⟩ := h
    rfl
  obtain ⟨p, rfl, hp, q⟩ := h
  refine ⟨_, (pss_cons (ps_set (i := 2) sc_form.nd rfl (Or.inl rfl) (pe_call D_draw.ok (hr.mono (by first | decide | omega)) rfl D_draw.g D_draw.kp D_draw.b .nil pass0 (pa_cons (pv 0) (pa_cons pe_int pa_nil))))
    (pss_cons (ps_if (PW.pt (pw_or (pt_cmpR op_eq (pv 1) pe_int (nomark _)) (pw_or1 (pt_cmpR op_lt (pv 2) pe_int (nomark _)))))
      (pss_one (ps_ret (pe_ix (ix_listK K rfl) (pe_lst (pa_cons (pe_tup (pa_cons pe_str pa_nil)) (pa_cons (pe_tup (pa_cons pe_str pa_nil)) (pa_cons (pe_tup (pa_cons pe_str pa_nil)) (pa_cons (pe_tup (pa_cons pe_str pa_nil)) pa_nil))))) (pe_op op_mod (pv 2) pe_int) (fun _ _ => rfl))))
      pss_nil)
    (pss_cons (ps_if (pt_cmpR op_eq (pv 2) pe_int (nomark _))
      (pss_one (ps_ret (pe_tup (pa_cons pe_str (pa_cons (pe_call D_form.ok (hr.mono (by first | decide | omega)) rfl D_form.g D_form.kp D_form.b .nil pass0 (pa_cons (pv 0) (pa_cons (pe_op op_sub (pv 1) pe_int) pa_nil))) pa_nil)))))
      pss_nil)
    (pss_cons (ps_if (pt_cmpR (op_inK K rfl) (pv 2) (pe_lst (pa_cons pe_int (pa_cons pe_int pa_nil))) (by with_unfolding_all rfl))
      (pss_cons (ps_set (i := 3) sc_form.nd rfl (Or.inl rfl) (pe_callB cr_sortedS (by rfl) T.sorted (by decide +kernel) (pa_cons (pe_call D_words.ok (hr.mono (by first | decide | omega)) rfl D_words.g D_words.kp D_words.b .nil pass0 (pa_cons (pv 0) (pa_cons (pe_op op_add pe_int (pe_call D_draw.ok (hr.mono (by first | decide | omega)) rfl D_draw.g D_draw.kp D_draw.b .nil pass0 (pa_cons (pv 0) (pa_cons pe_int pa_nil)))) pa_nil))) pa_nil)))
    (pss_cons (ps_setLc (i := 4) (own := [("_law_word", 7)]) (g := (gName 7)) (tt := tYes) rfl sc_form.nd rfl rfl (sw_true rfl rfl rfl (by decide +kernel)) (pi_list (pv 3)) (blkOk_by (own := [("_law_word", 7)]) (N := N_form) (sc := defScope s_form) (by decide +kernel)) (fun _ _ _ _ _ => (pg_name (i := 7) sc_form.nd rfl (Or.inl rfl))) (fun _ _ _ _ _ => pts_nil) (fun _ _ _ _ _ => (pe_tup (pa_cons (pv 7) (pa_cons (pe_call D_form.ok (hr.mono (by first | decide | omega)) rfl D_form.g D_form.kp D_form.b .nil pass0 (pa_cons (pv 0) (pa_cons (pe_op op_sub (pv 1) pe_int) pa_nil))) pa_nil)))))
    (pss_one (ps_ret (pe_tup (pa_cons pe_str (pa_cons (pe_callTy call_tuple_of (by rfl) T.tuple (by decide +kernel) (pa_cons (pv 4) pa_nil)) pa_nil)))))))
      pss_nil)
    (pss_cons (ps_if (pt_cmpR op_eq (pv 2) pe_int (nomark _))
      (pss_cons (ps_set (i := 3) sc_form.nd rfl (Or.inl rfl) (pe_callB cr_sortedS (by rfl) T.sorted (by decide +kernel) (pa_cons (pe_call D_words.ok (hr.mono (by first | decide | omega)) rfl D_words.g D_words.kp D_words.b .nil pass0 (pa_cons (pv 0) (pa_cons pe_int pa_nil))) pa_nil)))
    (pss_cons (ps_set (i := 5) sc_form.nd rfl (Or.inl rfl) (pe_ix (ix_listK K rfl) (pe_lst (pa_cons pe_str (pa_cons pe_str pa_nil))) (pe_call D_draw.ok (hr.mono (by first | decide | omega)) rfl D_draw.g D_draw.kp D_draw.b .nil pass0 (pa_cons (pv 0) (pa_cons pe_int pa_nil))) (fun _ _ => rfl)))
    (pss_one (ps_ret (pe_tup (pa_cons pe_str (pa_cons (pe_tup (pa_cons pe_str (pa_cons (pe_tup (pa_cons (pe_tup (pa_cons (pe_ix (ix_listK K rfl) (pv 3) pe_int (fun _ _ => rfl)) (pa_cons (pe_tup (pa_cons (pv 5) pa_nil)) pa_nil))) (pa_cons (pe_tup (pa_cons (pe_ix (ix_listK K rfl) (pv 3) pe_int (fun _ _ => rfl)) (pa_cons (pe_call D_form.ok (hr.mono (by first | decide | omega)) rfl D_form.g D_form.kp D_form.b .nil pass0 (pa_cons (pv 0) (pa_cons (pe_op op_sub (pv 1) pe_int) pa_nil))) pa_nil))) pa_nil))) pa_nil))) (pa_cons (pe_ix (ix_listK K rfl) (pv 3) pe_int (fun _ _ => rfl)) pa_nil))))))))
      pss_nil)
    (pss_cons (ps_set (i := 6) sc_form.nd rfl (Or.inl rfl) (pe_call D_form.ok (hr.mono (by first | decide | omega)) rfl D_form.g D_form.kp D_form.b .nil pass0 (pa_cons (pv 0) (pa_cons (pe_op op_sub (pv 1) pe_int) pa_nil))))
    (pss_one (ps_ret (pe_ifExp (pt_cmpR op_eq (pe_ix (ix_tupK K rfl) (pv 6) pe_int (fun _ _ => rfl)) pe_str (nomark _)) (pv 6) (pe_tup (pa_cons pe_str (pa_cons (pv 6) pa_nil)))))))))))), ?_⟩
  have small : ∀ n : Nat, n ≤ 1000 → n ≤ sizeLine := fun n h => Nat.le_of_lt (small1000 h)
  refine ⟨_, rfl, p, 10, rfl, hp, by decide, by decide, fun H1 r k1 p1 a0 a1 => ?_⟩
  have d1 : Dom H H1 := k1.dom p1
  have hasP := hp.has
  -- the forms without parts
  have leaf : ∀ (t1 t2 t3 t4 l : Addr), H1 t1 = none → (upd H1 t1 (.tup [.str "text"])) t2 = none → (upd (upd H1 t1 (.tup [.str "text"])) t2 (.tup [.str "text"])) t3 = none →
      (upd (upd (upd H1 t1 (.tup [.str "text"])) t2 (.tup [.str "text"])) t3 (.tup [.str "number"])) t4 = none →
      (upd (upd (upd (upd H1 t1 (.tup [.str "text"])) t2 (.tup [.str "text"])) t3 (.tup [.str "number"])) t4 (.tup [.str "flag"])) l = none →
      ∀ H2 : Hp, H2 = upd (upd (upd (upd (upd H1 t1 (.tup [.str "text"])) t2 (.tup [.str "text"])) t3 (.tup [.str "number"])) t4 (.tup [.str "flag"])) l (.lst [.ref t1, .ref t2, .ref t3, .ref t4]) →
      ∃ x : V, atI [V.ref t1, .ref t2, .ref t3, .ref t4] (r % 4) = some x ∧ Q x H2 := by
    intro t1 t2 t3 t4 l h1 h2 h3 h4 hl H2 e2
    have n1 : t1 ≠ t2 := ne_of_none upd_same h2
    have g1 : H t1 = none := d1 _ h1
    have g2 : H t2 = none := (d1.trans dom_upd) _ h2
    have g3 : H t3 = none := (d1.trans (dom_upd.trans dom_upd)) _ h3
    have g4 : H t4 = none := (d1.trans (dom_upd.trans (dom_upd.trans dom_upd))) _ h4
    have s1 := same_new h1 (.tup [.str "text"])
    have s2 := same_new h2 (.tup [.str "text"])
    have s3 := same_new h3 (.tup [.str "number"])
    have s4 := same_new h4 (.tup [.str "flag"])
    have s5 := same_new hl (.lst [.ref t1, .ref t2, .ref t3, .ref t4])
    have kk : Same H1 H2 := by rw [e2]; exact s1.trans (s2.trans (s3.trans (s4.trans s5)))
    have f1 : H2 t1 = some (.tup [.str "text"]) := by rw [e2]; exact (s2.trans (s3.trans (s4.trans s5))) _ _ upd_same
    have f2 : H2 t2 = some (.tup [.str "text"]) := by rw [e2]; exact (s3.trans (s4.trans s5)) _ _ upd_same
    have f3 : H2 t3 = some (.tup [.str "number"]) := by rw [e2]; exact (s4.trans s5) _ _ upd_same
    have f4 : H2 t4 = some (.tup [.str "flag"]) := by rw [e2]; exact s5 _ _ upd_same
    have f5 : H2 l = some (.lst [.ref t1, .ref t2, .ref t3, .ref t4]) := by rw [e2]; exact upd_same
    have fin : ∀ (t : Addr) (z : Str) (f : Fm), H t = none → H2 t = some (.tup [.str z]) → enc f = .tuple [.str z] → okF n f → Q (.ref t) H2 := fun t z f gt ft ef okf =>
      q H2 _ f (k1.trans (Same.keep kk)) (p1.same kk) (by rw [ef]; exact .tup (by rw [sub_new gt]; exact ft) (.cons (.str z) .nil)) okf
    rcases (show r % 4 = 0 ∨ r % 4 = 1 ∨ r % 4 = 2 ∨ r % 4 = 3 by omega) with e | e | e | e
    · exact ⟨.ref t1, by rw [e]; rfl, fin t1 "text" .text g1 f1 (by simp [enc]) (by simp [okF])⟩
    · exact ⟨.ref t2, by rw [e]; rfl, fin t2 "text" .text g2 f2 (by simp [enc]) (by simp [okF])⟩
    · exact ⟨.ref t3, by rw [e]; rfl, fin t3 "number" .number g3 f3 (by simp [enc]) (by simp [okF])⟩
    · exact ⟨.ref t4, by rw [e]; rfl, fin t4 "flag" .flag g4 f4 (by simp [enc]) (by simp [okF])⟩
  refine ⟨_, rfl, rfl, _, rfl, ?_⟩
  refine ite2 (fun c => iteT ?_) (fun c => ?_)
  · refine ⟨(by show 1 ≤ sizeLine; decide), fun t1 h1 => ⟨(by show 1 ≤ sizeLine; decide), fun t2 h2 => ⟨(by show 1 ≤ sizeLine; decide), fun t3 h3 => ⟨(by show 1 ≤ sizeLine; decide), fun t4 h4 => ⟨(by show 4 ≤ sizeLine; decide), fun l hl => ?_⟩⟩⟩⟩⟩
    obtain ⟨x, ex, qx⟩ := leaf t1 t2 t3 t4 l h1 h2 h3 h4 hl _ rfl
    exact ⟨_, rfl, _, _, rfl, rfl, (by show (0 : Int) < 4; decide), l, _, _, x, rfl, rfl, SqL.of upd_same, ex, qx⟩
  refine ⟨_, rfl, _, _, rfl, rfl, _, rfl, ?_⟩
  refine ite2 (fun c2 => ?_) (fun c2 => ?_)
  · refine ⟨(by show 1 ≤ sizeLine; decide), fun t1 h1 => ⟨(by show 1 ≤ sizeLine; decide), fun t2 h2 => ⟨(by show 1 ≤ sizeLine; decide), fun t3 h3 => ⟨(by show 1 ≤ sizeLine; decide), fun t4 h4 => ⟨(by show 4 ≤ sizeLine; decide), fun l hl => ?_⟩⟩⟩⟩⟩
    obtain ⟨x, ex, qx⟩ := leaf t1 t2 t3 t4 l h1 h2 h3 h4 hl _ rfl
    exact ⟨_, rfl, _, _, rfl, rfl, (by show (0 : Int) < 4; decide), l, _, _, x, rfl, rfl, SqL.of upd_same, ex, qx⟩
  clear leaf
  -- from here on there is a level left
  obtain ⟨n', rfl⟩ : ∃ n', n = n' + 1 := by
    cases n with
    | zero => exact absurd (show decide (V.int ((0 : Nat) : Int) = V.int 0) = true by decide) c
    | succ n' => exact ⟨n', rfl⟩
  have hn : ((n' + 1 : Nat) : Int) - 1 = (n' : Int) := by omega
  have arg : ([V.ref p, V.int (((n' + 1 : Nat) : Int) - 1)] : List V) ++ [] = [.ref p, .int (n' : Int)] := by rw [hn]; rfl
  refine ⟨_, rfl, rfl, _, rfl, ?_⟩
  refine ite2 (fun c3 => ?_) (fun c3 => ?_)
  · refine ⟨_, rfl, _, rfl, _, _, rfl, rfl, p, arg, p1, fun H2 v f k2 p2 dv okf => ⟨(by show 2 ≤ sizeLine; decide), fun t ht => ?_⟩⟩
    have gt : H t = none := d1 _ (k2.dom p2 _ ht)
    refine q _ _ (.list f) (k1.trans (k2.trans (Keep.new ht _))) (p2.same (same_new ht _)) ?_ (by simpa only [okF] using okf)
    simp only [enc]
    refine .tup (by rw [sub_new gt]; exact upd_same) (.cons (.str _) (.cons ?_ .nil))
    exact Dq.same ((sub_left d1).trans (sub_fresh ht)) _ _ dv
  refine ⟨_, rfl, (by show 2 ≤ sizeLine; decide), fun l56 hl56 => ⟨l56, _, rfl, .inl (SqL.of upd_same), rfl, rfl, _, rfl, ?_⟩⟩
  generalize hH2 : upd H1 l56 _ = H2
  have s2 : Same H1 H2 := by rw [← hH2]; exact same_new hl56 _
  have k2 : Keep p H H2 := k1.trans (Same.keep s2)
  have p2 := p1.same s2
  have d2 : Dom H H2 := d1.trans (Same.dom s2)
  clear hH2 hl56 s2
  refine ite2 (fun c4 => ?_) (fun c4 => ?_)
  · -- a record
    refine ⟨_, rfl, _, rfl, p, 3, rfl, p2, by decide, by decide, fun H3 r3 k3 p3 b0 b1 => ⟨_, _, rfl, rfl, p, 1 + r3, rfl, p3, by omega, by omega, fun H4 lw zs k4 p4 n4 e4 z4 nm4 => ?_⟩⟩
    refine ⟨lw, zs, rfl, SqL.of e4, by omega, fun ys l5 perm srt n5 => ?_⟩
    have ylen : ys.length = zs.length := perm.length_eq
    have ynm : Names ys := nm4.perm perm
    generalize hH5 : upd H4 l5 _ = H5
    have s5 : Same H4 H5 := by rw [← hH5]; exact same_new n5 _
    have e5 : H5 l5 = some (.lst (ys.map V.str)) := by rw [← hH5]; exact upd_same
    have k5 : Keep p H H5 := k2.trans (k3.trans (k4.trans (Same.keep s5)))
    have p5 := p4.same s5
    have n5p : l5 ≠ p := p4.ne n5
    clear hH5 s5 n5 e4 n4 k3 p3 k4 p4
    refine ⟨_, rfl, l5, rfl, ⟨_, SqL.of e5⟩, fun D hD => ?_⟩
    have nD := p5.ne hD
    obtain ⟨H6, hH6⟩ : ∃ H6, H6 = upd H5 D (.lst []) := ⟨_, rfl⟩
    have s6 : Same H5 H6 := by rw [hH6]; exact same_new hD _
    have e6 : H6 D = some (.lst []) := by rw [hH6]; exact upd_same
    have p6 := p5.same s6
    have l6 : H6 l5 = some (.lst (ys.map V.str)) := s6 _ _ e5
    have nl : l5 ≠ D := ne_of_none e5 hD
    have has6 : ∃ u, H6 p = some u := p6.has
    have hasD : ∃ u, H6 D = some u := ⟨_, e6⟩
    have d56 : Dom H H6 := (k5.trans (Same.keep s6)).dom p6
    refine lc_list (K := K) (a := l5) (xs := ys.map V.str) (fun i H' => Keep p H5 H' ∧ PoolAt H' p ∧ Dom H6 H' ∧ ∃ (vs : List V) (fs : List (Str × Fm)), H' D = some (.lst vs) ∧ DqAll K (sub H6 H') vs (encFs fs) ∧ fs.map (·.1) = ys.take i ∧ vs.length = i ∧ ∀ g ∈ fs, okF n' g.2)
      (by rw [← hH6]; exact ⟨Same.keep s6, p6, fun _ z => z, [], [], e6, .nil, rfl, rfl, fun _ z => by cases z⟩) (fun i H' _ ⟨k, _⟩ => SqL.of (k _ _ n5p e5)) ?_ ?_
    · rintro i x H' hx ⟨k7, p7, d67, vs, fs, e7, dv7, m7, z7, o7⟩
      obtain ⟨hi, rfl⟩ : ∃ hi : i < ys.length, x = V.str ys[i] := by
        have hlt := (List.getElem?_eq_some_iff.mp hx).1
        rw [List.length_map] at hlt
        rw [List.getElem?_map, List.getElem?_eq_getElem hlt] at hx
        exact ⟨hlt, (Option.some.inj hx).symm⟩
      refine ⟨rfl, yesT ?_⟩
      refine ⟨_, rfl, _, rfl, _, rfl, _, _, rfl, rfl, p, arg, p7, fun H8 v f k8 p8 dv okf => ⟨(by show 2 ≤ sizeLine; decide), fun t ht => ?_⟩⟩
      have e8 : H8 D = some (.lst vs) := k8 _ _ nD e7
      have ntD : t ≠ D := (ne_of_none e8 ht).symm
      have d68 : Dom H6 H8 := d67.trans (k8.dom p8)
      have g6 : H6 t = none := d68 _ ht
      refine ⟨vs, by rw [upd_ne ntD.symm]; exact e8, by rw [z7]; exact small1000 (by omega), ?_⟩
      refine ⟨(k7.trans (k8.trans (Keep.new ht _))).upd hD, (p8.same (same_new ht _)).upd nD, d68.trans (dom_upd.trans dom_upd), vs ++ [.ref t], fs ++ [(ys[i], f)], upd_same, ?_, ?_, ?_, ?_⟩
      · rw [encFs_snoc]
        have carry : Same (sub H6 H8) (sub H6 (upd (upd H8 t (.tup [.str ys[i], v])) D (.lst (vs ++ [.ref t])))) := (sub_fresh ht).trans (sub_upd hasD)
        refine DqAll.snoc ?_ (DqAll.same ((sub_keep k8 has6).trans carry) _ _ dv7)
        refine .tup ?_ (.cons (.str _) (.cons (Dq.same ((sub_left d67).trans carry) _ _ dv) .nil))
        rw [sub_new g6, upd_ne ntD]
        exact upd_same
      · rw [List.map_append, m7, List.take_succ, List.getElem?_eq_getElem hi]
        rfl
      · rw [List.length_append, z7]
        rfl
      · intro g hg
        rcases List.mem_append.mp hg with hg | hg
        · exact o7 g hg
        · rw [List.mem_singleton.mp hg]
          exact okf
    rintro H7 ⟨k7, p7, d67, vs, fs, e7, dv7, m7, z7, o7⟩
    rw [List.length_map] at m7 z7
    rw [List.take_length] at m7
    refine ⟨_, rfl, D, vs, rfl, .inl ⟨SqL.of e7, fun l8 hl8 => ⟨(by show 2 ≤ sizeLine; decide), fun t ht => ?_⟩⟩⟩
    have g8 : H l8 = none := d56 _ (d67 _ hl8)
    have gt : H t = none := (d56.trans d67) _ (dom_upd _ ht)
    have n8 : l8 ≠ t := ne_of_none upd_same ht
    refine q _ _ (.rcd fs) (k5.trans (k7.trans ((Keep.new hl8 _).trans (Keep.new ht _)))) (p7.same ((same_new hl8 _).trans (same_new ht _))) ?_ ?_
    · simp only [enc]
      refine .tup (by rw [sub_new gt]; exact upd_same) (.cons (.str _) (.cons (.tup (by rw [sub_new g8, upd_ne n8]; exact upd_same) ?_) .nil))
      exact DqAll.same ((sub_left d56).trans ((sub_fresh hl8).trans (sub_fresh ht))) _ _ dv7
    · have fl : fs.length = ys.length := by rw [← m7, List.length_map]
      simp only [okF]
      rw [m7]
      exact ⟨ynm, srt, by omega, by omega, o7⟩
  refine ⟨_, rfl, rfl, _, rfl, ?_⟩
  refine ite2 (fun c5 => ?_) (fun c5 => ?_)
  · -- a list by a key
    refine ⟨_, rfl, p, 2, rfl, p2, by decide, by decide, fun H4 lw zs k4 p4 n4 e4 z4 nm4 => ?_⟩
    refine ⟨lw, zs, rfl, SqL.of e4, by omega, fun ys l5 perm srt n5 => ?_⟩
    have ylen : ys.length = zs.length := perm.length_eq
    have ynm : Names ys := nm4.perm perm
    obtain ⟨y0, y1, rfl⟩ : ∃ y0 y1, ys = [y0, y1] := by
      match ys, (show ys.length = 2 by omega) with
      | [a, b], _ => exact ⟨a, b, rfl⟩
    generalize hH5 : upd H4 l5 _ = H5
    have s5 : Same H4 H5 := by rw [← hH5]; exact same_new n5 _
    have e5 : H5 l5 = some (.lst [.str y0, .str y1]) := by rw [← hH5]; exact upd_same
    have k5 : Keep p H H5 := k2.trans (k4.trans (Same.keep s5))
    have p5 := p4.same s5
    have n5p : l5 ≠ p := p4.ne n5
    clear hH5 s5 n5 e4 n4 k4 p4
    refine ⟨(by show 2 ≤ sizeLine; decide), fun lk hlk => ?_⟩
    have p6 := p5.same (same_new hlk (.lst [.str "text", .str "number"]))
    refine ⟨_, rfl, p, 2, rfl, p6, by decide, by decide, fun H7 r2 k7 p7 b0 b1 => ?_⟩
    obtain ⟨num, enum⟩ : ∃ num : Bool, atI [V.str "text", .str "number"] r2 = some (.str (kword num)) := by
      rcases (show r2 = 0 ∨ r2 = 1 by omega) with e | e
      · exact ⟨false, by rw [e]; rfl⟩
      · exact ⟨true, by rw [e]; rfl⟩
    refine ⟨lk, _, r2, _, rfl, rfl, SqL.of (k7 _ _ (p5.ne hlk) upd_same), enum, ?_⟩
    have e7 : H7 l5 = some (.lst [.str y0, .str y1]) := k7 _ _ n5p (same_new hlk _ _ _ e5)
    have kH7 : Keep p H H7 := k5.trans ((Keep.new hlk _).trans k7)
    have dH7 : Dom H H7 := kH7.dom p7
    clear k7 p6 hlk e5 k5 p5
    refine ⟨_, rfl, l5, _, 0, _, rfl, rfl, SqL.of e7, rfl, _, rfl, (by show 1 ≤ sizeLine; decide), fun t1 h1 => ⟨(by show 2 ≤ sizeLine; decide), fun t2 h2 => ?_⟩⟩
    obtain ⟨H8, hH8⟩ : ∃ H8, H8 = upd (upd H7 t1 (.tup [.str (kword num)])) t2 (.tup [.str y0, .ref t1]) := ⟨_, rfl⟩
    rw [← hH8]
    have n12 : t1 ≠ t2 := ne_of_none upd_same h2
    have s8 : Same H7 H8 := by rw [hH8]; exact (same_new h1 _).trans (same_new h2 _)
    have f1 : H8 t1 = some (.tup [.str (kword num)]) := by rw [hH8, upd_ne n12]; exact upd_same
    have f2 : H8 t2 = some (.tup [.str y0, .ref t1]) := by rw [hH8]; exact upd_same
    have g1 : H t1 = none := dH7 _ h1
    have g2 : H t2 = none := dH7 _ (dom_upd _ h2)
    have e8 := s8 _ _ e7
    have p8 := p7.same s8
    have d8 : Dom H H8 := dH7.trans (Same.dom s8)
    have k8 : Keep p H H8 := kH7.trans (Same.keep s8)
    have m1 : t1 ≠ p := p7.ne h1
    have m2 : t2 ≠ p := (p7.same (same_new h1 (.tup [.str (kword num)]))).ne h2
    clear hH8 h1 h2 s8 kH7 dH7
    refine ⟨_, rfl, l5, _, 1, _, rfl, rfl, SqL.of e8, rfl, _, rfl, _, rfl, _, _, rfl, rfl, p, arg, p8, fun H9 v f k9 p9 dv okf => ?_⟩
    have q1 := k9 _ _ m1 f1
    have q2 := k9 _ _ m2 f2
    have e9 := k9 _ _ n5p e8
    have d9 : Dom H H9 := d8.trans (k9.dom p9)
    refine ⟨(by show 2 ≤ sizeLine; decide), fun t3 h3 => ⟨(by show 2 ≤ sizeLine; decide), fun t4 h4 => ⟨(by show 2 ≤ sizeLine; decide), fun t5 h5 => ?_⟩⟩⟩
    have s3 := same_new h3 (.tup [.str y1, v])
    have s4 := same_new h4 (.tup [.ref t2, .ref t3])
    have s5 := same_new h5 (.tup [.str "record", .ref t4])
    refine ⟨_, rfl, l5, _, 0, _, rfl, rfl, SqL.of ((s3.trans (s4.trans s5)) _ _ e9), rfl, (by show 3 ≤ sizeLine; decide), fun t6 h6 => ?_⟩
    have s6 := same_new h6 (.tup [.str "keyed", .ref t5, .str y0])
    have g3 : H t3 = none := d9 _ h3
    have g4 : H t4 = none := (d9.trans dom_upd) _ h4
    have g5 : H t5 = none := (d9.trans (dom_upd.trans dom_upd)) _ h5
    have g6 : H t6 = none := (d9.trans (dom_upd.trans (dom_upd.trans dom_upd))) _ h6
    have all := s3.trans (s4.trans (s5.trans s6))
    refine q _ _ (.keyed y0 num y1 f) (k8.trans (k9.trans (Same.keep all))) (p9.same all) ?_ ?_
    · simp only [enc]
      refine .tup (by rw [sub_new g6]; exact upd_same) (.cons (.str _) (.cons ?_ (.cons (.str _) .nil)))
      refine .tup (by rw [sub_new g5]; exact s6 _ _ upd_same) (.cons (.str _) (.cons ?_ .nil))
      refine .tup (by rw [sub_new g4]; exact (s5.trans s6) _ _ upd_same) (.cons ?_ (.cons ?_ .nil))
      · refine .tup (by rw [sub_new g2]; exact all _ _ q2) (.cons (.str _) (.cons ?_ .nil))
        exact .tup (by rw [sub_new g1]; exact all _ _ q1) (.cons (.str _) .nil)
      · refine .tup (by rw [sub_new g3]; exact (s4.trans (s5.trans s6)) _ _ upd_same) (.cons (.str _) (.cons ?_ .nil))
        refine Dq.same ((sub_left d8).trans ?_) _ _ dv
        exact (sub_fresh h3).trans ((sub_fresh h4).trans ((sub_fresh h5).trans (sub_fresh h6)))
    · simp only [okF]
      exact ⟨ynm, srt, okf⟩
  · refine ⟨_, rfl, _, rfl, _, _, rfl, rfl, p, arg, p2, fun H3 v f k3 p3 dv okf => ?_⟩
    have d3 : Dom H2 H3 := k3.dom p3
    obtain ⟨a, xs, rfl, ea, e0⟩ := enc_head f (Dq.same (sub_same _ _) _ _ dv)
    refine ⟨_, rfl, a, xs, 0, .str f.word, rfl, rfl, SqT.of ea, at_of (j := 0) rfl e0, rfl, _, rfl, ?_⟩
    refine ite2 (fun c6 => ?_) (fun c6 => ?_)
    · exact ⟨_, rfl, q _ _ f (k2.trans k3) p3 (Dq.same (sub_left d2) _ _ dv) (okF_up _ _ okf)⟩
    · refine ⟨_, rfl, (by show 2 ≤ sizeLine; decide), fun t ht => ?_⟩
      have gt : H t = none := (d2.trans d3) _ ht
      refine q _ _ (.opt f) (k2.trans (k3.trans (Keep.new ht _))) (p3.same (same_new ht _)) ?_ ?_
      · simp only [enc]
        refine .tup (by rw [sub_new gt]; exact upd_same) (.cons (.str _) (.cons ?_ .nil))
        exact Dq.same ((sub_left d2).trans (sub_fresh ht)) _ _ dv
      · simp only [okF]
        refine ⟨okf, ?_⟩
        cases f with
        | opt g => exact absurd (show decide (V.str (Fm.opt g).word = V.str "optional") = true from decide_eq_true rfl) c6
        | _ => rfl
theorem ok_form {f fdr fwo : Addr} {fd fdd fdw : FuncData} (F : Fun K "_law_form" "_law_form" s_form f fd) (T : Bl mg) (g : mg "_law_form" = some (.ref f)) (b : Binds K fd P_form []) (D_draw : Def P w K mg base "_law_draw" 1 P_draw spDraw fdr fdd) (D_words : Def P w K mg base "_law_words" 2 P_words spWords fwo fdw) :
    ∀ n : Nat, FnOk P w K mg base CX0 (n + 2) f fd P_form (spFormL K n)
  | 0 => ⟨fun _ _ _ _ h => h.elim, fun _ _ _ _ _ _ _ _ _ _ _ _ _ h => h.elim⟩
  | n + 1 => ok_formS F T D_draw D_words ⟨g, F.kp, b, ok_form F T g b D_draw D_words n⟩
end
end KX

namespace KX
open PySem PySem.Spec L2 PyProof.Rows
/-! ### things of a form -/
def keyOf (num : Bool) (i : Nat) (d : PyData) : Prop := if num = true then ∃ j : Int, d = .int j ∧ 3 * (i : Int) ≤ j ∧ j < 3 * (i : Int) + 3 else d = .str (repS "k" (i + 1))
inductive Fit : Fm → PyData → Prop
  | text {z : Str} : TxOk z → Fit .text (.str z)
  | number {i : Int} : i.natAbs ≤ 10 ^ 20 → Fit .number (.int i)
  | flag (b : Bool) : Fit .flag (.bool b)
  | optN (f : Fm) : Fit (.opt f) .none
  | opt {f : Fm} {d : PyData} : Fit f d → Fit (.opt f) d
  | list {f : Fm} {ds : List PyData} : ds.length ≤ 3 → (∀ x ∈ ds, Fit f x) → Fit (.list f) (.tuple ds)
  | rcd {fs : List (Str × Fm)} {kvs : List (PyData × PyData)} : kvs.map (·.1) = fs.map (fun q => PyData.str q.1) → (∀ (i : Nat) (q : Str × Fm) (kv : PyData × PyData), fs[i]? = some q → kvs[i]? = some kv → Fit q.2 kv.2) → Fit (.rcd fs) (.dict kvs)
  | keyed {k : Str} {num : Bool} {w : Str} {f : Fm} {rows : List (PyData × PyData)} : rows.length ≤ 3 → (∀ (i : Nat) (r : PyData × PyData), rows[i]? = some r → keyOf num i r.1) → (∀ r ∈ rows, Fit f r.2) →
      Fit (.keyed k num w f) (.tuple (rows.map fun r => .dict [(.str k, r.1), (.str w, r.2)]))
/-- a form, a keyed list counted as two levels -/
def okD : Nat → Fm → Prop
  | _, .text => True
  | _, .number => True
  | _, .flag => True
  | n + 1, .list f => okD n f
  | n + 1, .opt f => okD n f
  | n + 1, .rcd fs => (fs.map (·.1)).Nodup ∧ fs.length ≤ 3 ∧ ∀ q ∈ fs, okD n q.2
  | n + 2, .keyed k _ w f => k ≠ w ∧ okD n f
  | _, _ => False
theorem okD_up : ∀ (n : Nat) (f : Fm), okD n f → okD (n + 1) f
  | _, .text, _ => by simp [okD]
  | _, .number, _ => by simp [okD]
  | _, .flag, _ => by simp [okD]
  | 0, .list _, h => by simp [okD] at h
  | 0, .opt _, h => by simp [okD] at h
  | 0, .rcd _, h => by simp [okD] at h
  | 0, .keyed _ _ _ _, h => by simp [okD] at h
  | 1, .keyed _ _ _ _, h => by simp [okD] at h
  | n + 1, .list f, h => by
    have h' : okD n f := by simpa [okD] using h
    show okD (n + 1 + 1) (.list f)
    simp only [okD]
    exact okD_up n f h'
  | n + 1, .opt f, h => by
    have h' : okD n f := by simpa [okD] using h
    show okD (n + 1 + 1) (.opt f)
    simp only [okD]
    exact okD_up n f h'
  | n + 1, .rcd fs, h => by
    have h' : (fs.map (·.1)).Nodup ∧ fs.length ≤ 3 ∧ ∀ q ∈ fs, okD n q.2 := by simpa only [okD] using h
    show okD (n + 1 + 1) (.rcd fs)
    simp only [okD]
    exact ⟨h'.1, h'.2.1, fun q hq => okD_up n q.2 (h'.2.2 q hq)⟩
  | n + 2, .keyed k num w f, h => by
    have h' : k ≠ w ∧ okD n f := by simpa only [okD] using h
    show okD (n + 1 + 2) (.keyed k num w f)
    simp only [okD]
    exact ⟨h'.1, okD_up n f h'.2⟩
theorem okD_of : ∀ (n : Nat) (f : Fm), okF n f → okD (2 * n) f
  | _, .text, _ => by simp [okD]
  | _, .number, _ => by simp [okD]
  | _, .flag, _ => by simp [okD]
  | 0, .list _, h => by simp [okF] at h
  | 0, .opt _, h => by simp [okF] at h
  | 0, .rcd _, h => by simp [okF] at h
  | 0, .keyed _ _ _ _, h => by simp [okF] at h
  | n + 1, .list f, h => by
    have h' : okF n f := by simpa [okF] using h
    show okD (2 * n + 1 + 1) (.list f)
    simp only [okD]
    exact okD_up _ f (okD_of n f h')
  | n + 1, .opt f, h => by
    have h' : okF n f ∧ f.isOpt = false := by simpa [okF] using h
    show okD (2 * n + 1 + 1) (.opt f)
    simp only [okD]
    exact okD_up _ f (okD_of n f h'.1)
  | n + 1, .rcd fs, h => by
    have h' : Names (fs.map (·.1)) ∧ sortedS (fs.map (·.1)) = true ∧ 1 ≤ fs.length ∧ fs.length ≤ 3 ∧ ∀ q ∈ fs, okF n q.2 := by simpa only [okF] using h
    show okD (2 * n + 1 + 1) (.rcd fs)
    simp only [okD]
    exact ⟨h'.1.1, h'.2.2.2.1, fun q hq => okD_up _ q.2 (okD_of n q.2 (h'.2.2.2.2 q hq))⟩
  | n + 1, .keyed k num w f, h => by
    have h' : Names [k, w] ∧ sortedS [k, w] = true ∧ okF n f := by simpa only [okF] using h
    show okD (2 * n + 2) (.keyed k num w f)
    simp only [okD]
    refine ⟨fun e => ?_, okD_of n f h'.2.2⟩
    have := h'.1.1
    rw [e] at this
    simp at this
theorem if_ff {c : Bool} {A B : Prop} (hc : c = false) (h : B) : if c = true then A else B := by
  rw [hc]
  exact iteF h
theorem if_tt {c : Bool} {A B : Prop} (hc : c = true) (h : A) : if c = true then A else B := by
  rw [hc]
  exact iteT h
mutual
theorem Dq.dp {K : PySem.W.Frag} {H : Hp} : ∀ (d : PyData) (v : V), Dq K H v d → d.hasDict = false → Dp K H v d
  | .none, _, .non, _ => .non
  | .bool _, _, .bl b, _ => .bl b
  | .int _, _, .int i, _ => .int i
  | .str _, _, .str x, _ => .str x
  | .list ds, _, .lst hs ha, h => .lst (SqL.of hs) (DqAll.dp ds _ ha (by simpa only [PyData.hasDict] using h))
  | .tuple ds, _, .tup hs ha, h => .tup (SqT.of hs) (DqAll.dp ds _ ha (by simpa only [PyData.hasDict] using h))
  | .dict _, _, .dct _ _, h => by simp [PyData.hasDict] at h
theorem DqAll.dp {K : PySem.W.Frag} {H : Hp} : ∀ (ds : List PyData) (vs : List V), DqAll K H vs ds → PyData.hasDictAll ds = false → DpAll K H vs ds
  | [], _, .nil, _ => .nil
  | d :: ds, _, .cons h1 h2, h => by
    simp only [PyData.hasDictAll, Bool.or_eq_false_iff] at h
    exact .cons (Dq.dp d _ h1 h.1) (DqAll.dp ds _ h2 h.2)
end
/-- the heap without these -/
def hideL (as : List Addr) (H : Hp) : Hp := fun b => if b ∈ as then none else H b
theorem hideL_ne {as : List Addr} {b : Addr} {H : Hp} (h : b ∉ as) : hideL as H b = H b := if_neg h
theorem hideL_some {as : List Addr} {b : Addr} {H : Hp} {o : HO} (h : hideL as H b = some o) : b ∉ as ∧ H b = some o := by
  by_cases z : b ∈ as
  · rw [show hideL as H b = none from if_pos z] at h
    cases h
  · rw [hideL_ne z] at h
    exact ⟨z, h⟩
theorem sub_some {H H' : Hp} {b : Addr} {o : HO} (h : sub H H' b = some o) : H b = none ∧ H' b = some o := by
  cases q : H b with
  | none => rw [sub_new q] at h; exact ⟨rfl, h⟩
  | some u => rw [sub_old q] at h; cases h
theorem put_new {kvs : List (Key × V)} {k : Key} (v : V) (h : k ∉ kvs.map (·.1)) : putK kvs k v = kvs ++ [(k, v)] := by
  unfold putK
  rw [if_neg]
  intro z
  obtain ⟨q, hq, e⟩ := List.any_eq_true.mp z
  exact h (List.mem_map.mpr ⟨q, hq, of_decide_eq_true e⟩)
theorem encFs_get {K : PySem.W.Frag} {H : Hp} : ∀ {ps : List V} {fs : List (Str × Fm)} {i : Nat} {x : V}, DqAll K H ps (encFs fs) → ps[i]? = some x →
    ∃ (w : Str) (f : Fm) (t : Addr) (y : V), fs[i]? = some (w, f) ∧ x = .ref t ∧ H t = some (.tup [.str w, y]) ∧ Dq K H y (enc f)
  | _, [], i, x, h, e => by
    simp only [encFs] at h
    cases h
    simp at e
  | _, (w, f) :: r, i, x, h, e => by
    simp only [encFs] at h
    cases h with
    | cons h1 h2 =>
      cases i with
      | zero =>
        simp at e
        subst e
        cases h1 with
        | tup hs ha =>
          cases ha with
          | cons g1 g2 =>
            cases g1
            cases g2 with
            | cons g3 g4 =>
              cases g4
              exact ⟨w, f, _, _, rfl, rfl, hs, g3⟩
      | succ i =>
        obtain ⟨w', f', t, y, z1, z2⟩ := encFs_get (i := i) h2 (by simpa using e)
        exact ⟨w', f', t, y, by simpa using z1, z2⟩
/-- a row of a keyed list: its dict's place, its key, its other value and what that is -/
structure Rw where
  a : Addr
  u : V
  y : V
  x : PyData
/-- rows as they stand: dicts of their own, whose values hold none of them -/
structure RowsAt (K : PySem.W.Frag) (H : Hp) (kw ww : Str) (g : Fm) (rs : List Rw) : Prop where
  nd : (rs.map (·.a)).Nodup
  dct : ∀ r ∈ rs, H r.a = some (.dK [(Sum.inr kw, r.u), (Sum.inr ww, r.y)])
  val : ∀ r ∈ rs, Dq K (hideL (rs.map (·.a)) H) r.y r.x
  fit : ∀ r ∈ rs, Fit g r.x
theorem RowsAt.same {K : PySem.W.Frag} {H H' : Hp} {kw ww : Str} {g : Fm} {rs : List Rw} (h : RowsAt K H kw ww g rs) (s : Same H H') : RowsAt K H' kw ww g rs :=
  ⟨h.nd, fun r hr => s _ _ (h.dct r hr), fun r hr => Dq.same (fun b o e => by
    obtain ⟨z, e⟩ := hideL_some e
    rw [hideL_ne z]
    exact s _ _ e) _ _ (h.val r hr), h.fit⟩
theorem RowsAt.snoc {K : PySem.W.Frag} {H0 H H' : Hp} {kw ww : Str} {g : Fm} {rs : List Rw} {r : Rw} (h : RowsAt K (sub H0 H) kw ww g rs) (s : Same (sub H0 H) (sub H0 H')) (d : Dom H0 H)
    (e : sub H H' r.a = some (.dK [(Sum.inr kw, r.u), (Sum.inr ww, r.y)])) (v : Dq K (hide r.a (sub H H')) r.y r.x) (f : Fit g r.x) : RowsAt K (sub H0 H') kw ww g (rs ++ [r]) := by
  have h' := h.same s
  obtain ⟨na, ea⟩ := sub_some e
  have nin : r.a ∉ rs.map (·.a) := fun z => by
    obtain ⟨q, hq, eq⟩ := List.mem_map.mp z
    have := (sub_some (h.dct q hq)).2
    rw [eq, na] at this
    cases this
  refine ⟨?_, ?_, ?_, ?_⟩
  · rw [List.map_append]
    exact nd_snoc h.nd nin
  · intro q hq
    rcases List.mem_append.mp hq with hq | hq
    · exact h'.dct q hq
    · rw [List.mem_singleton.mp hq, sub_new (d _ na)]
      exact ea
  · intro q hq
    rcases List.mem_append.mp hq with hq | hq
    · refine Dq.same (fun b o eb => ?_) _ _ (h.val q hq)
      obtain ⟨z, eb⟩ := hideL_some eb
      have z2 : b ∉ (rs ++ [r]).map (·.a) := by
        rw [List.map_append]
        intro m
        rcases List.mem_append.mp m with m | m
        · exact z m
        · have e1 : b = r.a := List.mem_singleton.mp m
          have := (sub_some eb).2
          rw [e1, na] at this
          cases this
      rw [hideL_ne z2]
      exact s _ _ eb
    · rw [List.mem_singleton.mp hq]
      refine Dq.same (fun b o eb => ?_) _ _ v
      by_cases hb : b = r.a
      · subst hb
        rw [show hide r.a (sub H H') r.a = none from if_pos rfl] at eb
        cases eb
      rw [hide_ne hb] at eb
      obtain ⟨nb, eb⟩ := sub_some eb
      have z2 : b ∉ (rs ++ [r]).map (·.a) := by
        rw [List.map_append]
        intro m
        rcases List.mem_append.mp m with m | m
        · obtain ⟨q2, hq2, eq2⟩ := List.mem_map.mp m
          have := (sub_some (h.dct q2 hq2)).2
          rw [eq2, nb] at this
          cases this
        · exact hb (List.mem_singleton.mp m)
      rw [hideL_ne z2, sub_new (d _ nb)]
      exact eb
  · intro q hq
    rcases List.mem_append.mp hq with hq | hq
    · exact h.fit q hq
    · rw [List.mem_singleton.mp hq]
      exact f
/-- the key of the i-th row is stored -/
theorem RowsAt.set {K : PySem.W.Frag} {H0 H : Hp} {kw ww : Str} {g : Fm} {rs : List Rw} {i : Nat} {r : Rw} {u : V} (h : RowsAt K (sub H0 H) kw ww g rs) (hi : rs[i]? = some r) :
    RowsAt K (sub H0 (upd H r.a (.dK [(Sum.inr kw, u), (Sum.inr ww, r.y)]))) kw ww g (rs.set i { r with u := u }) := by
  have hr := List.mem_of_getElem? hi
  have ma : (rs.set i { r with u := u }).map (·.a) = rs.map (·.a) := by
    rw [List.map_set]
    show (rs.map (·.a)).set i r.a = _
    apply List.ext_getElem?
    intro j
    rw [List.getElem?_set]
    by_cases e : i = j
    · subst e
      have hl := (List.getElem?_eq_some_iff.mp hi).1
      rw [if_pos rfl, if_pos (by rw [List.length_map]; exact hl), List.getElem?_map, hi]
      rfl
    · rw [if_neg e]
  have na := (sub_some (h.dct r hr)).1
  have memb : ∀ q ∈ rs.set i { r with u := u }, q = { r with u := u } ∨ (q ∈ rs ∧ q.a ≠ r.a) := by
    intro q hq
    obtain ⟨j, hj⟩ := List.getElem?_of_mem hq
    rw [List.getElem?_set] at hj
    by_cases e : i = j
    · rw [if_pos e] at hj
      split at hj
      · exact .inl (Option.some.inj hj).symm
      · cases hj
    · rw [if_neg e] at hj
      refine .inr ⟨List.mem_of_getElem? hj, fun z => e ?_⟩
      have j1 := (List.getElem?_eq_some_iff.mp hj).1
      have i1 := (List.getElem?_eq_some_iff.mp hi).1
      refine (List.getElem_inj h.nd (h₀ := by rw [List.length_map]; exact i1) (h₁ := by rw [List.length_map]; exact j1)).mp ?_
      rw [List.getElem_map, List.getElem_map, (List.getElem?_eq_some_iff.mp hi).2, (List.getElem?_eq_some_iff.mp hj).2]
      exact z.symm
  have carry : ∀ {v : V} {x : PyData}, Dq K (hideL (rs.map (·.a)) (sub H0 H)) v x → Dq K (hideL (rs.map (·.a)) (sub H0 (upd H r.a (.dK [(Sum.inr kw, u), (Sum.inr ww, r.y)])))) v x := fun hv => Dq.same (fun b o eb => by
    obtain ⟨z, eb⟩ := hideL_some eb
    obtain ⟨nb, eb⟩ := sub_some eb
    have hb : b ≠ r.a := fun e => z (List.mem_map.mpr ⟨r, hr, e.symm⟩)
    rw [hideL_ne z, sub_new nb, upd_ne hb]
    exact eb) _ _ hv
  refine ⟨by rw [ma]; exact h.nd, ?_, ?_, ?_⟩
  · intro q hq
    rcases memb q hq with rfl | ⟨hq, ne⟩
    · show sub H0 (upd H r.a _) r.a = _
      rw [sub_new na]
      exact upd_same
    · obtain ⟨nb, eb⟩ := sub_some (h.dct q hq)
      rw [sub_new nb, upd_ne ne]
      exact eb
  · intro q hq
    rw [ma]
    rcases memb q hq with rfl | ⟨hq, ne⟩
    · exact carry (h.val r hr)
    · exact carry (h.val q hq)
  · intro q hq
    rcases memb q hq with rfl | ⟨hq, ne⟩
    · exact h.fit r hr
    · exact h.fit q hq
theorem DqKv.inv {K : PySem.W.Frag} {S : Hp} {kk : List (Key × V)} {L : List (PyData × PyData)} (h : DqKv K S kk L) : ∀ (k0 d0 : PyData) (ds : List (PyData × PyData)), L = (k0, d0) :: ds →
    ∃ q u r, kk = (q, u) :: r ∧ keyD q = k0 ∧ Dq K S u d0 ∧ DqKv K S r ds := by
  cases h with
  | nil => intro _ _ _ e; cases e
  | cons h1 h2 =>
    intro k0 d0 ds e
    simp only [List.cons.injEq, Prod.mk.injEq] at e
    obtain ⟨⟨rfl, rfl⟩, rfl⟩ := e
    exact ⟨_, _, _, rfl, rfl, h1, h2⟩
def kform : Bool → Fm
  | true => .number
  | false => .text
theorem enc_kform (num : Bool) : enc (kform num) = .tuple [.str (kword num)] := by cases num <;> simp [kform, enc, kword]
theorem row_of {K : PySem.W.Frag} {S : Hp} {kw ww : Str} {kf g : Fm} {y : V} {d : PyData} (h : Dq K S y d) (f : Fit (.rcd [(kw, kf), (ww, g)]) d) :
    ∃ r : Rw, y = .ref r.a ∧ S r.a = some (.dK [(Sum.inr kw, r.u), (Sum.inr ww, r.y)]) ∧ Dq K (hide r.a S) r.y r.x ∧ Fit g r.x := by
  have h0 := h
  cases f with
  | rcd m ft =>
    rename_i kvs
    match kvs, m with
    | [(k0, d0), (k1, d1)], m =>
      simp only [List.map_cons, List.map_nil, List.cons.injEq, and_true] at m
      obtain ⟨rfl, rfl⟩ := m
      have f1 := ft 1 (ww, g) (.str ww, d1) rfl rfl
      cases h with
      | dct hs ha =>
        rename_i aa kk
        obtain ⟨q0, u0, r0, rfl, z0, a1, ha⟩ := DqKv.inv ha _ _ _ rfl
        obtain ⟨q1, u1, r1, rfl, z1, a3, ha⟩ := DqKv.inv ha _ _ _ rfl
        cases ha
        have e0 : q0 = Sum.inr kw := by
          cases q0 with
          | inl i => simp [keyD] at z0
          | inr x => simp only [keyD, PyData.str.injEq] at z0; rw [z0]
        have e1 : q1 = Sum.inr ww := by
          cases q1 with
          | inl i => simp [keyD] at z1
          | inr x => simp only [keyD, PyData.str.injEq] at z1; rw [z1]
        subst e0 e1
        refine ⟨⟨aa, u0, u1, d1⟩, rfl, hs, ?_, f1⟩
        refine Dq.avoid h0 _ _ a3 ?_
        simp only [PyData.depth, PyData.depthKv]
        omega
theorem encFs_len : ∀ fs : List (Str × Fm), (encFs fs).length = fs.length
  | [] => rfl
  | (_, _) :: r => by simp [encFs, encFs_len r]
section
variable {base : Heap} {P : Program} {w : World} {K : PySem.W.Frag} {mg : Str → Option Value}
abbrev s_thing : Stmt := top 68
abbrev N_thing : List Str := ["_law_pool_here", "_law_form_here", "_law_found", "_law_word", "_law_inner", "_law_k", "_law_numbers"]
abbrev P_thing : List Str := ["_law_pool_here", "_law_form_here"]
theorem sc_thing : FnScope N_thing P_thing (defScope s_thing) := ⟨rfl, rfl, rfl, by decide +kernel, rfl, by decide +kernel, by decide +kernel⟩
def spThingL (K : PySem.W.Frag) : Nat → Sp
  | 0 => fun _ _ _ _ => False
  | n + 1 => fun vs H Q _ => ∃ (p : Addr) (v : V) (f : Fm), vs = [.ref p, v] ∧ PoolAt H p ∧ Dq K (hide p H) v (enc f) ∧ okD n f ∧
    ∀ (H' : Hp) (y : V) (d : PyData), Keep p H H' → PoolAt H' p → Dq K (sub H H') y d → Fit f d → Q y H'
theorem ok_thingS {f fdr fch : Addr} {fd fdd fdc : FuncData} {n : Nat} (F : Fun K "_law_thing_of" "_law_thing_of" s_thing f fd) (T : Bl mg) (D_draw : Def P w K mg base "_law_draw" 1 P_draw spDraw fdr fdd) (D_chars : Def P w K mg base "_law_chars" 2 P_chars spChars fch fdc)
    (D_thing_of : Def P w K mg base "_law_thing_of" (n + 2) P_thing (spThingL K n) f fd) : FnOk P w K mg base CX0 (n + 3) f fd P_thing (spThingL K (n + 1)) := by
  refine F.ok sc_thing (fun vs H Q E h => ?_) (fun cdv A outer s H vs Q E hr h => ?_)
  · obtain ⟨p, v, f, rfl, _⟩ := h
    rfl
  obtain ⟨p, v, fm, rfl, hp, dv, okf, q⟩ := h
  refine ⟨_, (pss_cons (ps_if (pt_cmpR op_eq (pe_ix (ix_tupK K rfl) (pv 1) pe_int (fun _ _ => rfl)) pe_str (nomark _))
      (pss_one (ps_ret (pe_call D_chars.ok (hr.mono (by first | decide | omega)) rfl D_chars.g D_chars.kp D_chars.b .nil pass0 (pa_cons (pv 0) pa_nil))))
      pss_nil)
    (pss_cons (ps_if (pt_cmpR op_eq (pe_ix (ix_tupK K rfl) (pv 1) pe_int (fun _ _ => rfl)) pe_str (nomark _))
      (pss_one (ps_ret (pe_ix (ix_listK K rfl) (pe_lst (pa_cons (pe_call D_draw.ok (hr.mono (by first | decide | omega)) rfl D_draw.g D_draw.kp D_draw.b .nil pass0 (pa_cons (pv 0) (pa_cons pe_int pa_nil))) (pa_cons (pe_un un_neg (pe_call D_draw.ok (hr.mono (by first | decide | omega)) rfl D_draw.g D_draw.kp D_draw.b .nil pass0 (pa_cons (pv 0) (pa_cons pe_int pa_nil)))) (pa_cons (pe_op op_sub (pe_op op_pow pe_int pe_int) (pe_call D_draw.ok (hr.mono (by first | decide | omega)) rfl D_draw.g D_draw.kp D_draw.b .nil pass0 (pa_cons (pv 0) (pa_cons pe_int pa_nil)))) pa_nil)))) (pe_call D_draw.ok (hr.mono (by first | decide | omega)) rfl D_draw.g D_draw.kp D_draw.b .nil pass0 (pa_cons (pv 0) (pa_cons pe_int pa_nil))) (fun _ _ => rfl))))
      pss_nil)
    (pss_cons (ps_if (pt_cmpR op_eq (pe_ix (ix_tupK K rfl) (pv 1) pe_int (fun _ _ => rfl)) pe_str (nomark _))
      (pss_one (ps_ret (pe_cmpR op_eq (pe_call D_draw.ok (hr.mono (by first | decide | omega)) rfl D_draw.g D_draw.kp D_draw.b .nil pass0 (pa_cons (pv 0) (pa_cons pe_int pa_nil))) pe_int (nomark _))))
      pss_nil)
    (pss_cons (ps_if (pt_cmpR op_eq (pe_ix (ix_tupK K rfl) (pv 1) pe_int (fun _ _ => rfl)) pe_str (nomark _))
      (pss_one (ps_ret (pe_ifExp (pt_cmpR op_gt (pe_call D_draw.ok (hr.mono (by first | decide | omega)) rfl D_draw.g D_draw.kp D_draw.b .nil pass0 (pa_cons (pv 0) (pa_cons pe_int pa_nil))) pe_int (nomark _)) (pe_call D_thing_of.ok (hr.mono (by first | decide | omega)) rfl D_thing_of.g D_thing_of.kp D_thing_of.b .nil pass0 (pa_cons (pv 0) (pa_cons (pe_ix (ix_tupK K rfl) (pv 1) pe_int (fun _ _ => rfl)) pa_nil))) pe_non)))
      pss_nil)
    (pss_cons (ps_if (pt_cmpR op_eq (pe_ix (ix_tupK K rfl) (pv 1) pe_int (fun _ _ => rfl)) pe_str (nomark _))
      (pss_cons (ps_set (i := 2) sc_thing.nd rfl (Or.inl rfl) pe_dnewK)
    (pss_cons (ps_for PassesOwn.never rfl (pi_tup (pe_ix (ix_tupK K rfl) (pv 1) pe_int (fun _ _ => rfl))) (pg_tup rfl (pgs_cons (pg_name (i := 3) sc_thing.nd rfl (Or.inl rfl)) (pgs_cons (pg_name (i := 4) sc_thing.nd rfl (Or.inl rfl)) pgs_nil)))
      (pss_one (ps_dput (hu_of hr) (pv 2) (pv 3) (pe_call D_thing_of.ok (hr.mono (by first | decide | omega)) rfl D_thing_of.g D_thing_of.kp D_thing_of.b .nil pass0 (pa_cons (pv 0) (pa_cons (pv 4) pa_nil))) rfl)))
    (pss_one (ps_ret (pv 2)))))
      pss_nil)
    (pss_cons (ps_setLc (i := 2) (own := [("_law_k", 5)]) (g := (gName 5)) (tt := tYes) rfl sc_thing.nd rfl rfl (sw_true rfl rfl rfl (by decide +kernel)) (pi_range1 rfl T.range (pa_cons (pe_call D_draw.ok (hr.mono (by first | decide | omega)) rfl D_draw.g D_draw.kp D_draw.b .nil pass0 (pa_cons (pv 0) (pa_cons pe_int pa_nil))) pa_nil)) (blkOk_by (own := [("_law_k", 5)]) (N := N_thing) (sc := defScope s_thing) (by decide +kernel)) (fun _ _ _ _ _ => (pg_name (i := 5) sc_thing.nd rfl (Or.inl rfl))) (fun _ _ _ _ _ => pts_nil) (fun _ _ _ _ _ => (pe_call D_thing_of.ok (hr.mono (by first | decide | omega)) rfl D_thing_of.g D_thing_of.kp D_thing_of.b .nil pass0 (pa_cons (pv 0) (pa_cons (pe_ix (ix_tupK K rfl) (pv 1) pe_int (fun _ _ => rfl)) pa_nil)))))
    (pss_cons (ps_if (pt_cmpR op_eq (pe_ix (ix_tupK K rfl) (pv 1) pe_int (fun _ _ => rfl)) pe_str (nomark _))
      (pss_one (ps_for PassesOwn.never rfl (pi_range1 rfl T.range (pa_cons (pe_callB (call_lenK K rfl) (by rfl) T.len PySem.boot_len (pa_cons (pv 2) pa_nil)) pa_nil)) (pg_name (i := 5) sc_thing.nd rfl (Or.inl rfl))
      (pss_cons (ps_set (i := 6) sc_thing.nd rfl (Or.inl rfl) (pe_cmpR (op_eqK K rfl hr.units) (pe_ix (ix_tupK K rfl) (pe_ix (ix_tupK K rfl) (pe_ix (ix_tupK K rfl) (pe_ix (ix_tupK K rfl) (pv 1) pe_int (fun _ _ => rfl)) pe_int (fun _ _ => rfl)) pe_int (fun _ _ => rfl)) pe_int (fun _ _ => rfl)) (pe_tup (pa_cons pe_str pa_nil)) (nomark _)))
    (pss_one (ps_dput (hu_of hr) (pe_ix (ix_listK K rfl) (pv 2) (pv 5) (fun _ _ => rfl)) (pe_ix (ix_tupK K rfl) (pv 1) pe_int (fun _ _ => rfl)) (pe_ifExp (pt_val (pv 6)) (pe_op op_add (pe_op op_mul (pv 5) pe_int) (pe_call D_draw.ok (hr.mono (by first | decide | omega)) rfl D_draw.g D_draw.kp D_draw.b .nil pass0 (pa_cons (pv 0) (pa_cons pe_int pa_nil)))) (pe_op op_mulS pe_str (pe_op op_add (pv 5) pe_int))) rfl)))))
      pss_nil)
    (pss_one (ps_ret (pe_callTy call_tuple_of (by rfl) T.tuple (by decide +kernel) (pa_cons (pv 2) pa_nil))))))))))), ?_⟩
  have small : ∀ n : Nat, n ≤ 1000 → n ≤ sizeLine := fun n h => Nat.le_of_lt (small1000 h)
  have hasP := hp.has
  obtain ⟨a, xs, rfl, ea, e0⟩ := enc_head fm dv
  have eaH : H a = some (.tup xs) := hide_sub p H _ _ ea
  have at0 : atI xs 0 = some (.str fm.word) := at_of (j := 0) rfl e0
  cases fm with
  | text =>
    refine ⟨_, rfl, a, xs, 0, .str _, rfl, rfl, SqT.of eaH, at0, rfl, _, rfl, ?_⟩
    refine if_tt (by decide) ?_
    exact ⟨_, rfl, p, rfl, hp, fun H' z k pp tx => q H' _ _ k pp (.str z) (.text tx)⟩
  | number =>
    refine ⟨_, rfl, a, xs, 0, .str _, rfl, rfl, SqT.of eaH, at0, rfl, _, rfl, ?_⟩
    refine if_ff (by decide) ?_
    refine ⟨_, rfl, a, xs, 0, .str _, rfl, rfl, SqT.of eaH, at0, rfl, _, rfl, ?_⟩
    refine if_tt (by decide) ?_
    refine ⟨_, rfl, p, 10, rfl, hp, by decide, by decide, fun H1 r1 k1 p1 a0 a1 => ?_⟩
    refine ⟨_, rfl, p, 100, rfl, p1, by decide, by decide, fun H2 r2 k2 p2 b0 b1 => ⟨_, rfl, _, _, rfl, rfl, ⟨by decide, by decide, by decide⟩, ?_⟩⟩
    refine ⟨_, rfl, p, 5, rfl, p2, by decide, by decide, fun H3 r3 k3 p3 c0 c1 => ⟨_, _, rfl, rfl, (by show 3 ≤ sizeLine; decide), fun l hl => ?_⟩⟩
    have p4 := p3.same (same_new hl (.lst [.int r1, .int (-r2), .int ((10 : Int) ^ (20 : Int).toNat - r3)]))
    refine ⟨_, rfl, p, 3, rfl, p4, by decide, by decide, fun H5 r4 k5 p5 d0 d1 => ?_⟩
    have e5 := k5 _ _ (p3.ne hl) upd_same
    have pw : (10 : Int) ^ (20 : Int).toNat = 100000000000000000000 := by decide
    have kk := k1.trans (k2.trans (k3.trans ((Keep.new hl (.lst [.int r1, .int (-r2), .int ((10 : Int) ^ (20 : Int).toNat - r3)])).trans k5)))
    obtain ⟨z, ez, bz⟩ : ∃ z : Int, atI [V.int r1, .int (-r2), .int ((10 : Int) ^ (20 : Int).toNat - r3)] r4 = some (.int z) ∧ z.natAbs ≤ 10 ^ 20 := by
      have big : (10 : Nat) ^ 20 = 100000000000000000000 := by decide
      rw [big]
      rcases (show r4 = 0 ∨ r4 = 1 ∨ r4 = 2 by omega) with e | e | e
      · exact ⟨r1, by rw [e]; rfl, by omega⟩
      · exact ⟨-r2, by rw [e]; rfl, by omega⟩
      · exact ⟨_, by rw [e]; rfl, by rw [pw]; omega⟩
    exact ⟨l, _, r4, _, rfl, rfl, SqL.of e5, ez, q _ _ _ kk p5 (.int z) (.number bz)⟩
  | flag =>
    refine ⟨_, rfl, a, xs, 0, .str _, rfl, rfl, SqT.of eaH, at0, rfl, _, rfl, ?_⟩
    refine if_ff (by decide) ?_
    refine ⟨_, rfl, a, xs, 0, .str _, rfl, rfl, SqT.of eaH, at0, rfl, _, rfl, ?_⟩
    refine if_ff (by decide) ?_
    refine ⟨_, rfl, a, xs, 0, .str _, rfl, rfl, SqT.of eaH, at0, rfl, _, rfl, ?_⟩
    refine if_tt (by decide) ?_
    exact ⟨_, rfl, p, 2, rfl, hp, by decide, by decide, fun H1 r1 k1 p1 a0 a1 => ⟨rfl, q _ _ _ k1 p1 (.bl _) (.flag _)⟩⟩
  | opt g =>
    refine ⟨_, rfl, a, xs, 0, .str _, rfl, rfl, SqT.of eaH, at0, rfl, _, rfl, ?_⟩
    refine if_ff (show decide (V.str ("optional" : Str) = V.str ("text" : Str)) = false by decide) ?_
    refine ⟨_, rfl, a, xs, 0, .str _, rfl, rfl, SqT.of eaH, at0, rfl, _, rfl, ?_⟩
    refine if_ff (show decide (V.str ("optional" : Str) = V.str ("number" : Str)) = false by decide) ?_
    refine ⟨_, rfl, a, xs, 0, .str _, rfl, rfl, SqT.of eaH, at0, rfl, _, rfl, ?_⟩
    refine if_ff (show decide (V.str ("optional" : Str) = V.str ("flag" : Str)) = false by decide) ?_
    refine ⟨_, rfl, a, xs, 0, .str _, rfl, rfl, SqT.of eaH, at0, rfl, _, rfl, ?_⟩
    refine if_tt (show decide (V.str ("optional" : Str) = V.str ("optional" : Str)) = true by decide) ?_
    obtain ⟨n', rfl, okg⟩ : ∃ n', n = n' + 1 ∧ okD n' g := by
      match n, okf with
      | n' + 1, h => exact ⟨n', rfl, by simpa only [okD] using h⟩
    simp only [enc] at dv
    obtain ⟨x1, exs, dx1⟩ : ∃ x1, xs = [.str "optional", x1] ∧ Dq K (hide p H) x1 (enc g) := by
      cases dv with
      | tup hs ha =>
        rw [ea] at hs
        cases hs
        cases ha with
        | cons h1 h2 =>
          cases h1
          cases h2 with
          | cons h3 h4 =>
            cases h4
            exact ⟨_, rfl, h3⟩
    refine ⟨_, rfl, p, 3, rfl, hp, by decide, by decide, fun H1 r1 k1 p1 a0 a1 => ⟨_, _, rfl, rfl, _, rfl, ?_⟩⟩
    have dom1 := k1.dom p1
    refine ite2 (fun c => ?_) (fun c => ?_)
    · have ea1 : H1 a = some (.tup xs) := hide_sub p H1 _ _ (k1.hide _ _ ea)
      refine ⟨_, rfl, _, rfl, a, xs, 1, x1, rfl, rfl, SqT.of ea1, by rw [exs]; rfl, ?_⟩
      refine ⟨p, x1, g, rfl, p1, Dq.same k1.hide _ _ dx1, okg, fun H2 y d k2 p2 dy fy => ?_⟩
      exact q _ _ _ (k1.trans k2) p2 (Dq.same (sub_left dom1) _ _ dy) (.opt fy)
    · exact q _ _ _ k1 p1 .non (.optN g)
  | list g =>
    refine ⟨_, rfl, a, xs, 0, .str _, rfl, rfl, SqT.of eaH, at0, rfl, _, rfl, ?_⟩
    refine if_ff (show decide (V.str ("list" : Str) = V.str ("text" : Str)) = false by decide) ?_
    refine ⟨_, rfl, a, xs, 0, .str _, rfl, rfl, SqT.of eaH, at0, rfl, _, rfl, ?_⟩
    refine if_ff (show decide (V.str ("list" : Str) = V.str ("number" : Str)) = false by decide) ?_
    refine ⟨_, rfl, a, xs, 0, .str _, rfl, rfl, SqT.of eaH, at0, rfl, _, rfl, ?_⟩
    refine if_ff (show decide (V.str ("list" : Str) = V.str ("flag" : Str)) = false by decide) ?_
    refine ⟨_, rfl, a, xs, 0, .str _, rfl, rfl, SqT.of eaH, at0, rfl, _, rfl, ?_⟩
    refine if_ff (show decide (V.str ("list" : Str) = V.str ("optional" : Str)) = false by decide) ?_
    refine ⟨_, rfl, a, xs, 0, .str _, rfl, rfl, SqT.of eaH, at0, rfl, _, rfl, ?_⟩
    refine if_ff (show decide (V.str ("list" : Str) = V.str ("record" : Str)) = false by decide) ?_
    obtain ⟨n', rfl, okg⟩ : ∃ n', n = n' + 1 ∧ okD n' g := by
      match n, okf with
      | n' + 1, h => exact ⟨n', rfl, by simpa only [okD] using h⟩
    simp only [enc] at dv
    obtain ⟨x1, exs, dx1⟩ : ∃ x1, xs = [.str "list", x1] ∧ Dq K (hide p H) x1 (enc g) := by
      cases dv with
      | tup hs ha =>
        rw [ea] at hs
        cases hs
        cases ha with
        | cons h1 h2 =>
          cases h1
          cases h2 with
          | cons h3 h4 =>
            cases h4
            exact ⟨_, rfl, h3⟩
    refine ⟨_, rfl, p, 4, rfl, hp, by decide, by decide, fun H1 r1 k1 p1 a0 a1 => ⟨r1, rfl, by omega, by omega, fun D hD => ?_⟩⟩
    have nD := p1.ne hD
    have dom1 := k1.dom p1
    obtain ⟨H2, hH2⟩ : ∃ H2, H2 = upd H1 D (.lst []) := ⟨_, rfl⟩
    have s2 : Same H1 H2 := by rw [hH2]; exact same_new hD _
    have e2 : H2 D = some (.lst []) := by rw [hH2]; exact upd_same
    have p2 := p1.same s2
    have has2 : ∃ u, H2 p = some u := p2.has
    have hasD : ∃ u, H2 D = some u := ⟨_, e2⟩
    have dom2 : Dom H H2 := dom1.trans (Same.dom s2)
    refine lc_range (lo := 0) (n := r1.toNat) (fun i H' => Keep p H1 H' ∧ PoolAt H' p ∧ Dom H2 H' ∧ ∃ (vs : List V) (ds : List PyData), H' D = some (.lst vs) ∧ vs.length = i ∧ DqAll K (sub H2 H') vs ds ∧ ∀ x ∈ ds, Fit g x)
      (by rw [← hH2]; exact ⟨Same.keep s2, p2, fun _ z => z, [], [], e2, rfl, .nil, fun _ z => by cases z⟩) ?_ ?_
    · rintro i H' hi ⟨k3, p3, d3, vs, ds, e3, z3, dv3, f3⟩
      refine ⟨rfl, yesT ?_⟩
      have ea1 : H' a = some (.tup xs) := hide_sub p H' _ _ ((k1.trans k3).hide _ _ ea)
      refine ⟨_, rfl, _, rfl, a, xs, 1, x1, rfl, rfl, SqT.of ea1, by rw [exs]; rfl, p, x1, g, rfl, p3, Dq.same (k1.trans k3).hide _ _ dx1, okg, fun H4 y d k4 p4 dy fy => ?_⟩
      refine ⟨vs, k4 _ _ nD e3, by rw [z3]; exact small1000 (by omega), (k3.trans k4).upd hD, p4.upd nD, d3.trans ((k4.dom p4).trans dom_upd), vs ++ [y], ds ++ [d], upd_same, by rw [List.length_append, z3]; rfl, ?_, ?_⟩
      · exact DqAll.snoc (Dq.same ((sub_left d3).trans (sub_upd hasD)) _ _ dy) (DqAll.same ((sub_keep k4 has2).trans (sub_upd hasD)) _ _ dv3)
      · intro x hx
        rcases List.mem_append.mp hx with hx | hx
        · exact f3 x hx
        · rw [List.mem_singleton.mp hx]
          exact fy
    rintro H3 ⟨k3, p3, d3, vs, ds, e3, z3, dv3, f3⟩
    have ea3 : H3 a = some (.tup xs) := hide_sub p H3 _ _ ((k1.trans k3).hide _ _ ea)
    refine ⟨_, rfl, a, xs, 0, .str _, rfl, rfl, SqT.of ea3, at0, rfl, _, rfl, ?_⟩
    refine if_ff (show decide (V.str ("list" : Str) = V.str ("keyed" : Str)) = false by decide) ?_
    refine ⟨_, rfl, D, vs, rfl, .inl ⟨SqL.of e3, fun t ht => ?_⟩⟩
    have gt : H t = none := (dom2.trans d3) _ ht
    refine q _ _ (.tuple ds) (k1.trans (k3.trans (Keep.new ht _))) (p3.same (same_new ht _)) ?_ (.list ?_ f3)
    · exact .tup (by rw [sub_new gt]; exact upd_same) (DqAll.same ((sub_left dom2).trans (sub_fresh ht)) _ _ dv3)
    · rw [← DqAll.length dv3]
      omega
  | rcd fs =>
    refine ⟨_, rfl, a, xs, 0, .str _, rfl, rfl, SqT.of eaH, at0, rfl, _, rfl, ?_⟩
    refine if_ff (show decide (V.str ("record" : Str) = V.str ("text" : Str)) = false by decide) ?_
    refine ⟨_, rfl, a, xs, 0, .str _, rfl, rfl, SqT.of eaH, at0, rfl, _, rfl, ?_⟩
    refine if_ff (show decide (V.str ("record" : Str) = V.str ("number" : Str)) = false by decide) ?_
    refine ⟨_, rfl, a, xs, 0, .str _, rfl, rfl, SqT.of eaH, at0, rfl, _, rfl, ?_⟩
    refine if_ff (show decide (V.str ("record" : Str) = V.str ("flag" : Str)) = false by decide) ?_
    refine ⟨_, rfl, a, xs, 0, .str _, rfl, rfl, SqT.of eaH, at0, rfl, _, rfl, ?_⟩
    refine if_ff (show decide (V.str ("record" : Str) = V.str ("optional" : Str)) = false by decide) ?_
    refine ⟨_, rfl, a, xs, 0, .str _, rfl, rfl, SqT.of eaH, at0, rfl, _, rfl, ?_⟩
    refine if_tt (show decide (V.str ("record" : Str) = V.str ("record" : Str)) = true by decide) ?_
    obtain ⟨n', rfl, nd, l3, okg⟩ : ∃ n', n = n' + 1 ∧ (fs.map (·.1)).Nodup ∧ fs.length ≤ 3 ∧ ∀ z ∈ fs, okD n' z.2 := by
      match n, okf with
      | n' + 1, h => exact ⟨n', rfl, by simpa only [okD] using h⟩
    simp only [enc] at dv
    obtain ⟨b, ps, exs, eb, dps⟩ : ∃ b ps, xs = [.str "record", .ref b] ∧ hide p H b = some (.tup ps) ∧ DqAll K (hide p H) ps (encFs fs) := by
      cases dv with
      | tup hs ha =>
        rw [ea] at hs
        cases hs
        cases ha with
        | cons h1 h2 =>
          cases h1
          cases h2 with
          | cons h3 h4 =>
            cases h4
            cases h3 with
            | tup g1 g2 => exact ⟨_, _, rfl, g1, g2⟩
    intro dx hdx
    have ndx := hp.ne hdx
    obtain ⟨H1, hH1⟩ : ∃ H1, H1 = upd H dx (.dK []) := ⟨_, rfl⟩
    rw [← hH1]
    have s1 : Same H H1 := by rw [hH1]; exact same_new hdx _
    have e1 : H1 dx = some (.dK []) := by rw [hH1]; exact upd_same
    have k1 : Keep p H H1 := Same.keep s1
    have p1 := hp.same s1
    have has1 : ∃ u, H1 p = some u := p1.has
    have hasD : ∃ u, H1 dx = some u := ⟨_, e1⟩
    have dom1 : Dom H H1 := Same.dom s1
    have plen : ps.length = fs.length := by rw [DqAll.length dps, encFs_len]
    refine ⟨_, rfl, a, xs, 1, .ref b, rfl, rfl, SqT.of (s1 _ _ eaH), by rw [exs]; rfl, b, rfl, ⟨_, SqT.of (s1 _ _ (hide_sub p H _ _ eb))⟩, ?_⟩
    refine for_tup (K := K) (a := b) (xs := ps) (fun i σ H' => ∃ s3 s4 : Option V, σ = [some (.ref p), some (.ref a), some (.ref dx), s3, s4, none, none] ∧ Keep p H H' ∧ PoolAt H' p ∧ Dom H1 H' ∧
        ∃ (kvs : List (Key × V)) (ds : List (PyData × PyData)), H' dx = some (.dK kvs) ∧ kvs.map (·.1) = (fs.take i).map (fun z => Sum.inr z.1) ∧ ds.map (·.1) = (fs.take i).map (fun z => PyData.str z.1) ∧ DqKv K (sub H1 H') kvs ds ∧
          ∀ (j : Nat) (z : Str × Fm) (kv : PyData × PyData), fs[j]? = some z → ds[j]? = some kv → Fit z.2 kv.2)
      ⟨none, none, rfl, k1, p1, fun _ z => z, [], [], e1, rfl, rfl, .nil, fun j z kv _ h => by simp at h⟩ (fun i σ H' _ ⟨_, _, _, k, _⟩ => SqT.of (hide_sub p H' _ _ (k.hide _ _ eb))) ?_ ?_
    · rintro i x σ H' hx ⟨s3, s4, rfl, k2, p2, d2, kvs, ds, e2, m2, w2, dv2, f2⟩
      obtain ⟨ww, g, t, y0, hfs, rfl, et, dy0⟩ := encFs_get dps hx
      have hi : i < fs.length := (List.getElem?_eq_some_iff.mp hfs).1
      refine ⟨t, _, rfl, SqT.of (hide_sub p H' _ _ (k2.hide _ _ et)), rfl, _, _, rfl, _, _, rfl, rfl, ?_⟩
      refine ⟨_, rfl, _, rfl, p, y0, g, rfl, p2, Dq.same k2.hide _ _ dy0, okg _ (List.mem_of_getElem? hfs), fun H3 y d k3 p3 dy fy => ?_⟩
      have e3 := k3 _ _ ndx e2
      have klen : kvs.length = i := by
        have := congrArg List.length m2
        rw [List.length_map, List.length_map, List.length_take, Nat.min_eq_left (by omega)] at this
        exact this
      refine ⟨_, rfl, _, rfl, dx, _, rfl, DPut.k (k := Sum.inr ww) e3 (by rw [klen]; exact small1000 (by omega)), ?_⟩
      have fresh : Sum.inr ww ∉ kvs.map (·.1) := by
        rw [m2]
        intro z
        obtain ⟨u, hu, e⟩ := List.mem_map.mp z
        have e' : u.1 = ww := Sum.inr.inj e
        obtain ⟨j, hj, ej⟩ := List.mem_iff_getElem.mp hu
        rw [List.length_take] at hj
        rw [List.getElem_take] at ej
        have hj2 : j < (fs.map (·.1)).length := by rw [List.length_map]; omega
        have hi2 : i < (fs.map (·.1)).length := by rw [List.length_map]; exact hi
        have := (List.getElem_inj nd (h₀ := hj2) (h₁ := hi2)).mp (by
          rw [List.getElem_map, List.getElem_map, ej, e']
          have := (List.getElem?_eq_some_iff.mp hfs).2
          rw [this])
        omega
      rw [put_new y fresh]
      have tk : fs.take (i + 1) = fs.take i ++ [(ww, g)] := by rw [List.take_succ, hfs]; rfl
      have carry : Same (sub H1 H3) (sub H1 (upd H3 dx (.dK (kvs ++ [(Sum.inr ww, y)])))) := sub_upd hasD
      refine ⟨_, _, rfl, (k2.trans k3).upd hdx, p3.upd ndx, d2.trans ((k3.dom p3).trans dom_upd), kvs ++ [(Sum.inr ww, y)], ds ++ [(.str ww, d)], upd_same, ?_, ?_, ?_, ?_⟩
      · rw [tk, List.map_append, List.map_append, m2]
        rfl
      · rw [tk, List.map_append, List.map_append, w2]
        rfl
      · exact DqKv.snoc (k := Sum.inr ww) (Dq.same ((sub_left d2).trans carry) _ _ dy) (DqKv.same ((sub_keep k3 has1).trans carry) _ _ dv2)
      · intro j z kv hz hkv
        have dlen : ds.length = i := by
          have := congrArg List.length w2
          rw [List.length_map, List.length_map, List.length_take, Nat.min_eq_left (by omega)] at this
          exact this
        by_cases hj : j < i
        · rw [List.getElem?_append_left (by omega)] at hkv
          exact f2 j z kv hz hkv
        · have hj2 := (List.getElem?_eq_some_iff.mp hkv).1
          rw [List.length_append, List.length_singleton] at hj2
          have ej : j = i := by omega
          subst ej
          rw [hfs] at hz
          cases hz
          rw [List.getElem?_append_right (by omega), dlen, Nat.sub_self] at hkv
          cases hkv
          exact fy
    · rintro σ H' ⟨s3, s4, rfl, k2, p2, d2, kvs, ds, e2, m2, w2, dv2, f2⟩
      rw [plen, List.take_length] at w2
      refine ⟨_, rfl, q _ _ (.dict ds) k2 p2 (.dct (by rw [sub_new hdx]; exact e2) (DqKv.same (sub_left dom1) _ _ dv2)) (.rcd w2 f2)⟩
  | keyed kw num ww g =>
    refine ⟨_, rfl, a, xs, 0, .str _, rfl, rfl, SqT.of eaH, at0, rfl, _, rfl, ?_⟩
    refine if_ff (show decide (V.str ("keyed" : Str) = V.str ("text" : Str)) = false by decide) ?_
    refine ⟨_, rfl, a, xs, 0, .str _, rfl, rfl, SqT.of eaH, at0, rfl, _, rfl, ?_⟩
    refine if_ff (show decide (V.str ("keyed" : Str) = V.str ("number" : Str)) = false by decide) ?_
    refine ⟨_, rfl, a, xs, 0, .str _, rfl, rfl, SqT.of eaH, at0, rfl, _, rfl, ?_⟩
    refine if_ff (show decide (V.str ("keyed" : Str) = V.str ("flag" : Str)) = false by decide) ?_
    refine ⟨_, rfl, a, xs, 0, .str _, rfl, rfl, SqT.of eaH, at0, rfl, _, rfl, ?_⟩
    refine if_ff (show decide (V.str ("keyed" : Str) = V.str ("optional" : Str)) = false by decide) ?_
    refine ⟨_, rfl, a, xs, 0, .str _, rfl, rfl, SqT.of eaH, at0, rfl, _, rfl, ?_⟩
    refine if_ff (show decide (V.str ("keyed" : Str) = V.str ("record" : Str)) = false by decide) ?_
    obtain ⟨n', rfl, nkw, okg⟩ : ∃ n', n = n' + 2 ∧ kw ≠ ww ∧ okD n' g := by
      match n, okf with
      | n' + 2, h => exact ⟨n', rfl, by simpa only [okD] using h⟩
      | 1, h => simp [okD] at h
      | 0, h => simp [okD] at h
    obtain ⟨b, c, e0', h0', exs, db, eb, ec, ee, eh⟩ : ∃ b c e h : Addr, xs = [.str "keyed", .ref b, .str kw] ∧ Dq K (hide p H) (.ref b) (enc (.rcd [(kw, kform num), (ww, g)])) ∧ hide p H b = some (.tup [.str "record", .ref c]) ∧
        (∃ e1, hide p H c = some (.tup [.ref e, .ref e1])) ∧ hide p H e = some (.tup [.str kw, .ref h]) ∧ hide p H h = some (.tup [.str (kword num)]) := by
      simp only [enc] at dv
      cases dv with
      | tup hs ha =>
        rw [ea] at hs
        cases hs
        cases ha with
        | cons h1 h2 =>
          cases h1
          cases h2 with
          | cons h3 h4 =>
            cases h4 with
            | cons h5 h6 =>
              cases h5
              cases h6
              have hb := h3
              cases h3 with
              | tup b1 b2 =>
                cases b2 with
                | cons b3 b4 =>
                  cases b3
                  cases b4 with
                  | cons b5 b6 =>
                    cases b6
                    cases b5 with
                    | tup c1 c2 =>
                      cases c2 with
                      | cons c3 c4 =>
                        cases c4 with
                        | cons c5 c6 =>
                          cases c6
                          cases c3 with
                          | tup e1 e2 =>
                            cases e2 with
                            | cons e3 e4 =>
                              cases e3
                              cases e4 with
                              | cons e5 e6 =>
                                cases e6
                                cases e5 with
                                | tup g1 g2 =>
                                  cases g2 with
                                  | cons g3 g4 =>
                                    cases g3
                                    cases g4
                                    cases c5 with
                                    | tup x1 x2 =>
                                      refine ⟨_, _, _, _, rfl, ?_, b1, ⟨_, c1⟩, e1, g1⟩
                                      simp only [enc, encFs, enc_kform]
                                      exact hb
    obtain ⟨e1', ec⟩ := ec
    have okr : okD (n' + 1) (.rcd [(kw, kform num), (ww, g)]) := by
      simp only [okD]
      refine ⟨by simp [nkw], by simp, fun z hz => ?_⟩
      rcases List.mem_cons.mp hz with rfl | hz
      · cases num <;> simp [kform, okD]
      · rw [List.mem_singleton.mp hz]
        exact okg
    refine ⟨_, rfl, p, 4, rfl, hp, by decide, by decide, fun H1 r1 k1 p1 a0 a1 => ⟨r1, rfl, by omega, by omega, fun D hD => ?_⟩⟩
    have nD := p1.ne hD
    have dom1 := k1.dom p1
    obtain ⟨H2, hH2⟩ : ∃ H2, H2 = upd H1 D (.lst []) := ⟨_, rfl⟩
    have s2 : Same H1 H2 := by rw [hH2]; exact same_new hD _
    have e2 : H2 D = some (.lst []) := by rw [hH2]; exact upd_same
    have p2 := p1.same s2
    have has2 : ∃ u, H2 p = some u := p2.has
    have hasD : ∃ u, H2 D = some u := ⟨_, e2⟩
    have dom2 : Dom H H2 := dom1.trans (Same.dom s2)
    refine lc_range (lo := 0) (n := r1.toNat) (fun i H' => Keep p H1 H' ∧ PoolAt H' p ∧ Dom H2 H' ∧ ∃ rs : List Rw, H' D = some (.lst (rs.map fun r => .ref r.a)) ∧ rs.length = i ∧ RowsAt K (sub H2 H') kw ww g rs)
      (by rw [← hH2]; exact ⟨Same.keep s2, p2, fun _ z => z, [], e2, rfl, ⟨by simp, (by simp), (by simp), (by simp)⟩⟩) ?_ ?_
    · rintro i H' hi ⟨k3, p3, d3, rs, e3, z3, R3⟩
      refine ⟨rfl, yesT ?_⟩
      have ea1 : H' a = some (.tup xs) := hide_sub p H' _ _ ((k1.trans k3).hide _ _ ea)
      refine ⟨_, rfl, _, rfl, a, xs, 1, .ref b, rfl, rfl, SqT.of ea1, by rw [exs]; rfl, p, .ref b, _, rfl, p3, Dq.same (k1.trans k3).hide _ _ db, okr, fun H4 y d k4 p4 dy fy => ?_⟩
      obtain ⟨r, rfl, er, vr, fr⟩ := row_of dy fy
      have ndA : r.a ≠ D := fun z => by
        have := (sub_some er).1
        rw [z, e3] at this
        cases this
      refine ⟨_, k4 _ _ nD e3, by rw [List.length_map, z3]; exact small1000 (by omega), (k3.trans k4).upd hD, p4.upd nD, d3.trans ((k4.dom p4).trans dom_upd), rs ++ [r], by rw [upd_same, List.map_append]; rfl, by rw [List.length_append, z3]; rfl, ?_⟩
      have R4 := RowsAt.snoc (H' := H4) R3 (sub_keep k4 has2) d3 er vr fr
      exact R4.same (sub_upd hasD)
    rintro H3 ⟨k3, p3, d3, rs, e3, z3, R3⟩
    have ea3 : H3 a = some (.tup xs) := hide_sub p H3 _ _ ((k1.trans k3).hide _ _ ea)
    refine ⟨_, rfl, a, xs, 0, .str _, rfl, rfl, SqT.of ea3, at0, rfl, _, rfl, ?_⟩
    refine if_tt (show decide (V.str ("keyed" : Str) = V.str ("keyed" : Str)) = true by decide) ?_
    -- the keys
    refine ⟨_, rfl, .ref D, rs.length, rfl, .inl ⟨_, SqL.of e3, by rw [List.length_map]⟩, rs.length, rfl, by omega, by omega, ?_⟩
    rw [Int.toNat_natCast]
    refine for_range (lo := 0) (n := rs.length) (fun i σ H' => ∃ s5 s6 : Option V, σ = [some (.ref p), some (.ref a), some (.ref D), none, none, s5, s6] ∧ Keep p H1 H' ∧ PoolAt H' p ∧ Dom H2 H' ∧
        ∃ rs' : List Rw, H' D = some (.lst (rs'.map fun r => .ref r.a)) ∧ rs'.length = rs.length ∧ RowsAt K (sub H2 H') kw ww g rs' ∧ ∀ (j : Nat) (r : Rw), j < i → rs'[j]? = some r → ∃ kd, keyOf num j kd ∧ ∀ S, Dq K S r.u kd)
      ⟨none, none, rfl, k3, p3, d3, rs, e3, rfl, R3, fun j r h => absurd h (Nat.not_lt_zero j)⟩ ?_ ?_
    · rintro i σ H' hi ⟨s5, s6, rfl, k4, p4, d4, rs', e4, z4, R4, ky⟩
      have hh : Same (hide p H) (hide p H') := (k1.trans k4).hide
      have up : ∀ {q : Addr} {o : HO}, hide p H q = some o → H' q = some o := fun {q o} e => hide_sub p H' _ _ (hh _ _ e)
      refine ⟨_, rfl, a, xs, 1, .ref b, rfl, rfl, SqT.of (up ea), by rw [exs]; rfl, b, _, 1, .ref c, rfl, rfl, SqT.of (up eb), rfl, c, _, 0, .ref e0', rfl, rfl, SqT.of (up ec), rfl, e0', _, 1, .ref h0', rfl, rfl, SqT.of (up ee), rfl, ?_⟩
      refine ⟨(by show 1 ≤ sizeLine; decide), fun t ht => ?_⟩
      have nth : h0' ≠ t := ne_of_none (up eh) ht
      refine ⟨.tuple [.str (kword num)], .tuple [.str "number"], .tup (SqT.of (by rw [upd_ne nth]; exact up eh)) (.cons (.str _) .nil), .tup (SqT.of upd_same) (.cons (.str _) .nil), (by cases num <;> decide +kernel), (by decide +kernel), ?_⟩
      have eqn : PyData.eqv (.tuple [.str (kword num)]) (.tuple [.str "number"]) = num := by cases num <;> decide +kernel
      rw [eqn]
      obtain ⟨H5, hH5⟩ : ∃ H5, H5 = upd H' t (.tup [.str "number"]) := ⟨_, rfl⟩
      rw [← hH5]
      have s5' : Same H' H5 := by rw [hH5]; exact same_new ht _
      have p5 := p4.same s5'
      have k5 : Keep p H1 H5 := k4.trans (Same.keep s5')
      have d5 : Dom H2 H5 := d4.trans (Same.dom s5')
      have e5 := s5' _ _ e4
      have R5 : RowsAt K (sub H2 H5) kw ww g rs' := R4.same (by rw [hH5]; exact sub_fresh ht)
      have i' : i < rs'.length := by omega
      -- the row, stored
      have store : ∀ (H6 : Hp) (u : V) (kd : PyData), Keep p H5 H6 → PoolAt H6 p → keyOf num i kd → (∀ S, Dq K S u kd) → ∃ (s5 s6 : Option V), ([some (.ref p), some (.ref a), some (.ref D), none, none, some (.int (0 + (i : Int))), some (.bl num)] : L2.St) = [some (.ref p), some (.ref a), some (.ref D), none, none, s5, s6] ∧
          ∃ (q1 : Addr) (xs1 : List V) (i1 : Int) (v1 : V), V.ref D = .ref q1 ∧ V.int (0 + (i : Int)) = .int i1 ∧ SqL K H6 q1 xs1 ∧ atI xs1 i1 = some v1 ∧ ∃ (a2 : Addr) (H7 : Hp), v1 = .ref a2 ∧ H6 a = some (.tup xs) ∧ DPut H6 a2 (.str kw) u H7 ∧ Keep p H1 H7 ∧ PoolAt H7 p ∧ Dom H2 H7 ∧
            ∃ rs' : List Rw, H7 D = some (.lst (rs'.map fun r => .ref r.a)) ∧ rs'.length = rs.length ∧ RowsAt K (sub H2 H7) kw ww g rs' ∧ ∀ (j : Nat) (r : Rw), j < i + 1 → rs'[j]? = some r → ∃ kd, keyOf num j kd ∧ ∀ S, Dq K S r.u kd := by
        intro H6 u kd k6 p6 hk hu
        have e6 := k6 _ _ nD e5
        have R6 : RowsAt K (sub H2 H6) kw ww g rs' := R5.same (sub_keep k6 has2)
        have hr : rs'[i]? = some rs'[i] := List.getElem?_eq_getElem i'
        have dr := R6.dct _ (List.mem_of_getElem? hr)
        have nrD : rs'[i].a ≠ D := fun z => by
          have := (sub_some dr).2
          rw [z, e6] at this
          cases this
        have nrp : rs'[i].a ≠ p := fun z => by
          have := (sub_some dr).1
          obtain ⟨u, hu⟩ := has2
          rw [z, hu] at this
          cases this
        refine ⟨_, _, rfl, D, _, _, .ref rs'[i].a, rfl, rfl, SqL.of e6, at_of (j := i) (by omega) (by rw [List.getElem?_map, hr]; rfl), rs'[i].a, _, rfl, hide_sub p H6 _ _ ((k1.trans (k5.trans k6)).hide _ _ ea), DPut.k (k := Sum.inr kw) (sub_some dr).2 (by show 2 < sizeLine; decide), ?_⟩
        have pk : putK [(Sum.inr kw, rs'[i].u), (Sum.inr ww, rs'[i].y)] (Sum.inr kw) u = ([(Sum.inr kw, u), (Sum.inr ww, rs'[i].y)] : List (Key × V)) := by
          have nk : ¬ (Sum.inr ww : Key) = Sum.inr kw := fun z => nkw (Sum.inr.inj z).symm
          unfold putK
          rw [if_pos (by simp)]
          simp [nk]
        rw [pk]
        have nH1 : H1 rs'[i].a = none := by
          have := (sub_some dr).1
          rw [hH2, upd_ne nrD] at this
          exact this
        refine ⟨(k5.trans k6).upd nH1, p6.upd nrp, d5.trans ((k6.dom p6).trans dom_upd), rs'.set i { rs'[i] with u := u }, ?_, ?_, R6.set hr, ?_⟩
        · rw [upd_ne nrD.symm, e6, List.map_set]
          refine congrArg (fun z => some (HO.lst z)) ?_
          apply List.ext_getElem?
          intro j
          rw [List.getElem?_set]
          by_cases e : i = j
          · subst e
            rw [if_pos rfl, if_pos (by rw [List.length_map]; exact i'), List.getElem?_map, hr]
            rfl
          · rw [if_neg e]
        · rw [List.length_set]
          exact z4
        · intro j r hj hrj
          rw [List.getElem?_set] at hrj
          by_cases e : i = j
          · rw [if_pos e, if_pos i'] at hrj
            have := Option.some.inj hrj
            subst e
            rw [← this]
            exact ⟨kd, hk, hu⟩
          · rw [if_neg e] at hrj
            exact ky j r (by omega) hrj
      cases num with
      | true =>
        refine ⟨_, rfl, _, rfl, iteT ?_⟩
        refine ⟨_, rfl, _, _, rfl, rfl, .inr ⟨by decide, by decide⟩, ?_⟩
        refine ⟨_, rfl, p, 3, rfl, p5, by decide, by decide, fun H6 r2 k6 p6 b0 b1 => ⟨_, _, rfl, rfl, ?_⟩⟩
        obtain ⟨t5, t6, es, q1, xs1, i1, v1, g1, g2, g3, g4, a2, H7, g5, g6, g7, g8⟩ := store H6 (.int ((0 + (i : Int)) * 3 + r2)) (.int ((0 + (i : Int)) * 3 + r2)) k6 p6 ⟨_, rfl, by omega, by omega⟩ (fun S => .int _)
        refine ⟨_, rfl, _, rfl, q1, xs1, i1, v1, g1, g2, g3, g4, ?_⟩
        refine ⟨_, rfl, a, xs, 2, .str kw, rfl, rfl, SqT.of g6, by rw [exs]; rfl, a2, H7, g5, g7, t5, t6, es, g8⟩
      | false =>
        refine ⟨_, rfl, _, rfl, iteF ?_⟩
        refine ⟨_, rfl, _, _, rfl, rfl, ?_⟩
        refine ⟨_, _, rfl, rfl, by omega, by omega, (by show 1 ≤ 1; decide), (by show 1 ≤ 1000; decide), ?_⟩
        have en : (0 + (i : Int) + 1).toNat = i + 1 := by omega
        obtain ⟨t5, t6, es, q1, xs1, i1, v1, g1, g2, g3, g4, a2, H7, g5, g6, g7, g8⟩ := store H5 (.str (repS "k" (0 + (i : Int) + 1).toNat)) (.str (repS "k" (0 + (i : Int) + 1).toNat)) (Keep.refl _ _) p5 (by rw [en]; rfl) (fun S => .str _)
        refine ⟨_, rfl, _, rfl, q1, xs1, i1, v1, g1, g2, g3, g4, ?_⟩
        refine ⟨_, rfl, a, xs, 2, .str kw, rfl, rfl, SqT.of g6, by rw [exs]; rfl, a2, H7, g5, g7, t5, t6, es, g8⟩
    · rintro σ H' ⟨s5, s6, rfl, k4, p4, d4, rs', e4, z4, R4, ky⟩
      refine ⟨_, rfl, D, _, rfl, .inl ⟨SqL.of e4, fun t ht => ?_⟩⟩
      have gt : H t = none := (dom2.trans d4) _ ht
      -- the rows as they are at last
      obtain ⟨rows, hl, hk, hf, hd⟩ : ∃ rows : List (PyData × PyData), rows.length = rs'.length ∧ (∀ (i : Nat) (r : PyData × PyData), rows[i]? = some r → keyOf num i r.1) ∧ (∀ r ∈ rows, Fit g r.2) ∧
          DqAll K (sub H H') (rs'.map fun r => .ref r.a) (rows.map fun r => .dict [(.str kw, r.1), (.str ww, r.2)]) := by
        have R5 : RowsAt K (sub H H') kw ww g rs' := R4.same (sub_left dom2)
        have gen : ∀ (tl : List Rw) (m : Nat), (∀ r ∈ tl, r ∈ rs') → (∀ (j : Nat) (r : Rw), tl[j]? = some r → ∃ kd, keyOf num (m + j) kd ∧ ∀ S, Dq K S r.u kd) →
            ∃ rows : List (PyData × PyData), rows.length = tl.length ∧ (∀ (i : Nat) (r : PyData × PyData), rows[i]? = some r → keyOf num (m + i) r.1) ∧ (∀ r ∈ rows, Fit g r.2) ∧
              DqAll K (sub H H') (tl.map fun r => .ref r.a) (rows.map fun r => .dict [(.str kw, r.1), (.str ww, r.2)]) := by
          intro tl
          induction tl with
          | nil => exact fun m _ _ => ⟨[], rfl, (fun i r h => by simp at h), (fun r h => by cases h), .nil⟩
          | cons r tl ih =>
            intro m hm hkk
            obtain ⟨rows, h1, h2, h3, h4⟩ := ih (m + 1) (fun x hx => hm x (List.mem_cons_of_mem _ hx)) (fun j x hx => by
              have := hkk (j + 1) x (by simpa using hx)
              rw [show m + 1 + j = m + (j + 1) by omega]
              exact this)
            obtain ⟨kd, q1, q2⟩ := hkk 0 r rfl
            have hr := hm r List.mem_cons_self
            refine ⟨(kd, r.x) :: rows, by rw [List.length_cons, List.length_cons, h1], fun i x hx => ?_, fun x hx => ?_, ?_⟩
            · cases i with
              | zero =>
                simp at hx
                rw [← hx]
                exact q1
              | succ i =>
                have := h2 i x (by simpa using hx)
                rw [show m + (i + 1) = m + 1 + i by omega]
                exact this
            · rcases List.mem_cons.mp hx with rfl | hx
              · exact R5.fit r hr
              · exact h3 x hx
            · refine .cons ?_ h4
              refine .dct (R5.dct r hr) (DqKv.cons (k := Sum.inr kw) (q2 _) (DqKv.cons (k := Sum.inr ww) ?_ .nil))
              exact Dq.same (fun b o e => (hideL_some e).2) _ _ (R5.val r hr)
        have := gen rs' 0 (fun r hr => hr) (fun j r hr => ky j r (by
          have := (List.getElem?_eq_some_iff.mp hr).1
          omega) (by simpa using hr) |> fun ⟨kd, h1, h2⟩ => ⟨kd, by rw [Nat.zero_add]; exact h1, h2⟩)
        obtain ⟨rows, h1, h2, h3, h4⟩ := this
        exact ⟨rows, h1, fun i r hr => by
          have := h2 i r hr
          rw [Nat.zero_add] at this
          exact this, h3, h4⟩
      refine q _ _ (.tuple (rows.map fun r => .dict [(.str kw, r.1), (.str ww, r.2)])) (k1.trans (k4.trans (Keep.new ht _))) (p4.same (same_new ht _)) ?_ (.keyed (by omega) hk hf)
      exact .tup (by rw [sub_new gt]; exact upd_same) (DqAll.same (sub_fresh ht) _ _ hd)
theorem ok_thing {f fdr fch : Addr} {fd fdd fdc : FuncData} (F : Fun K "_law_thing_of" "_law_thing_of" s_thing f fd) (T : Bl mg) (g : mg "_law_thing_of" = some (.ref f)) (b : Binds K fd P_thing []) (D_draw : Def P w K mg base "_law_draw" 1 P_draw spDraw fdr fdd) (D_chars : Def P w K mg base "_law_chars" 2 P_chars spChars fch fdc) :
    ∀ n : Nat, FnOk P w K mg base CX0 (n + 2) f fd P_thing (spThingL K n)
  | 0 => ⟨fun _ _ _ _ h => h.elim, fun _ _ _ _ _ _ _ _ _ _ _ _ _ h => h.elim⟩
  | n + 1 => ok_thingS F T D_draw D_chars ⟨g, F.kp, b, ok_thing F T g b D_draw D_chars n⟩
end
end KX

namespace KX
open PySem PySem.Spec L2 PyProof.Rows
section
variable {base : Heap} {P : Program} {w : World} {K : PySem.W.Frag} {mg : Str → Option Value} {C fI : Nat → Addr} {fdd : Nat → FuncData} {Sh St Sz : Addr}
abbrev s_made : Stmt := top 72
abbrev N_made : List Str := ["_law_m", "_law_n", "_law_made_here"]
abbrev P_made : List Str := ["_law_m", "_law_n"]
theorem sc_made : FnScope N_made P_made (defScope s_made) := ⟨rfl, rfl, rfl, by decide +kernel, rfl, by decide +kernel, by decide +kernel⟩
def made_is : List Nat := [0, 1, 2, 3, 4, 5, 6, 7, 8, 9, 10, 11, 12, 13, 14, 15, 16, 17, 18, 19, 20, 21, 22, 23, 24, 25, 26, 27, 28, 29, 30, 31, 32]
def spMade (C : Nat → Addr) : Sp := fun vs H Q _ => ∃ m n : V, vs = [m, n] ∧ ∀ (H' : Hp) (l : Addr) (es : List Addr), Same H H' → H l = none → H' l = some (.lst (es.map V.ref)) → AllE H' C m n made_is es → Q (.ref l) H'
theorem ok_made {f : Addr} {fd : FuncData} (F : Fun K "_law_made" "_law_made" s_made f fd) (E : Errs P w K mg base C fI fdd Sh St Sz) : FnOk P w K mg base CX0 3 f fd P_made (spMade C) := by
  refine F.ok sc_made (fun vs H Q E h => ?_) (fun cdv A outer s H vs Q EE hr h => ?_)
  · obtain ⟨m, n, rfl, _⟩ := h
    rfl
  obtain ⟨m, n, rfl, q⟩ := h
  have d0 := E.d 0 (by decide)
  have d1 := E.d 1 (by decide)
  have d2 := E.d 2 (by decide)
  have d3 := E.d 3 (by decide)
  have d4 := E.d 4 (by decide)
  have d5 := E.d 5 (by decide)
  have d6 := E.d 6 (by decide)
  have d7 := E.d 7 (by decide)
  have d8 := E.d 8 (by decide)
  have d9 := E.d 9 (by decide)
  have d10 := E.d 10 (by decide)
  have d11 := E.d 11 (by decide)
  have d12 := E.d 12 (by decide)
  have d13 := E.d 13 (by decide)
  have d14 := E.d 14 (by decide)
  have d15 := E.d 15 (by decide)
  have d16 := E.d 16 (by decide)
  have d17 := E.d 17 (by decide)
  have d18 := E.d 18 (by decide)
  have d19 := E.d 19 (by decide)
  have d20 := E.d 20 (by decide)
  have d21 := E.d 21 (by decide)
  have d22 := E.d 22 (by decide)
  have d23 := E.d 23 (by decide)
  have d24 := E.d 24 (by decide)
  have d25 := E.d 25 (by decide)
  have d26 := E.d 26 (by decide)
  have d27 := E.d 27 (by decide)
  have d28 := E.d 28 (by decide)
  have d29 := E.d 29 (by decide)
  have d30 := E.d 30 (by decide)
  have d31 := E.d 31 (by decide)
  have d32 := E.d 32 (by decide)
  refine ⟨_, (pss_cons (ps_set (i := 2) sc_made.nd rfl (Or.inl rfl) (pe_lst (pa_cons (pe_new d0.er d0.i d0.ty d0.ok (hr.mono (by first | decide | omega)) d0.b rfl d0.g (pa_cons (pv 0) pa_nil)) (pa_cons (pe_new d1.er d1.i d1.ty d1.ok (hr.mono (by first | decide | omega)) d1.b rfl d1.g (pa_cons (pv 0) pa_nil)) (pa_cons (pe_new d2.er d2.i d2.ty d2.ok (hr.mono (by first | decide | omega)) d2.b rfl d2.g (pa_cons (pv 0) pa_nil)) (pa_cons (pe_new d3.er d3.i d3.ty d3.ok (hr.mono (by first | decide | omega)) d3.b rfl d3.g (pa_cons (pv 0) pa_nil)) (pa_cons (pe_new d4.er d4.i d4.ty d4.ok (hr.mono (by first | decide | omega)) d4.b rfl d4.g (pa_cons (pv 0) pa_nil)) (pa_cons (pe_new d5.er d5.i d5.ty d5.ok (hr.mono (by first | decide | omega)) d5.b rfl d5.g (pa_cons (pv 0) pa_nil)) pa_nil))))))))
    (pss_cons (ps_set (i := 2) sc_made.nd rfl (Or.inl rfl) (pe_op op_cat (pv 2) (pe_lst (pa_cons (pe_new d6.er d6.i d6.ty d6.ok (hr.mono (by first | decide | omega)) d6.b rfl d6.g (pa_cons (pv 0) pa_nil)) (pa_cons (pe_new d7.er d7.i d7.ty d7.ok (hr.mono (by first | decide | omega)) d7.b rfl d7.g (pa_cons (pv 0) pa_nil)) (pa_cons (pe_new d8.er d8.i d8.ty d8.ok (hr.mono (by first | decide | omega)) d8.b rfl d8.g (pa_cons (pv 0) (pa_cons (pv 1) pa_nil))) (pa_cons (pe_new d9.er d9.i d9.ty d9.ok (hr.mono (by first | decide | omega)) d9.b rfl d9.g (pa_cons (pv 0) pa_nil)) (pa_cons (pe_new d10.er d10.i d10.ty d10.ok (hr.mono (by first | decide | omega)) d10.b rfl d10.g (pa_cons (pv 0) pa_nil)) (pa_cons (pe_new d11.er d11.i d11.ty d11.ok (hr.mono (by first | decide | omega)) d11.b rfl d11.g (pa_cons (pv 0) pa_nil)) pa_nil)))))))))
    (pss_cons (ps_set (i := 2) sc_made.nd rfl (Or.inl rfl) (pe_op op_cat (pv 2) (pe_lst (pa_cons (pe_new d12.er d12.i d12.ty d12.ok (hr.mono (by first | decide | omega)) d12.b rfl d12.g (pa_cons (pv 0) pa_nil)) (pa_cons (pe_new d13.er d13.i d13.ty d13.ok (hr.mono (by first | decide | omega)) d13.b rfl d13.g (pa_cons (pv 0) pa_nil)) (pa_cons (pe_new d14.er d14.i d14.ty d14.ok (hr.mono (by first | decide | omega)) d14.b rfl d14.g (pa_cons (pv 0) pa_nil)) (pa_cons (pe_new d15.er d15.i d15.ty d15.ok (hr.mono (by first | decide | omega)) d15.b rfl d15.g (pa_cons (pv 0) pa_nil)) (pa_cons (pe_new d16.er d16.i d16.ty d16.ok (hr.mono (by first | decide | omega)) d16.b rfl d16.g (pa_cons (pv 0) pa_nil)) (pa_cons (pe_new d17.er d17.i d17.ty d17.ok (hr.mono (by first | decide | omega)) d17.b rfl d17.g (pa_cons (pv 0) pa_nil)) pa_nil)))))))))
    (pss_cons (ps_set (i := 2) sc_made.nd rfl (Or.inl rfl) (pe_op op_cat (pv 2) (pe_lst (pa_cons (pe_new d18.er d18.i d18.ty d18.ok (hr.mono (by first | decide | omega)) d18.b rfl d18.g (pa_cons (pv 0) pa_nil)) (pa_cons (pe_new d19.er d19.i d19.ty d19.ok (hr.mono (by first | decide | omega)) d19.b rfl d19.g (pa_cons (pv 0) pa_nil)) (pa_cons (pe_new d20.er d20.i d20.ty d20.ok (hr.mono (by first | decide | omega)) d20.b rfl d20.g (pa_cons (pv 0) pa_nil)) (pa_cons (pe_new d21.er d21.i d21.ty d21.ok (hr.mono (by first | decide | omega)) d21.b rfl d21.g (pa_cons (pv 0) pa_nil)) (pa_cons (pe_new d22.er d22.i d22.ty d22.ok (hr.mono (by first | decide | omega)) d22.b rfl d22.g (pa_cons (pv 0) pa_nil)) (pa_cons (pe_new d23.er d23.i d23.ty d23.ok (hr.mono (by first | decide | omega)) d23.b rfl d23.g (pa_cons (pv 0) pa_nil)) (pa_cons (pe_newK d24.er d24.i d24.ty d24.ok (hr.mono (by first | decide | omega)) d24.kb rfl d24.g pk_nil) (pa_cons (pe_newK d25.er d25.i d25.ty d25.ok (hr.mono (by first | decide | omega)) d25.kb rfl d25.g pk_nil) pa_nil)))))))))))
    (pss_cons (ps_set (i := 2) sc_made.nd rfl (Or.inl rfl) (pe_op op_cat (pv 2) (pe_lst (pa_cons (pe_newK d26.er d26.i d26.ty d26.ok (hr.mono (by first | decide | omega)) d26.kb rfl d26.g pk_nil) (pa_cons (pe_new d27.er d27.i d27.ty d27.ok (hr.mono (by first | decide | omega)) d27.b rfl d27.g (pa_cons (pv 0) pa_nil)) (pa_cons (pe_new d28.er d28.i d28.ty d28.ok (hr.mono (by first | decide | omega)) d28.b rfl d28.g (pa_cons (pv 0) pa_nil)) (pa_cons (pe_new d29.er d29.i d29.ty d29.ok (hr.mono (by first | decide | omega)) d29.b rfl d29.g (pa_cons (pv 0) pa_nil)) (pa_cons (pe_new d30.er d30.i d30.ty d30.ok (hr.mono (by first | decide | omega)) d30.b rfl d30.g (pa_cons (pv 0) pa_nil)) pa_nil))))))))
    (pss_one (ps_ret (pe_op op_cat (pv 2) (pe_lst (pa_cons (pe_new d31.er d31.i d31.ty d31.ok (hr.mono (by first | decide | omega)) d31.b rfl d31.g (pa_cons (pv 0) pa_nil)) (pa_cons (pe_new d32.er d32.i d32.ty d32.ok (hr.mono (by first | decide | omega)) d32.b rfl d32.g (pa_cons (pv 0) pa_nil)) pa_nil))))))))))), ?_⟩
  refine ⟨_, rfl, (by show 1 ≤ 1000; decide), sp_new (C := C 0) (fs := fieldsE 0) (vs := [m]) (by rfl) fun a0 H0 n0 s0 e0 => ?_⟩
  refine ⟨_, rfl, (by show 1 ≤ 1000; decide), sp_new (C := C 1) (fs := fieldsE 1) (vs := [m]) (by rfl) fun a1 H1 n1 s1 e1 => ?_⟩
  refine ⟨_, rfl, (by show 1 ≤ 1000; decide), sp_new (C := C 2) (fs := fieldsE 2) (vs := [m]) (by rfl) fun a2 H2 n2 s2 e2 => ?_⟩
  refine ⟨_, rfl, (by show 1 ≤ 1000; decide), sp_new (C := C 3) (fs := fieldsE 3) (vs := [m]) (by rfl) fun a3 H3 n3 s3 e3 => ?_⟩
  refine ⟨_, rfl, (by show 1 ≤ 1000; decide), sp_new (C := C 4) (fs := fieldsE 4) (vs := [m]) (by rfl) fun a4 H4 n4 s4 e4 => ?_⟩
  refine ⟨_, rfl, (by show 1 ≤ 1000; decide), sp_new (C := C 5) (fs := fieldsE 5) (vs := [m]) (by rfl) fun a5 H5 n5 s5 e5 => ?_⟩
  refine ⟨(by show 6 ≤ sizeLine; decide), fun l0 hl0 => ?_⟩
  have t0 := same_new hl0 (.lst [V.ref a0, V.ref a1, V.ref a2, V.ref a3, V.ref a4, V.ref a5])
  have g0 : (upd H5 l0 (.lst [V.ref a0, V.ref a1, V.ref a2, V.ref a3, V.ref a4, V.ref a5])) l0 = some (.lst [V.ref a0, V.ref a1, V.ref a2, V.ref a3, V.ref a4, V.ref a5]) := upd_same
  generalize upd H5 l0 (.lst [V.ref a0, V.ref a1, V.ref a2, V.ref a3, V.ref a4, V.ref a5]) = G0 at t0 g0 ⊢
  refine ⟨_, rfl, ?_⟩
  refine ⟨_, rfl, (by show 1 ≤ 1000; decide), sp_new (C := C 6) (fs := fieldsE 6) (vs := [m]) (by rfl) fun a6 H6 n6 s6 e6 => ?_⟩
  refine ⟨_, rfl, (by show 1 ≤ 1000; decide), sp_new (C := C 7) (fs := fieldsE 7) (vs := [m]) (by rfl) fun a7 H7 n7 s7 e7 => ?_⟩
  refine ⟨_, rfl, _, rfl, (by show 2 ≤ 1000; decide), sp_new (C := C 8) (fs := fieldsE 8) (vs := [m, n]) (by rfl) fun a8 H8 n8 s8 e8 => ?_⟩
  refine ⟨_, rfl, (by show 1 ≤ 1000; decide), sp_new (C := C 9) (fs := fieldsE 9) (vs := [m]) (by rfl) fun a9 H9 n9 s9 e9 => ?_⟩
  refine ⟨_, rfl, (by show 1 ≤ 1000; decide), sp_new (C := C 10) (fs := fieldsE 10) (vs := [m]) (by rfl) fun a10 H10 n10 s10 e10 => ?_⟩
  refine ⟨_, rfl, (by show 1 ≤ 1000; decide), sp_new (C := C 11) (fs := fieldsE 11) (vs := [m]) (by rfl) fun a11 H11 n11 s11 e11 => ?_⟩
  refine ⟨(by show 6 ≤ sizeLine; decide), fun l1 hl1 => ?_⟩
  have t1 := same_new hl1 (.lst [V.ref a6, V.ref a7, V.ref a8, V.ref a9, V.ref a10, V.ref a11])
  have g1 : (upd H11 l1 (.lst [V.ref a6, V.ref a7, V.ref a8, V.ref a9, V.ref a10, V.ref a11])) l1 = some (.lst [V.ref a6, V.ref a7, V.ref a8, V.ref a9, V.ref a10, V.ref a11]) := upd_same
  generalize upd H11 l1 (.lst [V.ref a6, V.ref a7, V.ref a8, V.ref a9, V.ref a10, V.ref a11]) = G1 at t1 g1 ⊢
  have b1 := ((s6.trans (s7.trans (s8.trans (s9.trans (s10.trans (s11.trans t1))))))) _ _ g0
  refine ⟨l0, l1, _, _, rfl, rfl, b1, g1, (by show 12 ≤ sizeLine; decide), fun m1 hm1 => ?_⟩
  have w1 := same_new hm1 (.lst [V.ref a0, V.ref a1, V.ref a2, V.ref a3, V.ref a4, V.ref a5, V.ref a6, V.ref a7, V.ref a8, V.ref a9, V.ref a10, V.ref a11])
  have y1 : (upd G1 m1 (.lst [V.ref a0, V.ref a1, V.ref a2, V.ref a3, V.ref a4, V.ref a5, V.ref a6, V.ref a7, V.ref a8, V.ref a9, V.ref a10, V.ref a11])) m1 = some (.lst [V.ref a0, V.ref a1, V.ref a2, V.ref a3, V.ref a4, V.ref a5, V.ref a6, V.ref a7, V.ref a8, V.ref a9, V.ref a10, V.ref a11]) := upd_same
  generalize hF1 : upd G1 m1 (.lst [V.ref a0, V.ref a1, V.ref a2, V.ref a3, V.ref a4, V.ref a5, V.ref a6, V.ref a7, V.ref a8, V.ref a9, V.ref a10, V.ref a11]) = F1 at w1 y1
  rw [show upd G1 m1 (.lst ([V.ref a0, V.ref a1, V.ref a2, V.ref a3, V.ref a4, V.ref a5] ++ [V.ref a6, V.ref a7, V.ref a8, V.ref a9, V.ref a10, V.ref a11])) = F1 from hF1]
  clear hF1
  refine ⟨_, rfl, ?_⟩
  refine ⟨_, rfl, (by show 1 ≤ 1000; decide), sp_new (C := C 12) (fs := fieldsE 12) (vs := [m]) (by rfl) fun a12 H12 n12 s12 e12 => ?_⟩
  refine ⟨_, rfl, (by show 1 ≤ 1000; decide), sp_new (C := C 13) (fs := fieldsE 13) (vs := [m]) (by rfl) fun a13 H13 n13 s13 e13 => ?_⟩
  refine ⟨_, rfl, (by show 1 ≤ 1000; decide), sp_new (C := C 14) (fs := fieldsE 14) (vs := [m]) (by rfl) fun a14 H14 n14 s14 e14 => ?_⟩
  refine ⟨_, rfl, (by show 1 ≤ 1000; decide), sp_new (C := C 15) (fs := fieldsE 15) (vs := [m]) (by rfl) fun a15 H15 n15 s15 e15 => ?_⟩
  refine ⟨_, rfl, (by show 1 ≤ 1000; decide), sp_new (C := C 16) (fs := fieldsE 16) (vs := [m]) (by rfl) fun a16 H16 n16 s16 e16 => ?_⟩
  refine ⟨_, rfl, (by show 1 ≤ 1000; decide), sp_new (C := C 17) (fs := fieldsE 17) (vs := [m]) (by rfl) fun a17 H17 n17 s17 e17 => ?_⟩
  refine ⟨(by show 6 ≤ sizeLine; decide), fun l2 hl2 => ?_⟩
  have t2 := same_new hl2 (.lst [V.ref a12, V.ref a13, V.ref a14, V.ref a15, V.ref a16, V.ref a17])
  have g2 : (upd H17 l2 (.lst [V.ref a12, V.ref a13, V.ref a14, V.ref a15, V.ref a16, V.ref a17])) l2 = some (.lst [V.ref a12, V.ref a13, V.ref a14, V.ref a15, V.ref a16, V.ref a17]) := upd_same
  generalize upd H17 l2 (.lst [V.ref a12, V.ref a13, V.ref a14, V.ref a15, V.ref a16, V.ref a17]) = G2 at t2 g2 ⊢
  have b2 := ((s12.trans (s13.trans (s14.trans (s15.trans (s16.trans (s17.trans t2))))))) _ _ y1
  refine ⟨m1, l2, _, _, rfl, rfl, b2, g2, (by show 18 ≤ sizeLine; decide), fun m2 hm2 => ?_⟩
  have w2 := same_new hm2 (.lst [V.ref a0, V.ref a1, V.ref a2, V.ref a3, V.ref a4, V.ref a5, V.ref a6, V.ref a7, V.ref a8, V.ref a9, V.ref a10, V.ref a11, V.ref a12, V.ref a13, V.ref a14, V.ref a15, V.ref a16, V.ref a17])
  have y2 : (upd G2 m2 (.lst [V.ref a0, V.ref a1, V.ref a2, V.ref a3, V.ref a4, V.ref a5, V.ref a6, V.ref a7, V.ref a8, V.ref a9, V.ref a10, V.ref a11, V.ref a12, V.ref a13, V.ref a14, V.ref a15, V.ref a16, V.ref a17])) m2 = some (.lst [V.ref a0, V.ref a1, V.ref a2, V.ref a3, V.ref a4, V.ref a5, V.ref a6, V.ref a7, V.ref a8, V.ref a9, V.ref a10, V.ref a11, V.ref a12, V.ref a13, V.ref a14, V.ref a15, V.ref a16, V.ref a17]) := upd_same
  generalize hF2 : upd G2 m2 (.lst [V.ref a0, V.ref a1, V.ref a2, V.ref a3, V.ref a4, V.ref a5, V.ref a6, V.ref a7, V.ref a8, V.ref a9, V.ref a10, V.ref a11, V.ref a12, V.ref a13, V.ref a14, V.ref a15, V.ref a16, V.ref a17]) = F2 at w2 y2
  rw [show upd G2 m2 (.lst ([V.ref a0, V.ref a1, V.ref a2, V.ref a3, V.ref a4, V.ref a5, V.ref a6, V.ref a7, V.ref a8, V.ref a9, V.ref a10, V.ref a11] ++ [V.ref a12, V.ref a13, V.ref a14, V.ref a15, V.ref a16, V.ref a17])) = F2 from hF2]
  clear hF2
  refine ⟨_, rfl, ?_⟩
  refine ⟨_, rfl, (by show 1 ≤ 1000; decide), sp_new (C := C 18) (fs := fieldsE 18) (vs := [m]) (by rfl) fun a18 H18 n18 s18 e18 => ?_⟩
  refine ⟨_, rfl, (by show 1 ≤ 1000; decide), sp_new (C := C 19) (fs := fieldsE 19) (vs := [m]) (by rfl) fun a19 H19 n19 s19 e19 => ?_⟩
  refine ⟨_, rfl, (by show 1 ≤ 1000; decide), sp_new (C := C 20) (fs := fieldsE 20) (vs := [m]) (by rfl) fun a20 H20 n20 s20 e20 => ?_⟩
  refine ⟨_, rfl, (by show 1 ≤ 1000; decide), sp_new (C := C 21) (fs := fieldsE 21) (vs := [m]) (by rfl) fun a21 H21 n21 s21 e21 => ?_⟩
  refine ⟨_, rfl, (by show 1 ≤ 1000; decide), sp_new (C := C 22) (fs := fieldsE 22) (vs := [m]) (by rfl) fun a22 H22 n22 s22 e22 => ?_⟩
  refine ⟨_, rfl, (by show 1 ≤ 1000; decide), sp_new (C := C 23) (fs := fieldsE 23) (vs := [m]) (by rfl) fun a23 H23 n23 s23 e23 => ?_⟩
  refine ⟨rfl, sp_new (C := C 24) (fs := fieldsE 24) (vs := []) (by rfl) fun a24 H24 n24 s24 e24 => ?_⟩
  refine ⟨rfl, sp_new (C := C 25) (fs := fieldsE 25) (vs := []) (by rfl) fun a25 H25 n25 s25 e25 => ?_⟩
  refine ⟨(by show 8 ≤ sizeLine; decide), fun l3 hl3 => ?_⟩
  have t3 := same_new hl3 (.lst [V.ref a18, V.ref a19, V.ref a20, V.ref a21, V.ref a22, V.ref a23, V.ref a24, V.ref a25])
  have g3 : (upd H25 l3 (.lst [V.ref a18, V.ref a19, V.ref a20, V.ref a21, V.ref a22, V.ref a23, V.ref a24, V.ref a25])) l3 = some (.lst [V.ref a18, V.ref a19, V.ref a20, V.ref a21, V.ref a22, V.ref a23, V.ref a24, V.ref a25]) := upd_same
  generalize upd H25 l3 (.lst [V.ref a18, V.ref a19, V.ref a20, V.ref a21, V.ref a22, V.ref a23, V.ref a24, V.ref a25]) = G3 at t3 g3 ⊢
  have b3 := ((s18.trans (s19.trans (s20.trans (s21.trans (s22.trans (s23.trans (s24.trans (s25.trans t3))))))))) _ _ y2
  refine ⟨m2, l3, _, _, rfl, rfl, b3, g3, (by show 26 ≤ sizeLine; decide), fun m3 hm3 => ?_⟩
  have w3 := same_new hm3 (.lst [V.ref a0, V.ref a1, V.ref a2, V.ref a3, V.ref a4, V.ref a5, V.ref a6, V.ref a7, V.ref a8, V.ref a9, V.ref a10, V.ref a11, V.ref a12, V.ref a13, V.ref a14, V.ref a15, V.ref a16, V.ref a17, V.ref a18, V.ref a19, V.ref a20, V.ref a21, V.ref a22, V.ref a23, V.ref a24, V.ref a25])
  have y3 : (upd G3 m3 (.lst [V.ref a0, V.ref a1, V.ref a2, V.ref a3, V.ref a4, V.ref a5, V.ref a6, V.ref a7, V.ref a8, V.ref a9, V.ref a10, V.ref a11, V.ref a12, V.ref a13, V.ref a14, V.ref a15, V.ref a16, V.ref a17, V.ref a18, V.ref a19, V.ref a20, V.ref a21, V.ref a22, V.ref a23, V.ref a24, V.ref a25])) m3 = some (.lst [V.ref a0, V.ref a1, V.ref a2, V.ref a3, V.ref a4, V.ref a5, V.ref a6, V.ref a7, V.ref a8, V.ref a9, V.ref a10, V.ref a11, V.ref a12, V.ref a13, V.ref a14, V.ref a15, V.ref a16, V.ref a17, V.ref a18, V.ref a19, V.ref a20, V.ref a21, V.ref a22, V.ref a23, V.ref a24, V.ref a25]) := upd_same
  generalize hF3 : upd G3 m3 (.lst [V.ref a0, V.ref a1, V.ref a2, V.ref a3, V.ref a4, V.ref a5, V.ref a6, V.ref a7, V.ref a8, V.ref a9, V.ref a10, V.ref a11, V.ref a12, V.ref a13, V.ref a14, V.ref a15, V.ref a16, V.ref a17, V.ref a18, V.ref a19, V.ref a20, V.ref a21, V.ref a22, V.ref a23, V.ref a24, V.ref a25]) = F3 at w3 y3
  rw [show upd G3 m3 (.lst ([V.ref a0, V.ref a1, V.ref a2, V.ref a3, V.ref a4, V.ref a5, V.ref a6, V.ref a7, V.ref a8, V.ref a9, V.ref a10, V.ref a11, V.ref a12, V.ref a13, V.ref a14, V.ref a15, V.ref a16, V.ref a17] ++ [V.ref a18, V.ref a19, V.ref a20, V.ref a21, V.ref a22, V.ref a23, V.ref a24, V.ref a25])) = F3 from hF3]
  clear hF3
  refine ⟨_, rfl, ?_⟩
  refine ⟨rfl, sp_new (C := C 26) (fs := fieldsE 26) (vs := []) (by rfl) fun a26 H26 n26 s26 e26 => ?_⟩
  refine ⟨_, rfl, (by show 1 ≤ 1000; decide), sp_new (C := C 27) (fs := fieldsE 27) (vs := [m]) (by rfl) fun a27 H27 n27 s27 e27 => ?_⟩
  refine ⟨_, rfl, (by show 1 ≤ 1000; decide), sp_new (C := C 28) (fs := fieldsE 28) (vs := [m]) (by rfl) fun a28 H28 n28 s28 e28 => ?_⟩
  refine ⟨_, rfl, (by show 1 ≤ 1000; decide), sp_new (C := C 29) (fs := fieldsE 29) (vs := [m]) (by rfl) fun a29 H29 n29 s29 e29 => ?_⟩
  refine ⟨_, rfl, (by show 1 ≤ 1000; decide), sp_new (C := C 30) (fs := fieldsE 30) (vs := [m]) (by rfl) fun a30 H30 n30 s30 e30 => ?_⟩
  refine ⟨(by show 5 ≤ sizeLine; decide), fun l4 hl4 => ?_⟩
  have t4 := same_new hl4 (.lst [V.ref a26, V.ref a27, V.ref a28, V.ref a29, V.ref a30])
  have g4 : (upd H30 l4 (.lst [V.ref a26, V.ref a27, V.ref a28, V.ref a29, V.ref a30])) l4 = some (.lst [V.ref a26, V.ref a27, V.ref a28, V.ref a29, V.ref a30]) := upd_same
  generalize upd H30 l4 (.lst [V.ref a26, V.ref a27, V.ref a28, V.ref a29, V.ref a30]) = G4 at t4 g4 ⊢
  have b4 := ((s26.trans (s27.trans (s28.trans (s29.trans (s30.trans t4)))))) _ _ y3
  refine ⟨m3, l4, _, _, rfl, rfl, b4, g4, (by show 31 ≤ sizeLine; decide), fun m4 hm4 => ?_⟩
  have w4 := same_new hm4 (.lst [V.ref a0, V.ref a1, V.ref a2, V.ref a3, V.ref a4, V.ref a5, V.ref a6, V.ref a7, V.ref a8, V.ref a9, V.ref a10, V.ref a11, V.ref a12, V.ref a13, V.ref a14, V.ref a15, V.ref a16, V.ref a17, V.ref a18, V.ref a19, V.ref a20, V.ref a21, V.ref a22, V.ref a23, V.ref a24, V.ref a25, V.ref a26, V.ref a27, V.ref a28, V.ref a29, V.ref a30])
  have y4 : (upd G4 m4 (.lst [V.ref a0, V.ref a1, V.ref a2, V.ref a3, V.ref a4, V.ref a5, V.ref a6, V.ref a7, V.ref a8, V.ref a9, V.ref a10, V.ref a11, V.ref a12, V.ref a13, V.ref a14, V.ref a15, V.ref a16, V.ref a17, V.ref a18, V.ref a19, V.ref a20, V.ref a21, V.ref a22, V.ref a23, V.ref a24, V.ref a25, V.ref a26, V.ref a27, V.ref a28, V.ref a29, V.ref a30])) m4 = some (.lst [V.ref a0, V.ref a1, V.ref a2, V.ref a3, V.ref a4, V.ref a5, V.ref a6, V.ref a7, V.ref a8, V.ref a9, V.ref a10, V.ref a11, V.ref a12, V.ref a13, V.ref a14, V.ref a15, V.ref a16, V.ref a17, V.ref a18, V.ref a19, V.ref a20, V.ref a21, V.ref a22, V.ref a23, V.ref a24, V.ref a25, V.ref a26, V.ref a27, V.ref a28, V.ref a29, V.ref a30]) := upd_same
  generalize hF4 : upd G4 m4 (.lst [V.ref a0, V.ref a1, V.ref a2, V.ref a3, V.ref a4, V.ref a5, V.ref a6, V.ref a7, V.ref a8, V.ref a9, V.ref a10, V.ref a11, V.ref a12, V.ref a13, V.ref a14, V.ref a15, V.ref a16, V.ref a17, V.ref a18, V.ref a19, V.ref a20, V.ref a21, V.ref a22, V.ref a23, V.ref a24, V.ref a25, V.ref a26, V.ref a27, V.ref a28, V.ref a29, V.ref a30]) = F4 at w4 y4
  rw [show upd G4 m4 (.lst ([V.ref a0, V.ref a1, V.ref a2, V.ref a3, V.ref a4, V.ref a5, V.ref a6, V.ref a7, V.ref a8, V.ref a9, V.ref a10, V.ref a11, V.ref a12, V.ref a13, V.ref a14, V.ref a15, V.ref a16, V.ref a17, V.ref a18, V.ref a19, V.ref a20, V.ref a21, V.ref a22, V.ref a23, V.ref a24, V.ref a25] ++ [V.ref a26, V.ref a27, V.ref a28, V.ref a29, V.ref a30])) = F4 from hF4]
  clear hF4
  refine ⟨_, rfl, ?_⟩
  refine ⟨_, rfl, (by show 1 ≤ 1000; decide), sp_new (C := C 31) (fs := fieldsE 31) (vs := [m]) (by rfl) fun a31 H31 n31 s31 e31 => ?_⟩
  refine ⟨_, rfl, (by show 1 ≤ 1000; decide), sp_new (C := C 32) (fs := fieldsE 32) (vs := [m]) (by rfl) fun a32 H32 n32 s32 e32 => ?_⟩
  refine ⟨(by show 2 ≤ sizeLine; decide), fun l5 hl5 => ?_⟩
  have t5 := same_new hl5 (.lst [V.ref a31, V.ref a32])
  have g5 : (upd H32 l5 (.lst [V.ref a31, V.ref a32])) l5 = some (.lst [V.ref a31, V.ref a32]) := upd_same
  generalize upd H32 l5 (.lst [V.ref a31, V.ref a32]) = G5 at t5 g5 ⊢
  have b5 := ((s31.trans (s32.trans t5))) _ _ y4
  refine ⟨m4, l5, _, _, rfl, rfl, b5, g5, (by show 33 ≤ sizeLine; decide), fun m5 hm5 => ?_⟩
  have w5 := same_new hm5 (.lst [V.ref a0, V.ref a1, V.ref a2, V.ref a3, V.ref a4, V.ref a5, V.ref a6, V.ref a7, V.ref a8, V.ref a9, V.ref a10, V.ref a11, V.ref a12, V.ref a13, V.ref a14, V.ref a15, V.ref a16, V.ref a17, V.ref a18, V.ref a19, V.ref a20, V.ref a21, V.ref a22, V.ref a23, V.ref a24, V.ref a25, V.ref a26, V.ref a27, V.ref a28, V.ref a29, V.ref a30, V.ref a31, V.ref a32])
  have y5 : (upd G5 m5 (.lst [V.ref a0, V.ref a1, V.ref a2, V.ref a3, V.ref a4, V.ref a5, V.ref a6, V.ref a7, V.ref a8, V.ref a9, V.ref a10, V.ref a11, V.ref a12, V.ref a13, V.ref a14, V.ref a15, V.ref a16, V.ref a17, V.ref a18, V.ref a19, V.ref a20, V.ref a21, V.ref a22, V.ref a23, V.ref a24, V.ref a25, V.ref a26, V.ref a27, V.ref a28, V.ref a29, V.ref a30, V.ref a31, V.ref a32])) m5 = some (.lst [V.ref a0, V.ref a1, V.ref a2, V.ref a3, V.ref a4, V.ref a5, V.ref a6, V.ref a7, V.ref a8, V.ref a9, V.ref a10, V.ref a11, V.ref a12, V.ref a13, V.ref a14, V.ref a15, V.ref a16, V.ref a17, V.ref a18, V.ref a19, V.ref a20, V.ref a21, V.ref a22, V.ref a23, V.ref a24, V.ref a25, V.ref a26, V.ref a27, V.ref a28, V.ref a29, V.ref a30, V.ref a31, V.ref a32]) := upd_same
  have u43 := w5
  have u42 := t5.trans u43
  have u41 := s32.trans u42
  have u40 := s31.trans u41
  have u39 := w4.trans u40
  have u38 := t4.trans u39
  have u37 := s30.trans u38
  have u36 := s29.trans u37
  have u35 := s28.trans u36
  have u34 := s27.trans u35
  have u33 := s26.trans u34
  have u32 := w3.trans u33
  have u31 := t3.trans u32
  have u30 := s25.trans u31
  have u29 := s24.trans u30
  have u28 := s23.trans u29
  have u27 := s22.trans u28
  have u26 := s21.trans u27
  have u25 := s20.trans u26
  have u24 := s19.trans u25
  have u23 := s18.trans u24
  have u22 := w2.trans u23
  have u21 := t2.trans u22
  have u20 := s17.trans u21
  have u19 := s16.trans u20
  have u18 := s15.trans u19
  have u17 := s14.trans u18
  have u16 := s13.trans u17
  have u15 := s12.trans u16
  have u14 := w1.trans u15
  have u13 := t1.trans u14
  have u12 := s11.trans u13
  have u11 := s10.trans u12
  have u10 := s9.trans u11
  have u9 := s8.trans u10
  have u8 := s7.trans u9
  have u7 := s6.trans u8
  have u6 := t0.trans u7
  have u5 := s5.trans u6
  have u4 := s4.trans u5
  have u3 := s3.trans u4
  have u2 := s2.trans u3
  have u1 := s1.trans u2
  have u0 := s0.trans u1
  have v42 := t5
  have v41 := s32.trans v42
  have v40 := s31.trans v41
  have v39 := w4.trans v40
  have v38 := t4.trans v39
  have v37 := s30.trans v38
  have v36 := s29.trans v37
  have v35 := s28.trans v36
  have v34 := s27.trans v35
  have v33 := s26.trans v34
  have v32 := w3.trans v33
  have v31 := t3.trans v32
  have v30 := s25.trans v31
  have v29 := s24.trans v30
  have v28 := s23.trans v29
  have v27 := s22.trans v28
  have v26 := s21.trans v27
  have v25 := s20.trans v26
  have v24 := s19.trans v25
  have v23 := s18.trans v24
  have v22 := w2.trans v23
  have v21 := t2.trans v22
  have v20 := s17.trans v21
  have v19 := s16.trans v20
  have v18 := s15.trans v19
  have v17 := s14.trans v18
  have v16 := s13.trans v17
  have v15 := s12.trans v16
  have v14 := w1.trans v15
  have v13 := t1.trans v14
  have v12 := s11.trans v13
  have v11 := s10.trans v12
  have v10 := s9.trans v11
  have v9 := s8.trans v10
  have v8 := s7.trans v9
  have v7 := s6.trans v8
  have v6 := t0.trans v7
  have v5 := s5.trans v6
  have v4 := s4.trans v5
  have v3 := s3.trans v4
  have v2 := s2.trans v3
  have v1 := s1.trans v2
  have v0 := s0.trans v1
  refine q _ _ [a0, a1, a2, a3, a4, a5, a6, a7, a8, a9, a10, a11, a12, a13, a14, a15, a16, a17, a18, a19, a20, a21, a22, a23, a24, a25, a26, a27, a28, a29, a30, a31, a32] u0 (v0.free hm5) y5 ⟨e0.same u1, e1.same u2, e2.same u3, e3.same u4, e4.same u5, e5.same u6, e6.same u8, e7.same u9, e8.same u10, e9.same u11, e10.same u12, e11.same u13, e12.same u16, e13.same u17, e14.same u18, e15.same u19, e16.same u20, e17.same u21, e18.same u24, e19.same u25, e20.same u26, e21.same u27, e22.same u28, e23.same u29, e24.same u30, e25.same u31, e26.same u34, e27.same u35, e28.same u36, e29.same u37, e30.same u38, e31.same u41, e32.same u42, True.intro⟩
abbrev s_named : Stmt := top 73
abbrev N_named : List Str := ["_law_m", "_law_n", "_law_made_here"]
abbrev P_named : List Str := ["_law_m", "_law_n"]
theorem sc_named : FnScope N_named P_named (defScope s_named) := ⟨rfl, rfl, rfl, by decide +kernel, rfl, by decide +kernel, by decide +kernel⟩
def named_is : List Nat := [0, 1, 2, 4, 5, 8, 11, 21, 12, 14, 16, 3, 6, 7, 9, 10, 13, 15, 17, 18, 19, 20, 22, 23]
def spNamed (C : Nat → Addr) : Sp := fun vs H Q _ => ∃ m n : V, vs = [m, n] ∧ ∀ (H' : Hp) (l : Addr) (es : List Addr), Same H H' → H l = none → H' l = some (.lst (es.map V.ref)) → AllE H' C m n named_is es → Q (.ref l) H'
theorem ok_named {f : Addr} {fd : FuncData} (F : Fun K "_law_named" "_law_named" s_named f fd) (E : Errs P w K mg base C fI fdd Sh St Sz) : FnOk P w K mg base CX0 3 f fd P_named (spNamed C) := by
  refine F.ok sc_named (fun vs H Q E h => ?_) (fun cdv A outer s H vs Q EE hr h => ?_)
  · obtain ⟨m, n, rfl, _⟩ := h
    rfl
  obtain ⟨m, n, rfl, q⟩ := h
  have d0 := E.d 0 (by decide)
  have d1 := E.d 1 (by decide)
  have d2 := E.d 2 (by decide)
  have d3 := E.d 3 (by decide)
  have d4 := E.d 4 (by decide)
  have d5 := E.d 5 (by decide)
  have d6 := E.d 6 (by decide)
  have d7 := E.d 7 (by decide)
  have d8 := E.d 8 (by decide)
  have d9 := E.d 9 (by decide)
  have d10 := E.d 10 (by decide)
  have d11 := E.d 11 (by decide)
  have d12 := E.d 12 (by decide)
  have d13 := E.d 13 (by decide)
  have d14 := E.d 14 (by decide)
  have d15 := E.d 15 (by decide)
  have d16 := E.d 16 (by decide)
  have d17 := E.d 17 (by decide)
  have d18 := E.d 18 (by decide)
  have d19 := E.d 19 (by decide)
  have d20 := E.d 20 (by decide)
  have d21 := E.d 21 (by decide)
  have d22 := E.d 22 (by decide)
  have d23 := E.d 23 (by decide)
  refine ⟨_, (pss_cons (ps_set (i := 2) sc_named.nd rfl (Or.inl rfl) (pe_lst (pa_cons (pe_newK d0.er d0.i d0.ty d0.ok (hr.mono (by first | decide | omega)) d0.kb rfl d0.g (pk_cons (pv 0) pk_nil)) (pa_cons (pe_newK d1.er d1.i d1.ty d1.ok (hr.mono (by first | decide | omega)) d1.kb rfl d1.g (pk_cons (pv 0) pk_nil)) (pa_cons (pe_newK d2.er d2.i d2.ty d2.ok (hr.mono (by first | decide | omega)) d2.kb rfl d2.g (pk_cons (pv 0) pk_nil)) (pa_cons (pe_newK d4.er d4.i d4.ty d4.ok (hr.mono (by first | decide | omega)) d4.kb rfl d4.g (pk_cons (pv 0) pk_nil)) pa_nil))))))
    (pss_cons (ps_set (i := 2) sc_named.nd rfl (Or.inl rfl) (pe_op op_cat (pv 2) (pe_lst (pa_cons (pe_newK d5.er d5.i d5.ty d5.ok (hr.mono (by first | decide | omega)) d5.kb rfl d5.g (pk_cons (pv 0) pk_nil)) (pa_cons (pe_newK d8.er d8.i d8.ty d8.ok (hr.mono (by first | decide | omega)) d8.kb rfl d8.g (pk_cons (pv 1) (pk_cons (pv 0) pk_nil))) (pa_cons (pe_newK d11.er d11.i d11.ty d11.ok (hr.mono (by first | decide | omega)) d11.kb rfl d11.g (pk_cons (pv 0) pk_nil)) (pa_cons (pe_newK d21.er d21.i d21.ty d21.ok (hr.mono (by first | decide | omega)) d21.kb rfl d21.g (pk_cons (pv 0) pk_nil)) pa_nil)))))))
    (pss_cons (ps_set (i := 2) sc_named.nd rfl (Or.inl rfl) (pe_op op_cat (pv 2) (pe_lst (pa_cons (pe_newK d12.er d12.i d12.ty d12.ok (hr.mono (by first | decide | omega)) d12.kb rfl d12.g (pk_cons (pv 0) pk_nil)) (pa_cons (pe_newK d14.er d14.i d14.ty d14.ok (hr.mono (by first | decide | omega)) d14.kb rfl d14.g (pk_cons (pv 0) pk_nil)) (pa_cons (pe_newK d16.er d16.i d16.ty d16.ok (hr.mono (by first | decide | omega)) d16.kb rfl d16.g (pk_cons (pv 0) pk_nil)) (pa_cons (pe_newK d3.er d3.i d3.ty d3.ok (hr.mono (by first | decide | omega)) d3.kb rfl d3.g (pk_cons (pv 0) pk_nil)) pa_nil)))))))
    (pss_cons (ps_set (i := 2) sc_named.nd rfl (Or.inl rfl) (pe_op op_cat (pv 2) (pe_lst (pa_cons (pe_newK d6.er d6.i d6.ty d6.ok (hr.mono (by first | decide | omega)) d6.kb rfl d6.g (pk_cons (pv 0) pk_nil)) (pa_cons (pe_newK d7.er d7.i d7.ty d7.ok (hr.mono (by first | decide | omega)) d7.kb rfl d7.g (pk_cons (pv 0) pk_nil)) (pa_cons (pe_newK d9.er d9.i d9.ty d9.ok (hr.mono (by first | decide | omega)) d9.kb rfl d9.g (pk_cons (pv 0) pk_nil)) (pa_cons (pe_newK d10.er d10.i d10.ty d10.ok (hr.mono (by first | decide | omega)) d10.kb rfl d10.g (pk_cons (pv 0) pk_nil)) pa_nil)))))))
    (pss_cons (ps_set (i := 2) sc_named.nd rfl (Or.inl rfl) (pe_op op_cat (pv 2) (pe_lst (pa_cons (pe_newK d13.er d13.i d13.ty d13.ok (hr.mono (by first | decide | omega)) d13.kb rfl d13.g (pk_cons (pv 0) pk_nil)) (pa_cons (pe_newK d15.er d15.i d15.ty d15.ok (hr.mono (by first | decide | omega)) d15.kb rfl d15.g (pk_cons (pv 0) pk_nil)) (pa_cons (pe_newK d17.er d17.i d17.ty d17.ok (hr.mono (by first | decide | omega)) d17.kb rfl d17.g (pk_cons (pv 0) pk_nil)) (pa_cons (pe_newK d18.er d18.i d18.ty d18.ok (hr.mono (by first | decide | omega)) d18.kb rfl d18.g (pk_cons (pv 0) pk_nil)) pa_nil)))))))
    (pss_one (ps_ret (pe_op op_cat (pv 2) (pe_lst (pa_cons (pe_newK d19.er d19.i d19.ty d19.ok (hr.mono (by first | decide | omega)) d19.kb rfl d19.g (pk_cons (pv 0) pk_nil)) (pa_cons (pe_newK d20.er d20.i d20.ty d20.ok (hr.mono (by first | decide | omega)) d20.kb rfl d20.g (pk_cons (pv 0) pk_nil)) (pa_cons (pe_newK d22.er d22.i d22.ty d22.ok (hr.mono (by first | decide | omega)) d22.kb rfl d22.g (pk_cons (pv 0) pk_nil)) (pa_cons (pe_newK d23.er d23.i d23.ty d23.ok (hr.mono (by first | decide | omega)) d23.kb rfl d23.g (pk_cons (pv 0) pk_nil)) pa_nil))))))))))))), ?_⟩
  refine ⟨_, rfl, rfl, sp_new (C := C 0) (fs := fieldsE 0) (vs := [m]) (by rfl) fun a0 H0 n0 s0 e0 => ?_⟩
  refine ⟨_, rfl, rfl, sp_new (C := C 1) (fs := fieldsE 1) (vs := [m]) (by rfl) fun a1 H1 n1 s1 e1 => ?_⟩
  refine ⟨_, rfl, rfl, sp_new (C := C 2) (fs := fieldsE 2) (vs := [m]) (by rfl) fun a2 H2 n2 s2 e2 => ?_⟩
  refine ⟨_, rfl, rfl, sp_new (C := C 4) (fs := fieldsE 4) (vs := [m]) (by rfl) fun a3 H3 n3 s3 e3 => ?_⟩
  refine ⟨(by show 4 ≤ sizeLine; decide), fun l0 hl0 => ?_⟩
  have t0 := same_new hl0 (.lst [V.ref a0, V.ref a1, V.ref a2, V.ref a3])
  have g0 : (upd H3 l0 (.lst [V.ref a0, V.ref a1, V.ref a2, V.ref a3])) l0 = some (.lst [V.ref a0, V.ref a1, V.ref a2, V.ref a3]) := upd_same
  generalize upd H3 l0 (.lst [V.ref a0, V.ref a1, V.ref a2, V.ref a3]) = G0 at t0 g0 ⊢
  refine ⟨_, rfl, ?_⟩
  refine ⟨_, rfl, rfl, sp_new (C := C 5) (fs := fieldsE 5) (vs := [m]) (by rfl) fun a4 H4 n4 s4 e4 => ?_⟩
  refine ⟨_, rfl, _, rfl, rfl, sp_new (C := C 8) (fs := fieldsE 8) (vs := [m, n]) (by rfl) fun a5 H5 n5 s5 e5 => ?_⟩
  refine ⟨_, rfl, rfl, sp_new (C := C 11) (fs := fieldsE 11) (vs := [m]) (by rfl) fun a6 H6 n6 s6 e6 => ?_⟩
  refine ⟨_, rfl, rfl, sp_new (C := C 21) (fs := fieldsE 21) (vs := [m]) (by rfl) fun a7 H7 n7 s7 e7 => ?_⟩
  refine ⟨(by show 4 ≤ sizeLine; decide), fun l1 hl1 => ?_⟩
  have t1 := same_new hl1 (.lst [V.ref a4, V.ref a5, V.ref a6, V.ref a7])
  have g1 : (upd H7 l1 (.lst [V.ref a4, V.ref a5, V.ref a6, V.ref a7])) l1 = some (.lst [V.ref a4, V.ref a5, V.ref a6, V.ref a7]) := upd_same
  generalize upd H7 l1 (.lst [V.ref a4, V.ref a5, V.ref a6, V.ref a7]) = G1 at t1 g1 ⊢
  have b1 := ((s4.trans (s5.trans (s6.trans (s7.trans t1))))) _ _ g0
  refine ⟨l0, l1, _, _, rfl, rfl, b1, g1, (by show 8 ≤ sizeLine; decide), fun m1 hm1 => ?_⟩
  have w1 := same_new hm1 (.lst [V.ref a0, V.ref a1, V.ref a2, V.ref a3, V.ref a4, V.ref a5, V.ref a6, V.ref a7])
  have y1 : (upd G1 m1 (.lst [V.ref a0, V.ref a1, V.ref a2, V.ref a3, V.ref a4, V.ref a5, V.ref a6, V.ref a7])) m1 = some (.lst [V.ref a0, V.ref a1, V.ref a2, V.ref a3, V.ref a4, V.ref a5, V.ref a6, V.ref a7]) := upd_same
  generalize hF1 : upd G1 m1 (.lst [V.ref a0, V.ref a1, V.ref a2, V.ref a3, V.ref a4, V.ref a5, V.ref a6, V.ref a7]) = F1 at w1 y1
  rw [show upd G1 m1 (.lst ([V.ref a0, V.ref a1, V.ref a2, V.ref a3] ++ [V.ref a4, V.ref a5, V.ref a6, V.ref a7])) = F1 from hF1]
  clear hF1
  refine ⟨_, rfl, ?_⟩
  refine ⟨_, rfl, rfl, sp_new (C := C 12) (fs := fieldsE 12) (vs := [m]) (by rfl) fun a8 H8 n8 s8 e8 => ?_⟩
  refine ⟨_, rfl, rfl, sp_new (C := C 14) (fs := fieldsE 14) (vs := [m]) (by rfl) fun a9 H9 n9 s9 e9 => ?_⟩
  refine ⟨_, rfl, rfl, sp_new (C := C 16) (fs := fieldsE 16) (vs := [m]) (by rfl) fun a10 H10 n10 s10 e10 => ?_⟩
  refine ⟨_, rfl, rfl, sp_new (C := C 3) (fs := fieldsE 3) (vs := [m]) (by rfl) fun a11 H11 n11 s11 e11 => ?_⟩
  refine ⟨(by show 4 ≤ sizeLine; decide), fun l2 hl2 => ?_⟩
  have t2 := same_new hl2 (.lst [V.ref a8, V.ref a9, V.ref a10, V.ref a11])
  have g2 : (upd H11 l2 (.lst [V.ref a8, V.ref a9, V.ref a10, V.ref a11])) l2 = some (.lst [V.ref a8, V.ref a9, V.ref a10, V.ref a11]) := upd_same
  generalize upd H11 l2 (.lst [V.ref a8, V.ref a9, V.ref a10, V.ref a11]) = G2 at t2 g2 ⊢
  have b2 := ((s8.trans (s9.trans (s10.trans (s11.trans t2))))) _ _ y1
  refine ⟨m1, l2, _, _, rfl, rfl, b2, g2, (by show 12 ≤ sizeLine; decide), fun m2 hm2 => ?_⟩
  have w2 := same_new hm2 (.lst [V.ref a0, V.ref a1, V.ref a2, V.ref a3, V.ref a4, V.ref a5, V.ref a6, V.ref a7, V.ref a8, V.ref a9, V.ref a10, V.ref a11])
  have y2 : (upd G2 m2 (.lst [V.ref a0, V.ref a1, V.ref a2, V.ref a3, V.ref a4, V.ref a5, V.ref a6, V.ref a7, V.ref a8, V.ref a9, V.ref a10, V.ref a11])) m2 = some (.lst [V.ref a0, V.ref a1, V.ref a2, V.ref a3, V.ref a4, V.ref a5, V.ref a6, V.ref a7, V.ref a8, V.ref a9, V.ref a10, V.ref a11]) := upd_same
  generalize hF2 : upd G2 m2 (.lst [V.ref a0, V.ref a1, V.ref a2, V.ref a3, V.ref a4, V.ref a5, V.ref a6, V.ref a7, V.ref a8, V.ref a9, V.ref a10, V.ref a11]) = F2 at w2 y2
  rw [show upd G2 m2 (.lst ([V.ref a0, V.ref a1, V.ref a2, V.ref a3, V.ref a4, V.ref a5, V.ref a6, V.ref a7] ++ [V.ref a8, V.ref a9, V.ref a10, V.ref a11])) = F2 from hF2]
  clear hF2
  refine ⟨_, rfl, ?_⟩
  refine ⟨_, rfl, rfl, sp_new (C := C 6) (fs := fieldsE 6) (vs := [m]) (by rfl) fun a12 H12 n12 s12 e12 => ?_⟩
  refine ⟨_, rfl, rfl, sp_new (C := C 7) (fs := fieldsE 7) (vs := [m]) (by rfl) fun a13 H13 n13 s13 e13 => ?_⟩
  refine ⟨_, rfl, rfl, sp_new (C := C 9) (fs := fieldsE 9) (vs := [m]) (by rfl) fun a14 H14 n14 s14 e14 => ?_⟩
  refine ⟨_, rfl, rfl, sp_new (C := C 10) (fs := fieldsE 10) (vs := [m]) (by rfl) fun a15 H15 n15 s15 e15 => ?_⟩
  refine ⟨(by show 4 ≤ sizeLine; decide), fun l3 hl3 => ?_⟩
  have t3 := same_new hl3 (.lst [V.ref a12, V.ref a13, V.ref a14, V.ref a15])
  have g3 : (upd H15 l3 (.lst [V.ref a12, V.ref a13, V.ref a14, V.ref a15])) l3 = some (.lst [V.ref a12, V.ref a13, V.ref a14, V.ref a15]) := upd_same
  generalize upd H15 l3 (.lst [V.ref a12, V.ref a13, V.ref a14, V.ref a15]) = G3 at t3 g3 ⊢
  have b3 := ((s12.trans (s13.trans (s14.trans (s15.trans t3))))) _ _ y2
  refine ⟨m2, l3, _, _, rfl, rfl, b3, g3, (by show 16 ≤ sizeLine; decide), fun m3 hm3 => ?_⟩
  have w3 := same_new hm3 (.lst [V.ref a0, V.ref a1, V.ref a2, V.ref a3, V.ref a4, V.ref a5, V.ref a6, V.ref a7, V.ref a8, V.ref a9, V.ref a10, V.ref a11, V.ref a12, V.ref a13, V.ref a14, V.ref a15])
  have y3 : (upd G3 m3 (.lst [V.ref a0, V.ref a1, V.ref a2, V.ref a3, V.ref a4, V.ref a5, V.ref a6, V.ref a7, V.ref a8, V.ref a9, V.ref a10, V.ref a11, V.ref a12, V.ref a13, V.ref a14, V.ref a15])) m3 = some (.lst [V.ref a0, V.ref a1, V.ref a2, V.ref a3, V.ref a4, V.ref a5, V.ref a6, V.ref a7, V.ref a8, V.ref a9, V.ref a10, V.ref a11, V.ref a12, V.ref a13, V.ref a14, V.ref a15]) := upd_same
  generalize hF3 : upd G3 m3 (.lst [V.ref a0, V.ref a1, V.ref a2, V.ref a3, V.ref a4, V.ref a5, V.ref a6, V.ref a7, V.ref a8, V.ref a9, V.ref a10, V.ref a11, V.ref a12, V.ref a13, V.ref a14, V.ref a15]) = F3 at w3 y3
  rw [show upd G3 m3 (.lst ([V.ref a0, V.ref a1, V.ref a2, V.ref a3, V.ref a4, V.ref a5, V.ref a6, V.ref a7, V.ref a8, V.ref a9, V.ref a10, V.ref a11] ++ [V.ref a12, V.ref a13, V.ref a14, V.ref a15])) = F3 from hF3]
  clear hF3
  refine ⟨_, rfl, ?_⟩
  refine ⟨_, rfl, rfl, sp_new (C := C 13) (fs := fieldsE 13) (vs := [m]) (by rfl) fun a16 H16 n16 s16 e16 => ?_⟩
  refine ⟨_, rfl, rfl, sp_new (C := C 15) (fs := fieldsE 15) (vs := [m]) (by rfl) fun a17 H17 n17 s17 e17 => ?_⟩
  refine ⟨_, rfl, rfl, sp_new (C := C 17) (fs := fieldsE 17) (vs := [m]) (by rfl) fun a18 H18 n18 s18 e18 => ?_⟩
  refine ⟨_, rfl, rfl, sp_new (C := C 18) (fs := fieldsE 18) (vs := [m]) (by rfl) fun a19 H19 n19 s19 e19 => ?_⟩
  refine ⟨(by show 4 ≤ sizeLine; decide), fun l4 hl4 => ?_⟩
  have t4 := same_new hl4 (.lst [V.ref a16, V.ref a17, V.ref a18, V.ref a19])
  have g4 : (upd H19 l4 (.lst [V.ref a16, V.ref a17, V.ref a18, V.ref a19])) l4 = some (.lst [V.ref a16, V.ref a17, V.ref a18, V.ref a19]) := upd_same
  generalize upd H19 l4 (.lst [V.ref a16, V.ref a17, V.ref a18, V.ref a19]) = G4 at t4 g4 ⊢
  have b4 := ((s16.trans (s17.trans (s18.trans (s19.trans t4))))) _ _ y3
  refine ⟨m3, l4, _, _, rfl, rfl, b4, g4, (by show 20 ≤ sizeLine; decide), fun m4 hm4 => ?_⟩
  have w4 := same_new hm4 (.lst [V.ref a0, V.ref a1, V.ref a2, V.ref a3, V.ref a4, V.ref a5, V.ref a6, V.ref a7, V.ref a8, V.ref a9, V.ref a10, V.ref a11, V.ref a12, V.ref a13, V.ref a14, V.ref a15, V.ref a16, V.ref a17, V.ref a18, V.ref a19])
  have y4 : (upd G4 m4 (.lst [V.ref a0, V.ref a1, V.ref a2, V.ref a3, V.ref a4, V.ref a5, V.ref a6, V.ref a7, V.ref a8, V.ref a9, V.ref a10, V.ref a11, V.ref a12, V.ref a13, V.ref a14, V.ref a15, V.ref a16, V.ref a17, V.ref a18, V.ref a19])) m4 = some (.lst [V.ref a0, V.ref a1, V.ref a2, V.ref a3, V.ref a4, V.ref a5, V.ref a6, V.ref a7, V.ref a8, V.ref a9, V.ref a10, V.ref a11, V.ref a12, V.ref a13, V.ref a14, V.ref a15, V.ref a16, V.ref a17, V.ref a18, V.ref a19]) := upd_same
  generalize hF4 : upd G4 m4 (.lst [V.ref a0, V.ref a1, V.ref a2, V.ref a3, V.ref a4, V.ref a5, V.ref a6, V.ref a7, V.ref a8, V.ref a9, V.ref a10, V.ref a11, V.ref a12, V.ref a13, V.ref a14, V.ref a15, V.ref a16, V.ref a17, V.ref a18, V.ref a19]) = F4 at w4 y4
  rw [show upd G4 m4 (.lst ([V.ref a0, V.ref a1, V.ref a2, V.ref a3, V.ref a4, V.ref a5, V.ref a6, V.ref a7, V.ref a8, V.ref a9, V.ref a10, V.ref a11, V.ref a12, V.ref a13, V.ref a14, V.ref a15] ++ [V.ref a16, V.ref a17, V.ref a18, V.ref a19])) = F4 from hF4]
  clear hF4
  refine ⟨_, rfl, ?_⟩
  refine ⟨_, rfl, rfl, sp_new (C := C 19) (fs := fieldsE 19) (vs := [m]) (by rfl) fun a20 H20 n20 s20 e20 => ?_⟩
  refine ⟨_, rfl, rfl, sp_new (C := C 20) (fs := fieldsE 20) (vs := [m]) (by rfl) fun a21 H21 n21 s21 e21 => ?_⟩
  refine ⟨_, rfl, rfl, sp_new (C := C 22) (fs := fieldsE 22) (vs := [m]) (by rfl) fun a22 H22 n22 s22 e22 => ?_⟩
  refine ⟨_, rfl, rfl, sp_new (C := C 23) (fs := fieldsE 23) (vs := [m]) (by rfl) fun a23 H23 n23 s23 e23 => ?_⟩
  refine ⟨(by show 4 ≤ sizeLine; decide), fun l5 hl5 => ?_⟩
  have t5 := same_new hl5 (.lst [V.ref a20, V.ref a21, V.ref a22, V.ref a23])
  have g5 : (upd H23 l5 (.lst [V.ref a20, V.ref a21, V.ref a22, V.ref a23])) l5 = some (.lst [V.ref a20, V.ref a21, V.ref a22, V.ref a23]) := upd_same
  generalize upd H23 l5 (.lst [V.ref a20, V.ref a21, V.ref a22, V.ref a23]) = G5 at t5 g5 ⊢
  have b5 := ((s20.trans (s21.trans (s22.trans (s23.trans t5))))) _ _ y4
  refine ⟨m4, l5, _, _, rfl, rfl, b5, g5, (by show 24 ≤ sizeLine; decide), fun m5 hm5 => ?_⟩
  have w5 := same_new hm5 (.lst [V.ref a0, V.ref a1, V.ref a2, V.ref a3, V.ref a4, V.ref a5, V.ref a6, V.ref a7, V.ref a8, V.ref a9, V.ref a10, V.ref a11, V.ref a12, V.ref a13, V.ref a14, V.ref a15, V.ref a16, V.ref a17, V.ref a18, V.ref a19, V.ref a20, V.ref a21, V.ref a22, V.ref a23])
  have y5 : (upd G5 m5 (.lst [V.ref a0, V.ref a1, V.ref a2, V.ref a3, V.ref a4, V.ref a5, V.ref a6, V.ref a7, V.ref a8, V.ref a9, V.ref a10, V.ref a11, V.ref a12, V.ref a13, V.ref a14, V.ref a15, V.ref a16, V.ref a17, V.ref a18, V.ref a19, V.ref a20, V.ref a21, V.ref a22, V.ref a23])) m5 = some (.lst [V.ref a0, V.ref a1, V.ref a2, V.ref a3, V.ref a4, V.ref a5, V.ref a6, V.ref a7, V.ref a8, V.ref a9, V.ref a10, V.ref a11, V.ref a12, V.ref a13, V.ref a14, V.ref a15, V.ref a16, V.ref a17, V.ref a18, V.ref a19, V.ref a20, V.ref a21, V.ref a22, V.ref a23]) := upd_same
  have u34 := w5
  have u33 := t5.trans u34
  have u32 := s23.trans u33
  have u31 := s22.trans u32
  have u30 := s21.trans u31
  have u29 := s20.trans u30
  have u28 := w4.trans u29
  have u27 := t4.trans u28
  have u26 := s19.trans u27
  have u25 := s18.trans u26
  have u24 := s17.trans u25
  have u23 := s16.trans u24
  have u22 := w3.trans u23
  have u21 := t3.trans u22
  have u20 := s15.trans u21
  have u19 := s14.trans u20
  have u18 := s13.trans u19
  have u17 := s12.trans u18
  have u16 := w2.trans u17
  have u15 := t2.trans u16
  have u14 := s11.trans u15
  have u13 := s10.trans u14
  have u12 := s9.trans u13
  have u11 := s8.trans u12
  have u10 := w1.trans u11
  have u9 := t1.trans u10
  have u8 := s7.trans u9
  have u7 := s6.trans u8
  have u6 := s5.trans u7
  have u5 := s4.trans u6
  have u4 := t0.trans u5
  have u3 := s3.trans u4
  have u2 := s2.trans u3
  have u1 := s1.trans u2
  have u0 := s0.trans u1
  have v33 := t5
  have v32 := s23.trans v33
  have v31 := s22.trans v32
  have v30 := s21.trans v31
  have v29 := s20.trans v30
  have v28 := w4.trans v29
  have v27 := t4.trans v28
  have v26 := s19.trans v27
  have v25 := s18.trans v26
  have v24 := s17.trans v25
  have v23 := s16.trans v24
  have v22 := w3.trans v23
  have v21 := t3.trans v22
  have v20 := s15.trans v21
  have v19 := s14.trans v20
  have v18 := s13.trans v19
  have v17 := s12.trans v18
  have v16 := w2.trans v17
  have v15 := t2.trans v16
  have v14 := s11.trans v15
  have v13 := s10.trans v14
  have v12 := s9.trans v13
  have v11 := s8.trans v12
  have v10 := w1.trans v11
  have v9 := t1.trans v10
  have v8 := s7.trans v9
  have v7 := s6.trans v8
  have v6 := s5.trans v7
  have v5 := s4.trans v6
  have v4 := t0.trans v5
  have v3 := s3.trans v4
  have v2 := s2.trans v3
  have v1 := s1.trans v2
  have v0 := s0.trans v1
  refine q _ _ [a0, a1, a2, a3, a4, a5, a6, a7, a8, a9, a10, a11, a12, a13, a14, a15, a16, a17, a18, a19, a20, a21, a22, a23] u0 (v0.free hm5) y5 ⟨e0.same u1, e1.same u2, e2.same u3, e3.same u4, e4.same u6, e5.same u7, e6.same u8, e7.same u9, e8.same u12, e9.same u13, e10.same u14, e11.same u15, e12.same u18, e13.same u19, e14.same u20, e15.same u21, e16.same u24, e17.same u25, e18.same u26, e19.same u27, e20.same u30, e21.same u31, e22.same u32, e23.same u33, True.intro⟩
end
end KX

namespace KX
open PySem PySem.Spec L2 PyProof.Rows
/-! ### list(d.values()) -/
theorem vals_snd : ∀ {rows : List (Key × V)} {vs : List (Key × Value)}, KV rows vs → Vals (rows.map Prod.snd) (vs.map Prod.snd)
  | _, _, .nil => .nil
  | _, _, .cons one more => .cons one.2 (vals_snd more)
theorem snd_of_items {κ : Type} {vs : List (κ × Value)} {acc : Array Value} (z : acc.size = vs.length) (each : ∀ (j : Nat) (v : Value), acc[j]? = some v → ∃ k, vs[j]? = some (k, v)) : acc.toList = vs.map Prod.snd := by
  apply List.ext_getElem?
  intro j
  rw [Array.getElem?_toList, List.getElem?_map]
  cases q : acc[j]? with
  | none =>
    rw [Array.getElem?_eq_none_iff] at q
    rw [List.getElem?_eq_none (by omega)]
    rfl
  | some v =>
    obtain ⟨k, ek⟩ := each j v q
    rw [ek]
    rfl
def tListVals (te : TE) : TE := fun σ H Q => te σ H fun x G => ∃ (m : Addr) (rows : List (Key × V)), x = .ref m ∧ G m = some (.dK rows) ∧ ∀ l, G l = none → Q (.ref l) (upd G l (.lst (rows.map Prod.snd)))
section
variable {X : Cx} {e : Expr} {te : TE} {p apos cpos pos : Pos}
theorem pe_listVals (calm : X.calm = true) (isG : Gl X "list") (own : X.mg "list" = none) (recv : PE X e te)
    (attr : attributeBase e "values" X.env (eval e X.env) = eval e X.env := by rfl) (row : (apos.endLine == cpos.line) = true := by rfl)
    (stars : starEach [.Call (.Attribute e "values" apos) [] [] cpos] X.env = (false, eval (.Call (.Attribute e "values" apos) [] [] cpos) X.env) :: starEach [] X.env := by rfl) :
    PE X (.Call (.Name "list" p) [.Call (.Attribute e "values" apos) [] [] cpos] [] pos) (tListVals te) := by
  constructor
  intro pins s σ H Q I want
  have calls : wpAny (model X.prog X.w) X.A (eval (.Call (.Attribute e "values" apos) [] [] cpos) X.env) (fun u s2 => wpAny (model X.prog X.w) X.A (call (.type "list") [u]) (EP X pins σ Q) X.xe s2) X.xe s := by
    refine wpAny_Call_method (T := "dict") (id := "dict.values") attr rfl row PySem.F.plainAttrs_dict PySem.F.slot_dict_values PySem.F.type_dict_values ?_
    refine thn (recv.run pins s σ H _ I want) ?_
    rintro u s1 ⟨x, G, J, rx, m, rows, rfl, em, q⟩
    have eu : u = Value.ref m := rx
    subst eu
    obtain ⟨short, low, vs, kv, dict⟩ := J.hok m _ em
    obtain ⟨ep, stands⟩ := dict.dictAt
    have len : rows.length = vs.length := Paired.length kv
    refine ⟨dict.typeIs, dict.mapOf.noDict, ?_⟩
    generalize hv : ({ cls := .type "dict_values", data := .fields #[.ref m] } : Obj) = view
    have J2 : Inv X pins σ G { s1 with heap := s1.heap.push view } := J.kept (t' := s1.toks) (fun b o there => Heap.get?_push_of_some _ there)
    refine method_meetsIn PySem.F.slot_dict_values PySem.F.entry_dict_values rfl (PySem.evalArgs_none ⟨rfl, dict.typeIs, PySem.F.args_dict_values_1 _, _, meets_dict_values (mixKind X.prog X.w) m low, ⟨vs, dict⟩, ?_⟩)
    rw [hv]
    have src : (s1.heap.push view).IsValuesView s1.heap.objs.size m ∧ (s1.heap.push view).DictAt (mixKind X.prog X.w) m vs ep := ⟨by subst hv; exact ⟨_, Heap.get?_push_size _ rfl, rfl, rfl⟩, stands.push _⟩
    refine PySem.W.kdl_call (PySem.W.kdl_values (knd := mixKind X.prog X.w) (kvs := vs) (ep := ep)) (J.ok.hd calm) src (by omega) ?_
    intro h' tk acc c keeps made items
    have all : acc.toList = vs.map Prod.snd := snd_of_items items.1 items.2
    refine ⟨.ref _, _, J2.laid (t' := tk) (o := .lst (rows.map Prod.snd)) keeps (Nat.le_refl _) ?_, rfl, q _ (J2.hok.fresh (Nat.le_refl _))⟩
    refine ⟨by rw [List.length_map]; exact short, acc.toList, c, ?_, ?_⟩
    · rw [all]
      exact vals_snd kv
    · rw [Array.toArray_toList]
      exact made
  have known : bootBuiltins "list" = some (Value.type "list") := by decide +kernel
  refine wpAny_Call_Name_kw (ld_blt I isG own known ?_)
  refine PyProof.Rows.callWith_type1 ?_ stars rfl
  rw [stars]
  exact Calls.spliced_cons (thn calls fun u s2 h => Calls.spliced_nil h)
end
end KX

namespace KX
open PySem PySem.Spec L2 PyProof.Rows
/-! ### signs -/
/-- the whole numbers of the module, each with its token -/
structure Lm (mg : Str → Option Value) (t : Str → Tok) : Prop where
  NEWLINE : mg "NEWLINE" = some (.int 10 (t "NEWLINE"))
  SPACE : mg "SPACE" = some (.int 32 (t "SPACE"))
  PERCENT : mg "PERCENT" = some (.int 37 (t "PERCENT"))
  TILDE : mg "TILDE" = some (.int 126 (t "TILDE"))
  MAX_ELEMENTS : mg "MAX_ELEMENTS" = some (.int 60 (t "MAX_ELEMENTS"))
  MAX_LEVELS : mg "MAX_LEVELS" = some (.int 6 (t "MAX_LEVELS"))
  MAX_LETTERS : mg "MAX_LETTERS" = some (.int 12 (t "MAX_LETTERS"))
  MAX_NESTED : mg "MAX_NESTED" = some (.int 30 (t "MAX_NESTED"))
  MAX_TEMPLATES : mg "MAX_TEMPLATES" = some (.int 40 (t "MAX_TEMPLATES"))
  MAX_NODES : mg "MAX_NODES" = some (.int 3000 (t "MAX_NODES"))
  MAX_DEPTH : mg "MAX_DEPTH" = some (.int 100 (t "MAX_DEPTH"))
  MAX_ENTRIES : mg "MAX_ENTRIES" = some (.int 100 (t "MAX_ENTRIES"))
theorem one_lt (c d : Nat) : (⟨#[c]⟩ : Str).cps.toList < (⟨#[d]⟩ : Str).cps.toList ↔ c < d := by
  show [c] < [d] ↔ c < d
  constructor
  · intro h
    rcases h with _ | h | h
    · assumption
    · cases h
  · exact List.Lex.rel
theorem one_le (c d : Nat) : (!decide ((⟨#[d]⟩ : Str).cps.toList < (⟨#[c]⟩ : Str).cps.toList)) = decide (c ≤ d) := by
  have e : decide ((⟨#[d]⟩ : Str).cps.toList < (⟨#[c]⟩ : Str).cps.toList) = decide (d < c) := by
    rw [decide_eq_decide]
    exact one_lt d c
  rw [e, Bool.eq_iff_iff]
  simp only [Bool.not_eq_true', decide_eq_false_iff_not, decide_eq_true_eq]
  omega
/-- a text as values have it -/
def TxV (z : Str) : Prop := z.length ≤ 64 ∧ ∀ c ∈ ql z, AllowC c
theorem Same.updNew {G G' : Hp} {D : Addr} {o : HO} (k : Same G G') (new : G D = none) : Same G (upd G' D o) := fun b u there =>
  (upd_ne (ne_of_none there new)).trans (k b u there)
theorem Same.unlock {G G' : Hp} {d : Addr} {f u : HO} (k : Same (upd G d f) G') (was : G d = some u) : Same G (upd G' d u) := by
  intro b o there
  rcases Classical.em (b = d) with rfl | other
  · exact upd_same.trans (was.symm.trans there)
  · exact (upd_ne other).trans (k b o ((upd_ne other).trans there))
theorem less_line {n : Nat} (h : n ≤ 1000) : n < sizeLine := small1000 h
def trues (n : Nat) : List V := (List.replicate n true).map V.bl
theorem trues_more (n : Nat) : trues n ++ [V.bl true] = trues (n + 1) := by
  simp [trues, List.replicate_succ']
theorem trues_len (n : Nat) : (trues n).length = n := by simp [trues]
theorem trues_all (n : Nat) : (List.replicate n true).all id = true := by simp
section
variable {base : Heap} {P : Program} {w : World} {K : PySem.W.Frag} {mg : Str → Option Value} {tk : Str → Tok}
abbrev s_is_sign : Stmt := top 49
abbrev N_is_sign : List Str := ["sign", "code"]
abbrev P_is_sign : List Str := ["sign"]
theorem sc_is_sign : FnScope N_is_sign P_is_sign (defScope s_is_sign) := ⟨rfl, rfl, rfl, by decide +kernel, rfl, by decide +kernel, by decide +kernel⟩
def spSign : Sp := fun vs H Q _ => ∃ c : Nat, vs = [.str ⟨#[c]⟩] ∧ AllowC c ∧ Q (.bl true) H
theorem ok_is_sign {f : Addr} {fd : FuncData} (F : Fun K "is_sign" "is_sign" s_is_sign f fd) (T : Bl mg) (L : Lm mg tk) : FnOk P w K mg base CX0 1 f fd P_is_sign spSign := by
  refine F.ok sc_is_sign (fun vs H Q E h => ?_) (fun cdv A outer s H vs Q E hr h => ?_)
  · obtain ⟨c, rfl, _⟩ := h
    rfl
  obtain ⟨c, rfl, hc, q⟩ := h
  refine ⟨_, (pss_cons (ps_set (i := 1) sc_is_sign.nd rfl (Or.inl rfl) (pe_callB call_ord (by rfl) T.ord (by decide +kernel) (pa_cons (pv 0) pa_nil)))
    (pss_one (ps_ret (pe_or (pe_cmpR op_eq (pv 1) (pe_glob (v := .int 10) rfl L.NEWLINE ⟨_, rfl⟩) (nomark _)) (pe_one (pe_and (pe_chain op_le op_le (pe_glob (v := .int 32) rfl L.SPACE ⟨_, rfl⟩) (pv 1) (pe_glob (v := .int 126) rfl L.TILDE ⟨_, rfl⟩)) (pe_one (pe_cmpR op_ne (pv 1) (pe_glob (v := .int 37) rfl L.PERCENT ⟨_, rfl⟩) (nomark _))))))))), ?_⟩
  refine ⟨_, rfl, _, rfl, rfl, _, rfl, rfl, _, rfl, ite2 (fun _ => q) (fun n => ?_)⟩
  have hn : c ≠ 10 := fun e => n (by rw [e]; rfl)
  have h2 : 32 ≤ c ∧ c ≤ 126 ∧ c ≠ 37 := hc.resolve_left hn
  refine ⟨_, rfl, _, _, rfl, rfl, _, rfl, if_tt (decide_eq_true (by show (32 : Int) ≤ (c : Int); omega)) ⟨_, _, rfl, rfl, _, rfl, if_tt (decide_eq_true (by show (c : Int) ≤ (126 : Int); omega)) ⟨_, rfl, rfl, ?_⟩⟩⟩
  have e : (!decide (V.int (c : Int) = V.int 37)) = true := by
    simp only [V.int.injEq, Bool.not_eq_true', decide_eq_false_iff_not]
    omega
  have e' : (!decide (V.int (((⟨#[c]⟩ : Str).cps.getD 0 0 : Nat) : Int) = V.int 37)) = true := e
  rw [e']
  exact q
abbrev s_is_text : Stmt := top 50
abbrev N_is_text : List Str := ["thing", "sign"]
abbrev P_is_text : List Str := ["thing"]
theorem sc_is_text : FnScope N_is_text P_is_text (defScope s_is_text) := ⟨rfl, rfl, rfl, by decide +kernel, rfl, by decide +kernel, by decide +kernel⟩
/-- a text is one, a tuple and a dict are none -/
def spText : Sp := fun vs H Q _ => (∃ z : Str, vs = [.str z] ∧ TxV z ∧ ∀ H', Same H H' → Q (.bl true) H') ∨ (∃ a, vs = [.ref a] ∧ ((∃ xs, H a = some (.tup xs)) ∨ ∃ kvs, H a = some (.dK kvs)) ∧ Q (.bl false) H)
theorem ok_is_text {f g : Addr} {fd gd : FuncData} (F : Fun K "is_text" "is_text" s_is_text f fd) (T : Bl mg) (D_is_sign : Def P w K mg base "is_sign" 1 P_is_sign spSign g gd) : FnOk P w K mg base CX0 2 f fd P_is_text spText := by
  refine F.ok sc_is_text (fun vs H Q E h => ?_) (fun cdv A outer s H vs Q E hr h => ?_)
  · rcases h with ⟨c, rfl, _⟩ | ⟨c, rfl, _⟩ <;> rfl
  refine ⟨_, (pss_one (ps_ret (pe_and (pe_callB call_isi (by rfl) T.isinstance (by decide +kernel) (pa_cons (pv 0) (pa_cons (pe_bltn (v := .ty "str") (by rfl) T.str (by decide +kernel) rfl) pa_nil))) (pe_one (pe_callB (cr_all rfl) (by rfl) T.all (by decide +kernel) (pa_cons (pe_lc (own := [("sign", 1)]) (g := (gName 1)) (tt := tYes) rfl sc_is_text.nd (pi_str (pv 0)) (blkOk_by (own := [("sign", 1)]) (N := N_is_text) (sc := defScope s_is_text) (by decide +kernel)) (fun _ _ _ _ _ => (pg_name (i := 1) sc_is_text.nd rfl (Or.inl rfl))) (fun _ _ _ _ _ => pts_nil) (fun _ _ _ _ _ => (pe_call D_is_sign.ok (hr.mono (by first | decide | omega)) rfl D_is_sign.g D_is_sign.kp D_is_sign.b .nil pass0 (pa_cons (pv 1) pa_nil)))) pa_nil)))))), ?_⟩
  rcases h with ⟨z, rfl, ⟨z1, z2⟩, q⟩ | ⟨a, rfl, ha, q⟩
  · refine ⟨_, rfl, _, _, _, _, true, rfl, .ty _, .base (.str _), kit_ty (by decide +kernel), _, rfl, if_tt rfl ?_⟩
    refine ⟨_, rfl, z, rfl, fun D new => ?_⟩
    refine lc_it walk_str (fun i H' => Same H H' ∧ H' D = some (.lst (trues i))) ⟨same_new new _, upd_same⟩ (fun _ _ _ _ => trivial) ?_ ?_
    · rintro i x G G' hi ⟨kept, made⟩ ⟨rfl, c, at', rfl⟩
      have cm : c ∈ ql z := List.mem_of_getElem? (by rw [← Array.getElem?_toList] at at'; exact at')
      have sz : z.cps.size = z.length := rfl
      refine ⟨rfl, yesT ⟨_, rfl, c, rfl, z2 c cm, _, made, ?_, Same.updNew kept new, ?_⟩⟩
      · rw [trues_len]
        exact less_line (by omega)
      · rw [upd_same, trues_more]
    · rintro G ⟨kept, made⟩
      refine ⟨D, _, rfl, SqL.of made, ?_⟩
      rw [trues_all]
      exact q G kept
  · rcases ha with ⟨xs, ha⟩ | ⟨kvs, ha⟩
    · exact ⟨_, rfl, _, _, _, _, false, rfl, .ty _, .base (.tup ha), kit_ty (by decide +kernel), _, rfl, if_ff rfl q⟩
    · exact ⟨_, rfl, _, _, _, _, false, rfl, .ty _, .base (.dK ha), kit_ty (by decide +kernel), _, rfl, if_ff rfl q⟩
abbrev s_is_letter : Stmt := top 51
abbrev N_is_letter : List Str := ["sign"]
abbrev P_is_letter : List Str := ["sign"]
theorem sc_is_letter : FnScope N_is_letter P_is_letter (defScope s_is_letter) := ⟨rfl, rfl, rfl, by decide +kernel, rfl, by decide +kernel, by decide +kernel⟩
def spBetween (lo hi : Nat) : Sp := fun vs H Q _ => ∃ c : Nat, vs = [.str ⟨#[c]⟩] ∧ Q (.bl (decide (lo ≤ c ∧ c ≤ hi))) H
theorem between_of {lo hi c : Nat} {Q : VK} {H : Hp} (q : Q (.bl (decide (lo ≤ c ∧ c ≤ hi))) H) : if decide (lo ≤ c) = true then Q (.bl (decide (c ≤ hi))) H else Q (.bl false) H := by
  refine ite2 (fun a => ?_) (fun a => ?_)
  · rw [decide_eq_true_eq] at a
    have e : decide (c ≤ hi) = decide (lo ≤ c ∧ c ≤ hi) := by
      rw [decide_eq_decide]
      exact ⟨fun b => ⟨a, b⟩, fun b => b.2⟩
    rw [e]
    exact q
  · rw [decide_eq_true_eq] at a
    rw [decide_eq_false (fun h => a h.1)] at q
    exact q
theorem ok_is_letter {f : Addr} {fd : FuncData} (F : Fun K "is_letter" "is_letter" s_is_letter f fd) : FnOk P w K mg base CX0 1 f fd P_is_letter (spBetween 97 122) := by
  refine F.ok sc_is_letter (fun vs H Q E h => ?_) (fun cdv A outer s H vs Q E hr h => ?_)
  · obtain ⟨c, rfl, _⟩ := h
    rfl
  obtain ⟨c, rfl, q⟩ := h
  refine ⟨_, (pss_one (ps_ret (pe_chain op_le_str op_le_str pe_str (pv 0) pe_str))), ?_⟩
  have lo : (!decide ((⟨#[c]⟩ : Str).cps.toList < (("a" : Str)).cps.toList)) = decide (97 ≤ c) := one_le 97 c
  have hi : (!decide ((("z" : Str)).cps.toList < (⟨#[c]⟩ : Str).cps.toList)) = decide (c ≤ 122) := one_le c 122
  have both := between_of q
  refine ⟨_, rfl, _, _, rfl, rfl, _, rfl, ?_⟩
  rw [lo]
  refine ite2 (fun a => ⟨_, _, rfl, rfl, ?_⟩) (fun a => ?_)
  · rw [if_pos a] at both
    rw [hi]
    exact both
  · rw [if_neg a] at both
    exact both
end
end KX

namespace KX
open PySem PySem.Spec L2 PyProof.Rows
/-! ### sorted texts are in one order -/
theorem rising_pw : ∀ (l : List Str) (p : Str), risingS p l = true → (∀ x ∈ l, p.cps.toList ≤ x.cps.toList) ∧ l.Pairwise (fun a b => a.cps.toList ≤ b.cps.toList)
  | [], _, _ => ⟨(fun _ h => nomatch h), List.Pairwise.nil⟩
  | x :: r, p, h => by
    unfold risingS at h
    simp only [Bool.and_eq_true, Bool.not_eq_true', ltCps_eq, decide_eq_false_iff_not] at h
    obtain ⟨h1, h2⟩ := rising_pw r x h.2
    have hp : p.cps.toList ≤ x.cps.toList := List.not_lt.mp h.1
    refine ⟨fun y hy => ?_, .cons h1 h2⟩
    rcases List.mem_cons.mp hy with rfl | hy
    · exact hp
    · exact List.le_trans hp (h1 y hy)
theorem sorted_pw {l : List Str} (h : sortedS l = true) : l.Pairwise (fun a b => a.cps.toList ≤ b.cps.toList) := by
  cases l with
  | nil => exact .nil
  | cons x r =>
    obtain ⟨h1, h2⟩ := rising_pw r x h
    exact .cons h1 h2
/-- values as they are drawn: small, of at most this many levels -/
def Vd : Nat → PyData → Prop
  | n + 1, .tuple ds => ds.length ≤ 3 ∧ ∀ x ∈ ds, Vd n x
  | n + 1, .dict kvs => (kvs.length ≤ 3 ∧ (kvs.map (·.1)).Nodup ∧ ∀ kv ∈ kvs, ∃ z, kv.1 = .str z ∧ IsNm z) ∧ ∀ kv ∈ kvs, Vd n kv.2
  | _, .none => True
  | _, .bool _ => True
  | _, .int i => i.natAbs ≤ 10 ^ 40
  | _, .str z => TxV z
  | _, .list _ => False
  | 0, .tuple _ => False
  | 0, .dict _ => False
/-- by what stands on top -/
def Vk : PyData → Prop
  | .str z => TxV z
  | .list _ => False
  | .tuple ds => ds.length ≤ 3
  | .dict kvs => kvs.length ≤ 3 ∧ (kvs.map (·.1)).Nodup ∧ ∀ kv ∈ kvs, ∃ z, kv.1 = .str z ∧ IsNm z
  | .int i => i.natAbs ≤ 10 ^ 40
  | _ => True
theorem Vd.vk : ∀ {n : Nat} {d : PyData}, Vd n d → Vk d
  | _, .none, _ => trivial
  | _, .bool _, _ => trivial
  | _, .int _, h => by simpa only [Vd, Vk] using h
  | _, .str z, h => by simpa only [Vd, Vk] using h
  | n + 1, .tuple ds, h => by
    have h' : ds.length ≤ 3 ∧ ∀ x ∈ ds, Vd n x := by simpa only [Vd] using h
    exact h'.1
  | n + 1, .dict kvs, h => by
    have h' : (kvs.length ≤ 3 ∧ (kvs.map (·.1)).Nodup ∧ ∀ kv ∈ kvs, ∃ z, kv.1 = .str z ∧ IsNm z) ∧ ∀ kv ∈ kvs, Vd n kv.2 := by simpa only [Vd] using h
    exact h'.1
  | 0, .tuple _, h => by simp [Vd] at h
  | 0, .dict _, h => by simp [Vd] at h
  | _, .list _, h => by simp [Vd] at h
theorem Vd.up : ∀ {n : Nat} {d : PyData}, Vd n d → Vd (n + 1) d
  | _, .none, _ => by simp [Vd]
  | _, .bool _, _ => by simp [Vd]
  | _, .int _, h => by simpa only [Vd] using h
  | _, .str z, h => by simpa only [Vd] using h
  | n + 1, .tuple ds, h => by
    have h' : ds.length ≤ 3 ∧ ∀ x ∈ ds, Vd n x := by simpa only [Vd] using h
    show Vd (n + 1 + 1) (.tuple ds)
    simp only [Vd]
    exact ⟨h'.1, fun x hx => (h'.2 x hx).up⟩
  | n + 1, .dict kvs, h => by
    have h' : (kvs.length ≤ 3 ∧ (kvs.map (·.1)).Nodup ∧ ∀ kv ∈ kvs, ∃ z, kv.1 = .str z ∧ IsNm z) ∧ ∀ kv ∈ kvs, Vd n kv.2 := by simpa only [Vd] using h
    show Vd (n + 1 + 1) (.dict kvs)
    simp only [Vd]
    exact ⟨h'.1, fun x hx => (h'.2 x hx).up⟩
  | 0, .tuple _, h => by simp [Vd] at h
  | 0, .dict _, h => by simp [Vd] at h
  | _, .list _, h => by simp [Vd] at h
theorem Vd.ups {n : Nat} {d : PyData} (h : Vd n d) : ∀ k, Vd (n + k) d
  | 0 => h
  | k + 1 => (Vd.ups h k).up
section
variable {base : Heap} {P : Program} {w : World} {K : PySem.W.Frag} {mg : Str → Option Value} {tk : Str → Tok}
abbrev s_is_name : Stmt := top 54
abbrev N_is_name : List Str := ["thing", "letter"]
abbrev P_is_name : List Str := ["thing"]
theorem sc_is_name : FnScope N_is_name P_is_name (defScope s_is_name) := ⟨rfl, rfl, rfl, by decide +kernel, rfl, by decide +kernel, by decide +kernel⟩
def spIsName : Sp := fun vs H Q _ => ∃ z : Str, vs = [.str z] ∧ IsNm z ∧ ∀ H', Same H H' → Q (.bl true) H'
theorem ok_is_name {f g : Addr} {fd gd : FuncData} (F : Fun K "is_name" "is_name" s_is_name f fd) (T : Bl mg) (L : Lm mg tk) (D_is_letter : Def P w K mg base "is_letter" 1 P_is_letter (spBetween 97 122) g gd) : FnOk P w K mg base CX0 2 f fd P_is_name spIsName := by
  refine F.ok sc_is_name (fun vs H Q E h => ?_) (fun cdv A outer s H vs Q E hr h => ?_)
  · obtain ⟨c, rfl, _⟩ := h
    rfl
  obtain ⟨z, rfl, ⟨z1, z2, z3⟩, q⟩ := h
  have zs : z.length ≤ sizeLine := Nat.le_of_lt (less_line (by omega))
  refine ⟨_, (pss_cons (ps_if (PW.pt (pw_or (pt_not (pt_val (pe_callB call_isi (by rfl) T.isinstance (by decide +kernel) (pa_cons (pv 0) (pa_cons (pe_bltn (v := .ty "str") (by rfl) T.str (by decide +kernel) rfl) pa_nil))))) (pw_or1 (pt_not (pt_chain op_le op_le pe_int (pe_callB (call_lenK K rfl) (by rfl) T.len PySem.boot_len (pa_cons (pv 0) pa_nil)) (pe_glob (v := .int 12) rfl L.MAX_LETTERS ⟨_, rfl⟩))))))
      (pss_one (ps_ret pe_bl))
      pss_nil)
    (pss_one (ps_ret (pe_callB (cr_all rfl) (by rfl) T.all (by decide +kernel) (pa_cons (pe_lc (own := [("letter", 1)]) (g := (gName 1)) (tt := tYes) rfl sc_is_name.nd (pi_str (pv 0)) (blkOk_by (own := [("letter", 1)]) (N := N_is_name) (sc := defScope s_is_name) (by decide +kernel)) (fun _ _ _ _ _ => (pg_name (i := 1) sc_is_name.nd rfl (Or.inl rfl))) (fun _ _ _ _ _ => pts_nil) (fun _ _ _ _ _ => (pe_call D_is_letter.ok (hr.mono (by first | decide | omega)) rfl D_is_letter.g D_is_letter.kp D_is_letter.b .nil pass0 (pa_cons (pv 1) pa_nil)))) pa_nil))))), ?_⟩
  refine ⟨_, rfl, _, _, _, _, true, rfl, .ty _, .base (.str _), kit_ty (by decide +kernel), _, rfl, if_ff rfl ?_⟩
  refine ⟨_, rfl, _, z.length, rfl, ⟨zs, rfl⟩, _, _, rfl, rfl, _, rfl, if_tt (decide_eq_true (by omega)) ⟨_, _, rfl, rfl, _, rfl, if_ff ?_ ?_⟩⟩
  · rw [decide_eq_true (by omega)]
    rfl
  refine ⟨_, rfl, z, rfl, fun D new => ?_⟩
  refine lc_it walk_str (fun i G => Same H G ∧ G D = some (.lst (trues i))) ⟨same_new new _, upd_same⟩ (fun _ _ _ _ => trivial) ?_ ?_
  · rintro i x G2 G hi ⟨kept, made⟩ ⟨rfl, c, at', rfl⟩
    have cm : c ∈ ql z := List.mem_of_getElem? (by rw [← Array.getElem?_toList] at at'; exact at')
    have sz : z.cps.size = z.length := rfl
    refine ⟨rfl, yesT ⟨_, rfl, c, rfl, _, made, ?_, Same.updNew kept new, ?_⟩⟩
    · rw [trues_len]
      exact less_line (by omega)
    · rw [upd_same, decide_eq_true (z3 c cm), trues_more]
  · rintro G ⟨kept, made⟩
    refine ⟨D, _, rfl, SqL.of made, ?_⟩
    rw [trues_all]
    exact q G kept
end
end KX

namespace KX
open PySem PySem.Spec L2 PyProof.Rows
theorem keyD_str {k : Key} {z : Str} (h : keyD k = .str z) : k = .inr z := by
  cases k with
  | inl i => cases h
  | inr x => simp only [keyD, PyData.str.injEq] at h; rw [h]
theorem DqKv.length {K : PySem.W.Frag} {H : Hp} : ∀ {vs : List (Key × V)} {ds : List (PyData × PyData)}, DqKv K H vs ds → vs.length = ds.length
  | _, _, .nil => rfl
  | _, _, .cons _ h2 => by rw [List.length_cons, List.length_cons, DqKv.length h2]
theorem DqKv.get {K : PySem.W.Frag} {H : Hp} : ∀ {vs : List (Key × V)} {ds : List (PyData × PyData)} {i : Nat} {k : Key} {v : V}, DqKv K H vs ds → vs[i]? = some (k, v) → ∃ d, ds[i]? = some (keyD k, d) ∧ Dq K H v d
  | _, _, _, _, _, .nil, e => by simp at e
  | _, _, 0, _, _, .cons h _, e => by simp at e; obtain ⟨rfl, rfl⟩ := e; exact ⟨_, rfl, h⟩
  | _, _, i + 1, _, _, .cons _ t, e => by
    obtain ⟨d, h1, h2⟩ := DqKv.get (i := i) t (by simpa using e)
    exact ⟨d, by simpa using h1, h2⟩
def kindS : PyData → Str
  | .none => "absent"
  | .bool _ => "flag"
  | .int _ => "number"
  | .str _ => "text"
  | .list _ => "list"
  | .tuple _ => "list"
  | .dict _ => "record"
section
variable {base : Heap} {P : Program} {w : World} {K : PySem.W.Frag} {mg : Str → Option Value} {tk : Str → Tok}
abbrev s_kind_of : Stmt := top 58
abbrev N_kind_of : List Str := ["thing", "name"]
abbrev P_kind_of : List Str := ["thing"]
theorem sc_kind_of : FnScope N_kind_of P_kind_of (defScope s_kind_of) := ⟨rfl, rfl, rfl, by decide +kernel, rfl, by decide +kernel, by decide +kernel⟩
def spKind (K : PySem.W.Frag) : Sp := fun vs H Q _ => ∃ (v : V) (d : PyData), vs = [v] ∧ Dq K H v d ∧ Vk d ∧ ∀ H', Same H H' → Q (.str (kindS d)) H'
theorem ok_kind_of {f ft fn : Addr} {fd fdt fdn : FuncData} (F : Fun K "kind_of" "kind_of" s_kind_of f fd) (T : Bl mg) (L : Lm mg tk) (D_is_text : Def P w K mg base "is_text" 2 P_is_text spText ft fdt) (D_is_name : Def P w K mg base "is_name" 2 P_is_name spIsName fn fdn) :
    FnOk P w K mg base CX0 3 f fd P_kind_of (spKind K) := by
  refine F.ok sc_kind_of (fun vs H Q E h => ?_) (fun cdv A outer s H vs Q E hr h => ?_)
  · obtain ⟨v, d, rfl, _⟩ := h
    rfl
  obtain ⟨v, d, rfl, hd, hv, q⟩ := h
  refine ⟨_, (pss_cons (ps_if (pt_cmpR op_isN (pv 0) pe_non (nomark _))
      (pss_one (ps_ret pe_str))
      pss_nil)
    (pss_cons (ps_if (pt_val (pe_callB call_isi (by rfl) T.isinstance (by decide +kernel) (pa_cons (pv 0) (pa_cons (pe_bltn (v := .ty "bool") (by rfl) T.bool (by decide +kernel) rfl) pa_nil))))
      (pss_one (ps_ret pe_str))
      pss_nil)
    (pss_cons (ps_if (pt_val (pe_callB call_isi (by rfl) T.isinstance (by decide +kernel) (pa_cons (pv 0) (pa_cons (pe_bltn (v := .ty "int") (by rfl) T.int (by decide +kernel) rfl) pa_nil))))
      (pss_one (ps_ret pe_str))
      pss_nil)
    (pss_cons (ps_if (pt_val (pe_call D_is_text.ok (hr.mono (by first | decide | omega)) rfl D_is_text.g D_is_text.kp D_is_text.b .nil pass0 (pa_cons (pv 0) pa_nil)))
      (pss_one (ps_ret pe_str))
      pss_nil)
    (pss_cons (ps_if (PW.pt (pw_and (pt_val (pe_callB call_isi (by rfl) T.isinstance (by decide +kernel) (pa_cons (pv 0) (pa_cons (pe_bltn (v := .ty "tuple") (by rfl) T.tuple (by decide +kernel) rfl) pa_nil)))) (pw_and1 (pt_cmpR op_le (pe_callB (call_lenK K rfl) (by rfl) T.len PySem.boot_len (pa_cons (pv 0) pa_nil)) (pe_glob (v := .int 60) rfl L.MAX_ELEMENTS ⟨_, rfl⟩) (nomark _)))))
      (pss_one (ps_ret pe_str))
      pss_nil)
    (pss_cons (ps_if (PW.pt (pw_and (pt_val (pe_callB call_isi (by rfl) T.isinstance (by decide +kernel) (pa_cons (pv 0) (pa_cons (pe_bltn (v := .ty "dict") (by rfl) T.dict (by decide +kernel) rfl) pa_nil)))) (pw_and1 (pt_val (pe_callB (cr_all rfl) (by rfl) T.all (by decide +kernel) (pa_cons (pe_lock (pe_lc (own := [("name", 1)]) (g := (gName 1)) (tt := tYes) rfl sc_kind_of.nd (pi_keys (pv 0)) (blkOk_by (own := [("name", 1)]) (N := N_kind_of) (sc := defScope s_kind_of) (by decide +kernel)) (fun _ _ _ _ _ => (pg_name (i := 1) sc_kind_of.nd rfl (Or.inl rfl))) (fun _ _ _ _ _ => pts_nil) (fun _ _ _ _ _ => (pe_call D_is_name.ok (hr.mono (by first | decide | omega)) rfl D_is_name.g D_is_name.kp D_is_name.b .nil pass0 (pa_cons (pv 1) pa_nil))))) pa_nil))))))
      (pss_one (ps_ret pe_str))
      pss_nil)
    (pss_one (ps_ret pe_non)))))))), ?_⟩
  cases hd with
  | non => exact ⟨_, rfl, rfl, _, rfl, if_tt rfl (q _ (Same.refl H))⟩
  | bl b =>
    refine ⟨_, rfl, rfl, _, rfl, if_ff rfl ?_⟩
    refine ⟨_, rfl, _, _, _, _, true, rfl, .ty _, .base (.bl _), kit_ty (by decide +kernel), _, rfl, if_tt rfl ?_⟩
    exact q _ (Same.refl H)
  | int i =>
    refine ⟨_, rfl, rfl, _, rfl, if_ff rfl ?_⟩
    refine ⟨_, rfl, _, _, _, _, false, rfl, .ty _, .base (.int _), kit_ty (by decide +kernel), _, rfl, if_ff rfl ?_⟩
    refine ⟨_, rfl, _, _, _, _, true, rfl, .ty _, .base (.int _), kit_ty (by decide +kernel), _, rfl, if_tt rfl ?_⟩
    exact q _ (Same.refl H)
  | str x =>
    refine ⟨_, rfl, rfl, _, rfl, if_ff rfl ?_⟩
    refine ⟨_, rfl, _, _, _, _, false, rfl, .ty _, .base (.str _), kit_ty (by decide +kernel), _, rfl, if_ff rfl ?_⟩
    refine ⟨_, rfl, _, _, _, _, false, rfl, .ty _, .base (.str _), kit_ty (by decide +kernel), _, rfl, if_ff rfl ?_⟩
    exact ⟨_, rfl, .inl ⟨x, rfl, hv, fun H' same => ⟨_, rfl, if_tt rfl (q _ same)⟩⟩⟩
  | lst => exact hv.elim
  | tup hs ha =>
    rename_i a xs ds
    have hl : ds.length ≤ 3 := hv
    have el := DqAll.length ha
    refine ⟨_, rfl, rfl, _, rfl, if_ff rfl ?_⟩
    refine ⟨_, rfl, _, _, _, _, false, rfl, .ty _, .base (.tup hs), kit_ty (by decide +kernel), _, rfl, if_ff rfl ?_⟩
    refine ⟨_, rfl, _, _, _, _, false, rfl, .ty _, .base (.tup hs), kit_ty (by decide +kernel), _, rfl, if_ff rfl ?_⟩
    refine ⟨_, rfl, .inr ⟨a, rfl, .inl ⟨_, hs⟩, _, rfl, if_ff rfl ?_⟩⟩
    refine ⟨_, rfl, _, _, _, _, true, rfl, .ty _, .base (.tup hs), kit_ty (by decide +kernel), _, rfl, if_tt rfl ?_⟩
    refine ⟨_, rfl, _, xs.length, rfl, .inr ⟨xs, SqT.of hs, rfl⟩, _, _, rfl, rfl, _, rfl, if_tt (decide_eq_true (by omega)) ?_⟩
    exact q _ (Same.refl H)
  | dct hs ha =>
    rename_i a kvs ds
    obtain ⟨hl, _, hk⟩ := hv
    refine ⟨_, rfl, rfl, _, rfl, if_ff rfl ?_⟩
    refine ⟨_, rfl, _, _, _, _, false, rfl, .ty _, .base (.dK hs), kit_ty (by decide +kernel), _, rfl, if_ff rfl ?_⟩
    refine ⟨_, rfl, _, _, _, _, false, rfl, .ty _, .base (.dK hs), kit_ty (by decide +kernel), _, rfl, if_ff rfl ?_⟩
    refine ⟨_, rfl, .inr ⟨a, rfl, .inr ⟨_, hs⟩, _, rfl, if_ff rfl ?_⟩⟩
    refine ⟨_, rfl, _, _, _, _, false, rfl, .ty _, .base (.dK hs), kit_ty (by decide +kernel), _, rfl, if_ff rfl ?_⟩
    refine if_ff rfl ?_
    refine ⟨_, rfl, _, _, _, _, true, rfl, .ty _, .base (.dK hs), kit_ty (by decide +kernel), _, rfl, if_tt rfl ?_⟩
    refine ⟨a, _, hs, trivial, fun od => ⟨_, rfl, a, od, rfl, .inl ⟨kvs, upd_same, fun D hD => ?_⟩⟩⟩
    have hDa : D ≠ a := fun e => by
      rw [e, upd_same] at hD
      cases hD
    have el := DqKv.length ha
    refine lc_it walk_keys (fun i G => Same (upd H a (.frz od (.dK kvs))) G ∧ G D = some (.lst (trues i))) ⟨same_new hD _, upd_same⟩ (fun i G _ p => p.1 _ _ upd_same) ?_ ?_
    · rintro i x G2 G hi ⟨kept, made⟩ ⟨rfl, k, v, hkv, rfl⟩
      obtain ⟨d, e1, e2⟩ := DqKv.get ha hkv
      obtain ⟨z, ez, hz⟩ := hk _ (List.mem_of_getElem? e1)
      have ek := keyD_str ez
      subst ek
      refine ⟨rfl, yesT ?_⟩
      refine ⟨_, rfl, z, rfl, hz, fun G3 same => ⟨_, same _ _ made, ?_, Same.updNew (kept.trans same) hD, ?_⟩⟩
      · rw [trues_len]
        exact less_line (by omega)
      · rw [upd_same, trues_more]
    · rintro G ⟨kept, made⟩
      refine ⟨kept _ _ upd_same, D, _, rfl, SqL.of (by rw [upd_ne hDa]; exact made), ?_⟩
      rw [trues_all]
      exact ⟨_, rfl, if_tt rfl (q _ (Same.unlock kept hs))⟩
abbrev s_within : Stmt := top 59
abbrev N_within : List Str := ["thing", "levels", "kind", "parts", "part"]
abbrev P_within : List Str := ["thing", "levels"]
theorem sc_within : FnScope N_within P_within (defScope s_within) := ⟨rfl, rfl, rfl, by decide +kernel, rfl, by decide +kernel, by decide +kernel⟩
def spWithin (K : PySem.W.Frag) : Nat → Sp
  | 0 => fun _ _ _ _ => False
  | m + 1 => fun vs H Q _ => ∃ (v : V) (d : PyData) (l : Int), vs = [v, .int l] ∧ Dq K H v d ∧ Vd m d ∧ (m : Int) ≤ l ∧ ∀ H', Same H H' → Q (.bl true) H'
theorem ok_withinS {n : Nat} {f fk : Addr} {fd fdk : FuncData} (F : Fun K "_is_value_within" "_is_value_within" s_within f fd) (T : Bl mg) (D_kind_of : Def P w K mg base "kind_of" 3 P_kind_of (spKind K) fk fdk)
    (D_is_value_within : Def P w K mg base "_is_value_within" (n + 3) P_within (spWithin K n) f fd) : FnOk P w K mg base CX0 (n + 4) f fd P_within (spWithin K (n + 1)) := by
  refine F.ok sc_within (fun vs H Q E h => ?_) (fun cdv A outer s H vs Q E hr h => ?_)
  · obtain ⟨v, d, l, rfl, _⟩ := h
    rfl
  obtain ⟨v, d, l, rfl, hd, hv, hnl, q⟩ := h
  refine ⟨_, (pss_cons (ps_set (i := 2) sc_within.nd rfl (Or.inl rfl) (pe_call D_kind_of.ok (hr.mono (by first | decide | omega)) rfl D_kind_of.g D_kind_of.kp D_kind_of.b .nil pass0 (pa_cons (pv 0) pa_nil)))
    (pss_cons (ps_if (pt_cmpR op_eq (pv 2) pe_str (nomark _))
      (pss_one (ps_set (i := 3) sc_within.nd rfl (Or.inl rfl) (pe_callTy call_list_of (by rfl) T.list (by decide +kernel) (pa_cons (pv 0) pa_nil))))
      (pss_one (ps_if (pt_cmpR op_eq (pv 2) pe_str (nomark _))
      (pss_one (ps_set (i := 3) sc_within.nd rfl (Or.inl rfl) (pe_listVals rfl (by rfl) T.list (pv 0))))
      (pss_one (ps_ret (pe_cmpR op_notN (pv 2) pe_non (nomark _)))))))
    (pss_one (ps_ret (pe_and (pe_cmpR op_gt (pv 1) pe_int (nomark _)) (pe_one (pe_callB (cr_all rfl) (by rfl) T.all (by decide +kernel) (pa_cons (pe_lc (own := [("part", 4)]) (g := (gName 4)) (tt := tYes) rfl sc_within.nd (pi_list (pv 3)) (blkOk_by (own := [("part", 4)]) (N := N_within) (sc := defScope s_within) (by decide +kernel)) (fun _ _ _ _ _ => (pg_name (i := 4) sc_within.nd rfl (Or.inl rfl))) (fun _ _ _ _ _ => pts_nil) (fun _ _ _ _ _ => (pe_call D_is_value_within.ok (hr.mono (by first | decide | omega)) rfl D_is_value_within.g D_is_value_within.kp D_is_value_within.b .nil pass0 (pa_cons (pv 4) (pa_cons (pe_op op_sub (pv 1) pe_int) pa_nil))))) pa_nil)))))))), ?_⟩
  refine ⟨_, rfl, v, d, rfl, hd, hv.vk, fun H1 s1 => ?_⟩
  refine ⟨_, rfl, rfl, _, rfl, ?_⟩
  cases hd with
  | non => exact if_ff (show decide (V.str ("absent" : Str) = V.str ("list" : Str)) = false by decide) ⟨_, rfl, rfl, _, rfl, if_ff (show decide (V.str ("absent" : Str) = V.str ("record" : Str)) = false by decide) ⟨_, rfl, rfl, q _ s1⟩⟩
  | bl b => exact if_ff (show decide (V.str ("flag" : Str) = V.str ("list" : Str)) = false by decide) ⟨_, rfl, rfl, _, rfl, if_ff (show decide (V.str ("flag" : Str) = V.str ("record" : Str)) = false by decide) ⟨_, rfl, rfl, q _ s1⟩⟩
  | int i => exact if_ff (show decide (V.str ("number" : Str) = V.str ("list" : Str)) = false by decide) ⟨_, rfl, rfl, _, rfl, if_ff (show decide (V.str ("number" : Str) = V.str ("record" : Str)) = false by decide) ⟨_, rfl, rfl, q _ s1⟩⟩
  | str x => exact if_ff (show decide (V.str ("text" : Str) = V.str ("list" : Str)) = false by decide) ⟨_, rfl, rfl, _, rfl, if_ff (show decide (V.str ("text" : Str) = V.str ("record" : Str)) = false by decide) ⟨_, rfl, rfl, q _ s1⟩⟩
  | lst => exact hv.vk.elim
  | tup hs ha =>
    rename_i a xs ds
    match n, D_is_value_within, hr, hnl, hv with
    | 0, _, _, _, hv => simp [Vd] at hv
    | m + 1, D, hr, hnl, hv =>
      have hv' : ds.length ≤ 3 ∧ ∀ x ∈ ds, Vd m x := by simpa only [Vd] using hv
      have el := DqAll.length ha
      refine if_tt rfl ⟨_, rfl, a, xs, rfl, .inr (SqT.of (s1 _ _ hs)), fun l hl => ?_⟩
      refine ⟨_, rfl, _, _, rfl, rfl, _, rfl, if_tt (decide_eq_true (by omega)) ?_⟩
      refine ⟨_, rfl, l, rfl, ⟨_, SqL.of upd_same⟩, fun D2 hD => ?_⟩
      refine lc_it (walk_list (K := K) (a := l) (xs := xs)) (fun i G => Same (upd H1 l (.lst xs)) G ∧ G D2 = some (.lst (trues i))) ⟨same_new hD _, upd_same⟩ (fun i G _ p => SqL.of (p.1 _ _ upd_same)) ?_ ?_
      · rintro i x G2 G hi ⟨kept, made⟩ ⟨rfl, hx⟩
        obtain ⟨d, e1, e2⟩ := DqAll.get ha hx
        have e3 := hv'.2 d (List.mem_of_getElem? e1)
        refine ⟨rfl, yesT ?_⟩
        refine ⟨_, rfl, _, rfl, _, _, rfl, rfl, x, d, _, rfl, Dq.same (s1.trans ((same_new hl _).trans kept)) _ _ e2, e3, by omega, fun G3 same => ⟨_, same _ _ made, ?_, Same.updNew (kept.trans same) hD, ?_⟩⟩
        · rw [trues_len]
          refine less_line ?_
          omega
        · rw [upd_same, trues_more]
      · rintro G ⟨kept, made⟩
        refine ⟨D2, _, rfl, SqL.of made, ?_⟩
        rw [trues_all]
        exact q _ (s1.trans ((same_new hl _).trans kept))
  | dct hs ha => 
    rename_i a kvs ds
    match n, D_is_value_within, hr, hnl, hv with
    | 0, _, _, _, hv => simp [Vd] at hv
    | m + 1, D, hr, hnl, hv =>
      have hv' : (ds.length ≤ 3 ∧ (ds.map (·.1)).Nodup ∧ ∀ kv ∈ ds, ∃ z, kv.1 = .str z ∧ IsNm z) ∧ ∀ kv ∈ ds, Vd m kv.2 := by simpa only [Vd] using hv
      have el := DqKv.length ha
      refine if_ff (show decide (V.str ("record" : Str) = V.str ("list" : Str)) = false by decide) ⟨_, rfl, rfl, _, rfl, if_tt rfl ⟨_, rfl, a, kvs, rfl, s1 _ _ hs, fun l hl => ?_⟩⟩
      refine ⟨_, rfl, _, _, rfl, rfl, _, rfl, if_tt (decide_eq_true (by omega)) ?_⟩
      refine ⟨_, rfl, l, rfl, ⟨_, SqL.of upd_same⟩, fun D2 hD => ?_⟩
      refine lc_it (walk_list (K := K) (a := l) (xs := kvs.map Prod.snd)) (fun i G => Same (upd H1 l (.lst (kvs.map Prod.snd))) G ∧ G D2 = some (.lst (trues i))) ⟨same_new hD _, upd_same⟩ (fun i G _ p => SqL.of (p.1 _ _ upd_same)) ?_ ?_
      · rintro i x G2 G hi ⟨kept, made⟩ ⟨rfl, hx⟩
        rw [List.length_map] at hi
        obtain ⟨d, e2, e3⟩ : ∃ d, Dq K H x d ∧ Vd m d := by
          rw [List.getElem?_map] at hx
          obtain ⟨⟨k, y⟩, hk, rfl⟩ := Option.map_eq_some_iff.mp hx
          obtain ⟨d, e1, e2⟩ := DqKv.get ha hk
          exact ⟨d, e2, hv'.2 _ (List.mem_of_getElem? e1)⟩
        refine ⟨rfl, yesT ?_⟩
        refine ⟨_, rfl, _, rfl, _, _, rfl, rfl, x, d, _, rfl, Dq.same (s1.trans ((same_new hl _).trans kept)) _ _ e2, e3, by omega, fun G3 same => ⟨_, same _ _ made, ?_, Same.updNew (kept.trans same) hD, ?_⟩⟩
        · rw [trues_len]
          refine less_line ?_
          omega
        · rw [upd_same, trues_more]
      · rintro G ⟨kept, made⟩
        refine ⟨D2, _, rfl, SqL.of made, ?_⟩
        rw [trues_all]
        exact q _ (s1.trans ((same_new hl _).trans kept))
theorem ok_within {f fk : Addr} {fd fdk : FuncData} (F : Fun K "_is_value_within" "_is_value_within" s_within f fd) (T : Bl mg) (g : mg "_is_value_within" = some (.ref f)) (b : Binds K fd P_within []) (D_kind_of : Def P w K mg base "kind_of" 3 P_kind_of (spKind K) fk fdk) :
    ∀ n : Nat, FnOk P w K mg base CX0 (n + 3) f fd P_within (spWithin K n)
  | 0 => ⟨fun _ _ _ _ h => h.elim, fun _ _ _ _ _ _ _ _ _ _ _ _ _ h => h.elim⟩
  | n + 1 => ok_withinS F T D_kind_of ⟨g, F.kp, b, ok_within F T g b D_kind_of n⟩
abbrev s_is_value : Stmt := top 56
abbrev N_is_value : List Str := ["thing"]
abbrev P_is_value : List Str := ["thing"]
theorem sc_is_value : FnScope N_is_value P_is_value (defScope s_is_value) := ⟨rfl, rfl, rfl, by decide +kernel, rfl, by decide +kernel, by decide +kernel⟩
def spIsValue (K : PySem.W.Frag) : Sp := fun vs H Q _ => ∃ (v : V) (d : PyData), vs = [v] ∧ Dq K H v d ∧ Vd 6 d ∧ ∀ H', Same H H' → Q (.bl true) H'
theorem ok_is_value {f g : Addr} {fd gd : FuncData} (F : Fun K "is_value" "is_value" s_is_value f fd) (L : Lm mg tk) (D_is_value_within : Def P w K mg base "_is_value_within" 10 P_within (spWithin K 7) g gd) : FnOk P w K mg base CX0 11 f fd P_is_value (spIsValue K) := by
  refine F.ok sc_is_value (fun vs H Q E h => ?_) (fun cdv A outer s H vs Q E hr h => ?_)
  · obtain ⟨v, d, rfl, _⟩ := h
    rfl
  obtain ⟨v, d, rfl, hd, hv, q⟩ := h
  refine ⟨_, (pss_one (ps_ret (pe_call D_is_value_within.ok (hr.mono (by first | decide | omega)) rfl D_is_value_within.g D_is_value_within.kp D_is_value_within.b .nil pass0 (pa_cons (pv 0) (pa_cons (pe_glob (v := .int 6) rfl L.MAX_LEVELS ⟨_, rfl⟩) pa_nil))))), ?_⟩
  exact ⟨_, rfl, v, d, 6, rfl, hd, hv, by decide, q⟩
end
end KX

namespace KX
open PySem PySem.Spec L2 PyProof.Rows
/-- two tuples, side by side -/
theorem walk_zipT {K : PySem.W.Frag} {a b : Addr} {xs ys : List V} {n : Nat} (least : n = min xs.length ys.length) : Walk (RZ.ItzT K a b) n (fun H => SqT K H a xs ∧ SqT K H b ys) (YPair (fun i => xs[i]?) (fun i => ys[i]?)) := by
  constructor
  · intro i H hi h
    have l1 : i < xs.length := by omega
    have l2 : i < ys.length := by omega
    exact ⟨xs, ys, xs[i], ys[i], h.1, h.2, List.getElem?_eq_getElem l1, List.getElem?_eq_getElem l2⟩
  · intro H h
    exact ⟨xs, ys, h.1, h.2, by omega⟩
  · rintro i H v H' _ h ⟨T, x, y, e, new, up, fx, fy⟩
    exact ⟨T, x, y, e, new, up, fx _ h.1, fy _ h.2⟩
theorem sorted_one {ys zs : List Str} (p : ys.Perm zs) (h1 : sortedS ys = true) (h2 : sortedS zs = true) : ys = zs :=
  List.Perm.eq_of_pairwise (le := fun a b : Str => a.cps.toList ≤ b.cps.toList) (fun a b _ _ h h' => ql_ext (List.le_antisymm h h')) (sorted_pw h1) (sorted_pw h2) p
def isKey : PyData → Str → Bool
  | .str z, k => decide (z = k)
  | _, _ => false
def keyIn (kvs : List (PyData × PyData)) (k : Str) : Option PyData := (kvs.find? fun kv => isKey kv.1 k).map (·.2)
theorem find_kv {K : PySem.W.Frag} {H : Hp} (n : Str) : ∀ {vs : List (Key × V)} {ds : List (PyData × PyData)}, DqKv K H vs ds → (valV vs (.inr n) = none ∧ keyIn ds n = none) ∨ ∃ v d, valV vs (.inr n) = some v ∧ keyIn ds n = some d ∧ Dq K H v d ∧ ∃ k, (k, d) ∈ ds
  | _, _, .nil => .inl ⟨rfl, rfl⟩
  | _, _, @DqKv.cons _ _ k v r d ds h more => by
    have e : isKey (keyD k) n = decide (k = .inr n) := by
      cases k with
      | inl i =>
        rw [decide_eq_false (by intro z; cases z)]
        rfl
      | inr z =>
        show decide (z = n) = _
        rw [decide_eq_decide]
        exact ⟨fun x => by rw [x], fun x => Sum.inr.inj x⟩
    unfold valV keyIn
    rw [List.find?_cons, List.find?_cons]
    dsimp only
    rw [e]
    by_cases z : k = .inr n
    · rw [decide_eq_true z]
      exact .inr ⟨v, d, rfl, rfl, h, _, List.mem_cons_self⟩
    · rw [decide_eq_false z]
      rcases find_kv n more with ⟨a, b⟩ | ⟨v', d', a, b, c, k', m⟩
      · exact .inl ⟨a, b⟩
      · exact .inr ⟨v', d', a, b, c, k', List.mem_cons_of_mem _ m⟩
/-! ### the same value, whatever the order of the fields -/
mutual
inductive Alike : PyData → PyData → Prop
  | non : Alike .none .none
  | bl (b : Bool) : Alike (.bool b) (.bool b)
  | int (i : Int) : Alike (.int i) (.int i)
  | str (z : Str) : Alike (.str z) (.str z)
  | tup {ds es : List PyData} : AlikeL ds es → Alike (.tuple ds) (.tuple es)
  | dct {ds es fs : List (PyData × PyData)} : AlikeK ds fs → fs.Perm es → Alike (.dict ds) (.dict es)
inductive AlikeL : List PyData → List PyData → Prop
  | nil : AlikeL [] []
  | cons {d e : PyData} {ds es : List PyData} : Alike d e → AlikeL ds es → AlikeL (d :: ds) (e :: es)
inductive AlikeK : List (PyData × PyData) → List (PyData × PyData) → Prop
  | nil : AlikeK [] []
  | cons {k d e : PyData} {ds es : List (PyData × PyData)} : Alike d e → AlikeK ds es → AlikeK ((k, d) :: ds) ((k, e) :: es)
end
theorem AlikeL.length : ∀ {ds es : List PyData}, AlikeL ds es → ds.length = es.length
  | _, _, .nil => rfl
  | _, _, .cons _ t => congrArg (· + 1) t.length
theorem AlikeL.at' : ∀ {ds es : List PyData} {i : Nat} {d : PyData}, AlikeL ds es → ds[i]? = some d → ∃ e, es[i]? = some e ∧ Alike d e
  | _, _, _, _, .nil, h => by simp at h
  | _, _, 0, _, .cons a _, h => by
    obtain rfl := Option.some.inj h
    exact ⟨_, rfl, a⟩
  | _, _, i + 1, _, .cons _ t, h => t.at' (i := i) h
theorem AlikeK.keys : ∀ {ds es : List (PyData × PyData)}, AlikeK ds es → ds.map (·.1) = es.map (·.1)
  | _, _, .nil => rfl
  | _, _, .cons _ t => congrArg (_ :: ·) t.keys
theorem AlikeK.mem : ∀ {ds es : List (PyData × PyData)} {k d : PyData}, AlikeK ds es → (k, d) ∈ ds → ∃ e, (k, e) ∈ es ∧ Alike d e
  | _, _, _, _, .nil, h => nomatch h
  | _, _, _, _, .cons a t, h => by
    rcases List.mem_cons.mp h with z | z
    · cases z
      exact ⟨_, List.mem_cons_self, a⟩
    · obtain ⟨e, m, b⟩ := t.mem z
      exact ⟨e, List.mem_cons_of_mem _ m, b⟩
theorem depthKv_perm {es fs : List (PyData × PyData)} (p : fs.Perm es) : PyData.depthKv fs = PyData.depthKv es := by
  induction p with
  | nil => rfl
  | cons x _ ih =>
    obtain ⟨k, d⟩ := x
    simp only [PyData.depthKv, ih]
  | swap x y l =>
    obtain ⟨k, d⟩ := x
    obtain ⟨k', d'⟩ := y
    simp only [PyData.depthKv]
    omega
  | trans _ _ a b => exact a.trans b
mutual
theorem Alike.depth : ∀ {d e : PyData}, Alike d e → d.depth = e.depth
  | _, _, .non => rfl
  | _, _, .bl _ => rfl
  | _, _, .int _ => rfl
  | _, _, .str _ => rfl
  | _, _, .tup h => by simp only [PyData.depth, h.depth]
  | _, _, .dct h p => by simp only [PyData.depth, h.depth, depthKv_perm p]
theorem AlikeL.depth : ∀ {ds es : List PyData}, AlikeL ds es → PyData.depthAll ds = PyData.depthAll es
  | _, _, .nil => rfl
  | _, _, .cons a t => by simp only [PyData.depthAll, a.depth, t.depth]
theorem AlikeK.depth : ∀ {ds es : List (PyData × PyData)}, AlikeK ds es → PyData.depthKv ds = PyData.depthKv es
  | _, _, .nil => rfl
  | _, _, .cons a t => by simp only [PyData.depthKv, a.depth, t.depth]
end
theorem keyIn_mem {n : Str} {d : PyData} : ∀ {kvs : List (PyData × PyData)}, (kvs.map (·.1)).Nodup → (PyData.str n, d) ∈ kvs → keyIn kvs n = some d
  | [], _, h => nomatch h
  | (k, x) :: r, nd, h => by
    rw [List.map_cons, List.nodup_cons] at nd
    unfold keyIn
    rw [List.find?_cons]
    rcases List.mem_cons.mp h with z | z
    · cases z
      rw [show isKey (PyData.str n) n = true from decide_eq_true rfl]
      rfl
    · have ne : isKey k n = false := by
        cases k with
        | str y =>
          refine decide_eq_false fun e => nd.1 ?_
          subst e
          exact List.mem_map.mpr ⟨_, z, rfl⟩
        | _ => rfl
      dsimp only
      rw [ne]
      exact keyIn_mem nd.2 z
section
variable {base : Heap} {P : Program} {w : World} {K : PySem.W.Frag} {mg : Str → Option Value} {tk : Str → Tok}
abbrev s_agree : Stmt := top 60
abbrev N_agree : List Str := ["one", "other", "part", "twin", "name"]
abbrev P_agree : List Str := ["one", "other"]
theorem sc_agree : FnScope N_agree P_agree (defScope s_agree) := ⟨rfl, rfl, rfl, by decide +kernel, rfl, by decide +kernel, by decide +kernel⟩
def spAgree (K : PySem.W.Frag) : Nat → Sp
  | 0 => fun _ _ _ _ => False
  | m + 1 => fun vs H Q _ => ∃ (v u : V) (d e : PyData), vs = [v, u] ∧ Dq K H v d ∧ Dq K H u e ∧ Alike d e ∧ Vd m d ∧ Vd m e ∧ ∀ H', Same H H' → Q (.bl true) H'
theorem kv_keys {H : Hp} : ∀ {kvs : List (Key × V)} {ds : List (PyData × PyData)} {ks : List Str}, DqKv K H kvs ds → kvs.map (·.1) = ks.map Sum.inr → ds.map (·.1) = ks.map PyData.str
  | _, _, [], .nil, _ => rfl
  | _, _, _ :: _, .nil, h => by simp at h
  | _, _, [], .cons _ _, h => by simp at h
  | _, _, z :: r, @DqKv.cons _ _ k v kr d dr _ t, h => by
    rw [List.map_cons, List.map_cons, List.cons.injEq] at h
    rw [List.map_cons, List.map_cons, kv_keys t h.2, show k = .inr z from h.1]
    rfl
theorem strs_dp {H : Hp} : ∀ (ys : List Str), DpAll K H (ys.map V.str) (ys.map PyData.str)
  | [] => .nil
  | y :: r => .cons (.str y) (strs_dp r)
theorem strs_eqv : ∀ ys : List Str, PyData.eqv (.list (ys.map PyData.str)) (.list (ys.map PyData.str)) = true := fun ys => by
  refine PySem.SeqAt.eqv_refl_plain _ ?_
  induction ys with
  | nil => rfl
  | cons y r ih => exact ih
theorem kv_strs {H : Hp} : ∀ {kvs : List (Key × V)} {ds : List (PyData × PyData)}, DqKv K H kvs ds → (∀ kv ∈ ds, ∃ z, kv.1 = .str z ∧ IsNm z) → ∃ ks : List Str, kvs.map (·.1) = ks.map Sum.inr
  | _, _, .nil, _ => ⟨[], rfl⟩
  | _, _, .cons h1 h2, hk => by
    obtain ⟨ks, e⟩ := kv_strs h2 fun kv h => hk kv (List.mem_cons_of_mem _ h)
    obtain ⟨z, ez, _⟩ := hk _ List.mem_cons_self
    exact ⟨z :: ks, by rw [List.map_cons, List.map_cons, e, keyD_str ez]⟩
theorem strs_shaped {ys : List Str} (h : ∀ z ∈ ys, IsNm z) : SeqAt.shaped (.list (ys.map PyData.str)) = true := by
  unfold SeqAt.shaped
  rw [Bool.and_eq_true, decide_eq_true_eq]
  constructor
  · show PyData.canLayAll0 (ys.map PyData.str) = true
    induction ys with
    | nil => rfl
    | cons y r ih =>
      have h1 := h y List.mem_cons_self
      rw [List.map_cons]
      simp only [PyData.canLayAll0, PyData.canLay0]
      rw [ih fun z hz => h z (List.mem_cons_of_mem _ hz), Bool.and_true]
      show (y.cps.all (· < 0x110000)) = true
      rw [Array.all_eq_true]
      intro i hi
      have := h1.2.2 y.cps[i] (List.mem_of_getElem? (i := i) (by rw [show ql y = y.cps.toList from rfl, Array.getElem?_toList]; exact Array.getElem?_eq_getElem hi))
      simp only [decide_eq_true_eq]
      omega
  · have d : PyData.depthAll (ys.map PyData.str) ≤ 1 := by
      induction ys with
      | nil => simp [PyData.depthAll]
      | cons y r ih =>
        have := ih fun z hz => h z (List.mem_cons_of_mem _ hz)
        simp only [List.map_cons, PyData.depthAll, PyData.depth]
        omega
    simp only [PyData.depth]
    omega
theorem mem_depth {kv : PyData × PyData} : ∀ {ds : List (PyData × PyData)}, kv ∈ ds → kv.2.depth < (PyData.dict ds).depth := by
  intro ds h
  have : kv.2.depth ≤ PyData.depthKv ds := by
    induction ds with
    | nil => cases h
    | cons q r ih =>
      obtain ⟨k, d⟩ := q
      simp only [PyData.depthKv]
      rcases List.mem_cons.mp h with rfl | h
      · show d.depth ≤ _
        omega
      · have := ih h
        omega
  simp only [PyData.depth]
  omega
theorem valV_mem {kvs : List (Key × V)} {k : Key} {v : V} (h : (k, v) ∈ kvs) : ∃ y, valV kvs k = some y ∧ (k, y) ∈ kvs := by
  unfold valV
  cases e : kvs.find? (fun kv => decide (kv.1 = k)) with
  | none =>
    have := List.find?_eq_none.mp e _ h
    simp at this
  | some q =>
    have h1 := List.find?_some e
    have h2 := List.mem_of_find?_eq_some e
    obtain ⟨k', y⟩ := q
    have : k' = k := of_decide_eq_true h1
    subst this
    exact ⟨y, rfl, h2⟩
theorem ok_agreeS {n : Nat} {f : Addr} {fd : FuncData} (F : Fun K "agree" "agree" s_agree f fd) (T : Bl mg)
    (D_agree : Def P w K mg base "agree" (n + 3) P_agree (spAgree K n) f fd) : FnOk P w K mg base CX0 (n + 4) f fd P_agree (spAgree K (n + 1)) := by
  refine F.ok sc_agree (fun vs H Q E h => ?_) (fun cdv A outer s H vs Q E hr h => ?_)
  · obtain ⟨v, u, d, e, rfl, _⟩ := h
    rfl
  obtain ⟨v, u, d, e, rfl, hd, he, al, hv, hu, q⟩ := h
  refine ⟨_, (pss_cons (ps_if (PW.pt (pw_and (pt_val (pe_callB call_isi (by rfl) T.isinstance (by decide +kernel) (pa_cons (pv 0) (pa_cons (pe_bltn (v := .ty "tuple") (by rfl) T.tuple (by decide +kernel) rfl) pa_nil)))) (pw_and1 (pt_val (pe_callB call_isi (by rfl) T.isinstance (by decide +kernel) (pa_cons (pv 1) (pa_cons (pe_bltn (v := .ty "tuple") (by rfl) T.tuple (by decide +kernel) rfl) pa_nil)))))))
      (pss_one (ps_ret (pe_and (pe_cmpR op_eq (pe_callB (call_lenK K rfl) (by rfl) T.len PySem.boot_len (pa_cons (pv 0) pa_nil)) (pe_callB (call_lenK K rfl) (by rfl) T.len PySem.boot_len (pa_cons (pv 1) pa_nil)) (nomark _)) (pe_one (pe_callB (cr_all rfl) (by rfl) T.all (by decide +kernel) (pa_cons (pe_lc (own := [("part", 2), ("twin", 3)]) (g := (gTup K 2 (gCons (gName 2) (gCons (gName 3) gNil)))) (tt := tYes) rfl sc_agree.nd (RZ.pi_zipA (by rfl) T.zip (pa_cons (pv 0) (pa_cons (pv 1) pa_nil))) (blkOk_by (own := [("part", 2), ("twin", 3)]) (N := N_agree) (sc := defScope s_agree) (by decide +kernel)) (fun _ _ _ _ _ => (pg_tup rfl (pgs_cons (pg_name (i := 2) sc_agree.nd rfl (Or.inl rfl)) (pgs_cons (pg_name (i := 3) sc_agree.nd rfl (Or.inl rfl)) pgs_nil)))) (fun _ _ _ _ _ => pts_nil) (fun _ _ _ _ _ => (pe_call D_agree.ok (hr.mono (by first | decide | omega)) rfl D_agree.g D_agree.kp D_agree.b .nil pass0 (pa_cons (pv 2) (pa_cons (pv 3) pa_nil))))) pa_nil))))))
      pss_nil)
    (pss_cons (ps_if (PW.pt (pw_and (pt_val (pe_callB call_isi (by rfl) T.isinstance (by decide +kernel) (pa_cons (pv 0) (pa_cons (pe_bltn (v := .ty "dict") (by rfl) T.dict (by decide +kernel) rfl) pa_nil)))) (pw_and1 (pt_val (pe_callB call_isi (by rfl) T.isinstance (by decide +kernel) (pa_cons (pv 1) (pa_cons (pe_bltn (v := .ty "dict") (by rfl) T.dict (by decide +kernel) rfl) pa_nil)))))))
      (pss_one (ps_ret (pe_and (pe_cmpR (op_eqK K rfl hr.units) (pe_callB (call_sortedD rfl) (by rfl) T.sorted (by decide +kernel) (pa_cons (pv 0) pa_nil)) (pe_callB (call_sortedD rfl) (by rfl) T.sorted (by decide +kernel) (pa_cons (pv 1) pa_nil)) (nomark _)) (pe_one (pe_callB (cr_all rfl) (by rfl) T.all (by decide +kernel) (pa_cons (pe_lock (pe_lc (own := [("name", 4)]) (g := (gName 4)) (tt := tYes) rfl sc_agree.nd (pi_keys (pv 0)) (blkOk_by (own := [("name", 4)]) (N := N_agree) (sc := defScope s_agree) (by decide +kernel)) (fun _ _ _ _ _ => (pg_name (i := 4) sc_agree.nd rfl (Or.inl rfl))) (fun _ _ _ _ _ => pts_nil) (fun _ _ _ _ _ => (pe_call D_agree.ok (hr.mono (by first | decide | omega)) rfl D_agree.g D_agree.kp D_agree.b .nil pass0 (pa_cons (pe_dget (hu_of hr) (pv 0) (pv 4) (fun _ _ => rfl)) (pa_cons (pe_dget (hu_of hr) (pv 1) (pv 4) (fun _ _ => rfl)) pa_nil)))))) pa_nil))))))
      pss_nil)
    (pss_one (ps_ret (pe_and (pe_cmpR op_eq (pe_callB call_isi (by rfl) T.isinstance (by decide +kernel) (pa_cons (pv 0) (pa_cons (pe_bltn (v := .ty "bool") (by rfl) T.bool (by decide +kernel) rfl) pa_nil))) (pe_callB call_isi (by rfl) T.isinstance (by decide +kernel) (pa_cons (pv 1) (pa_cons (pe_bltn (v := .ty "bool") (by rfl) T.bool (by decide +kernel) rfl) pa_nil))) (nomark _)) (pe_one (pe_cmpR op_eq (pv 0) (pv 1) (nomark _)))))))), ?_⟩
  cases al with
  | non =>
    cases hd
    cases he
    refine ⟨_, rfl, _, _, _, _, false, rfl, .ty _, .base .non, kit_ty (by decide +kernel), _, rfl, if_ff rfl (if_ff rfl ?_)⟩
    refine ⟨_, rfl, _, _, _, _, false, rfl, .ty _, .base .non, kit_ty (by decide +kernel), _, rfl, if_ff rfl (if_ff rfl ?_)⟩
    refine ⟨_, rfl, _, _, _, _, false, rfl, .ty _, .base .non, kit_ty (by decide +kernel), _, rfl, _, _, _, _, false, rfl, .ty _, .base .non, kit_ty (by decide +kernel), rfl, _, rfl, if_tt rfl ⟨_, rfl, _, rfl, rfl, ?_⟩⟩
    rw [decide_eq_true rfl]
    exact q _ (Same.refl H)
  | bl b =>
    cases hd
    cases he
    refine ⟨_, rfl, _, _, _, _, false, rfl, .ty _, .base (.bl _), kit_ty (by decide +kernel), _, rfl, if_ff rfl (if_ff rfl ?_)⟩
    refine ⟨_, rfl, _, _, _, _, false, rfl, .ty _, .base (.bl _), kit_ty (by decide +kernel), _, rfl, if_ff rfl (if_ff rfl ?_)⟩
    refine ⟨_, rfl, _, _, _, _, true, rfl, .ty _, .base (.bl _), kit_ty (by decide +kernel), _, rfl, _, _, _, _, true, rfl, .ty _, .base (.bl _), kit_ty (by decide +kernel), rfl, _, rfl, if_tt rfl ⟨_, rfl, _, rfl, rfl, ?_⟩⟩
    rw [decide_eq_true rfl]
    exact q _ (Same.refl H)
  | int i =>
    cases hd
    cases he
    refine ⟨_, rfl, _, _, _, _, false, rfl, .ty _, .base (.int _), kit_ty (by decide +kernel), _, rfl, if_ff rfl (if_ff rfl ?_)⟩
    refine ⟨_, rfl, _, _, _, _, false, rfl, .ty _, .base (.int _), kit_ty (by decide +kernel), _, rfl, if_ff rfl (if_ff rfl ?_)⟩
    refine ⟨_, rfl, _, _, _, _, false, rfl, .ty _, .base (.int _), kit_ty (by decide +kernel), _, rfl, _, _, _, _, false, rfl, .ty _, .base (.int _), kit_ty (by decide +kernel), rfl, _, rfl, if_tt rfl ⟨_, rfl, _, rfl, rfl, ?_⟩⟩
    rw [decide_eq_true rfl]
    exact q _ (Same.refl H)
  | str x =>
    cases hd
    cases he
    refine ⟨_, rfl, _, _, _, _, false, rfl, .ty _, .base (.str _), kit_ty (by decide +kernel), _, rfl, if_ff rfl (if_ff rfl ?_)⟩
    refine ⟨_, rfl, _, _, _, _, false, rfl, .ty _, .base (.str _), kit_ty (by decide +kernel), _, rfl, if_ff rfl (if_ff rfl ?_)⟩
    refine ⟨_, rfl, _, _, _, _, false, rfl, .ty _, .base (.str _), kit_ty (by decide +kernel), _, rfl, _, _, _, _, false, rfl, .ty _, .base (.str _), kit_ty (by decide +kernel), rfl, _, rfl, if_tt rfl ⟨_, rfl, _, rfl, rfl, ?_⟩⟩
    rw [decide_eq_true rfl]
    exact q _ (Same.refl H)
  | @tup ds es al =>
    cases hd with
    | @tup va xs _ hs ha =>
    cases he with
    | @tup ub ys _ ht hb =>
    match n, D_agree, hr, hv, hu with
    | 0, _, _, hv, _ => simp [Vd] at hv
    | m + 1, D, hr, hv, hu =>
      have hv' : ds.length ≤ 3 ∧ ∀ x ∈ ds, Vd m x := by simpa only [Vd] using hv
      have hu' : es.length ≤ 3 ∧ ∀ x ∈ es, Vd m x := by simpa only [Vd] using hu
      have l1 := DqAll.length ha
      have l2 := DqAll.length hb
      have l3 := al.length
      have same : xs.length = ys.length := by omega
      refine ⟨_, rfl, _, _, _, _, true, rfl, .ty _, .base (.tup hs), kit_ty (by decide +kernel), _, rfl, if_tt rfl ⟨_, rfl, _, _, _, _, true, rfl, .ty _, .base (.tup ht), kit_ty (by decide +kernel), _, rfl, if_tt rfl ?_⟩⟩
      refine ⟨_, rfl, _, xs.length, rfl, .inr ⟨xs, SqT.of hs, rfl⟩, _, rfl, _, ys.length, rfl, .inr ⟨ys, SqT.of ht, rfl⟩, rfl, _, rfl, if_tt (decide_eq_true (by rw [same])) ?_⟩
      refine ⟨_, rfl, _, rfl, va, ub, xs, ys, rfl, .inr ⟨SqT.of hs, SqT.of ht, fun D2 hD => ?_⟩⟩
      refine lc_it (walk_zipT (K := K) (n := xs.length) (by omega)) (fun i H' => Same H H' ∧ H' D2 = some (.lst (trues i))) ⟨same_new hD _, upd_same⟩ (fun i H' _ p => ⟨SqT.of (p.1 _ _ hs), SqT.of (p.1 _ _ ht)⟩) ?_ ?_
      · rintro i v H' G0 hi ⟨s', e'⟩ ⟨t, x, y, rfl, ht', eG, hx, hy⟩
        subst eG
        have hx : xs[i]? = some x := hx
        have hy : ys[i]? = some y := hy
        obtain ⟨d, e1, e2⟩ := DqAll.get ha hx
        obtain ⟨e, e3, e4⟩ := DqAll.get hb hy
        obtain ⟨e0, e5, e6⟩ := al.at' e1
        obtain rfl : e = e0 := Option.some.inj (e3.symm.trans e5)
        have st : Same H (upd H' t (.tup [x, y])) := s'.trans (same_new ht' _)
        refine ⟨t, _, rfl, SqT.of upd_same, rfl, _, _, rfl, _, _, rfl, rfl, rfl, yesT ?_⟩
        refine ⟨_, rfl, _, rfl, x, y, d, e, rfl, Dq.same st _ _ e2, Dq.same st _ _ e4, e6, hv'.2 d (List.mem_of_getElem? e1), hu'.2 e (List.mem_of_getElem? e3), fun H'' s'' => ⟨_, s'' _ _ (same_new ht' _ _ _ e'), ?_, Same.updNew (st.trans s'') hD, ?_⟩⟩
        · rw [trues_len]
          exact less_line (by omega)
        · rw [upd_same, trues_more]
      · rintro H' ⟨s', e'⟩
        refine ⟨D2, _, rfl, SqL.of e', ?_⟩
        rw [trues_all]
        exact q _ s'
  | @dct ds es fs al pm =>
    cases hd with
    | @dct a kvs _ hs ha =>
    cases he with
    | @dct b jvs _ ht hb =>
    match n, D_agree, hr, hv, hu with
    | 0, _, _, hv, _ => simp [Vd] at hv
    | m + 1, D, hr, hv, hu =>
      have hv' : (ds.length ≤ 3 ∧ (ds.map (·.1)).Nodup ∧ ∀ kv ∈ ds, ∃ z, kv.1 = .str z ∧ IsNm z) ∧ ∀ kv ∈ ds, Vd m kv.2 := by simpa only [Vd] using hv
      have hu' : (es.length ≤ 3 ∧ (es.map (·.1)).Nodup ∧ ∀ kv ∈ es, ∃ z, kv.1 = .str z ∧ IsNm z) ∧ ∀ kv ∈ es, Vd m kv.2 := by simpa only [Vd] using hu
      refine ⟨_, rfl, _, _, _, _, false, rfl, .ty _, .base (.dK hs), kit_ty (by decide +kernel), _, rfl, if_ff rfl (if_ff rfl ?_)⟩
      refine ⟨_, rfl, _, _, _, _, true, rfl, .ty _, .base (.dK hs), kit_ty (by decide +kernel), _, rfl, if_tt rfl ⟨_, rfl, _, _, _, _, true, rfl, .ty _, .base (.dK ht), kit_ty (by decide +kernel), _, rfl, if_tt rfl ?_⟩⟩
      obtain ⟨ks, eks⟩ := kv_strs ha hv'.1.2.2
      obtain ⟨js, ejs⟩ := kv_strs hb hu'.1.2.2
      have k64 : ks.length < 64 := by
        have h1 := congrArg List.length eks
        have h2 := DqKv.length ha
        have h3 := hv'.1.1
        rw [List.length_map, List.length_map] at h1
        omega
      have j64 : js.length < 64 := by
        have h1 := congrArg List.length ejs
        have h2 := DqKv.length hb
        have h3 := hu'.1.1
        rw [List.length_map, List.length_map] at h1
        omega
      have pj : ks.Perm js := by
        have h1 := kv_keys ha eks
        have h2 := kv_keys hb ejs
        have h3 : (ks.map PyData.str).Perm (js.map PyData.str) := by
          rw [← h1, ← h2, al.keys]
          exact pm.map _
        have h4 := h3.map fun x => match x with | .str z => z | _ => ("" : Str)
        rwa [List.map_map, List.map_map, show ((fun x => match x with | .str z => z | _ => ("" : Str)) ∘ PyData.str : Str → Str) = id from rfl, List.map_id, List.map_id] at h4
      refine ⟨_, rfl, a, kvs, ks, rfl, .inl hs, eks, k64, fun ys l1 p1 o1 h1 => ?_⟩
      have s3 := same_new h1 (.lst (ys.map V.str))
      refine ⟨_, rfl, b, jvs, js, rfl, .inl (s3 _ _ ht), ejs, j64, fun zs l2 p2 o2 h2 => ?_⟩
      have s4 := same_new h2 (.lst (zs.map V.str))
      obtain rfl := sorted_one (p1.trans (pj.trans p2.symm)) o1 o2
      have nm : ∀ z ∈ ys, IsNm z := fun z hz => by
        have h3 : PyData.str z ∈ ds.map (·.1) := by
          rw [kv_keys ha eks]
          exact List.mem_map.mpr ⟨z, p1.mem_iff.mp hz, rfl⟩
        obtain ⟨kv, h4, h5⟩ := List.mem_map.mp h3
        obtain ⟨z', h6, h7⟩ := hv'.1.2.2 _ h4
        rw [h5] at h6
        cases h6
        exact h7
      refine ⟨_, _, .lst (SqL.of (s4 _ _ upd_same)) (strs_dp ys), .lst (SqL.of upd_same) (strs_dp ys), strs_shaped nm, strs_shaped nm, _, rfl, if_tt (strs_eqv ys) ?_⟩
      have s6 := s3.trans s4
      refine ⟨a, _, s6 _ _ hs, trivial, fun od => ⟨_, rfl, a, od, rfl, .inl ⟨kvs, upd_same, fun D2 hD => ?_⟩⟩⟩
      have hDa : D2 ≠ a := fun e => by
        rw [e, upd_same] at hD
        cases hD
      refine lc_it walk_keys (fun i H' => Same (upd (upd (upd H l1 (.lst (ys.map V.str))) l2 (.lst (ys.map V.str))) a (.frz od (.dK kvs))) H' ∧ H' D2 = some (.lst (trues i))) ⟨same_new hD _, upd_same⟩ (fun i H' _ p => p.1 _ _ upd_same) ?_ ?_
      · rintro i v0 G1 H' hi ⟨s', e'⟩ ⟨rfl, k, v, hkv, rfl⟩
        obtain ⟨d0, g1, _⟩ := DqKv.get ha hkv
        obtain ⟨z, ez, _⟩ := hv'.1.2.2 _ (List.mem_of_getElem? g1)
        obtain rfl := keyD_str ez
        have fz : H' a = some (.frz od (.dK kvs)) := s' _ _ upd_same
        have inD : keyIn ds z = some d0 := keyIn_mem hv'.1.2.1 (List.mem_of_getElem? g1)
        obtain ⟨e0, me, ae⟩ := al.mem (List.mem_of_getElem? g1)
        have me := pm.mem_iff.mp me
        have inE : keyIn es z = some e0 := keyIn_mem hu'.1.2.1 me
        rcases find_kv z ha with ⟨_, no⟩ | ⟨x, d, vx, kx, dx, kk, mx⟩
        · rw [no] at inD
          cases inD
        rcases find_kv z hb with ⟨_, no⟩ | ⟨y, e, vy, ky, dy, jj, my⟩
        · rw [no] at inE
          cases inE
        obtain rfl : d = d0 := Option.some.inj (kx.symm.trans inD)
        obtain rfl : e = e0 := Option.some.inj (ky.symm.trans inE)
        have lower : ∀ {v : V} {c : PyData}, Dq K H v c → c.depth < (PyData.dict ds).depth → Dq K H' v c := fun {v c} dq low => by
          refine Dq.same (fun b o eb => ?_) _ _ (Dq.avoid (.dct hs ha) _ _ dq low)
          by_cases w0 : b = a
          · subst w0
            rw [show hide b H b = none from if_pos rfl] at eb
            cases eb
          · rw [hide_ne w0] at eb
            exact s' _ _ (by rw [upd_ne w0]; exact s6 _ _ eb)
        have low := mem_depth mx
        have e3 : Dq K H' x d := lower dx low
        have e4 : Dq K H' y e := lower dy (by rw [← ae.depth]; exact low)
        have other : Rd H' b (.dK jvs) := by
          by_cases w0 : b = a
          · subst w0
            rw [hs] at ht
            cases ht
            exact .inr ⟨od, fz⟩
          · exact .inl (s' _ _ (by rw [upd_ne w0]; exact s6 _ _ ht))
        refine ⟨rfl, yesT ?_⟩
        refine ⟨_, rfl, _, rfl, a, x, rfl, .inl ⟨kvs, .inr z, .inr ⟨od, fz⟩, rfl, vx.symm⟩, _, rfl, _, rfl, b, y, rfl, .inl ⟨jvs, .inr z, other, rfl, vy.symm⟩, ?_⟩
        refine ⟨x, y, d, e, rfl, e3, e4, ae, hv'.2 _ mx, hu'.2 _ my, fun H'' s'' => ⟨_, s'' _ _ e', ?_, Same.updNew (s'.trans s'') hD, ?_⟩⟩
        · rw [trues_len]
          refine less_line ?_
          have h1 := hv'.1.1
          have h2 := DqKv.length ha
          omega
        · rw [upd_same, trues_more]
      · rintro H' ⟨s', e'⟩
        refine ⟨s' _ _ upd_same, D2, _, rfl, SqL.of (by rw [upd_ne hDa]; exact e'), ?_⟩
        rw [trues_all]
        exact q _ (s6.trans (Same.unlock s' (s6 _ _ hs)))
theorem ok_agree {f : Addr} {fd : FuncData} (F : Fun K "agree" "agree" s_agree f fd) (T : Bl mg) (g : mg "agree" = some (.ref f)) (b : Binds K fd P_agree []) :
    ∀ n : Nat, FnOk P w K mg base CX0 (n + 3) f fd P_agree (spAgree K n)
  | 0 => ⟨fun _ _ _ _ h => h.elim, fun _ _ _ _ _ _ _ _ _ _ _ _ _ h => h.elim⟩
  | n + 1 => ok_agreeS F T ⟨g, F.kp, b, ok_agree F T g b n⟩
abbrev s_same : Stmt := top 57
abbrev N_same : List Str := ["one", "other"]
abbrev P_same : List Str := ["one", "other"]
theorem sc_same : FnScope N_same P_same (defScope s_same) := ⟨rfl, rfl, rfl, by decide +kernel, rfl, by decide +kernel, by decide +kernel⟩
/-- of one value, twice -/
theorem alikeL_self : ∀ {ds : List PyData}, (∀ x ∈ ds, Alike x x) → AlikeL ds ds
  | [], _ => .nil
  | _ :: _, h => .cons (h _ List.mem_cons_self) (alikeL_self fun x m => h x (List.mem_cons_of_mem _ m))
theorem alikeK_self : ∀ {ds : List (PyData × PyData)}, (∀ kv ∈ ds, Alike kv.2 kv.2) → AlikeK ds ds
  | [], _ => .nil
  | (_, _) :: _, h => .cons (h _ List.mem_cons_self) (alikeK_self fun x m => h x (List.mem_cons_of_mem _ m))
theorem alike_self : ∀ {m : Nat} {d : PyData}, Vd m d → Alike d d
  | _, .none, _ => .non
  | _, .bool b, _ => .bl b
  | _, .int i, _ => .int i
  | _, .str z, _ => .str z
  | _, .list _, h => by simp [Vd] at h
  | 0, .tuple _, h => by simp [Vd] at h
  | 0, .dict _, h => by simp [Vd] at h
  | m + 1, .tuple ds, h => by
    have h' : ds.length ≤ 3 ∧ ∀ x ∈ ds, Vd m x := by simpa only [Vd] using h
    exact .tup (alikeL_self fun x mx => alike_self (h'.2 x mx))
  | m + 1, .dict ds, h => by
    have h' : (ds.length ≤ 3 ∧ (ds.map (·.1)).Nodup ∧ ∀ kv ∈ ds, ∃ z, kv.1 = .str z ∧ IsNm z) ∧ ∀ kv ∈ ds, Vd m kv.2 := by simpa only [Vd] using h
    exact .dct (alikeK_self fun kv mk => alike_self (h'.2 kv mk)) (.refl ds)
def spSame1 (K : PySem.W.Frag) : Sp := fun vs H Q _ => ∃ (v : V) (d : PyData), vs = [v, v] ∧ Dq K H v d ∧ Vd 6 d ∧ ∀ H', Same H H' → Q (.bl true) H'
theorem ok_same1 {f fv fa : Addr} {fd fdv fda : FuncData} (F : Fun K "same" "same" s_same f fd) (T : Bl mg) (D_is_value : Def P w K mg base "is_value" 11 P_is_value (spIsValue K) fv fdv) (D_agree : Def P w K mg base "agree" 10 P_agree (spAgree K 7) fa fda) : FnOk P w K mg base CX0 12 f fd P_same (spSame1 K) := by
  refine F.ok sc_same (fun vs H Q E h => ?_) (fun cdv A outer s H vs Q E hr h => ?_)
  · obtain ⟨v, d, rfl, _⟩ := h
    rfl
  obtain ⟨v, d, rfl, hd, hv, q⟩ := h
  refine ⟨_, (pss_cons (ps_if (pt_not (pt_val (pe_call D_is_value.ok (hr.mono (by first | decide | omega)) rfl D_is_value.g D_is_value.kp D_is_value.b .nil pass0 (pa_cons (pv 0) pa_nil))))
      (pss_one ps_never)
      pss_nil)
    (pss_cons (ps_if (pt_not (pt_val (pe_call D_is_value.ok (hr.mono (by first | decide | omega)) rfl D_is_value.g D_is_value.kp D_is_value.b .nil pass0 (pa_cons (pv 1) pa_nil))))
      (pss_one ps_never)
      pss_nil)
    (pss_one (ps_ret (pe_call D_agree.ok (hr.mono (by first | decide | omega)) rfl D_agree.g D_agree.kp D_agree.b .nil pass0 (pa_cons (pv 0) (pa_cons (pv 1) pa_nil))))))), ?_⟩
  refine ⟨_, rfl, v, d, rfl, hd, hv, fun H1 s1 => ⟨_, rfl, if_ff rfl ?_⟩⟩
  refine ⟨_, rfl, v, d, rfl, Dq.same s1 _ _ hd, hv, fun H2 s2 => ⟨_, rfl, if_ff rfl ?_⟩⟩
  exact ⟨_, rfl, _, rfl, v, v, d, d, rfl, Dq.same (s1.trans s2) _ _ hd, Dq.same (s1.trans s2) _ _ hd, alike_self hv, hv, hv, fun H3 s3 => q _ (s1.trans (s2.trans s3))⟩
end
end KX

namespace KX
open PySem PySem.Spec L2 PyProof.Rows
section
variable {base : Heap} {P : Program} {w : World} {K : PySem.W.Frag} {mg : Str → Option Value} {C fI : Nat → Addr} {fdd : Nat → FuncData} {Sh St Sz : Addr}
def kindWords : Str := "name text value tree context page body tag misplaced plan pass patches size action command" ++ " notlibrary trouble taken missing inuse ring unfit nopath notlate notdone" ++ " busy undo templates levels nodes elements entries deep"
def wordE (i : Nat) : Str := (Txt.split kindWords " ").getD i ""
def kbs (i : Nat) : List Bool := (List.range 33).map (eqb i)
theorem kbs_one : ∀ i, i < 33 → ((kbs i).filter (· == true)).length = 1 := by decide +kernel
theorem kbs_get (i j : Nat) (hj : j < 33) : ((kbs i).map V.bl)[j]? = some (.bl (eqb i j)) := by
  unfold kbs
  rw [List.getElem?_map, List.getElem?_map, List.getElem?_range hj]
  rfl
theorem kbs_at (i : Nat) (hi : i < 33) : ((kbs i).map V.bl)[i]? = some (.bl true) := by
  rw [kbs_get i i hi]
  simp [eqb]
theorem kbs_no (i : Nat) (hi : i < 33) : ∀ (j : Nat) (z : V), j < i → ((kbs i).map V.bl)[j]? = some z → eqV z (.bl true) = false := fun j z hj hz => by
  rw [kbs_get i j (by omega)] at hz
  have e : eqb i j = false := decide_eq_false (by omega)
  rw [e] at hz
  cases hz
  rfl
def three (i : Nat) : PyData := .list [.bool (decide (i < 17)), .bool (decide (16 < i) && decide (i < 27)), .bool (decide (26 < i))]
theorem three_ok (i : Nat) : SeqAt.shaped (three i) = true := rfl
theorem three_eq (i : Nat) : PyData.eqv (three i) (three i) = true := SeqAt.eqv_refl_plain _ rfl
theorem neq_of {i : Nat} {e : PyData} (h : e = three i) : (!PyData.eqv (three i) e) = false := by
  rw [h, three_eq]
  rfl
theorem len1 : (("name text value tree context page body tag misplaced plan pass patches size action command" : Str).length + (" notlibrary trouble taken missing inuse ring unfit nopath notlate notdone" : Str).length) ≤ sizeLine := by decide +kernel
theorem len2 : ((("name text value tree context page body tag misplaced plan pass patches size action command" : Str) ++ (" notlibrary trouble taken missing inuse ring unfit nopath notlate notdone" : Str)).length + (" busy undo templates levels nodes elements entries deep" : Str).length) ≤ sizeLine := by decide +kernel
theorem len3 : kindWords.length + 2 ≤ sizeLine := by decide +kernel
theorem words_len : (Txt.split kindWords " ").length = 33 := by decide +kernel
theorem word_at (i : Nat) (hi : i < 33) : atI ((Txt.split kindWords " ").map V.str) (i : Int) = some (.str (wordE i)) := by
  have h : i < (Txt.split kindWords " ").length := by rw [words_len]; exact hi
  refine at_of (j := i) rfl ?_
  unfold wordE
  rw [List.getElem?_map, List.getElem?_eq_getElem h, List.getD_eq_getElem?_getD, List.getElem?_eq_getElem h]
  rfl
abbrev s_kind : Stmt := top 69
abbrev N_kind : List Str := ["_law_e", "_law_kinds", "_law_bases", "_law_own", "_law_at", "_law_words_here"]
abbrev P_kind : List Str := ["_law_e"]
theorem sc_kind : FnScope N_kind P_kind (defScope s_kind) := ⟨rfl, rfl, rfl, by decide +kernel, rfl, by decide +kernel, by decide +kernel⟩
def spKd (C : Nat → Addr) : Sp := fun vs H Q _ => ∃ (a : Addr) (i : Nat) (m n : V), vs = [.ref a] ∧ i < 33 ∧ ErrAt H a (C i) (fsE i m n) ∧ ∀ H', Same H H' → Q (.str (wordE i)) H'
theorem ok_kind {f : Addr} {fd : FuncData} (F : Fun K "_law_kind" "_law_kind" s_kind f fd) (T : Bl mg) (E : Errs P w K mg base C fI fdd Sh St Sz) : FnOk P w K mg base CX0 1 f fd P_kind (spKd C) := by
  refine F.ok sc_kind (fun vs H Q E h => ?_) (fun cdv A outer s H vs Q EE hr h => ?_)
  · obtain ⟨a, i, m, n, rfl, _⟩ := h
    rfl
  obtain ⟨a, i, m, n, rfl, hi, he, q⟩ := h
  have d := E.d
  have d0 := E.d 0 (by decide)
  have d1 := E.d 1 (by decide)
  have d2 := E.d 2 (by decide)
  have d3 := E.d 3 (by decide)
  have d4 := E.d 4 (by decide)
  have d5 := E.d 5 (by decide)
  have d6 := E.d 6 (by decide)
  have d7 := E.d 7 (by decide)
  have d8 := E.d 8 (by decide)
  have d9 := E.d 9 (by decide)
  have d10 := E.d 10 (by decide)
  have d11 := E.d 11 (by decide)
  have d12 := E.d 12 (by decide)
  have d13 := E.d 13 (by decide)
  have d14 := E.d 14 (by decide)
  have d15 := E.d 15 (by decide)
  have d16 := E.d 16 (by decide)
  have d17 := E.d 17 (by decide)
  have d18 := E.d 18 (by decide)
  have d19 := E.d 19 (by decide)
  have d20 := E.d 20 (by decide)
  have d21 := E.d 21 (by decide)
  have d22 := E.d 22 (by decide)
  have d23 := E.d 23 (by decide)
  have d24 := E.d 24 (by decide)
  have d25 := E.d 25 (by decide)
  have d26 := E.d 26 (by decide)
  have d27 := E.d 27 (by decide)
  have d28 := E.d 28 (by decide)
  have d29 := E.d 29 (by decide)
  have d30 := E.d 30 (by decide)
  have d31 := E.d 31 (by decide)
  have d32 := E.d 32 (by decide)
  refine ⟨_, (pss_cons (ps_set (i := 1) sc_kind.nd rfl (Or.inl rfl) (pe_lst (pa_cons (pe_callB (call_isX K rfl) (by rfl) T.isinstance (by decide +kernel) (pa_cons (pv 0) (pa_cons (pe_glob (v := .ref (C 0)) rfl d0.g rfl) pa_nil))) (pa_cons (pe_callB (call_isX K rfl) (by rfl) T.isinstance (by decide +kernel) (pa_cons (pv 0) (pa_cons (pe_glob (v := .ref (C 1)) rfl d1.g rfl) pa_nil))) (pa_cons (pe_callB (call_isX K rfl) (by rfl) T.isinstance (by decide +kernel) (pa_cons (pv 0) (pa_cons (pe_glob (v := .ref (C 2)) rfl d2.g rfl) pa_nil))) pa_nil)))))
    (pss_cons (ps_set (i := 1) sc_kind.nd rfl (Or.inl rfl) (pe_op op_cat (pv 1) (pe_lst (pa_cons (pe_callB (call_isX K rfl) (by rfl) T.isinstance (by decide +kernel) (pa_cons (pv 0) (pa_cons (pe_glob (v := .ref (C 3)) rfl d3.g rfl) pa_nil))) (pa_cons (pe_callB (call_isX K rfl) (by rfl) T.isinstance (by decide +kernel) (pa_cons (pv 0) (pa_cons (pe_glob (v := .ref (C 4)) rfl d4.g rfl) pa_nil))) (pa_cons (pe_callB (call_isX K rfl) (by rfl) T.isinstance (by decide +kernel) (pa_cons (pv 0) (pa_cons (pe_glob (v := .ref (C 5)) rfl d5.g rfl) pa_nil))) pa_nil))))))
    (pss_cons (ps_set (i := 1) sc_kind.nd rfl (Or.inl rfl) (pe_op op_cat (pv 1) (pe_lst (pa_cons (pe_callB (call_isX K rfl) (by rfl) T.isinstance (by decide +kernel) (pa_cons (pv 0) (pa_cons (pe_glob (v := .ref (C 6)) rfl d6.g rfl) pa_nil))) (pa_cons (pe_callB (call_isX K rfl) (by rfl) T.isinstance (by decide +kernel) (pa_cons (pv 0) (pa_cons (pe_glob (v := .ref (C 7)) rfl d7.g rfl) pa_nil))) (pa_cons (pe_callB (call_isX K rfl) (by rfl) T.isinstance (by decide +kernel) (pa_cons (pv 0) (pa_cons (pe_glob (v := .ref (C 8)) rfl d8.g rfl) pa_nil))) pa_nil))))))
    (pss_cons (ps_set (i := 1) sc_kind.nd rfl (Or.inl rfl) (pe_op op_cat (pv 1) (pe_lst (pa_cons (pe_callB (call_isX K rfl) (by rfl) T.isinstance (by decide +kernel) (pa_cons (pv 0) (pa_cons (pe_glob (v := .ref (C 9)) rfl d9.g rfl) pa_nil))) (pa_cons (pe_callB (call_isX K rfl) (by rfl) T.isinstance (by decide +kernel) (pa_cons (pv 0) (pa_cons (pe_glob (v := .ref (C 10)) rfl d10.g rfl) pa_nil))) (pa_cons (pe_callB (call_isX K rfl) (by rfl) T.isinstance (by decide +kernel) (pa_cons (pv 0) (pa_cons (pe_glob (v := .ref (C 11)) rfl d11.g rfl) pa_nil))) pa_nil))))))
    (pss_cons (ps_set (i := 1) sc_kind.nd rfl (Or.inl rfl) (pe_op op_cat (pv 1) (pe_lst (pa_cons (pe_callB (call_isX K rfl) (by rfl) T.isinstance (by decide +kernel) (pa_cons (pv 0) (pa_cons (pe_glob (v := .ref (C 12)) rfl d12.g rfl) pa_nil))) (pa_cons (pe_callB (call_isX K rfl) (by rfl) T.isinstance (by decide +kernel) (pa_cons (pv 0) (pa_cons (pe_glob (v := .ref (C 13)) rfl d13.g rfl) pa_nil))) (pa_cons (pe_callB (call_isX K rfl) (by rfl) T.isinstance (by decide +kernel) (pa_cons (pv 0) (pa_cons (pe_glob (v := .ref (C 14)) rfl d14.g rfl) pa_nil))) pa_nil))))))
    (pss_cons (ps_set (i := 1) sc_kind.nd rfl (Or.inl rfl) (pe_op op_cat (pv 1) (pe_lst (pa_cons (pe_callB (call_isX K rfl) (by rfl) T.isinstance (by decide +kernel) (pa_cons (pv 0) (pa_cons (pe_glob (v := .ref (C 15)) rfl d15.g rfl) pa_nil))) (pa_cons (pe_callB (call_isX K rfl) (by rfl) T.isinstance (by decide +kernel) (pa_cons (pv 0) (pa_cons (pe_glob (v := .ref (C 16)) rfl d16.g rfl) pa_nil))) (pa_cons (pe_callB (call_isX K rfl) (by rfl) T.isinstance (by decide +kernel) (pa_cons (pv 0) (pa_cons (pe_glob (v := .ref (C 17)) rfl d17.g rfl) pa_nil))) pa_nil))))))
    (pss_cons (ps_set (i := 1) sc_kind.nd rfl (Or.inl rfl) (pe_op op_cat (pv 1) (pe_lst (pa_cons (pe_callB (call_isX K rfl) (by rfl) T.isinstance (by decide +kernel) (pa_cons (pv 0) (pa_cons (pe_glob (v := .ref (C 18)) rfl d18.g rfl) pa_nil))) (pa_cons (pe_callB (call_isX K rfl) (by rfl) T.isinstance (by decide +kernel) (pa_cons (pv 0) (pa_cons (pe_glob (v := .ref (C 19)) rfl d19.g rfl) pa_nil))) (pa_cons (pe_callB (call_isX K rfl) (by rfl) T.isinstance (by decide +kernel) (pa_cons (pv 0) (pa_cons (pe_glob (v := .ref (C 20)) rfl d20.g rfl) pa_nil))) pa_nil))))))
    (pss_cons (ps_set (i := 1) sc_kind.nd rfl (Or.inl rfl) (pe_op op_cat (pv 1) (pe_lst (pa_cons (pe_callB (call_isX K rfl) (by rfl) T.isinstance (by decide +kernel) (pa_cons (pv 0) (pa_cons (pe_glob (v := .ref (C 21)) rfl d21.g rfl) pa_nil))) (pa_cons (pe_callB (call_isX K rfl) (by rfl) T.isinstance (by decide +kernel) (pa_cons (pv 0) (pa_cons (pe_glob (v := .ref (C 22)) rfl d22.g rfl) pa_nil))) (pa_cons (pe_callB (call_isX K rfl) (by rfl) T.isinstance (by decide +kernel) (pa_cons (pv 0) (pa_cons (pe_glob (v := .ref (C 23)) rfl d23.g rfl) pa_nil))) pa_nil))))))
    (pss_cons (ps_set (i := 1) sc_kind.nd rfl (Or.inl rfl) (pe_op op_cat (pv 1) (pe_lst (pa_cons (pe_callB (call_isX K rfl) (by rfl) T.isinstance (by decide +kernel) (pa_cons (pv 0) (pa_cons (pe_glob (v := .ref (C 24)) rfl d24.g rfl) pa_nil))) (pa_cons (pe_callB (call_isX K rfl) (by rfl) T.isinstance (by decide +kernel) (pa_cons (pv 0) (pa_cons (pe_glob (v := .ref (C 25)) rfl d25.g rfl) pa_nil))) (pa_cons (pe_callB (call_isX K rfl) (by rfl) T.isinstance (by decide +kernel) (pa_cons (pv 0) (pa_cons (pe_glob (v := .ref (C 26)) rfl d26.g rfl) pa_nil))) pa_nil))))))
    (pss_cons (ps_set (i := 1) sc_kind.nd rfl (Or.inl rfl) (pe_op op_cat (pv 1) (pe_lst (pa_cons (pe_callB (call_isX K rfl) (by rfl) T.isinstance (by decide +kernel) (pa_cons (pv 0) (pa_cons (pe_glob (v := .ref (C 27)) rfl d27.g rfl) pa_nil))) (pa_cons (pe_callB (call_isX K rfl) (by rfl) T.isinstance (by decide +kernel) (pa_cons (pv 0) (pa_cons (pe_glob (v := .ref (C 28)) rfl d28.g rfl) pa_nil))) (pa_cons (pe_callB (call_isX K rfl) (by rfl) T.isinstance (by decide +kernel) (pa_cons (pv 0) (pa_cons (pe_glob (v := .ref (C 29)) rfl d29.g rfl) pa_nil))) pa_nil))))))
    (pss_cons (ps_set (i := 1) sc_kind.nd rfl (Or.inl rfl) (pe_op op_cat (pv 1) (pe_lst (pa_cons (pe_callB (call_isX K rfl) (by rfl) T.isinstance (by decide +kernel) (pa_cons (pv 0) (pa_cons (pe_glob (v := .ref (C 30)) rfl d30.g rfl) pa_nil))) (pa_cons (pe_callB (call_isX K rfl) (by rfl) T.isinstance (by decide +kernel) (pa_cons (pv 0) (pa_cons (pe_glob (v := .ref (C 31)) rfl d31.g rfl) pa_nil))) (pa_cons (pe_callB (call_isX K rfl) (by rfl) T.isinstance (by decide +kernel) (pa_cons (pv 0) (pa_cons (pe_glob (v := .ref (C 32)) rfl d32.g rfl) pa_nil))) pa_nil))))))
    (pss_cons (ps_set (i := 2) sc_kind.nd rfl (Or.inl rfl) (pe_lst (pa_cons (pe_callB (call_isX K rfl) (by rfl) T.isinstance (by decide +kernel) (pa_cons (pv 0) (pa_cons (pe_glob (v := .ref Sh) rfl E.gSh rfl) pa_nil))) (pa_cons (pe_callB (call_isX K rfl) (by rfl) T.isinstance (by decide +kernel) (pa_cons (pv 0) (pa_cons (pe_glob (v := .ref St) rfl E.gSt rfl) pa_nil))) (pa_cons (pe_callB (call_isX K rfl) (by rfl) T.isinstance (by decide +kernel) (pa_cons (pv 0) (pa_cons (pe_glob (v := .ref Sz) rfl E.gSz rfl) pa_nil))) pa_nil)))))
    (pss_cons (ps_set (i := 3) sc_kind.nd rfl (Or.inl rfl) (pe_lst (pa_cons (pe_callB (call_isX K rfl) (by rfl) T.isinstance (by decide +kernel) (pa_cons (pv 0) (pa_cons (pe_bltn (v := .ty "ValueError") (by rfl) E.nVE (by decide +kernel) rfl) pa_nil))) (pa_cons (pe_callB (call_isX K rfl) (by rfl) T.isinstance (by decide +kernel) (pa_cons (pv 0) (pa_cons (pe_bltn (v := .ty "LookupError") (by rfl) E.nLE (by decide +kernel) rfl) pa_nil))) (pa_cons (pe_callB (call_isX K rfl) (by rfl) T.isinstance (by decide +kernel) (pa_cons (pv 0) (pa_cons (pe_bltn (v := .ty "ArithmeticError") (by rfl) E.nAE (by decide +kernel) rfl) pa_nil))) pa_nil)))))
    (pss_cons (ps_if (pt_cmpR op_ne (pe_bm PySem.F.plainAttrs_list PySem.F.slot_list_count PySem.F.type_list_count (mt_countB K rfl) (pv 1) (pa_cons pe_bl pa_nil)) pe_int (nomark _))
      (pss_one (ps_ret pe_str))
      pss_nil)
    (pss_cons (ps_set (i := 4) sc_kind.nd rfl (Or.inl rfl) (pe_bm PySem.F.plainAttrs_list PySem.F.slot_list_index PySem.F.type_list_index mt_index (pv 1) (pa_cons pe_bl pa_nil)))
    (pss_cons (ps_if (PW.pt (pw_or (pt_cmpR (op_neK K rfl hr.units) (pv 2) (pe_lst (pa_cons (pe_cmpR op_lt (pv 4) pe_int (nomark _)) (pa_cons (pe_chain op_lt op_lt pe_int (pv 4) pe_int) (pa_cons (pe_cmpR op_gt (pv 4) pe_int (nomark _)) pa_nil)))) (nomark _)) (pw_or1 (pt_cmpR (op_neK K rfl hr.units) (pv 3) (pv 2) (nomark _)))))
      (pss_one (ps_ret pe_str))
      pss_nil)
    (pss_cons (ps_set (i := 5) sc_kind.nd rfl (Or.inl rfl) pe_str)
    (pss_cons (ps_set (i := 5) sc_kind.nd rfl (Or.inl rfl) (pe_op op_add_str (pv 5) pe_str))
    (pss_cons (ps_set (i := 5) sc_kind.nd rfl (Or.inl rfl) (pe_op op_add_str (pv 5) pe_str))
    (pss_one (ps_ret (pe_ix (ix_listK K rfl) (pe_split (pv 5) pe_str) (pv 4) (fun _ _ => rfl))))))))))))))))))))))), ?_⟩
  have di := E.d i hi
  have S0 := Same.refl H
  have hc := he
  refine ⟨_, rfl, a, C i, _, _, _, _, _, _, _, _, rfl, hc, di.er, .own _, E.kit i 0 hi (by decide), ?_⟩
  refine ⟨_, rfl, a, C i, _, _, _, _, _, _, _, _, rfl, hc, di.er, .own _, E.kit i 1 hi (by decide), ?_⟩
  refine ⟨_, rfl, a, C i, _, _, _, _, _, _, _, _, rfl, hc, di.er, .own _, E.kit i 2 hi (by decide), ?_⟩
  refine ⟨(by show 3 ≤ sizeLine; decide), fun l0 hl0 => ?_⟩
  have w1 := same_new hl0 (.lst [V.bl (eqb i 0), V.bl (eqb i 1), V.bl (eqb i 2)])
  have y1 : (upd H l0 (.lst [V.bl (eqb i 0), V.bl (eqb i 1), V.bl (eqb i 2)])) l0 = some (.lst [V.bl (eqb i 0), V.bl (eqb i 1), V.bl (eqb i 2)]) := upd_same
  generalize hG1 : upd H l0 (.lst [V.bl (eqb i 0), V.bl (eqb i 1), V.bl (eqb i 2)]) = G1 at w1 y1
  have S1 := S0.trans w1
  have hc := he.same S1
  refine ⟨_, (at_s rfl), ?_⟩
  refine ⟨_, (at_n rfl rfl), a, C i, _, _, _, _, _, _, _, _, rfl, hc, di.er, .own _, E.kit i 3 hi (by decide), ?_⟩
  refine ⟨_, (at_n rfl rfl), a, C i, _, _, _, _, _, _, _, _, rfl, hc, di.er, .own _, E.kit i 4 hi (by decide), ?_⟩
  refine ⟨_, (at_n rfl rfl), a, C i, _, _, _, _, _, _, _, _, rfl, hc, di.er, .own _, E.kit i 5 hi (by decide), ?_⟩
  refine ⟨(by show 3 ≤ sizeLine; decide), fun l1 hl1 => ?_⟩
  have w2 := same_new hl1 (.lst [V.bl (eqb i 3), V.bl (eqb i 4), V.bl (eqb i 5)])
  have y2 : (upd G1 l1 (.lst [V.bl (eqb i 3), V.bl (eqb i 4), V.bl (eqb i 5)])) l1 = some (.lst [V.bl (eqb i 3), V.bl (eqb i 4), V.bl (eqb i 5)]) := upd_same
  generalize hG2 : upd G1 l1 (.lst [V.bl (eqb i 3), V.bl (eqb i 4), V.bl (eqb i 5)]) = G2 at w2 y2
  have S2 := S1.trans w2
  have hc := he.same S2
  have b1 := w2 _ _ y1
  refine ⟨l0, l1, _, _, rfl, rfl, b1, y2, (by show 6 ≤ sizeLine; decide), fun m1 hm1 => ?_⟩
  have w3 := same_new hm1 (.lst [V.bl (eqb i 0), V.bl (eqb i 1), V.bl (eqb i 2), V.bl (eqb i 3), V.bl (eqb i 4), V.bl (eqb i 5)])
  have y3 : (upd G2 m1 (.lst [V.bl (eqb i 0), V.bl (eqb i 1), V.bl (eqb i 2), V.bl (eqb i 3), V.bl (eqb i 4), V.bl (eqb i 5)])) m1 = some (.lst [V.bl (eqb i 0), V.bl (eqb i 1), V.bl (eqb i 2), V.bl (eqb i 3), V.bl (eqb i 4), V.bl (eqb i 5)]) := upd_same
  generalize hG3 : upd G2 m1 (.lst [V.bl (eqb i 0), V.bl (eqb i 1), V.bl (eqb i 2), V.bl (eqb i 3), V.bl (eqb i 4), V.bl (eqb i 5)]) = G3 at w3 y3
  rw [show upd G2 m1 (.lst ([V.bl (eqb i 0), V.bl (eqb i 1), V.bl (eqb i 2)] ++ [V.bl (eqb i 3), V.bl (eqb i 4), V.bl (eqb i 5)])) = G3 from hG3]
  have S3 := S2.trans w3
  have hc := he.same S3
  refine ⟨_, (at_s (at_s rfl)), ?_⟩
  refine ⟨_, (at_n rfl (at_n rfl rfl)), a, C i, _, _, _, _, _, _, _, _, rfl, hc, di.er, .own _, E.kit i 6 hi (by decide), ?_⟩
  refine ⟨_, (at_n rfl (at_n rfl rfl)), a, C i, _, _, _, _, _, _, _, _, rfl, hc, di.er, .own _, E.kit i 7 hi (by decide), ?_⟩
  refine ⟨_, (at_n rfl (at_n rfl rfl)), a, C i, _, _, _, _, _, _, _, _, rfl, hc, di.er, .own _, E.kit i 8 hi (by decide), ?_⟩
  refine ⟨(by show 3 ≤ sizeLine; decide), fun l2 hl2 => ?_⟩
  have w4 := same_new hl2 (.lst [V.bl (eqb i 6), V.bl (eqb i 7), V.bl (eqb i 8)])
  have y4 : (upd G3 l2 (.lst [V.bl (eqb i 6), V.bl (eqb i 7), V.bl (eqb i 8)])) l2 = some (.lst [V.bl (eqb i 6), V.bl (eqb i 7), V.bl (eqb i 8)]) := upd_same
  generalize hG4 : upd G3 l2 (.lst [V.bl (eqb i 6), V.bl (eqb i 7), V.bl (eqb i 8)]) = G4 at w4 y4
  have S4 := S3.trans w4
  have hc := he.same S4
  have b2 := w4 _ _ y3
  refine ⟨m1, l2, _, _, rfl, rfl, b2, y4, (by show 9 ≤ sizeLine; decide), fun m2 hm2 => ?_⟩
  have w5 := same_new hm2 (.lst [V.bl (eqb i 0), V.bl (eqb i 1), V.bl (eqb i 2), V.bl (eqb i 3), V.bl (eqb i 4), V.bl (eqb i 5), V.bl (eqb i 6), V.bl (eqb i 7), V.bl (eqb i 8)])
  have y5 : (upd G4 m2 (.lst [V.bl (eqb i 0), V.bl (eqb i 1), V.bl (eqb i 2), V.bl (eqb i 3), V.bl (eqb i 4), V.bl (eqb i 5), V.bl (eqb i 6), V.bl (eqb i 7), V.bl (eqb i 8)])) m2 = some (.lst [V.bl (eqb i 0), V.bl (eqb i 1), V.bl (eqb i 2), V.bl (eqb i 3), V.bl (eqb i 4), V.bl (eqb i 5), V.bl (eqb i 6), V.bl (eqb i 7), V.bl (eqb i 8)]) := upd_same
  generalize hG5 : upd G4 m2 (.lst [V.bl (eqb i 0), V.bl (eqb i 1), V.bl (eqb i 2), V.bl (eqb i 3), V.bl (eqb i 4), V.bl (eqb i 5), V.bl (eqb i 6), V.bl (eqb i 7), V.bl (eqb i 8)]) = G5 at w5 y5
  rw [show upd G4 m2 (.lst ([V.bl (eqb i 0), V.bl (eqb i 1), V.bl (eqb i 2), V.bl (eqb i 3), V.bl (eqb i 4), V.bl (eqb i 5)] ++ [V.bl (eqb i 6), V.bl (eqb i 7), V.bl (eqb i 8)])) = G5 from hG5]
  have S5 := S4.trans w5
  have hc := he.same S5
  refine ⟨_, (at_s (at_s (at_s rfl))), ?_⟩
  refine ⟨_, (at_n rfl (at_n rfl (at_n rfl rfl))), a, C i, _, _, _, _, _, _, _, _, rfl, hc, di.er, .own _, E.kit i 9 hi (by decide), ?_⟩
  refine ⟨_, (at_n rfl (at_n rfl (at_n rfl rfl))), a, C i, _, _, _, _, _, _, _, _, rfl, hc, di.er, .own _, E.kit i 10 hi (by decide), ?_⟩
  refine ⟨_, (at_n rfl (at_n rfl (at_n rfl rfl))), a, C i, _, _, _, _, _, _, _, _, rfl, hc, di.er, .own _, E.kit i 11 hi (by decide), ?_⟩
  refine ⟨(by show 3 ≤ sizeLine; decide), fun l3 hl3 => ?_⟩
  have w6 := same_new hl3 (.lst [V.bl (eqb i 9), V.bl (eqb i 10), V.bl (eqb i 11)])
  have y6 : (upd G5 l3 (.lst [V.bl (eqb i 9), V.bl (eqb i 10), V.bl (eqb i 11)])) l3 = some (.lst [V.bl (eqb i 9), V.bl (eqb i 10), V.bl (eqb i 11)]) := upd_same
  generalize hG6 : upd G5 l3 (.lst [V.bl (eqb i 9), V.bl (eqb i 10), V.bl (eqb i 11)]) = G6 at w6 y6
  have S6 := S5.trans w6
  have hc := he.same S6
  have b3 := w6 _ _ y5
  refine ⟨m2, l3, _, _, rfl, rfl, b3, y6, (by show 12 ≤ sizeLine; decide), fun m3 hm3 => ?_⟩
  have w7 := same_new hm3 (.lst [V.bl (eqb i 0), V.bl (eqb i 1), V.bl (eqb i 2), V.bl (eqb i 3), V.bl (eqb i 4), V.bl (eqb i 5), V.bl (eqb i 6), V.bl (eqb i 7), V.bl (eqb i 8), V.bl (eqb i 9), V.bl (eqb i 10), V.bl (eqb i 11)])
  have y7 : (upd G6 m3 (.lst [V.bl (eqb i 0), V.bl (eqb i 1), V.bl (eqb i 2), V.bl (eqb i 3), V.bl (eqb i 4), V.bl (eqb i 5), V.bl (eqb i 6), V.bl (eqb i 7), V.bl (eqb i 8), V.bl (eqb i 9), V.bl (eqb i 10), V.bl (eqb i 11)])) m3 = some (.lst [V.bl (eqb i 0), V.bl (eqb i 1), V.bl (eqb i 2), V.bl (eqb i 3), V.bl (eqb i 4), V.bl (eqb i 5), V.bl (eqb i 6), V.bl (eqb i 7), V.bl (eqb i 8), V.bl (eqb i 9), V.bl (eqb i 10), V.bl (eqb i 11)]) := upd_same
  generalize hG7 : upd G6 m3 (.lst [V.bl (eqb i 0), V.bl (eqb i 1), V.bl (eqb i 2), V.bl (eqb i 3), V.bl (eqb i 4), V.bl (eqb i 5), V.bl (eqb i 6), V.bl (eqb i 7), V.bl (eqb i 8), V.bl (eqb i 9), V.bl (eqb i 10), V.bl (eqb i 11)]) = G7 at w7 y7
  rw [show upd G6 m3 (.lst ([V.bl (eqb i 0), V.bl (eqb i 1), V.bl (eqb i 2), V.bl (eqb i 3), V.bl (eqb i 4), V.bl (eqb i 5), V.bl (eqb i 6), V.bl (eqb i 7), V.bl (eqb i 8)] ++ [V.bl (eqb i 9), V.bl (eqb i 10), V.bl (eqb i 11)])) = G7 from hG7]
  have S7 := S6.trans w7
  have hc := he.same S7
  refine ⟨_, (at_s (at_s (at_s (at_s rfl)))), ?_⟩
  refine ⟨_, (at_n rfl (at_n rfl (at_n rfl (at_n rfl rfl)))), a, C i, _, _, _, _, _, _, _, _, rfl, hc, di.er, .own _, E.kit i 12 hi (by decide), ?_⟩
  refine ⟨_, (at_n rfl (at_n rfl (at_n rfl (at_n rfl rfl)))), a, C i, _, _, _, _, _, _, _, _, rfl, hc, di.er, .own _, E.kit i 13 hi (by decide), ?_⟩
  refine ⟨_, (at_n rfl (at_n rfl (at_n rfl (at_n rfl rfl)))), a, C i, _, _, _, _, _, _, _, _, rfl, hc, di.er, .own _, E.kit i 14 hi (by decide), ?_⟩
  refine ⟨(by show 3 ≤ sizeLine; decide), fun l4 hl4 => ?_⟩
  have w8 := same_new hl4 (.lst [V.bl (eqb i 12), V.bl (eqb i 13), V.bl (eqb i 14)])
  have y8 : (upd G7 l4 (.lst [V.bl (eqb i 12), V.bl (eqb i 13), V.bl (eqb i 14)])) l4 = some (.lst [V.bl (eqb i 12), V.bl (eqb i 13), V.bl (eqb i 14)]) := upd_same
  generalize hG8 : upd G7 l4 (.lst [V.bl (eqb i 12), V.bl (eqb i 13), V.bl (eqb i 14)]) = G8 at w8 y8
  have S8 := S7.trans w8
  have hc := he.same S8
  have b4 := w8 _ _ y7
  refine ⟨m3, l4, _, _, rfl, rfl, b4, y8, (by show 15 ≤ sizeLine; decide), fun m4 hm4 => ?_⟩
  have w9 := same_new hm4 (.lst [V.bl (eqb i 0), V.bl (eqb i 1), V.bl (eqb i 2), V.bl (eqb i 3), V.bl (eqb i 4), V.bl (eqb i 5), V.bl (eqb i 6), V.bl (eqb i 7), V.bl (eqb i 8), V.bl (eqb i 9), V.bl (eqb i 10), V.bl (eqb i 11), V.bl (eqb i 12), V.bl (eqb i 13), V.bl (eqb i 14)])
  have y9 : (upd G8 m4 (.lst [V.bl (eqb i 0), V.bl (eqb i 1), V.bl (eqb i 2), V.bl (eqb i 3), V.bl (eqb i 4), V.bl (eqb i 5), V.bl (eqb i 6), V.bl (eqb i 7), V.bl (eqb i 8), V.bl (eqb i 9), V.bl (eqb i 10), V.bl (eqb i 11), V.bl (eqb i 12), V.bl (eqb i 13), V.bl (eqb i 14)])) m4 = some (.lst [V.bl (eqb i 0), V.bl (eqb i 1), V.bl (eqb i 2), V.bl (eqb i 3), V.bl (eqb i 4), V.bl (eqb i 5), V.bl (eqb i 6), V.bl (eqb i 7), V.bl (eqb i 8), V.bl (eqb i 9), V.bl (eqb i 10), V.bl (eqb i 11), V.bl (eqb i 12), V.bl (eqb i 13), V.bl (eqb i 14)]) := upd_same
  generalize hG9 : upd G8 m4 (.lst [V.bl (eqb i 0), V.bl (eqb i 1), V.bl (eqb i 2), V.bl (eqb i 3), V.bl (eqb i 4), V.bl (eqb i 5), V.bl (eqb i 6), V.bl (eqb i 7), V.bl (eqb i 8), V.bl (eqb i 9), V.bl (eqb i 10), V.bl (eqb i 11), V.bl (eqb i 12), V.bl (eqb i 13), V.bl (eqb i 14)]) = G9 at w9 y9
  rw [show upd G8 m4 (.lst ([V.bl (eqb i 0), V.bl (eqb i 1), V.bl (eqb i 2), V.bl (eqb i 3), V.bl (eqb i 4), V.bl (eqb i 5), V.bl (eqb i 6), V.bl (eqb i 7), V.bl (eqb i 8), V.bl (eqb i 9), V.bl (eqb i 10), V.bl (eqb i 11)] ++ [V.bl (eqb i 12), V.bl (eqb i 13), V.bl (eqb i 14)])) = G9 from hG9]
  have S9 := S8.trans w9
  have hc := he.same S9
  refine ⟨_, (at_s (at_s (at_s (at_s (at_s rfl))))), ?_⟩
  refine ⟨_, (at_n rfl (at_n rfl (at_n rfl (at_n rfl (at_n rfl rfl))))), a, C i, _, _, _, _, _, _, _, _, rfl, hc, di.er, .own _, E.kit i 15 hi (by decide), ?_⟩
  refine ⟨_, (at_n rfl (at_n rfl (at_n rfl (at_n rfl (at_n rfl rfl))))), a, C i, _, _, _, _, _, _, _, _, rfl, hc, di.er, .own _, E.kit i 16 hi (by decide), ?_⟩
  refine ⟨_, (at_n rfl (at_n rfl (at_n rfl (at_n rfl (at_n rfl rfl))))), a, C i, _, _, _, _, _, _, _, _, rfl, hc, di.er, .own _, E.kit i 17 hi (by decide), ?_⟩
  refine ⟨(by show 3 ≤ sizeLine; decide), fun l5 hl5 => ?_⟩
  have w10 := same_new hl5 (.lst [V.bl (eqb i 15), V.bl (eqb i 16), V.bl (eqb i 17)])
  have y10 : (upd G9 l5 (.lst [V.bl (eqb i 15), V.bl (eqb i 16), V.bl (eqb i 17)])) l5 = some (.lst [V.bl (eqb i 15), V.bl (eqb i 16), V.bl (eqb i 17)]) := upd_same
  generalize hG10 : upd G9 l5 (.lst [V.bl (eqb i 15), V.bl (eqb i 16), V.bl (eqb i 17)]) = G10 at w10 y10
  have S10 := S9.trans w10
  have hc := he.same S10
  have b5 := w10 _ _ y9
  refine ⟨m4, l5, _, _, rfl, rfl, b5, y10, (by show 18 ≤ sizeLine; decide), fun m5 hm5 => ?_⟩
  have w11 := same_new hm5 (.lst [V.bl (eqb i 0), V.bl (eqb i 1), V.bl (eqb i 2), V.bl (eqb i 3), V.bl (eqb i 4), V.bl (eqb i 5), V.bl (eqb i 6), V.bl (eqb i 7), V.bl (eqb i 8), V.bl (eqb i 9), V.bl (eqb i 10), V.bl (eqb i 11), V.bl (eqb i 12), V.bl (eqb i 13), V.bl (eqb i 14), V.bl (eqb i 15), V.bl (eqb i 16), V.bl (eqb i 17)])
  have y11 : (upd G10 m5 (.lst [V.bl (eqb i 0), V.bl (eqb i 1), V.bl (eqb i 2), V.bl (eqb i 3), V.bl (eqb i 4), V.bl (eqb i 5), V.bl (eqb i 6), V.bl (eqb i 7), V.bl (eqb i 8), V.bl (eqb i 9), V.bl (eqb i 10), V.bl (eqb i 11), V.bl (eqb i 12), V.bl (eqb i 13), V.bl (eqb i 14), V.bl (eqb i 15), V.bl (eqb i 16), V.bl (eqb i 17)])) m5 = some (.lst [V.bl (eqb i 0), V.bl (eqb i 1), V.bl (eqb i 2), V.bl (eqb i 3), V.bl (eqb i 4), V.bl (eqb i 5), V.bl (eqb i 6), V.bl (eqb i 7), V.bl (eqb i 8), V.bl (eqb i 9), V.bl (eqb i 10), V.bl (eqb i 11), V.bl (eqb i 12), V.bl (eqb i 13), V.bl (eqb i 14), V.bl (eqb i 15), V.bl (eqb i 16), V.bl (eqb i 17)]) := upd_same
  generalize hG11 : upd G10 m5 (.lst [V.bl (eqb i 0), V.bl (eqb i 1), V.bl (eqb i 2), V.bl (eqb i 3), V.bl (eqb i 4), V.bl (eqb i 5), V.bl (eqb i 6), V.bl (eqb i 7), V.bl (eqb i 8), V.bl (eqb i 9), V.bl (eqb i 10), V.bl (eqb i 11), V.bl (eqb i 12), V.bl (eqb i 13), V.bl (eqb i 14), V.bl (eqb i 15), V.bl (eqb i 16), V.bl (eqb i 17)]) = G11 at w11 y11
  rw [show upd G10 m5 (.lst ([V.bl (eqb i 0), V.bl (eqb i 1), V.bl (eqb i 2), V.bl (eqb i 3), V.bl (eqb i 4), V.bl (eqb i 5), V.bl (eqb i 6), V.bl (eqb i 7), V.bl (eqb i 8), V.bl (eqb i 9), V.bl (eqb i 10), V.bl (eqb i 11), V.bl (eqb i 12), V.bl (eqb i 13), V.bl (eqb i 14)] ++ [V.bl (eqb i 15), V.bl (eqb i 16), V.bl (eqb i 17)])) = G11 from hG11]
  have S11 := S10.trans w11
  have hc := he.same S11
  refine ⟨_, (at_s (at_s (at_s (at_s (at_s (at_s rfl)))))), ?_⟩
  refine ⟨_, (at_n rfl (at_n rfl (at_n rfl (at_n rfl (at_n rfl (at_n rfl rfl)))))), a, C i, _, _, _, _, _, _, _, _, rfl, hc, di.er, .own _, E.kit i 18 hi (by decide), ?_⟩
  refine ⟨_, (at_n rfl (at_n rfl (at_n rfl (at_n rfl (at_n rfl (at_n rfl rfl)))))), a, C i, _, _, _, _, _, _, _, _, rfl, hc, di.er, .own _, E.kit i 19 hi (by decide), ?_⟩
  refine ⟨_, (at_n rfl (at_n rfl (at_n rfl (at_n rfl (at_n rfl (at_n rfl rfl)))))), a, C i, _, _, _, _, _, _, _, _, rfl, hc, di.er, .own _, E.kit i 20 hi (by decide), ?_⟩
  refine ⟨(by show 3 ≤ sizeLine; decide), fun l6 hl6 => ?_⟩
  have w12 := same_new hl6 (.lst [V.bl (eqb i 18), V.bl (eqb i 19), V.bl (eqb i 20)])
  have y12 : (upd G11 l6 (.lst [V.bl (eqb i 18), V.bl (eqb i 19), V.bl (eqb i 20)])) l6 = some (.lst [V.bl (eqb i 18), V.bl (eqb i 19), V.bl (eqb i 20)]) := upd_same
  generalize hG12 : upd G11 l6 (.lst [V.bl (eqb i 18), V.bl (eqb i 19), V.bl (eqb i 20)]) = G12 at w12 y12
  have S12 := S11.trans w12
  have hc := he.same S12
  have b6 := w12 _ _ y11
  refine ⟨m5, l6, _, _, rfl, rfl, b6, y12, (by show 21 ≤ sizeLine; decide), fun m6 hm6 => ?_⟩
  have w13 := same_new hm6 (.lst [V.bl (eqb i 0), V.bl (eqb i 1), V.bl (eqb i 2), V.bl (eqb i 3), V.bl (eqb i 4), V.bl (eqb i 5), V.bl (eqb i 6), V.bl (eqb i 7), V.bl (eqb i 8), V.bl (eqb i 9), V.bl (eqb i 10), V.bl (eqb i 11), V.bl (eqb i 12), V.bl (eqb i 13), V.bl (eqb i 14), V.bl (eqb i 15), V.bl (eqb i 16), V.bl (eqb i 17), V.bl (eqb i 18), V.bl (eqb i 19), V.bl (eqb i 20)])
  have y13 : (upd G12 m6 (.lst [V.bl (eqb i 0), V.bl (eqb i 1), V.bl (eqb i 2), V.bl (eqb i 3), V.bl (eqb i 4), V.bl (eqb i 5), V.bl (eqb i 6), V.bl (eqb i 7), V.bl (eqb i 8), V.bl (eqb i 9), V.bl (eqb i 10), V.bl (eqb i 11), V.bl (eqb i 12), V.bl (eqb i 13), V.bl (eqb i 14), V.bl (eqb i 15), V.bl (eqb i 16), V.bl (eqb i 17), V.bl (eqb i 18), V.bl (eqb i 19), V.bl (eqb i 20)])) m6 = some (.lst [V.bl (eqb i 0), V.bl (eqb i 1), V.bl (eqb i 2), V.bl (eqb i 3), V.bl (eqb i 4), V.bl (eqb i 5), V.bl (eqb i 6), V.bl (eqb i 7), V.bl (eqb i 8), V.bl (eqb i 9), V.bl (eqb i 10), V.bl (eqb i 11), V.bl (eqb i 12), V.bl (eqb i 13), V.bl (eqb i 14), V.bl (eqb i 15), V.bl (eqb i 16), V.bl (eqb i 17), V.bl (eqb i 18), V.bl (eqb i 19), V.bl (eqb i 20)]) := upd_same
  generalize hG13 : upd G12 m6 (.lst [V.bl (eqb i 0), V.bl (eqb i 1), V.bl (eqb i 2), V.bl (eqb i 3), V.bl (eqb i 4), V.bl (eqb i 5), V.bl (eqb i 6), V.bl (eqb i 7), V.bl (eqb i 8), V.bl (eqb i 9), V.bl (eqb i 10), V.bl (eqb i 11), V.bl (eqb i 12), V.bl (eqb i 13), V.bl (eqb i 14), V.bl (eqb i 15), V.bl (eqb i 16), V.bl (eqb i 17), V.bl (eqb i 18), V.bl (eqb i 19), V.bl (eqb i 20)]) = G13 at w13 y13
  rw [show upd G12 m6 (.lst ([V.bl (eqb i 0), V.bl (eqb i 1), V.bl (eqb i 2), V.bl (eqb i 3), V.bl (eqb i 4), V.bl (eqb i 5), V.bl (eqb i 6), V.bl (eqb i 7), V.bl (eqb i 8), V.bl (eqb i 9), V.bl (eqb i 10), V.bl (eqb i 11), V.bl (eqb i 12), V.bl (eqb i 13), V.bl (eqb i 14), V.bl (eqb i 15), V.bl (eqb i 16), V.bl (eqb i 17)] ++ [V.bl (eqb i 18), V.bl (eqb i 19), V.bl (eqb i 20)])) = G13 from hG13]
  have S13 := S12.trans w13
  have hc := he.same S13
  refine ⟨_, (at_s (at_s (at_s (at_s (at_s (at_s (at_s rfl))))))), ?_⟩
  refine ⟨_, (at_n rfl (at_n rfl (at_n rfl (at_n rfl (at_n rfl (at_n rfl (at_n rfl rfl))))))), a, C i, _, _, _, _, _, _, _, _, rfl, hc, di.er, .own _, E.kit i 21 hi (by decide), ?_⟩
  refine ⟨_, (at_n rfl (at_n rfl (at_n rfl (at_n rfl (at_n rfl (at_n rfl (at_n rfl rfl))))))), a, C i, _, _, _, _, _, _, _, _, rfl, hc, di.er, .own _, E.kit i 22 hi (by decide), ?_⟩
  refine ⟨_, (at_n rfl (at_n rfl (at_n rfl (at_n rfl (at_n rfl (at_n rfl (at_n rfl rfl))))))), a, C i, _, _, _, _, _, _, _, _, rfl, hc, di.er, .own _, E.kit i 23 hi (by decide), ?_⟩
  refine ⟨(by show 3 ≤ sizeLine; decide), fun l7 hl7 => ?_⟩
  have w14 := same_new hl7 (.lst [V.bl (eqb i 21), V.bl (eqb i 22), V.bl (eqb i 23)])
  have y14 : (upd G13 l7 (.lst [V.bl (eqb i 21), V.bl (eqb i 22), V.bl (eqb i 23)])) l7 = some (.lst [V.bl (eqb i 21), V.bl (eqb i 22), V.bl (eqb i 23)]) := upd_same
  generalize hG14 : upd G13 l7 (.lst [V.bl (eqb i 21), V.bl (eqb i 22), V.bl (eqb i 23)]) = G14 at w14 y14
  have S14 := S13.trans w14
  have hc := he.same S14
  have b7 := w14 _ _ y13
  refine ⟨m6, l7, _, _, rfl, rfl, b7, y14, (by show 24 ≤ sizeLine; decide), fun m7 hm7 => ?_⟩
  have w15 := same_new hm7 (.lst [V.bl (eqb i 0), V.bl (eqb i 1), V.bl (eqb i 2), V.bl (eqb i 3), V.bl (eqb i 4), V.bl (eqb i 5), V.bl (eqb i 6), V.bl (eqb i 7), V.bl (eqb i 8), V.bl (eqb i 9), V.bl (eqb i 10), V.bl (eqb i 11), V.bl (eqb i 12), V.bl (eqb i 13), V.bl (eqb i 14), V.bl (eqb i 15), V.bl (eqb i 16), V.bl (eqb i 17), V.bl (eqb i 18), V.bl (eqb i 19), V.bl (eqb i 20), V.bl (eqb i 21), V.bl (eqb i 22), V.bl (eqb i 23)])
  have y15 : (upd G14 m7 (.lst [V.bl (eqb i 0), V.bl (eqb i 1), V.bl (eqb i 2), V.bl (eqb i 3), V.bl (eqb i 4), V.bl (eqb i 5), V.bl (eqb i 6), V.bl (eqb i 7), V.bl (eqb i 8), V.bl (eqb i 9), V.bl (eqb i 10), V.bl (eqb i 11), V.bl (eqb i 12), V.bl (eqb i 13), V.bl (eqb i 14), V.bl (eqb i 15), V.bl (eqb i 16), V.bl (eqb i 17), V.bl (eqb i 18), V.bl (eqb i 19), V.bl (eqb i 20), V.bl (eqb i 21), V.bl (eqb i 22), V.bl (eqb i 23)])) m7 = some (.lst [V.bl (eqb i 0), V.bl (eqb i 1), V.bl (eqb i 2), V.bl (eqb i 3), V.bl (eqb i 4), V.bl (eqb i 5), V.bl (eqb i 6), V.bl (eqb i 7), V.bl (eqb i 8), V.bl (eqb i 9), V.bl (eqb i 10), V.bl (eqb i 11), V.bl (eqb i 12), V.bl (eqb i 13), V.bl (eqb i 14), V.bl (eqb i 15), V.bl (eqb i 16), V.bl (eqb i 17), V.bl (eqb i 18), V.bl (eqb i 19), V.bl (eqb i 20), V.bl (eqb i 21), V.bl (eqb i 22), V.bl (eqb i 23)]) := upd_same
  generalize hG15 : upd G14 m7 (.lst [V.bl (eqb i 0), V.bl (eqb i 1), V.bl (eqb i 2), V.bl (eqb i 3), V.bl (eqb i 4), V.bl (eqb i 5), V.bl (eqb i 6), V.bl (eqb i 7), V.bl (eqb i 8), V.bl (eqb i 9), V.bl (eqb i 10), V.bl (eqb i 11), V.bl (eqb i 12), V.bl (eqb i 13), V.bl (eqb i 14), V.bl (eqb i 15), V.bl (eqb i 16), V.bl (eqb i 17), V.bl (eqb i 18), V.bl (eqb i 19), V.bl (eqb i 20), V.bl (eqb i 21), V.bl (eqb i 22), V.bl (eqb i 23)]) = G15 at w15 y15
  rw [show upd G14 m7 (.lst ([V.bl (eqb i 0), V.bl (eqb i 1), V.bl (eqb i 2), V.bl (eqb i 3), V.bl (eqb i 4), V.bl (eqb i 5), V.bl (eqb i 6), V.bl (eqb i 7), V.bl (eqb i 8), V.bl (eqb i 9), V.bl (eqb i 10), V.bl (eqb i 11), V.bl (eqb i 12), V.bl (eqb i 13), V.bl (eqb i 14), V.bl (eqb i 15), V.bl (eqb i 16), V.bl (eqb i 17), V.bl (eqb i 18), V.bl (eqb i 19), V.bl (eqb i 20)] ++ [V.bl (eqb i 21), V.bl (eqb i 22), V.bl (eqb i 23)])) = G15 from hG15]
  have S15 := S14.trans w15
  have hc := he.same S15
  refine ⟨_, (at_s (at_s (at_s (at_s (at_s (at_s (at_s (at_s rfl)))))))), ?_⟩
  refine ⟨_, (at_n rfl (at_n rfl (at_n rfl (at_n rfl (at_n rfl (at_n rfl (at_n rfl (at_n rfl rfl)))))))), a, C i, _, _, _, _, _, _, _, _, rfl, hc, di.er, .own _, E.kit i 24 hi (by decide), ?_⟩
  refine ⟨_, (at_n rfl (at_n rfl (at_n rfl (at_n rfl (at_n rfl (at_n rfl (at_n rfl (at_n rfl rfl)))))))), a, C i, _, _, _, _, _, _, _, _, rfl, hc, di.er, .own _, E.kit i 25 hi (by decide), ?_⟩
  refine ⟨_, (at_n rfl (at_n rfl (at_n rfl (at_n rfl (at_n rfl (at_n rfl (at_n rfl (at_n rfl rfl)))))))), a, C i, _, _, _, _, _, _, _, _, rfl, hc, di.er, .own _, E.kit i 26 hi (by decide), ?_⟩
  refine ⟨(by show 3 ≤ sizeLine; decide), fun l8 hl8 => ?_⟩
  have w16 := same_new hl8 (.lst [V.bl (eqb i 24), V.bl (eqb i 25), V.bl (eqb i 26)])
  have y16 : (upd G15 l8 (.lst [V.bl (eqb i 24), V.bl (eqb i 25), V.bl (eqb i 26)])) l8 = some (.lst [V.bl (eqb i 24), V.bl (eqb i 25), V.bl (eqb i 26)]) := upd_same
  generalize hG16 : upd G15 l8 (.lst [V.bl (eqb i 24), V.bl (eqb i 25), V.bl (eqb i 26)]) = G16 at w16 y16
  have S16 := S15.trans w16
  have hc := he.same S16
  have b8 := w16 _ _ y15
  refine ⟨m7, l8, _, _, rfl, rfl, b8, y16, (by show 27 ≤ sizeLine; decide), fun m8 hm8 => ?_⟩
  have w17 := same_new hm8 (.lst [V.bl (eqb i 0), V.bl (eqb i 1), V.bl (eqb i 2), V.bl (eqb i 3), V.bl (eqb i 4), V.bl (eqb i 5), V.bl (eqb i 6), V.bl (eqb i 7), V.bl (eqb i 8), V.bl (eqb i 9), V.bl (eqb i 10), V.bl (eqb i 11), V.bl (eqb i 12), V.bl (eqb i 13), V.bl (eqb i 14), V.bl (eqb i 15), V.bl (eqb i 16), V.bl (eqb i 17), V.bl (eqb i 18), V.bl (eqb i 19), V.bl (eqb i 20), V.bl (eqb i 21), V.bl (eqb i 22), V.bl (eqb i 23), V.bl (eqb i 24), V.bl (eqb i 25), V.bl (eqb i 26)])
  have y17 : (upd G16 m8 (.lst [V.bl (eqb i 0), V.bl (eqb i 1), V.bl (eqb i 2), V.bl (eqb i 3), V.bl (eqb i 4), V.bl (eqb i 5), V.bl (eqb i 6), V.bl (eqb i 7), V.bl (eqb i 8), V.bl (eqb i 9), V.bl (eqb i 10), V.bl (eqb i 11), V.bl (eqb i 12), V.bl (eqb i 13), V.bl (eqb i 14), V.bl (eqb i 15), V.bl (eqb i 16), V.bl (eqb i 17), V.bl (eqb i 18), V.bl (eqb i 19), V.bl (eqb i 20), V.bl (eqb i 21), V.bl (eqb i 22), V.bl (eqb i 23), V.bl (eqb i 24), V.bl (eqb i 25), V.bl (eqb i 26)])) m8 = some (.lst [V.bl (eqb i 0), V.bl (eqb i 1), V.bl (eqb i 2), V.bl (eqb i 3), V.bl (eqb i 4), V.bl (eqb i 5), V.bl (eqb i 6), V.bl (eqb i 7), V.bl (eqb i 8), V.bl (eqb i 9), V.bl (eqb i 10), V.bl (eqb i 11), V.bl (eqb i 12), V.bl (eqb i 13), V.bl (eqb i 14), V.bl (eqb i 15), V.bl (eqb i 16), V.bl (eqb i 17), V.bl (eqb i 18), V.bl (eqb i 19), V.bl (eqb i 20), V.bl (eqb i 21), V.bl (eqb i 22), V.bl (eqb i 23), V.bl (eqb i 24), V.bl (eqb i 25), V.bl (eqb i 26)]) := upd_same
  generalize hG17 : upd G16 m8 (.lst [V.bl (eqb i 0), V.bl (eqb i 1), V.bl (eqb i 2), V.bl (eqb i 3), V.bl (eqb i 4), V.bl (eqb i 5), V.bl (eqb i 6), V.bl (eqb i 7), V.bl (eqb i 8), V.bl (eqb i 9), V.bl (eqb i 10), V.bl (eqb i 11), V.bl (eqb i 12), V.bl (eqb i 13), V.bl (eqb i 14), V.bl (eqb i 15), V.bl (eqb i 16), V.bl (eqb i 17), V.bl (eqb i 18), V.bl (eqb i 19), V.bl (eqb i 20), V.bl (eqb i 21), V.bl (eqb i 22), V.bl (eqb i 23), V.bl (eqb i 24), V.bl (eqb i 25), V.bl (eqb i 26)]) = G17 at w17 y17
  rw [show upd G16 m8 (.lst ([V.bl (eqb i 0), V.bl (eqb i 1), V.bl (eqb i 2), V.bl (eqb i 3), V.bl (eqb i 4), V.bl (eqb i 5), V.bl (eqb i 6), V.bl (eqb i 7), V.bl (eqb i 8), V.bl (eqb i 9), V.bl (eqb i 10), V.bl (eqb i 11), V.bl (eqb i 12), V.bl (eqb i 13), V.bl (eqb i 14), V.bl (eqb i 15), V.bl (eqb i 16), V.bl (eqb i 17), V.bl (eqb i 18), V.bl (eqb i 19), V.bl (eqb i 20), V.bl (eqb i 21), V.bl (eqb i 22), V.bl (eqb i 23)] ++ [V.bl (eqb i 24), V.bl (eqb i 25), V.bl (eqb i 26)])) = G17 from hG17]
  have S17 := S16.trans w17
  have hc := he.same S17
  refine ⟨_, (at_s (at_s (at_s (at_s (at_s (at_s (at_s (at_s (at_s rfl))))))))), ?_⟩
  refine ⟨_, (at_n rfl (at_n rfl (at_n rfl (at_n rfl (at_n rfl (at_n rfl (at_n rfl (at_n rfl (at_n rfl rfl))))))))), a, C i, _, _, _, _, _, _, _, _, rfl, hc, di.er, .own _, E.kit i 27 hi (by decide), ?_⟩
  refine ⟨_, (at_n rfl (at_n rfl (at_n rfl (at_n rfl (at_n rfl (at_n rfl (at_n rfl (at_n rfl (at_n rfl rfl))))))))), a, C i, _, _, _, _, _, _, _, _, rfl, hc, di.er, .own _, E.kit i 28 hi (by decide), ?_⟩
  refine ⟨_, (at_n rfl (at_n rfl (at_n rfl (at_n rfl (at_n rfl (at_n rfl (at_n rfl (at_n rfl (at_n rfl rfl))))))))), a, C i, _, _, _, _, _, _, _, _, rfl, hc, di.er, .own _, E.kit i 29 hi (by decide), ?_⟩
  refine ⟨(by show 3 ≤ sizeLine; decide), fun l9 hl9 => ?_⟩
  have w18 := same_new hl9 (.lst [V.bl (eqb i 27), V.bl (eqb i 28), V.bl (eqb i 29)])
  have y18 : (upd G17 l9 (.lst [V.bl (eqb i 27), V.bl (eqb i 28), V.bl (eqb i 29)])) l9 = some (.lst [V.bl (eqb i 27), V.bl (eqb i 28), V.bl (eqb i 29)]) := upd_same
  generalize hG18 : upd G17 l9 (.lst [V.bl (eqb i 27), V.bl (eqb i 28), V.bl (eqb i 29)]) = G18 at w18 y18
  have S18 := S17.trans w18
  have hc := he.same S18
  have b9 := w18 _ _ y17
  refine ⟨m8, l9, _, _, rfl, rfl, b9, y18, (by show 30 ≤ sizeLine; decide), fun m9 hm9 => ?_⟩
  have w19 := same_new hm9 (.lst [V.bl (eqb i 0), V.bl (eqb i 1), V.bl (eqb i 2), V.bl (eqb i 3), V.bl (eqb i 4), V.bl (eqb i 5), V.bl (eqb i 6), V.bl (eqb i 7), V.bl (eqb i 8), V.bl (eqb i 9), V.bl (eqb i 10), V.bl (eqb i 11), V.bl (eqb i 12), V.bl (eqb i 13), V.bl (eqb i 14), V.bl (eqb i 15), V.bl (eqb i 16), V.bl (eqb i 17), V.bl (eqb i 18), V.bl (eqb i 19), V.bl (eqb i 20), V.bl (eqb i 21), V.bl (eqb i 22), V.bl (eqb i 23), V.bl (eqb i 24), V.bl (eqb i 25), V.bl (eqb i 26), V.bl (eqb i 27), V.bl (eqb i 28), V.bl (eqb i 29)])
  have y19 : (upd G18 m9 (.lst [V.bl (eqb i 0), V.bl (eqb i 1), V.bl (eqb i 2), V.bl (eqb i 3), V.bl (eqb i 4), V.bl (eqb i 5), V.bl (eqb i 6), V.bl (eqb i 7), V.bl (eqb i 8), V.bl (eqb i 9), V.bl (eqb i 10), V.bl (eqb i 11), V.bl (eqb i 12), V.bl (eqb i 13), V.bl (eqb i 14), V.bl (eqb i 15), V.bl (eqb i 16), V.bl (eqb i 17), V.bl (eqb i 18), V.bl (eqb i 19), V.bl (eqb i 20), V.bl (eqb i 21), V.bl (eqb i 22), V.bl (eqb i 23), V.bl (eqb i 24), V.bl (eqb i 25), V.bl (eqb i 26), V.bl (eqb i 27), V.bl (eqb i 28), V.bl (eqb i 29)])) m9 = some (.lst [V.bl (eqb i 0), V.bl (eqb i 1), V.bl (eqb i 2), V.bl (eqb i 3), V.bl (eqb i 4), V.bl (eqb i 5), V.bl (eqb i 6), V.bl (eqb i 7), V.bl (eqb i 8), V.bl (eqb i 9), V.bl (eqb i 10), V.bl (eqb i 11), V.bl (eqb i 12), V.bl (eqb i 13), V.bl (eqb i 14), V.bl (eqb i 15), V.bl (eqb i 16), V.bl (eqb i 17), V.bl (eqb i 18), V.bl (eqb i 19), V.bl (eqb i 20), V.bl (eqb i 21), V.bl (eqb i 22), V.bl (eqb i 23), V.bl (eqb i 24), V.bl (eqb i 25), V.bl (eqb i 26), V.bl (eqb i 27), V.bl (eqb i 28), V.bl (eqb i 29)]) := upd_same
  generalize hG19 : upd G18 m9 (.lst [V.bl (eqb i 0), V.bl (eqb i 1), V.bl (eqb i 2), V.bl (eqb i 3), V.bl (eqb i 4), V.bl (eqb i 5), V.bl (eqb i 6), V.bl (eqb i 7), V.bl (eqb i 8), V.bl (eqb i 9), V.bl (eqb i 10), V.bl (eqb i 11), V.bl (eqb i 12), V.bl (eqb i 13), V.bl (eqb i 14), V.bl (eqb i 15), V.bl (eqb i 16), V.bl (eqb i 17), V.bl (eqb i 18), V.bl (eqb i 19), V.bl (eqb i 20), V.bl (eqb i 21), V.bl (eqb i 22), V.bl (eqb i 23), V.bl (eqb i 24), V.bl (eqb i 25), V.bl (eqb i 26), V.bl (eqb i 27), V.bl (eqb i 28), V.bl (eqb i 29)]) = G19 at w19 y19
  rw [show upd G18 m9 (.lst ([V.bl (eqb i 0), V.bl (eqb i 1), V.bl (eqb i 2), V.bl (eqb i 3), V.bl (eqb i 4), V.bl (eqb i 5), V.bl (eqb i 6), V.bl (eqb i 7), V.bl (eqb i 8), V.bl (eqb i 9), V.bl (eqb i 10), V.bl (eqb i 11), V.bl (eqb i 12), V.bl (eqb i 13), V.bl (eqb i 14), V.bl (eqb i 15), V.bl (eqb i 16), V.bl (eqb i 17), V.bl (eqb i 18), V.bl (eqb i 19), V.bl (eqb i 20), V.bl (eqb i 21), V.bl (eqb i 22), V.bl (eqb i 23), V.bl (eqb i 24), V.bl (eqb i 25), V.bl (eqb i 26)] ++ [V.bl (eqb i 27), V.bl (eqb i 28), V.bl (eqb i 29)])) = G19 from hG19]
  have S19 := S18.trans w19
  have hc := he.same S19
  refine ⟨_, (at_s (at_s (at_s (at_s (at_s (at_s (at_s (at_s (at_s (at_s rfl)))))))))), ?_⟩
  refine ⟨_, (at_n rfl (at_n rfl (at_n rfl (at_n rfl (at_n rfl (at_n rfl (at_n rfl (at_n rfl (at_n rfl (at_n rfl rfl)))))))))), a, C i, _, _, _, _, _, _, _, _, rfl, hc, di.er, .own _, E.kit i 30 hi (by decide), ?_⟩
  refine ⟨_, (at_n rfl (at_n rfl (at_n rfl (at_n rfl (at_n rfl (at_n rfl (at_n rfl (at_n rfl (at_n rfl (at_n rfl rfl)))))))))), a, C i, _, _, _, _, _, _, _, _, rfl, hc, di.er, .own _, E.kit i 31 hi (by decide), ?_⟩
  refine ⟨_, (at_n rfl (at_n rfl (at_n rfl (at_n rfl (at_n rfl (at_n rfl (at_n rfl (at_n rfl (at_n rfl (at_n rfl rfl)))))))))), a, C i, _, _, _, _, _, _, _, _, rfl, hc, di.er, .own _, E.kit i 32 hi (by decide), ?_⟩
  refine ⟨(by show 3 ≤ sizeLine; decide), fun l10 hl10 => ?_⟩
  have w20 := same_new hl10 (.lst [V.bl (eqb i 30), V.bl (eqb i 31), V.bl (eqb i 32)])
  have y20 : (upd G19 l10 (.lst [V.bl (eqb i 30), V.bl (eqb i 31), V.bl (eqb i 32)])) l10 = some (.lst [V.bl (eqb i 30), V.bl (eqb i 31), V.bl (eqb i 32)]) := upd_same
  generalize hG20 : upd G19 l10 (.lst [V.bl (eqb i 30), V.bl (eqb i 31), V.bl (eqb i 32)]) = G20 at w20 y20
  have S20 := S19.trans w20
  have hc := he.same S20
  have b10 := w20 _ _ y19
  refine ⟨m9, l10, _, _, rfl, rfl, b10, y20, (by show 33 ≤ sizeLine; decide), fun m10 hm10 => ?_⟩
  have w21 := same_new hm10 (.lst [V.bl (eqb i 0), V.bl (eqb i 1), V.bl (eqb i 2), V.bl (eqb i 3), V.bl (eqb i 4), V.bl (eqb i 5), V.bl (eqb i 6), V.bl (eqb i 7), V.bl (eqb i 8), V.bl (eqb i 9), V.bl (eqb i 10), V.bl (eqb i 11), V.bl (eqb i 12), V.bl (eqb i 13), V.bl (eqb i 14), V.bl (eqb i 15), V.bl (eqb i 16), V.bl (eqb i 17), V.bl (eqb i 18), V.bl (eqb i 19), V.bl (eqb i 20), V.bl (eqb i 21), V.bl (eqb i 22), V.bl (eqb i 23), V.bl (eqb i 24), V.bl (eqb i 25), V.bl (eqb i 26), V.bl (eqb i 27), V.bl (eqb i 28), V.bl (eqb i 29), V.bl (eqb i 30), V.bl (eqb i 31), V.bl (eqb i 32)])
  have y21 : (upd G20 m10 (.lst [V.bl (eqb i 0), V.bl (eqb i 1), V.bl (eqb i 2), V.bl (eqb i 3), V.bl (eqb i 4), V.bl (eqb i 5), V.bl (eqb i 6), V.bl (eqb i 7), V.bl (eqb i 8), V.bl (eqb i 9), V.bl (eqb i 10), V.bl (eqb i 11), V.bl (eqb i 12), V.bl (eqb i 13), V.bl (eqb i 14), V.bl (eqb i 15), V.bl (eqb i 16), V.bl (eqb i 17), V.bl (eqb i 18), V.bl (eqb i 19), V.bl (eqb i 20), V.bl (eqb i 21), V.bl (eqb i 22), V.bl (eqb i 23), V.bl (eqb i 24), V.bl (eqb i 25), V.bl (eqb i 26), V.bl (eqb i 27), V.bl (eqb i 28), V.bl (eqb i 29), V.bl (eqb i 30), V.bl (eqb i 31), V.bl (eqb i 32)])) m10 = some (.lst [V.bl (eqb i 0), V.bl (eqb i 1), V.bl (eqb i 2), V.bl (eqb i 3), V.bl (eqb i 4), V.bl (eqb i 5), V.bl (eqb i 6), V.bl (eqb i 7), V.bl (eqb i 8), V.bl (eqb i 9), V.bl (eqb i 10), V.bl (eqb i 11), V.bl (eqb i 12), V.bl (eqb i 13), V.bl (eqb i 14), V.bl (eqb i 15), V.bl (eqb i 16), V.bl (eqb i 17), V.bl (eqb i 18), V.bl (eqb i 19), V.bl (eqb i 20), V.bl (eqb i 21), V.bl (eqb i 22), V.bl (eqb i 23), V.bl (eqb i 24), V.bl (eqb i 25), V.bl (eqb i 26), V.bl (eqb i 27), V.bl (eqb i 28), V.bl (eqb i 29), V.bl (eqb i 30), V.bl (eqb i 31), V.bl (eqb i 32)]) := upd_same
  generalize hG21 : upd G20 m10 (.lst [V.bl (eqb i 0), V.bl (eqb i 1), V.bl (eqb i 2), V.bl (eqb i 3), V.bl (eqb i 4), V.bl (eqb i 5), V.bl (eqb i 6), V.bl (eqb i 7), V.bl (eqb i 8), V.bl (eqb i 9), V.bl (eqb i 10), V.bl (eqb i 11), V.bl (eqb i 12), V.bl (eqb i 13), V.bl (eqb i 14), V.bl (eqb i 15), V.bl (eqb i 16), V.bl (eqb i 17), V.bl (eqb i 18), V.bl (eqb i 19), V.bl (eqb i 20), V.bl (eqb i 21), V.bl (eqb i 22), V.bl (eqb i 23), V.bl (eqb i 24), V.bl (eqb i 25), V.bl (eqb i 26), V.bl (eqb i 27), V.bl (eqb i 28), V.bl (eqb i 29), V.bl (eqb i 30), V.bl (eqb i 31), V.bl (eqb i 32)]) = G21 at w21 y21
  rw [show upd G20 m10 (.lst ([V.bl (eqb i 0), V.bl (eqb i 1), V.bl (eqb i 2), V.bl (eqb i 3), V.bl (eqb i 4), V.bl (eqb i 5), V.bl (eqb i 6), V.bl (eqb i 7), V.bl (eqb i 8), V.bl (eqb i 9), V.bl (eqb i 10), V.bl (eqb i 11), V.bl (eqb i 12), V.bl (eqb i 13), V.bl (eqb i 14), V.bl (eqb i 15), V.bl (eqb i 16), V.bl (eqb i 17), V.bl (eqb i 18), V.bl (eqb i 19), V.bl (eqb i 20), V.bl (eqb i 21), V.bl (eqb i 22), V.bl (eqb i 23), V.bl (eqb i 24), V.bl (eqb i 25), V.bl (eqb i 26), V.bl (eqb i 27), V.bl (eqb i 28), V.bl (eqb i 29)] ++ [V.bl (eqb i 30), V.bl (eqb i 31), V.bl (eqb i 32)])) = G21 from hG21]
  have S21 := S20.trans w21
  have hc := he.same S21
  refine ⟨_, (at_n rfl (at_n rfl (at_n rfl (at_n rfl (at_n rfl (at_n rfl (at_n rfl (at_n rfl (at_n rfl (at_n rfl (at_n rfl rfl))))))))))), a, C i, _, _, _, _, _, _, _, _, rfl, hc, di.er, .own _, E.kSh i hi, ?_⟩
  refine ⟨_, (at_n rfl (at_n rfl (at_n rfl (at_n rfl (at_n rfl (at_n rfl (at_n rfl (at_n rfl (at_n rfl (at_n rfl (at_n rfl rfl))))))))))), a, C i, _, _, _, _, _, _, _, _, rfl, hc, di.er, .own _, E.kSt i hi, ?_⟩
  refine ⟨_, (at_n rfl (at_n rfl (at_n rfl (at_n rfl (at_n rfl (at_n rfl (at_n rfl (at_n rfl (at_n rfl (at_n rfl (at_n rfl rfl))))))))))), a, C i, _, _, _, _, _, _, _, _, rfl, hc, di.er, .own _, E.kSz i hi, ?_⟩
  refine ⟨(by show 3 ≤ sizeLine; decide), fun bb hbb => ?_⟩
  have w22 := same_new hbb (.lst [V.bl (decide (i < 17)), V.bl (decide (16 < i) && decide (i < 27)), V.bl (decide (26 < i))])
  have y22 : (upd G21 bb (.lst [V.bl (decide (i < 17)), V.bl (decide (16 < i) && decide (i < 27)), V.bl (decide (26 < i))])) bb = some (.lst [V.bl (decide (i < 17)), V.bl (decide (16 < i) && decide (i < 27)), V.bl (decide (26 < i))]) := upd_same
  generalize hG22 : upd G21 bb (.lst [V.bl (decide (i < 17)), V.bl (decide (16 < i) && decide (i < 27)), V.bl (decide (26 < i))]) = G22 at w22 y22
  have S22 := S21.trans w22
  have hc := he.same S22
  refine ⟨_, (at_n rfl (at_n rfl (at_n rfl (at_n rfl (at_n rfl (at_n rfl (at_n rfl (at_n rfl (at_n rfl (at_n rfl (at_n rfl (at_n rfl rfl)))))))))))), a, C i, _, _, _, _, _, _, _, _, rfl, hc, di.er, .ty _, E.kVE i hi, ?_⟩
  refine ⟨_, (at_n rfl (at_n rfl (at_n rfl (at_n rfl (at_n rfl (at_n rfl (at_n rfl (at_n rfl (at_n rfl (at_n rfl (at_n rfl (at_n rfl rfl)))))))))))), a, C i, _, _, _, _, _, _, _, _, rfl, hc, di.er, .ty _, E.kLE i hi, ?_⟩
  refine ⟨_, (at_n rfl (at_n rfl (at_n rfl (at_n rfl (at_n rfl (at_n rfl (at_n rfl (at_n rfl (at_n rfl (at_n rfl (at_n rfl (at_n rfl rfl)))))))))))), a, C i, _, _, _, _, _, _, _, _, rfl, hc, di.er, .ty _, E.kAE i hi, ?_⟩
  refine ⟨(by show 3 ≤ sizeLine; decide), fun oo hoo => ?_⟩
  have w23 := same_new hoo (.lst [V.bl (decide (i < 17)), V.bl (decide (16 < i) && decide (i < 27)), V.bl (decide (26 < i))])
  have y23 : (upd G22 oo (.lst [V.bl (decide (i < 17)), V.bl (decide (16 < i) && decide (i < 27)), V.bl (decide (26 < i))])) oo = some (.lst [V.bl (decide (i < 17)), V.bl (decide (16 < i) && decide (i < 27)), V.bl (decide (26 < i))]) := upd_same
  generalize hG23 : upd G22 oo (.lst [V.bl (decide (i < 17)), V.bl (decide (16 < i) && decide (i < 27)), V.bl (decide (26 < i))]) = G23 at w23 y23
  have S23 := S22.trans w23
  have hc := he.same S23
  have kk := w23 _ _ (w22 _ _ y21)
  have kb := w23 _ _ y22
  clear hG1 hG2 hG3 hG4 hG5 hG6 hG7 hG8 hG9 hG10 hG11 hG12 hG13 hG14 hG15 hG16 hG17 hG18 hG19 hG20 hG21 hG22 hG23
  have kk2 : G23 m10 = some (.lst ((kbs i).map V.bl)) := kk
  refine ⟨_, (at_n rfl (at_n rfl (at_s (at_s (at_s (at_s (at_s (at_s (at_s (at_s (at_s (at_s (at_s rfl))))))))))))), .inl ⟨rfl, _, SqL.of kk2⟩, m10, kbs i, true, rfl, rfl, SqL.of kk2, rfl, _, rfl, if_ff (by rw [kbs_one i hi]; rfl) ?_⟩
  refine ⟨_, (at_n rfl (at_n rfl (at_s (at_s (at_s (at_s (at_s (at_s (at_s (at_s (at_s (at_s (at_s rfl))))))))))))), .inl ⟨rfl, _, SqL.of kk2⟩, m10, (kbs i).map V.bl, .bl true, i, .bl true, rfl, rfl, SqL.of kk2, rfl, bls_flat _, kbs_at i hi, rfl, kbs_no i hi, ?_⟩
  have e1 : decide ((i : Int) < 17) = decide (i < 17) := decide_eq_decide.mpr (by omega)
  have e3 : decide (26 < (i : Int)) = decide (26 < i) := decide_eq_decide.mpr (by omega)
  have fin : ∀ G, Same G23 G → Same H G := fun G t => S23.trans t
  clear S0 S1 S2 S3 S4 S5 S6 S7 S8 S9 S10 S11 S12 S13 S14 S15 S16 S17 S18 S19 S20 S21 S22 S23 w1 w2 w3 w4 w5 w6 w7 w8 w9 w10 w11 w12 w13 w14 w15 w16 w17 w18 w19 w20 w21 w22 w23
  refine ⟨_, (at_n rfl (at_n rfl (at_s (at_n rfl (at_n rfl (at_n rfl (at_n rfl (at_n rfl (at_n rfl (at_n rfl (at_n rfl (at_n rfl (at_n rfl (at_n rfl rfl)))))))))))))), _, (at_s (at_n rfl (at_n rfl (at_n rfl (at_n rfl (at_n rfl (at_n rfl (at_n rfl (at_n rfl (at_n rfl (at_n rfl (at_n rfl (at_n rfl (at_n rfl rfl)))))))))))))), _, _, rfl, rfl, _, (at_s (at_n rfl (at_n rfl (at_n rfl (at_n rfl (at_n rfl (at_n rfl (at_n rfl (at_n rfl (at_n rfl (at_n rfl (at_n rfl (at_n rfl (at_n rfl rfl)))))))))))))), _, _, rfl, rfl, _, rfl, ?_⟩
  by_cases h16 : 16 < i
  · have e2 : decide (16 < (i : Int)) = true := decide_eq_true (by omega)
    have e4 : decide ((i : Int) < 27) = (decide (16 < i) && decide (i < 27)) := by
      rw [decide_eq_true h16, Bool.true_and]
      exact decide_eq_decide.mpr (by omega)
    refine if_tt e2 ⟨_, _, rfl, rfl, _, (at_s (at_n rfl (at_n rfl (at_n rfl (at_n rfl (at_n rfl (at_n rfl (at_n rfl (at_n rfl (at_n rfl (at_n rfl (at_n rfl (at_n rfl (at_n rfl rfl)))))))))))))), _, _, rfl, rfl, (by show 3 ≤ sizeLine; decide), fun ll hll => ?_⟩
    have ee : PyData.list [.bool (decide ((i : Int) < 17)), .bool (decide ((i : Int) < 27)), .bool (decide (26 < (i : Int)))] = three i := by rw [e1, e4, e3]; rfl
    have wl := fun o => same_new hll o
    refine ⟨three i, _, .lst (SqL.of (wl _ _ _ kb)) (.cons (.bl _) (.cons (.bl _) (.cons (.bl _) .nil))), .lst (SqL.of upd_same) (.cons (.bl _) (.cons (.bl _) (.cons (.bl _) .nil))), three_ok i, rfl, _, rfl, if_ff (neq_of ee) ?_⟩
    refine ⟨_, (at_n rfl (at_s (at_n rfl (at_n rfl (at_n rfl (at_n rfl (at_n rfl (at_n rfl (at_n rfl (at_n rfl (at_n rfl (at_n rfl (at_n rfl (at_n rfl rfl)))))))))))))), _, (at_n rfl (at_n rfl (at_s (at_n rfl (at_n rfl (at_n rfl (at_n rfl (at_n rfl (at_n rfl (at_n rfl (at_n rfl (at_n rfl (at_n rfl (at_n rfl rfl)))))))))))))), three i, three i, .lst (SqL.of (wl _ _ _ y23)) (.cons (.bl _) (.cons (.bl _) (.cons (.bl _) .nil))), .lst (SqL.of (wl _ _ _ kb)) (.cons (.bl _) (.cons (.bl _) (.cons (.bl _) .nil))), three_ok i, three_ok i, _, rfl, if_ff (neq_of rfl) ?_⟩
    refine ⟨_, (at_s (at_n rfl (at_n rfl (at_n rfl (at_n rfl (at_n rfl (at_n rfl (at_n rfl (at_n rfl (at_n rfl (at_n rfl (at_n rfl (at_n rfl (at_n rfl (at_n rfl rfl))))))))))))))), _, _, rfl, rfl, len1, _, (at_s (at_s (at_n rfl (at_n rfl (at_n rfl (at_n rfl (at_n rfl (at_n rfl (at_n rfl (at_n rfl (at_n rfl (at_n rfl (at_n rfl (at_n rfl (at_n rfl (at_n rfl rfl)))))))))))))))), _, _, rfl, rfl, len2, ?_⟩
    refine ⟨_, (at_s (at_s (at_s (at_n rfl (at_n rfl (at_n rfl (at_n rfl (at_n rfl (at_n rfl (at_n rfl (at_n rfl (at_n rfl (at_n rfl (at_n rfl (at_n rfl (at_n rfl (at_n rfl rfl))))))))))))))))), ⟨_, rfl⟩, _, _, rfl, rfl, rfl, len3, fun p hp => ⟨_, (at_n rfl (at_n rfl (at_n rfl (at_s (at_n rfl (at_n rfl (at_n rfl (at_n rfl (at_n rfl (at_n rfl (at_n rfl (at_n rfl (at_n rfl (at_n rfl (at_n rfl (at_n rfl (at_n rfl rfl))))))))))))))))), p, _, (i : Int), _, rfl, rfl, SqL.of upd_same, word_at i hi, ?_⟩⟩
    exact q _ (fin _ ((wl _).trans (same_new hp _)))
  · have e2 : decide (16 < (i : Int)) = false := decide_eq_false (by omega)
    have e4 : false = (decide (16 < i) && decide (i < 27)) := by
      rw [decide_eq_false h16]
      rfl
    refine if_ff e2 ⟨_, (at_s (at_n rfl (at_n rfl (at_n rfl (at_n rfl (at_n rfl (at_n rfl (at_n rfl (at_n rfl (at_n rfl (at_n rfl (at_n rfl (at_n rfl (at_n rfl rfl)))))))))))))), _, _, rfl, rfl, (by show 3 ≤ sizeLine; decide), fun ll hll => ?_⟩
    have ee : PyData.list [.bool (decide ((i : Int) < 17)), .bool false, .bool (decide (26 < (i : Int)))] = three i := by
      unfold three
      rw [e1, e3, ← e4]
    have wl := fun o => same_new hll o
    refine ⟨three i, _, .lst (SqL.of (wl _ _ _ kb)) (.cons (.bl _) (.cons (.bl _) (.cons (.bl _) .nil))), .lst (SqL.of upd_same) (.cons (.bl _) (.cons (.bl _) (.cons (.bl _) .nil))), three_ok i, rfl, _, rfl, if_ff (neq_of ee) ?_⟩
    refine ⟨_, (at_n rfl (at_s (at_n rfl (at_n rfl (at_n rfl (at_n rfl (at_n rfl (at_n rfl (at_n rfl (at_n rfl (at_n rfl (at_n rfl (at_n rfl (at_n rfl rfl)))))))))))))), _, (at_n rfl (at_n rfl (at_s (at_n rfl (at_n rfl (at_n rfl (at_n rfl (at_n rfl (at_n rfl (at_n rfl (at_n rfl (at_n rfl (at_n rfl (at_n rfl rfl)))))))))))))), three i, three i, .lst (SqL.of (wl _ _ _ y23)) (.cons (.bl _) (.cons (.bl _) (.cons (.bl _) .nil))), .lst (SqL.of (wl _ _ _ kb)) (.cons (.bl _) (.cons (.bl _) (.cons (.bl _) .nil))), three_ok i, three_ok i, _, rfl, if_ff (neq_of rfl) ?_⟩
    refine ⟨_, (at_s (at_n rfl (at_n rfl (at_n rfl (at_n rfl (at_n rfl (at_n rfl (at_n rfl (at_n rfl (at_n rfl (at_n rfl (at_n rfl (at_n rfl (at_n rfl (at_n rfl rfl))))))))))))))), _, _, rfl, rfl, len1, _, (at_s (at_s (at_n rfl (at_n rfl (at_n rfl (at_n rfl (at_n rfl (at_n rfl (at_n rfl (at_n rfl (at_n rfl (at_n rfl (at_n rfl (at_n rfl (at_n rfl (at_n rfl rfl)))))))))))))))), _, _, rfl, rfl, len2, ?_⟩
    refine ⟨_, (at_s (at_s (at_s (at_n rfl (at_n rfl (at_n rfl (at_n rfl (at_n rfl (at_n rfl (at_n rfl (at_n rfl (at_n rfl (at_n rfl (at_n rfl (at_n rfl (at_n rfl (at_n rfl rfl))))))))))))))))), ⟨_, rfl⟩, _, _, rfl, rfl, rfl, len3, fun p hp => ⟨_, (at_n rfl (at_n rfl (at_n rfl (at_s (at_n rfl (at_n rfl (at_n rfl (at_n rfl (at_n rfl (at_n rfl (at_n rfl (at_n rfl (at_n rfl (at_n rfl (at_n rfl (at_n rfl (at_n rfl rfl))))))))))))))))), p, _, (i : Int), _, rfl, rfl, SqL.of upd_same, word_at i hi, ?_⟩⟩
    exact q _ (fin _ ((wl _).trans (same_new hp _)))
end
end KX

namespace KX
open PySem PySem.Spec L2 PyProof.Rows
def valsE (i : Nat) (m n : V) : List V := [m, n].take (fieldsE i).length
def isIn (i : Nat) (js : List Nat) : Bool := js.any (eqb i)
section
variable {base : Heap} {P : Program} {w : World} {K : PySem.W.Frag} {mg : Str → Option Value} {C fI : Nat → Addr} {fdd : Nat → FuncData} {Sh St Sz : Addr}
theorem kit_in (E : Errs P w K mg base C fI fdd Sh St Sz) {i : Nat} (hi : i < 33) : ∀ js : List Nat, (∀ j ∈ js, j < 33) → PySem.W.kitAny K (.ref (C i)) (js.map fun j => Value.ref (C j)) = some (isIn i js)
  | [], _ => rfl
  | j :: r, h => by
    have ih := kit_in E hi r fun k hk => h k (List.mem_cons_of_mem _ hk)
    refine kitAny_cons (E.kit i j hi (h j List.mem_cons_self)) (fun e => ?_) (fun e => ?_)
    · rw [ih]
      show some (isIn i r) = some (eqb i j || isIn i r)
      rw [e, Bool.false_or]
    · show (eqb i j || isIn i r) = true
      rw [e, Bool.true_or]
def own1 (f : Str) (js : List Nat) : Bool := (List.range 33).all fun i => !isIn i js || decide (fieldsE i = [f])
theorem own1_is {f : Str} {js : List Nat} (h : own1 f js = true) {i : Nat} (hi : i < 33) (hj : isIn i js = true) : fieldsE i = [f] := by
  have := List.all_eq_true.mp h i (List.mem_range.mpr hi)
  rw [hj] at this
  simpa using this
theorem fs_one {i : Nat} {f : Str} (h : fieldsE i = [f]) (m n : V) : fsE i m n = [(f, m)] ∧ valsE i m n = [m] := by
  unfold fsE valsE
  rw [h]
  exact ⟨rfl, rfl⟩
theorem fs_none {i : Nat} (h : fieldsE i = []) (m n : V) : fsE i m n = [] ∧ valsE i m n = [] := by
  unfold fsE valsE
  rw [h]
  exact ⟨rfl, rfl⟩
theorem fs_two {i : Nat} {f g : Str} (h : fieldsE i = [f, g]) (m n : V) : fsE i m n = [(g, n), (f, m)] ∧ valsE i m n = [m, n] := by
  unfold fsE valsE
  rw [h]
  exact ⟨rfl, rfl⟩
def spFd (C : Nat → Addr) (js : List Nat) : Sp := fun vs H Q _ => ∃ (a : Addr) (i : Nat) (m n : V), vs = [.ref a] ∧ i < 33 ∧ isIn i js = true ∧ ErrAt H a (C i) (fsE i m n) ∧ ∀ (H' : Hp) (l : Addr), Same H H' → H l = none → H' l = some (.lst (valsE i m n)) → Q (.ref l) H'
abbrev s_other : Stmt := top 71
abbrev N_other : List Str := ["_law_e"]
abbrev P_other : List Str := ["_law_e"]
theorem sc_other : FnScope N_other P_other (defScope s_other) := ⟨rfl, rfl, rfl, by decide +kernel, rfl, by decide +kernel, by decide +kernel⟩
theorem ok_other {f : Addr} {fd : FuncData} (F : Fun K "_law_other_fields" "_law_other_fields" s_other f fd) (T : Bl mg) (E : Errs P w K mg base C fI fdd Sh St Sz) : FnOk P w K mg base CX0 1 f fd P_other (spFd C [1, 4, 8, 12, 14, 16, 24, 25, 26]) := by
  refine F.ok sc_other (fun vs H Q E h => ?_) (fun cdv A outer s H vs Q EE hr h => ?_)
  · obtain ⟨a, i, m, n, rfl, _⟩ := h
    rfl
  obtain ⟨a, i, m, n, rfl, hi, hj, he, q⟩ := h
  have d1 := E.d 1 (by decide)
  have d4 := E.d 4 (by decide)
  have d8 := E.d 8 (by decide)
  have d12 := E.d 12 (by decide)
  have d14 := E.d 14 (by decide)
  have d16 := E.d 16 (by decide)
  have di := E.d i hi
  refine ⟨_, (pss_cons (ps_if (pt_val (pe_callB (call_isX K rfl) (by rfl) T.isinstance (by decide +kernel) (pa_cons (pv 0) (pa_cons (pe_glob (v := .ref (C 8)) rfl d8.g rfl) pa_nil))))
      (pss_one (ps_ret (pe_lst (pa_cons (pe_erF K rfl (pv 0)) (pa_cons (pe_erF K rfl (pv 0)) pa_nil)))))
      pss_nil)
    (pss_cons (ps_if (pt_val (pe_callB (call_isX K rfl) (by rfl) T.isinstance (by decide +kernel) (pa_cons (pv 0) (pa_cons (pe_glob (v := .ref (C 1)) rfl d1.g rfl) pa_nil))))
      (pss_one (ps_ret (pe_lst (pa_cons (pe_erF K rfl (pv 0)) pa_nil))))
      pss_nil)
    (pss_cons (ps_if (pt_val (pe_callB (call_isX K rfl) (by rfl) T.isinstance (by decide +kernel) (pa_cons (pv 0) (pa_cons (pe_glob (v := .ref (C 4)) rfl d4.g rfl) pa_nil))))
      (pss_one (ps_ret (pe_lst (pa_cons (pe_erF K rfl (pv 0)) pa_nil))))
      pss_nil)
    (pss_cons (ps_if (pt_val (pe_callB (call_isX K rfl) (by rfl) T.isinstance (by decide +kernel) (pa_cons (pv 0) (pa_cons (pe_glob (v := .ref (C 12)) rfl d12.g rfl) pa_nil))))
      (pss_one (ps_ret (pe_lst (pa_cons (pe_erF K rfl (pv 0)) pa_nil))))
      pss_nil)
    (pss_cons (ps_if (pt_val (pe_callB (call_isX K rfl) (by rfl) T.isinstance (by decide +kernel) (pa_cons (pv 0) (pa_cons (pe_glob (v := .ref (C 16)) rfl d16.g rfl) pa_nil))))
      (pss_one (ps_ret (pe_lst (pa_cons (pe_erF K rfl (pv 0)) pa_nil))))
      pss_nil)
    (pss_one (ps_ret (pe_ifExp (pt_val (pe_callB (call_isX K rfl) (by rfl) T.isinstance (by decide +kernel) (pa_cons (pv 0) (pa_cons (pe_glob (v := .ref (C 14)) rfl d14.g rfl) pa_nil)))) (pe_lst (pa_cons (pe_erF K rfl (pv 0)) pa_nil)) (pe_lst pa_nil))))))))), ?_⟩
  refine ⟨_, rfl, a, C i, _, _, _, _, _, _, _, _, rfl, he, di.er, .own _, E.kit i 8 hi (by decide), _, rfl, ?_⟩
  cases hb8 : eqb i 8
  rotate_left
  · obtain rfl : i = 8 := of_decide_eq_true hb8
    obtain ⟨e1, e2⟩ := fs_two (i := 8) (f := "position") (g := "reason") (by decide +kernel) m n
    refine if_tt rfl ⟨_, rfl, a, C 8, fsE 8 m n, m, _, _, _, _, rfl, he, di.er, di.no _ (by decide +kernel), (by rw [e1]; rfl), _, rfl, a, C 8, fsE 8 m n, n, _, _, _, _, rfl, he, di.er, di.no _ (by decide +kernel), (by rw [e1]; rfl), (by show 2 ≤ sizeLine; decide), fun l hl => ?_⟩
    exact q _ l (same_new hl _) hl (by rw [e2]; exact upd_same)
  refine if_ff rfl ?_
  refine ⟨_, rfl, a, C i, _, _, _, _, _, _, _, _, rfl, he, di.er, .own _, E.kit i 1 hi (by decide), _, rfl, ?_⟩
  cases hb1 : eqb i 1
  rotate_left
  · refine if_tt rfl ?_
    have hf : fieldsE i = [("written" : Str)] := own1_is (f := "written") (js := [1]) (by decide +kernel) hi (by show (eqb i 1 || false) = true; rw [hb1]; rfl)
    obtain ⟨e1, e2⟩ := fs_one (f := "written") hf m n
    have hn : PySem.W.findIn K (.ref (C i)) "written" = some none := di.no _ (by rw [hf]; exact List.mem_singleton.mpr rfl)
    refine ⟨_, rfl, a, C i, fsE i m n, m, _, _, _, _, rfl, he, di.er, hn, (by rw [e1]; rfl), (by show 1 ≤ sizeLine; decide), fun l hl => ?_⟩
    exact q _ l (same_new hl _) (hl) (by rw [e2]; exact upd_same)
  refine if_ff rfl ?_
  refine ⟨_, rfl, a, C i, _, _, _, _, _, _, _, _, rfl, he, di.er, .own _, E.kit i 4 hi (by decide), _, rfl, ?_⟩
  cases hb4 : eqb i 4
  rotate_left
  · refine if_tt rfl ?_
    have hf : fieldsE i = [("context" : Str)] := own1_is (f := "context") (js := [4]) (by decide +kernel) hi (by show (eqb i 4 || false) = true; rw [hb4]; rfl)
    obtain ⟨e1, e2⟩ := fs_one (f := "context") hf m n
    have hn : PySem.W.findIn K (.ref (C i)) "context" = some none := di.no _ (by rw [hf]; exact List.mem_singleton.mpr rfl)
    refine ⟨_, rfl, a, C i, fsE i m n, m, _, _, _, _, rfl, he, di.er, hn, (by rw [e1]; rfl), (by show 1 ≤ sizeLine; decide), fun l hl => ?_⟩
    exact q _ l (same_new hl _) (hl) (by rw [e2]; exact upd_same)
  refine if_ff rfl ?_
  refine ⟨_, rfl, a, C i, _, _, _, _, _, _, _, _, rfl, he, di.er, .own _, E.kit i 12 hi (by decide), _, rfl, ?_⟩
  cases hb12 : eqb i 12
  rotate_left
  · refine if_tt rfl ?_
    have hf : fieldsE i = [("size" : Str)] := own1_is (f := "size") (js := [12]) (by decide +kernel) hi (by show (eqb i 12 || false) = true; rw [hb12]; rfl)
    obtain ⟨e1, e2⟩ := fs_one (f := "size") hf m n
    have hn : PySem.W.findIn K (.ref (C i)) "size" = some none := di.no _ (by rw [hf]; exact List.mem_singleton.mpr rfl)
    refine ⟨_, rfl, a, C i, fsE i m n, m, _, _, _, _, rfl, he, di.er, hn, (by rw [e1]; rfl), (by show 1 ≤ sizeLine; decide), fun l hl => ?_⟩
    exact q _ l (same_new hl _) (hl) (by rw [e2]; exact upd_same)
  refine if_ff rfl ?_
  refine ⟨_, rfl, a, C i, _, _, _, _, _, _, _, _, rfl, he, di.er, .own _, E.kit i 16 hi (by decide), _, rfl, ?_⟩
  cases hb16 : eqb i 16
  rotate_left
  · refine if_tt rfl ?_
    have hf : fieldsE i = [("part" : Str)] := own1_is (f := "part") (js := [16]) (by decide +kernel) hi (by show (eqb i 16 || false) = true; rw [hb16]; rfl)
    obtain ⟨e1, e2⟩ := fs_one (f := "part") hf m n
    have hn : PySem.W.findIn K (.ref (C i)) "part" = some none := di.no _ (by rw [hf]; exact List.mem_singleton.mpr rfl)
    refine ⟨_, rfl, a, C i, fsE i m n, m, _, _, _, _, rfl, he, di.er, hn, (by rw [e1]; rfl), (by show 1 ≤ sizeLine; decide), fun l hl => ?_⟩
    exact q _ l (same_new hl _) (hl) (by rw [e2]; exact upd_same)
  refine if_ff rfl ?_
  refine ⟨_, rfl, a, C i, _, _, _, _, _, _, _, _, rfl, he, di.er, .own _, E.kit i 14 hi (by decide), _, rfl, ?_⟩
  cases hb14 : eqb i 14
  rotate_left
  · refine if_tt rfl ?_
    have hf : fieldsE i = [("command" : Str)] := own1_is (f := "command") (js := [14]) (by decide +kernel) hi (by show (eqb i 14 || false) = true; rw [hb14]; rfl)
    obtain ⟨e1, e2⟩ := fs_one (f := "command") hf m n
    have hn : PySem.W.findIn K (.ref (C i)) "command" = some none := di.no _ (by rw [hf]; exact List.mem_singleton.mpr rfl)
    refine ⟨_, rfl, a, C i, fsE i m n, m, _, _, _, _, rfl, he, di.er, hn, (by rw [e1]; rfl), (by show 1 ≤ sizeLine; decide), fun l hl => ?_⟩
    exact q _ l (same_new hl _) (hl) (by rw [e2]; exact upd_same)
  have hz : isIn i [24, 25, 26] = true := by
    have z := hj
    unfold isIn at z ⊢
    simp only [List.any_cons, List.any_nil, hb1, hb4, hb8, hb12, hb14, hb16, Bool.false_or, Bool.or_false] at z ⊢
    exact z
  have hf : fieldsE i = [] := by
    have := List.all_eq_true.mp (show ((List.range 33).all fun i => !isIn i [24, 25, 26] || decide (fieldsE i = [])) = true by decide +kernel) i (List.mem_range.mpr hi)
    rw [hz] at this
    simpa using this
  obtain ⟨e1, e2⟩ := fs_none hf m n
  refine if_ff rfl ⟨(by show 0 ≤ sizeLine; decide), fun l hl => ?_⟩
  exact q _ l (same_new hl _) hl (by rw [e2]; exact upd_same)
abbrev s_fields : Stmt := top 70
abbrev N_fields : List Str := ["_law_e"]
abbrev P_fields : List Str := ["_law_e"]
theorem sc_fields : FnScope N_fields P_fields (defScope s_fields) := ⟨rfl, rfl, rfl, by decide +kernel, rfl, by decide +kernel, by decide +kernel⟩
theorem ok_fields {f fo : Addr} {fd fdo : FuncData} (F : Fun K "_law_fields_of" "_law_fields_of" s_fields f fd) (T : Bl mg) (E : Errs P w K mg base C fI fdd Sh St Sz) (D_other_fields : Def P w K mg base "_law_other_fields" 1 P_other (spFd C [1, 4, 8, 12, 14, 16, 24, 25, 26]) fo fdo) : FnOk P w K mg base CX0 2 f fd P_fields (spFd C [0, 1, 2, 3, 4, 5, 6, 7, 8, 9, 10, 11, 12, 13, 14, 15, 16, 17, 18, 19, 20, 21, 22, 23, 24, 25, 26, 27, 28, 29, 30, 31, 32]) := by
  refine F.ok sc_fields (fun vs H Q E h => ?_) (fun cdv A outer s H vs Q EE hr h => ?_)
  · obtain ⟨a, i, m, n, rfl, _⟩ := h
    rfl
  obtain ⟨a, i, m, n, rfl, hi, hj, he, q⟩ := h
  have d0 := E.d 0 (by decide)
  have d2 := E.d 2 (by decide)
  have d3 := E.d 3 (by decide)
  have d5 := E.d 5 (by decide)
  have d6 := E.d 6 (by decide)
  have d7 := E.d 7 (by decide)
  have d9 := E.d 9 (by decide)
  have d10 := E.d 10 (by decide)
  have d11 := E.d 11 (by decide)
  have d13 := E.d 13 (by decide)
  have d15 := E.d 15 (by decide)
  have d17 := E.d 17 (by decide)
  have d18 := E.d 18 (by decide)
  have d19 := E.d 19 (by decide)
  have d20 := E.d 20 (by decide)
  have d21 := E.d 21 (by decide)
  have d22 := E.d 22 (by decide)
  have d23 := E.d 23 (by decide)
  have d27 := E.d 27 (by decide)
  have d28 := E.d 28 (by decide)
  have d29 := E.d 29 (by decide)
  have d30 := E.d 30 (by decide)
  have d31 := E.d 31 (by decide)
  have d32 := E.d 32 (by decide)
  have di := E.d i hi
  refine ⟨_, (pss_cons (ps_if (pt_val (pe_callB (call_isXT K rfl) (by rfl) T.isinstance (by decide +kernel) (pa_cons (pv 0) (pa_cons (pe_tup (pa_cons (pe_glob (v := .ref (C 0)) rfl d0.g rfl) (pa_cons (pe_glob (v := .ref (C 17)) rfl d17.g rfl) (pa_cons (pe_glob (v := .ref (C 18)) rfl d18.g rfl) (pa_cons (pe_glob (v := .ref (C 19)) rfl d19.g rfl) (pa_cons (pe_glob (v := .ref (C 20)) rfl d20.g rfl) (pa_cons (pe_glob (v := .ref (C 23)) rfl d23.g rfl) pa_nil))))))) pa_nil))))
      (pss_one (ps_ret (pe_lst (pa_cons (pe_erF K rfl (pv 0)) pa_nil))))
      pss_nil)
    (pss_cons (ps_if (pt_val (pe_callB (call_isXT K rfl) (by rfl) T.isinstance (by decide +kernel) (pa_cons (pv 0) (pa_cons (pe_tup (pa_cons (pe_glob (v := .ref (C 2)) rfl d2.g rfl) (pa_cons (pe_glob (v := .ref (C 3)) rfl d3.g rfl) (pa_cons (pe_glob (v := .ref (C 9)) rfl d9.g rfl) (pa_cons (pe_glob (v := .ref (C 15)) rfl d15.g rfl) pa_nil))))) pa_nil))))
      (pss_one (ps_ret (pe_lst (pa_cons (pe_erF K rfl (pv 0)) pa_nil))))
      pss_nil)
    (pss_cons (ps_if (pt_val (pe_callB (call_isXT K rfl) (by rfl) T.isinstance (by decide +kernel) (pa_cons (pv 0) (pa_cons (pe_tup (pa_cons (pe_glob (v := .ref (C 5)) rfl d5.g rfl) (pa_cons (pe_glob (v := .ref (C 6)) rfl d6.g rfl) (pa_cons (pe_glob (v := .ref (C 7)) rfl d7.g rfl) pa_nil)))) pa_nil))))
      (pss_one (ps_ret (pe_lst (pa_cons (pe_erF K rfl (pv 0)) pa_nil))))
      pss_nil)
    (pss_cons (ps_if (pt_val (pe_callB (call_isXT K rfl) (by rfl) T.isinstance (by decide +kernel) (pa_cons (pv 0) (pa_cons (pe_tup (pa_cons (pe_glob (v := .ref (C 10)) rfl d10.g rfl) (pa_cons (pe_glob (v := .ref (C 11)) rfl d11.g rfl) (pa_cons (pe_glob (v := .ref (C 13)) rfl d13.g rfl) pa_nil)))) pa_nil))))
      (pss_one (ps_ret (pe_lst (pa_cons (pe_erF K rfl (pv 0)) pa_nil))))
      pss_nil)
    (pss_cons (ps_if (pt_val (pe_callB (call_isXT K rfl) (by rfl) T.isinstance (by decide +kernel) (pa_cons (pv 0) (pa_cons (pe_tup (pa_cons (pe_glob (v := .ref (C 21)) rfl d21.g rfl) (pa_cons (pe_glob (v := .ref (C 22)) rfl d22.g rfl) pa_nil))) pa_nil))))
      (pss_one (ps_ret (pe_lst (pa_cons (pe_erF K rfl (pv 0)) pa_nil))))
      pss_nil)
    (pss_cons (ps_if (pt_val (pe_callB (call_isXT K rfl) (by rfl) T.isinstance (by decide +kernel) (pa_cons (pv 0) (pa_cons (pe_tup (pa_cons (pe_glob (v := .ref (C 27)) rfl d27.g rfl) (pa_cons (pe_glob (v := .ref (C 28)) rfl d28.g rfl) (pa_cons (pe_glob (v := .ref (C 29)) rfl d29.g rfl) (pa_cons (pe_glob (v := .ref (C 30)) rfl d30.g rfl) (pa_cons (pe_glob (v := .ref (C 31)) rfl d31.g rfl) (pa_cons (pe_glob (v := .ref (C 32)) rfl d32.g rfl) pa_nil))))))) pa_nil))))
      (pss_one (ps_ret (pe_lst (pa_cons (pe_erF K rfl (pv 0)) pa_nil))))
      pss_nil)
    (pss_one (ps_ret (pe_call D_other_fields.ok (hr.mono (by first | decide | omega)) rfl D_other_fields.g D_other_fields.kp D_other_fields.b .nil pass0 (pa_cons (pv 0) pa_nil)))))))))), ?_⟩
  have s0 := Same.refl H
  refine ⟨_, rfl, (by show 6 ≤ sizeLine; decide), fun t0 ht0 => ?_⟩
  have w0 := same_new ht0 (.tup [V.ref (C 0), V.ref (C 17), V.ref (C 18), V.ref (C 19), V.ref (C 20), V.ref (C 23)])
  have y0 : (upd H t0 (.tup [V.ref (C 0), V.ref (C 17), V.ref (C 18), V.ref (C 19), V.ref (C 20), V.ref (C 23)])) t0 = some (.tup [V.ref (C 0), V.ref (C 17), V.ref (C 18), V.ref (C 19), V.ref (C 20), V.ref (C 23)]) := upd_same
  generalize upd H t0 (.tup [V.ref (C 0), V.ref (C 17), V.ref (C 18), V.ref (C 19), V.ref (C 20), V.ref (C 23)]) = H0 at w0 y0 ⊢
  have s1 := s0.trans w0
  have he0 := he.same s1
  refine ⟨a, C i, t0, _, _, _, _, _, _, _, _, rfl, he0, di.er, y0, (.cons (.own _) (.cons (.own _) (.cons (.own _) (.cons (.own _) (.cons (.own _) (.cons (.own _) .nil)))))), kit_in E hi [0, 17, 18, 19, 20, 23] (by decide), _, rfl, ?_⟩
  cases hb0 : isIn i [0, 17, 18, 19, 20, 23]
  rotate_left
  · refine if_tt rfl ?_
    have hf : fieldsE i = [("called" : Str)] := own1_is (f := "called") (js := [0, 17, 18, 19, 20, 23]) (by decide +kernel) hi hb0
    obtain ⟨e1, e2⟩ := fs_one (f := "called") hf m n
    have hn : PySem.W.findIn K (.ref (C i)) "called" = some none := di.no _ (by rw [hf]; exact List.mem_singleton.mpr rfl)
    refine ⟨_, rfl, a, C i, fsE i m n, m, _, _, _, _, rfl, he0, di.er, hn, (by rw [e1]; rfl), (by show 1 ≤ sizeLine; decide), fun l hl => ?_⟩
    exact q _ l (s1.trans (same_new hl _)) (s1.free hl) (by rw [e2]; exact upd_same)
  refine if_ff rfl ?_
  refine ⟨_, rfl, (by show 4 ≤ sizeLine; decide), fun t1 ht1 => ?_⟩
  have w1 := same_new ht1 (.tup [V.ref (C 2), V.ref (C 3), V.ref (C 9), V.ref (C 15)])
  have y1 : (upd H0 t1 (.tup [V.ref (C 2), V.ref (C 3), V.ref (C 9), V.ref (C 15)])) t1 = some (.tup [V.ref (C 2), V.ref (C 3), V.ref (C 9), V.ref (C 15)]) := upd_same
  generalize upd H0 t1 (.tup [V.ref (C 2), V.ref (C 3), V.ref (C 9), V.ref (C 15)]) = H1 at w1 y1 ⊢
  have s2 := s1.trans w1
  have he1 := he.same s2
  refine ⟨a, C i, t1, _, _, _, _, _, _, _, _, rfl, he1, di.er, y1, (.cons (.own _) (.cons (.own _) (.cons (.own _) (.cons (.own _) .nil)))), kit_in E hi [2, 3, 9, 15] (by decide), _, rfl, ?_⟩
  cases hb1 : isIn i [2, 3, 9, 15]
  rotate_left
  · refine if_tt rfl ?_
    have hf : fieldsE i = [("value" : Str)] := own1_is (f := "value") (js := [2, 3, 9, 15]) (by decide +kernel) hi hb1
    obtain ⟨e1, e2⟩ := fs_one (f := "value") hf m n
    have hn : PySem.W.findIn K (.ref (C i)) "value" = some none := di.no _ (by rw [hf]; exact List.mem_singleton.mpr rfl)
    refine ⟨_, rfl, a, C i, fsE i m n, m, _, _, _, _, rfl, he1, di.er, hn, (by rw [e1]; rfl), (by show 1 ≤ sizeLine; decide), fun l hl => ?_⟩
    exact q _ l (s2.trans (same_new hl _)) (s2.free hl) (by rw [e2]; exact upd_same)
  refine if_ff rfl ?_
  refine ⟨_, rfl, (by show 3 ≤ sizeLine; decide), fun t2 ht2 => ?_⟩
  have w2 := same_new ht2 (.tup [V.ref (C 5), V.ref (C 6), V.ref (C 7)])
  have y2 : (upd H1 t2 (.tup [V.ref (C 5), V.ref (C 6), V.ref (C 7)])) t2 = some (.tup [V.ref (C 5), V.ref (C 6), V.ref (C 7)]) := upd_same
  generalize upd H1 t2 (.tup [V.ref (C 5), V.ref (C 6), V.ref (C 7)]) = H2 at w2 y2 ⊢
  have s3 := s2.trans w2
  have he2 := he.same s3
  refine ⟨a, C i, t2, _, _, _, _, _, _, _, _, rfl, he2, di.er, y2, (.cons (.own _) (.cons (.own _) (.cons (.own _) .nil))), kit_in E hi [5, 6, 7] (by decide), _, rfl, ?_⟩
  cases hb2 : isIn i [5, 6, 7]
  rotate_left
  · refine if_tt rfl ?_
    have hf : fieldsE i = [("position" : Str)] := own1_is (f := "position") (js := [5, 6, 7]) (by decide +kernel) hi hb2
    obtain ⟨e1, e2⟩ := fs_one (f := "position") hf m n
    have hn : PySem.W.findIn K (.ref (C i)) "position" = some none := di.no _ (by rw [hf]; exact List.mem_singleton.mpr rfl)
    refine ⟨_, rfl, a, C i, fsE i m n, m, _, _, _, _, rfl, he2, di.er, hn, (by rw [e1]; rfl), (by show 1 ≤ sizeLine; decide), fun l hl => ?_⟩
    exact q _ l (s3.trans (same_new hl _)) (s3.free hl) (by rw [e2]; exact upd_same)
  refine if_ff rfl ?_
  refine ⟨_, rfl, (by show 3 ≤ sizeLine; decide), fun t3 ht3 => ?_⟩
  have w3 := same_new ht3 (.tup [V.ref (C 10), V.ref (C 11), V.ref (C 13)])
  have y3 : (upd H2 t3 (.tup [V.ref (C 10), V.ref (C 11), V.ref (C 13)])) t3 = some (.tup [V.ref (C 10), V.ref (C 11), V.ref (C 13)]) := upd_same
  generalize upd H2 t3 (.tup [V.ref (C 10), V.ref (C 11), V.ref (C 13)]) = H3 at w3 y3 ⊢
  have s4 := s3.trans w3
  have he3 := he.same s4
  refine ⟨a, C i, t3, _, _, _, _, _, _, _, _, rfl, he3, di.er, y3, (.cons (.own _) (.cons (.own _) (.cons (.own _) .nil))), kit_in E hi [10, 11, 13] (by decide), _, rfl, ?_⟩
  cases hb3 : isIn i [10, 11, 13]
  rotate_left
  · refine if_tt rfl ?_
    have hf : fieldsE i = [("index" : Str)] := own1_is (f := "index") (js := [10, 11, 13]) (by decide +kernel) hi hb3
    obtain ⟨e1, e2⟩ := fs_one (f := "index") hf m n
    have hn : PySem.W.findIn K (.ref (C i)) "index" = some none := di.no _ (by rw [hf]; exact List.mem_singleton.mpr rfl)
    refine ⟨_, rfl, a, C i, fsE i m n, m, _, _, _, _, rfl, he3, di.er, hn, (by rw [e1]; rfl), (by show 1 ≤ sizeLine; decide), fun l hl => ?_⟩
    exact q _ l (s4.trans (same_new hl _)) (s4.free hl) (by rw [e2]; exact upd_same)
  refine if_ff rfl ?_
  refine ⟨_, rfl, (by show 2 ≤ sizeLine; decide), fun t4 ht4 => ?_⟩
  have w4 := same_new ht4 (.tup [V.ref (C 21), V.ref (C 22)])
  have y4 : (upd H3 t4 (.tup [V.ref (C 21), V.ref (C 22)])) t4 = some (.tup [V.ref (C 21), V.ref (C 22)]) := upd_same
  generalize upd H3 t4 (.tup [V.ref (C 21), V.ref (C 22)]) = H4 at w4 y4 ⊢
  have s5 := s4.trans w4
  have he4 := he.same s5
  refine ⟨a, C i, t4, _, _, _, _, _, _, _, _, rfl, he4, di.er, y4, (.cons (.own _) (.cons (.own _) .nil)), kit_in E hi [21, 22] (by decide), _, rfl, ?_⟩
  cases hb4 : isIn i [21, 22]
  rotate_left
  · refine if_tt rfl ?_
    have hf : fieldsE i = [("path" : Str)] := own1_is (f := "path") (js := [21, 22]) (by decide +kernel) hi hb4
    obtain ⟨e1, e2⟩ := fs_one (f := "path") hf m n
    have hn : PySem.W.findIn K (.ref (C i)) "path" = some none := di.no _ (by rw [hf]; exact List.mem_singleton.mpr rfl)
    refine ⟨_, rfl, a, C i, fsE i m n, m, _, _, _, _, rfl, he4, di.er, hn, (by rw [e1]; rfl), (by show 1 ≤ sizeLine; decide), fun l hl => ?_⟩
    exact q _ l (s5.trans (same_new hl _)) (s5.free hl) (by rw [e2]; exact upd_same)
  refine if_ff rfl ?_
  refine ⟨_, rfl, (by show 6 ≤ sizeLine; decide), fun t5 ht5 => ?_⟩
  have w5 := same_new ht5 (.tup [V.ref (C 27), V.ref (C 28), V.ref (C 29), V.ref (C 30), V.ref (C 31), V.ref (C 32)])
  have y5 : (upd H4 t5 (.tup [V.ref (C 27), V.ref (C 28), V.ref (C 29), V.ref (C 30), V.ref (C 31), V.ref (C 32)])) t5 = some (.tup [V.ref (C 27), V.ref (C 28), V.ref (C 29), V.ref (C 30), V.ref (C 31), V.ref (C 32)]) := upd_same
  generalize upd H4 t5 (.tup [V.ref (C 27), V.ref (C 28), V.ref (C 29), V.ref (C 30), V.ref (C 31), V.ref (C 32)]) = H5 at w5 y5 ⊢
  have s6 := s5.trans w5
  have he5 := he.same s6
  refine ⟨a, C i, t5, _, _, _, _, _, _, _, _, rfl, he5, di.er, y5, (.cons (.own _) (.cons (.own _) (.cons (.own _) (.cons (.own _) (.cons (.own _) (.cons (.own _) .nil)))))), kit_in E hi [27, 28, 29, 30, 31, 32] (by decide), _, rfl, ?_⟩
  cases hb5 : isIn i [27, 28, 29, 30, 31, 32]
  rotate_left
  · refine if_tt rfl ?_
    have hf : fieldsE i = [("found" : Str)] := own1_is (f := "found") (js := [27, 28, 29, 30, 31, 32]) (by decide +kernel) hi hb5
    obtain ⟨e1, e2⟩ := fs_one (f := "found") hf m n
    have hn : PySem.W.findIn K (.ref (C i)) "found" = some none := di.no _ (by rw [hf]; exact List.mem_singleton.mpr rfl)
    refine ⟨_, rfl, a, C i, fsE i m n, m, _, _, _, _, rfl, he5, di.er, hn, (by rw [e1]; rfl), (by show 1 ≤ sizeLine; decide), fun l hl => ?_⟩
    exact q _ l (s6.trans (same_new hl _)) (s6.free hl) (by rw [e2]; exact upd_same)
  refine if_ff rfl ?_
  have hz : isIn i [1, 4, 8, 12, 14, 16, 24, 25, 26] = true := by
    have := List.all_eq_true.mp (show ((List.range 33).all fun i => isIn i [0, 17, 18, 19, 20, 23] || isIn i [2, 3, 9, 15] || isIn i [5, 6, 7] || isIn i [10, 11, 13] || isIn i [21, 22] || isIn i [27, 28, 29, 30, 31, 32] || isIn i [1, 4, 8, 12, 14, 16, 24, 25, 26]) = true by decide +kernel) i (List.mem_range.mpr hi)
    simp only [hb0, hb1, hb2, hb3, hb4, hb5, Bool.false_or] at this
    exact this
  exact ⟨_, rfl, a, i, m, n, rfl, hi, hz, he5, fun H' l s' hl hv => q _ l (s6.trans s') (s6.free hl) hv⟩
end
end KX

namespace KX
open PySem PySem.Spec L2 PyProof.Rows
def bnd : Nat → Nat
  | 0 => 200
  | n + 1 => 3 * bnd n + 600
theorem bnd_ge : ∀ n, 200 ≤ bnd n
  | 0 => Nat.le_refl _
  | n + 1 => by
    have := bnd_ge n
    simp only [bnd]
    omega
/-- a value of n levels whose text is short -/
structure Sd (n : Nat) (d : PyData) : Prop where
  sw : d.showable = true
  deep : d.depth ≤ n
  len : d.shown.length ≤ bnd n
theorem tx_len {z : Str} (h : TxOk z) : (reprText z).length ≤ 162 := by
  have := PySem.StrLaws.reprText_len z (fun c hc => by
    have := h.2 c hc
    unfold AllowC at this
    have e : (16 : Nat) ^ 8 = 4294967296 := by decide
    omega)
  have := h.1
  omega
theorem nm_len {z : Str} (h : IsNm z) : (reprText z).length ≤ 122 := by
  have := PySem.StrLaws.reprText_len z (fun c hc => by
    have := h.2.2 c hc
    have e : (16 : Nat) ^ 8 = 4294967296 := by decide
    omega)
  have := h.2.1
  omega
theorem sd_none (n : Nat) : Sd n .none := ⟨rfl, by simp [PyData.depth], by have := bnd_ge n; have e : (PyData.shown .none).length = 4 := rfl; omega⟩
theorem sd_bool (n : Nat) (b : Bool) : Sd n (.bool b) := ⟨rfl, by simp [PyData.depth], by have := bnd_ge n; have e : (PyData.shown (.bool b)).length ≤ 5 := (by cases b <;> decide); omega⟩
theorem sd_str (n : Nat) {z : Str} (h : TxOk z) : Sd n (.str z) := ⟨rfl, by simp [PyData.depth], by have := bnd_ge n; have := tx_len h; simp only [PyData.shown]; omega⟩
theorem sd_int (n : Nat) {i : Int} (h : i.natAbs ≤ 10 ^ 20) : Sd n (.int i) := by
  refine ⟨?_, by simp [PyData.depth], ?_⟩
  · simp only [PyData.showable, decide_eq_true_eq]
    by_cases z : i.natAbs = 0
    · rw [z]
      decide
    · have h2 : i.natAbs < 2 ^ 67 := Nat.lt_of_le_of_lt h (by decide)
      have := (Nat.log2_lt z).2 h2
      omega
  · have e := int_text_length_le10 (k := 21) (by decide) (Nat.lt_of_le_of_lt h (by decide))
    have := bnd_ge n
    show (Str.ofString (toString i)).length ≤ bnd n
    rw [PySem.ofString_length]
    omega
theorem sum_le {B : Nat} : ∀ {ls : List Nat}, (∀ l ∈ ls, l ≤ B) → ls.sum ≤ B * ls.length
  | [], _ => by simp
  | l :: r, h => by
    have h1 := h l List.mem_cons_self
    have h2 := sum_le (ls := r) fun x hx => h x (List.mem_cons_of_mem _ hx)
    rw [List.sum_cons, List.length_cons, Nat.mul_succ]
    omega
theorem showAll_of : ∀ {ds : List PyData}, (∀ x ∈ ds, x.showable = true) → PyData.showableAll ds = true
  | [], _ => rfl
  | x :: r, h => by
    show (x.showable && PyData.showableAll r) = true
    rw [h x List.mem_cons_self, showAll_of fun y hy => h y (List.mem_cons_of_mem _ hy)]
    rfl
theorem deepAll_of {n : Nat} : ∀ {ds : List PyData}, (∀ x ∈ ds, x.depth ≤ n) → PyData.depthAll ds ≤ n
  | [], _ => by simp [PyData.depthAll]
  | x :: r, h => by
    have h1 := h x List.mem_cons_self
    have h2 := deepAll_of (ds := r) fun y hy => h y (List.mem_cons_of_mem _ hy)
    simp only [PyData.depthAll]
    omega
theorem shownAll_mem {t : Str} : ∀ {ds : List PyData}, t ∈ PyData.shownAll ds → ∃ d ∈ ds, t = d.shown
  | [], h => by simp [PyData.shownAll] at h
  | x :: r, h => by
    simp only [PyData.shownAll, List.mem_cons] at h
    rcases h with rfl | h
    · exact ⟨x, List.mem_cons_self, rfl⟩
    · obtain ⟨d, h1, h2⟩ := shownAll_mem h
      exact ⟨d, List.mem_cons_of_mem _ h1, h2⟩
theorem sd_tuple {n : Nat} {ds : List PyData} (hl : ds.length ≤ 3) (h : ∀ x ∈ ds, Sd n x) : Sd (n + 1) (.tuple ds) := by
  refine ⟨?_, ?_, ?_⟩
  · exact showAll_of fun x hx => (h x hx).sw
  · have := deepAll_of fun x hx => (h x hx).deep
    simp only [PyData.depth]
    omega
  · have h1 := tupleText_len_le (PyData.shownAll ds)
    have h2 : ((PyData.shownAll ds).map (·.length)).sum ≤ bnd n * (PyData.shownAll ds).length := by
      have := sum_le (B := bnd n) (ls := (PyData.shownAll ds).map (·.length)) fun l hl => by
        obtain ⟨t, ht, rfl⟩ := List.mem_map.mp hl
        obtain ⟨d, hd, rfl⟩ := shownAll_mem ht
        exact (h d hd).len
      rw [List.length_map] at this
      exact this
    have h3 := PyData.shownAll_length ds
    have h4 : bnd n * (PyData.shownAll ds).length ≤ bnd n * 3 := Nat.mul_le_mul_left _ (by omega)
    simp only [PyData.shown, bnd]
    omega
theorem shownKv_mem {t : Str} : ∀ {ds : List (PyData × PyData)}, t ∈ PyData.shownKv ds → ∃ kv ∈ ds, t = kv.1.shown ++ ": " ++ kv.2.shown
  | [], h => by simp [PyData.shownKv] at h
  | (k, x) :: r, h => by
    simp only [PyData.shownKv, List.mem_cons] at h
    rcases h with rfl | h
    · exact ⟨(k, x), List.mem_cons_self, rfl⟩
    · obtain ⟨d, h1, h2⟩ := shownKv_mem h
      exact ⟨d, List.mem_cons_of_mem _ h1, h2⟩
theorem sd_dict {n : Nat} {kvs : List (PyData × PyData)} (hl : kvs.length ≤ 3) (h : ∀ kv ∈ kvs, (∃ z, kv.1 = .str z ∧ IsNm z) ∧ Sd n kv.2) : Sd (n + 1) (.dict kvs) := by
  refine ⟨?_, ?_, ?_⟩
  · show PyData.showableKv kvs = true
    clear hl
    induction kvs with
    | nil => rfl
    | cons q r ih =>
      obtain ⟨k, x⟩ := q
      obtain ⟨⟨z, hz, _⟩, h2⟩ := h _ List.mem_cons_self
      have hz : k = .str z := hz
      subst hz
      show (true && x.showable && PyData.showableKv r) = true
      rw [h2.sw, ih fun kv hk => h kv (List.mem_cons_of_mem _ hk)]
      rfl
  · have : PyData.depthKv kvs ≤ n := by
      clear hl
      induction kvs with
      | nil => simp [PyData.depthKv]
      | cons q r ih =>
        obtain ⟨k, x⟩ := q
        obtain ⟨⟨z, hz, _⟩, h2⟩ := h _ List.mem_cons_self
        have hz : k = .str z := hz
        subst hz
        have := ih fun kv hk => h kv (List.mem_cons_of_mem _ hk)
        have := h2.deep
        simp only [PyData.depthKv, PyData.depth]
        simp only at this
        omega
    simp only [PyData.depth]
    omega
  · have h1 := dictText_len_le (PyData.shownKv kvs)
    have h2 : ((PyData.shownKv kvs).map (·.length)).sum ≤ (bnd n + 124) * (PyData.shownKv kvs).length := by
      have := sum_le (B := bnd n + 124) (ls := (PyData.shownKv kvs).map (·.length)) fun l hl => by
        obtain ⟨t, ht, rfl⟩ := List.mem_map.mp hl
        obtain ⟨⟨k, x⟩, hd, rfl⟩ := shownKv_mem ht
        obtain ⟨⟨z, hz, nz⟩, h2⟩ := h _ hd
        have hz : k = .str z := hz
        subst hz
        have e := nm_len nz
        have e3 : x.shown.length ≤ bnd n := h2.len
        show ((PyData.shown (.str z)) ++ ": " ++ x.shown).length ≤ _
        rw [strLen_append, strLen_append]
        simp only [PyData.shown]
        have e2 : ((": " : Str)).length = 2 := rfl
        omega
      rw [List.length_map] at this
      exact this
    have h3 := PyData.shownKv_length kvs
    have h4 : (bnd n + 124) * (PyData.shownKv kvs).length ≤ (bnd n + 124) * 3 := Nat.mul_le_mul_left _ (by omega)
    simp only [PyData.shown, bnd]
    omega
theorem Sd.up {n : Nat} {d : PyData} (h : Sd n d) : Sd (n + 1) d := ⟨h.sw, Nat.le_succ_of_le h.deep, by have := h.len; simp only [bnd]; omega⟩
theorem tx_v {z : Str} (h : TxOk z) : TxV z := ⟨Nat.le_trans h.1 (by decide), h.2⟩
theorem rep_k (n : Nat) (h : n ≤ 60) : TxV (repS "k" n) := by
  have e : ql (repS "k" n) = List.replicate n 107 := by
    rw [ql_rep]
    show (List.replicate n [107]).flatten = _
    rw [List.flatten_replicate_singleton]
  refine ⟨?_, fun c hc => ?_⟩
  · rw [ql_len, e, List.length_replicate]
    omega
  · rw [e] at hc
    rw [List.eq_of_mem_replicate hc]
    decide
theorem fit_vd : ∀ (n : Nat) (f : Fm) (d : PyData), okF n f → Fit f d → Vd (2 * n) d
  | n, .text, _, _, .text tx => by
    have h : TxV _ := tx_v tx
    cases n <;> simpa only [Vd] using h
  | n, .number, _, _, .number i => by
    have h : (_ : Int).natAbs ≤ 10 ^ 40 := Nat.le_trans i (by decide)
    cases n <;> simpa only [Vd] using h
  | n, .flag, _, _, .flag b => by cases n <;> simp [Vd]
  | 0, .list _, _, h, _ => by simp [okF] at h
  | 0, .opt _, _, h, _ => by simp [okF] at h
  | 0, .rcd _, _, h, _ => by simp [okF] at h
  | 0, .keyed _ _ _ _, _, h, _ => by simp [okF] at h
  | n + 1, .opt f, _, h, .optN _ => by simp [Vd]
  | n + 1, .opt f, d, h, .opt fd => by
    have h' : okF n f ∧ f.isOpt = false := by simpa only [okF] using h
    have := (fit_vd n f d h'.1 fd).ups 2
    exact this
  | n + 1, .list f, _, h, .list (ds := ds) few each => by
    have h' : okF n f := by simpa only [okF] using h
    have : Vd (2 * n + 1) (.tuple ds) := by
      simp only [Vd]
      exact ⟨few, fun x hx => fit_vd n f x h' (each x hx)⟩
    exact this.up
  | n + 1, .rcd fs, _, h, .rcd (kvs := kvs) keys each => by
    have h' : Names (fs.map (·.1)) ∧ sortedS (fs.map (·.1)) = true ∧ 1 ≤ fs.length ∧ fs.length ≤ 3 ∧ ∀ q ∈ fs, okF n q.2 := by simpa only [okF] using h
    have len : kvs.length = fs.length := by
      have := congrArg List.length keys
      rw [List.length_map, List.length_map] at this
      exact this
    have at' : ∀ kv ∈ kvs, ∃ q ∈ fs, kv.1 = .str q.1 ∧ Fit q.2 kv.2 := by
      intro kv hkv
      obtain ⟨i, hi, e⟩ := List.mem_iff_getElem.mp hkv
      have hi2 : i < fs.length := by omega
      refine ⟨fs[i], List.getElem_mem hi2, ?_, each i _ kv (List.getElem?_eq_getElem hi2) (by rw [List.getElem?_eq_getElem hi, e])⟩
      have := congrArg (fun l : List PyData => l[i]?) keys
      simp only [List.getElem?_map, List.getElem?_eq_getElem hi, List.getElem?_eq_getElem hi2, Option.map_some] at this
      rw [← e]
      exact Option.some.inj this
    have : Vd (2 * n + 1) (.dict kvs) := by
      simp only [Vd]
      refine ⟨⟨by omega, ?_, fun kv hkv => ?_⟩, fun kv hkv => ?_⟩
      · rw [keys]
        have nd := h'.1.1
        unfold List.Nodup at nd ⊢
        rw [List.pairwise_map] at nd ⊢
        exact nd.imp fun ne e => ne (by simpa using e)
      · obtain ⟨q, hq, e, _⟩ := at' kv hkv
        exact ⟨q.1, e, h'.1.2 _ (List.mem_map.mpr ⟨q, hq, rfl⟩)⟩
      · obtain ⟨q, hq, _, ft⟩ := at' kv hkv
        exact fit_vd n q.2 kv.2 (h'.2.2.2.2 q hq) ft
    exact this.up
  | n + 1, .keyed k num w f, _, h, .keyed (rows := rows) few keys each => by
    have h' : Names [k, w] ∧ sortedS [k, w] = true ∧ okF n f := by simpa only [okF] using h
    have ne : k ≠ w := by
      have := h'.1.1
      simp at this
      exact this
    have row : ∀ x ∈ rows.map (fun r => PyData.dict [(.str k, r.1), (.str w, r.2)]), Vd (2 * n + 1) x := by
      intro x hx
      obtain ⟨r, hr, rfl⟩ := List.mem_map.mp hx
      obtain ⟨i, hi, e⟩ := List.mem_iff_getElem.mp hr
      have ky := keys i r (by rw [List.getElem?_eq_getElem hi, e])
      have kv : Vd (2 * n) r.1 := by
        unfold keyOf at ky
        split at ky
        · obtain ⟨j, e, b1, b2⟩ := ky
          rw [e]
          have : j.natAbs ≤ 10 ^ 40 := by
            have z : (100 : Nat) ≤ 10 ^ 40 := by decide
            omega
          cases n <;> simpa only [Vd] using this
        · rw [ky]
          have := rep_k (i + 1) (by omega)
          cases n <;> simpa only [Vd] using this
      simp only [Vd]
      refine ⟨⟨by simp, by simp [ne], fun q hq => ?_⟩, fun q hq => ?_⟩
      · rcases List.mem_cons.mp hq with rfl | hq
        · exact ⟨k, rfl, h'.1.2 k (by simp)⟩
        · rw [List.mem_singleton.mp hq]
          exact ⟨w, rfl, h'.1.2 w (by simp)⟩
      · rcases List.mem_cons.mp hq with rfl | hq
        · exact kv
        · rw [List.mem_singleton.mp hq]
          exact fit_vd n f r.2 h'.2.2 (each r hr)
    have : Vd (2 * n + 2) (.tuple (rows.map fun r => PyData.dict [(.str k, r.1), (.str w, r.2)])) := by
      simp only [Vd]
      exact ⟨by rw [List.length_map]; exact few, row⟩
    exact this
theorem fit_sd : ∀ (n : Nat) (f : Fm) (d : PyData), okF n f → Fit f d → Sd (2 * n) d
  | n, .text, _, _, .text h => sd_str _ h
  | n, .number, _, _, .number h => sd_int _ h
  | n, .flag, _, _, .flag b => sd_bool _ b
  | n, .opt f, _, _, .optN _ => sd_none _
  | 0, .opt f, _, h, .opt _ => by simp [okF] at h
  | 0, .list _, _, h, _ => by simp [okF] at h
  | 0, .rcd _, _, h, _ => by simp [okF] at h
  | 0, .keyed _ _ _ _, _, h, _ => by simp [okF] at h
  | n + 1, .opt f, d, h, .opt hf => by
    have h' : okF n f ∧ f.isOpt = false := by simpa [okF] using h
    exact (fit_sd n f d h'.1 hf).up.up
  | n + 1, .list f, _, h, .list hl hf => by
    have h' : okF n f := by simpa [okF] using h
    exact (sd_tuple hl fun x hx => fit_sd n f x h' (hf x hx)).up
  | n + 1, .rcd fs, _, h, .rcd (kvs := kvs) hm hf => by
    have h' : Names (fs.map (·.1)) ∧ sortedS (fs.map (·.1)) = true ∧ 1 ≤ fs.length ∧ fs.length ≤ 3 ∧ ∀ q ∈ fs, okF n q.2 := by simpa only [okF] using h
    have el : kvs.length = fs.length := by
      have := congrArg List.length hm
      rw [List.length_map, List.length_map] at this
      exact this
    refine (sd_dict (by omega) fun kv hk => ?_).up
    obtain ⟨i, hi⟩ := List.getElem?_of_mem hk
    have hlt := (List.getElem?_eq_some_iff.mp hi).1
    have hq : fs[i]? = some fs[i] := List.getElem?_eq_getElem (by omega)
    refine ⟨⟨fs[i].1, ?_, h'.1.2 _ (List.mem_map.mpr ⟨fs[i], List.getElem_mem _, rfl⟩)⟩, fit_sd n _ _ (h'.2.2.2.2 _ (List.getElem_mem _)) (hf i _ kv hq hi)⟩
    have e : (kvs.map (·.1))[i]? = (fs.map fun q => PyData.str q.1)[i]? := by rw [hm]
    rw [List.getElem?_map, List.getElem?_map, hi, hq] at e
    exact Option.some.inj e
  | n + 1, .keyed k num w f, _, h, .keyed (rows := rows) hl hk hf => by
    have h' : Names [k, w] ∧ sortedS [k, w] = true ∧ okF n f := by simpa only [okF] using h
    refine sd_tuple (by rw [List.length_map]; exact hl) fun x hx => ?_
    obtain ⟨r, hr, rfl⟩ := List.mem_map.mp hx
    obtain ⟨i, hi⟩ := List.getElem?_of_mem hr
    have ilt := (List.getElem?_eq_some_iff.mp hi).1
    refine sd_dict (by show 2 ≤ 3; decide) fun kv hkv => ?_
    rcases List.mem_cons.mp hkv with rfl | hkv
    · refine ⟨⟨k, rfl, h'.1.2 _ List.mem_cons_self⟩, ?_⟩
      have hky := hk i r hi
      unfold keyOf at hky
      by_cases c : num = true
      · rw [if_pos c] at hky
        obtain ⟨j, ej, j1, j2⟩ := hky
        rw [ej]
        exact sd_int _ (by have e : (10 : Nat) ^ 20 = 100000000000000000000 := by decide
                           omega)
      · rw [if_neg c] at hky
        rw [hky]
        refine sd_str _ ⟨?_, fun c hc => ?_⟩
        · have : i = 0 ∨ i = 1 ∨ i = 2 := by omega
          rcases this with rfl | rfl | rfl <;> decide
        · have : i = 0 ∨ i = 1 ∨ i = 2 := by omega
          rcases this with rfl | rfl | rfl <;> revert c <;> decide
    · rcases List.mem_cons.mp hkv with rfl | hkv
      · exact ⟨⟨w, rfl, h'.1.2 _ (List.mem_cons_of_mem _ List.mem_cons_self)⟩, fit_sd n f _ h'.2.2 (hf r hr)⟩
      · cases hkv
end KX

namespace KX
open PySem PySem.Spec L2 PyProof.Rows
/-! ### rows of fields -/
/-- in the list at D, row by row: lists of their own -/
def RowsE (G : Hp) (D : Addr) (r : Nat → List V) (ls : List Addr) : Prop := ∀ (j : Nat) (l : Addr), ls[j]? = some l → l ≠ D ∧ G l = some (.lst (r j))
theorem RowsE.same {G G' : Hp} {D : Addr} {r : Nat → List V} {ls : List Addr} (h : RowsE G D r ls) (s : Same G G') : RowsE G' D r ls := fun j l e => ⟨(h j l e).1, s _ _ (h j l e).2⟩
theorem RowsE.put {G : Hp} {D : Addr} {r : Nat → List V} {ls : List Addr} {o : HO} (h : RowsE G D r ls) : RowsE (upd G D o) D r ls := fun j l e => ⟨(h j l e).1, by rw [upd_ne (h j l e).1]; exact (h j l e).2⟩
theorem RowsE.snoc {G : Hp} {D a : Addr} {r : Nat → List V} {ls : List Addr} (h : RowsE G D r ls) (ne : a ≠ D) (at' : G a = some (.lst (r ls.length))) : RowsE G D r (ls ++ [a]) := fun j l e => by
  rw [List.getElem?_append] at e
  split at e
  · exact h j l e
  · rename_i nl
    have z : j = ls.length := by
      have := (List.getElem?_eq_some_iff.mp e).1
      simp at this
      omega
    subst z
    simp at e
    subst e
    exact ⟨ne, at'⟩
theorem RowsE.set {G : Hp} {D a : Addr} {r : Nat → List V} {ls : List Addr} (h : RowsE G D r ls) (k : Nat) (x : List V) (ne : a ≠ D) (at' : G a = some (.lst x)) : RowsE G D (fun j => if j = k then x else r j) (ls.set k a) := fun j l e => by
  by_cases z : j = k
  · subst z
    have lt : j < ls.length := by
      have := (List.getElem?_eq_some_iff.mp e).1
      rw [List.length_set] at this
      exact this
    rw [List.getElem?_set_self lt] at e
    obtain rfl := Option.some.inj e
    show _ ∧ _ = some (HO.lst (if j = j then x else r j))
    rw [if_pos rfl]
    exact ⟨ne, at'⟩
  · rw [List.getElem?_set_ne (Ne.symm z)] at e
    show _ ∧ _ = some (HO.lst (if j = k then x else r j))
    rw [if_neg z]
    exact h j l e
theorem RowsE.as {G : Hp} {D : Addr} {r r' : Nat → List V} {ls : List Addr} (h : RowsE G D r ls) (e : ∀ j, j < ls.length → r j = r' j) : RowsE G D r' ls := fun j l q => by
  rw [← e j (List.getElem?_eq_some_iff.mp q).1]
  exact h j l q
/-- the row of the i-th class as data -/
def rowD (dm dn : PyData) (i : Nat) : PyData := .list ([dm, dn].take (fieldsE i).length)
def rowsD (dm dn : PyData) (is : List Nat) : PyData := .list (is.map (rowD dm dn))
section
variable {K : PySem.W.Frag} {G : Hp} {m n : V} {dm dn : PyData}
theorem DqAll.take' : ∀ {vs : List V} {ds : List PyData} (k : Nat), DqAll K G vs ds → DqAll K G (vs.take k) (ds.take k)
  | _, _, 0, _ => .nil
  | _, _, _ + 1, .nil => .nil
  | _, _, k + 1, .cons h t => .cons h (DqAll.take' k t)
theorem rows_dq (hm : Dq K G m dm) (hn : Dq K G n dn) : ∀ (is : List Nat) (ls : List Addr), ls.length = is.length → (∀ j l, ls[j]? = some l → G l = some (.lst (valsE (is.getD j 0) m n))) → DqAll K G (ls.map V.ref) (is.map (rowD dm dn))
  | [], [], _, _ => .nil
  | i :: is, l :: ls, e, h => by
    refine .cons (.lst (h 0 l rfl) (DqAll.take' _ (.cons hm (.cons hn .nil)))) (rows_dq hm hn is ls (by simpa using e) fun j l' q => ?_)
    exact h (j + 1) l' q
  | [], _ :: _, e, _ => by simp at e
  | _ :: _, [], e, _ => by simp at e
theorem rows_show {is : List Nat} (few : is.length ≤ 40) (hm : Sd 4 dm) (hn : Sd 4 dn) : Shows (rowsD dm dn is) := by
  have b4 : bnd 4 = 40200 := by decide
  have lm := hm.len
  have ln := hn.len
  have pair : ∀ x ∈ [dm, dn], x.showable = true ∧ x.depth ≤ 4 ∧ x.shown.length ≤ 40200 := by
    intro x hx
    rcases List.mem_cons.mp hx with rfl | hx
    · exact ⟨hm.sw, hm.deep, by omega⟩
    · rw [List.mem_singleton.mp hx]
      exact ⟨hn.sw, hn.deep, by omega⟩
  have row : ∀ i : Nat, (rowD dm dn i).showable = true ∧ (rowD dm dn i).depth ≤ 5 ∧ (rowD dm dn i).shown.length ≤ 80407 := by
    intro i
    have all : ∀ x ∈ [dm, dn].take (fieldsE i).length, x.showable = true ∧ x.depth ≤ 4 ∧ x.shown.length ≤ 40200 := fun x hx => pair x (List.mem_of_mem_take hx)
    have two : ([dm, dn].take (fieldsE i).length).length ≤ 2 := by
      rw [List.length_take]
      exact Nat.min_le_right _ _
    refine ⟨showAll_of fun x hx => (all x hx).1, ?_, ?_⟩
    · have := deepAll_of fun x hx => (all x hx).2.1
      simp only [rowD, PyData.depth]
      omega
    · have h1 := listText_len_le (PyData.shownAll ([dm, dn].take (fieldsE i).length))
      have h3 := PyData.shownAll_length ([dm, dn].take (fieldsE i).length)
      have h2 : ((PyData.shownAll ([dm, dn].take (fieldsE i).length)).map (·.length)).sum ≤ 40200 * (PyData.shownAll ([dm, dn].take (fieldsE i).length)).length := by
        have := sum_le (B := 40200) (ls := (PyData.shownAll ([dm, dn].take (fieldsE i).length)).map (·.length)) fun l hl => by
          obtain ⟨t, ht, rfl⟩ := List.mem_map.mp hl
          obtain ⟨d, hd, rfl⟩ := shownAll_mem ht
          exact (all d hd).2.2
        rw [List.length_map] at this
        exact this
      simp only [rowD, PyData.shown]
      omega
  refine ⟨?_, ?_, ?_⟩
  · refine showAll_of fun x hx => ?_
    obtain ⟨i, _, rfl⟩ := List.mem_map.mp hx
    exact (row i).1
  · have := deepAll_of (n := 5) (ds := is.map (rowD dm dn)) fun x hx => by
      obtain ⟨i, _, rfl⟩ := List.mem_map.mp hx
      exact (row i).2.1
    simp only [rowsD, PyData.depth]
    omega
  · have h1 := listText_len_le (PyData.shownAll (is.map (rowD dm dn)))
    have h3 := PyData.shownAll_length (is.map (rowD dm dn))
    have h2 : ((PyData.shownAll (is.map (rowD dm dn))).map (·.length)).sum ≤ 80407 * (PyData.shownAll (is.map (rowD dm dn))).length := by
      have := sum_le (B := 80407) (ls := (PyData.shownAll (is.map (rowD dm dn))).map (·.length)) fun l hl => by
        obtain ⟨t, ht, rfl⟩ := List.mem_map.mp hl
        obtain ⟨d, hd, rfl⟩ := shownAll_mem ht
        obtain ⟨i, _, rfl⟩ := List.mem_map.mp hd
        exact (row i).2.2
      rw [List.length_map] at this
      exact this
    rw [List.length_map] at h3
    simp only [rowsD, PyData.shown]
    rw [sizeLine_eq]
    omega
end
end KX

namespace KX
open PySem PySem.Spec L2 PyProof.Rows
theorem str_at {zs : List Str} : ∀ {its : List Value}, Vals (zs.map V.str) its → ∀ (j : Nat) (u : Value), its[j]? = some u → ∃ z t, zs[j]? = some z ∧ u = .str z t := by
  induction zs with
  | nil => intro its r j u e; cases r; simp at e
  | cons z zs ih =>
    intro its r j u e
    cases r with
    | cons r1 r2 =>
      cases j with
      | zero =>
        obtain ⟨t, rfl⟩ := r1
        exact ⟨z, t, rfl, (Option.some.inj (by simpa using e)).symm⟩
      | succ j => simpa using ih r2 j u (by simpa using e)
def rNeS (K : PySem.W.Frag) : R2 := fun x y H Q => ∃ (a b : Addr) (zs : List Str), x = .ref a ∧ y = .ref b ∧ SqL K H a (zs.map V.str) ∧ SqL K H b (zs.map V.str) ∧ Q (.bl false) H
theorem op_neS {X : Cx} (K : PySem.W.Frag) (same : X.K = K) (hu : X.A.units + 64 < cLine) : OpR X (compareOp .NotEq) (rNeS K) := by
  subst same
  intro pins s σ H x y v u Q I rx ry want
  obtain ⟨a, b, zs, rfl, rfl, ha, hb, q⟩ := want
  obtain rfl : v = Value.ref a := rx
  obtain rfl : u = Value.ref b := ry
  have lists : ∀ {c : Addr}, SqL X.K H c (zs.map V.str) → ∃ its : List Value, Vals (zs.map V.str) its ∧ s.heap.IsList c its.toArray := by
    intro c h
    obtain ⟨its, r, ⟨o, n, e, cls, data, _⟩, _⟩ := I.list h
    exact ⟨its, r, o, e, cls, n, by assumption⟩
  obtain ⟨ia, r1, l1⟩ := lists ha
  obtain ⟨ib, r2, l2⟩ := lists hb
  have size : ia.toArray.size = ib.toArray.size := by
    rw [List.size_toArray, List.size_toArray, ← r1.length, ← r2.length]
  refine SeqAt.RcNeAt.lists (e := fun _ => true) l1 l2 size (by omega) (fun j h1 h2 => ?_) X.prog X.w _ _ ?_
  · rw [List.size_toArray] at h1 h2
    obtain ⟨z, t, e1, e2⟩ := str_at r1 j _ (List.getElem?_eq_getElem h1)
    obtain ⟨z', t', e3, e4⟩ := str_at r2 j _ (List.getElem?_eq_getElem h2)
    rw [e1] at e3
    obtain rfl := Option.some.inj e3
    have k := SeqAt.EqAt.str_str (A := X.A.in1) (s := s) z t z t'
    rw [beq_self_eq_true] at k
    rw [List.getElem_toArray, List.getElem_toArray, e2, e4]
    exact k
  · have all : ((List.range ia.toArray.size).all fun _ => true) = true := List.all_eq_true.mpr fun _ _ => rfl
    rw [all]
    exact ⟨.bl false, H, I, rfl, q⟩
theorem in_all : ∀ k, k < 33 → isIn k [0, 1, 2, 3, 4, 5, 6, 7, 8, 9, 10, 11, 12, 13, 14, 15, 16, 17, 18, 19, 20, 21, 22, 23, 24, 25, 26, 27, 28, 29, 30, 31, 32] = true := by decide +kernel
theorem vals_made {m n : V} (j : Nat) (h : j < 33) : (if j = 26 then ([] : List V) else if j = 25 then [] else if j = 24 then [] else if j = 8 then [m, n] else [m]) = valsE (made_is.getD j 0) m n := by
  have z : ∀ j, j < 33 → (fieldsE (made_is.getD j 0)).length = (if j = 26 then 0 else if j = 25 then 0 else if j = 24 then 0 else if j = 8 then 2 else 1) := by decide +kernel
  unfold valsE
  rw [z j h]
  repeat' split
  all_goals rfl
theorem vals_named {m n : V} (j : Nat) (h : j < 24) : (if j = 5 then [m, n] else [m]) = valsE (named_is.getD j 0) m n := by
  have z : ∀ j, j < 24 → (fieldsE (named_is.getD j 0)).length = (if j = 5 then 2 else 1) := by decide +kernel
  unfold valsE
  rw [z j h]
  split
  all_goals rfl
theorem lt_made_is : ∀ k ∈ made_is, k < 33 := by decide
theorem lt_named_is : ∀ k ∈ named_is, k < 33 := by decide
theorem made_is_words : ((made_is.take 33).map fun k => V.str (wordE k)) = (Txt.split kindWords " ").map V.str := by
  have e : (made_is.take 33).map wordE = Txt.split kindWords " " := by decide +kernel
  rw [← e, List.map_map]
  rfl
def namedWords : Str := "name text value context page misplaced patches unfit size command trouble tree body tag" ++ " plan pass action notlibrary taken missing inuse ring nopath notlate"
theorem named_is_words : ((named_is.take 24).map fun k => V.str (wordE k)) = (Txt.split namedWords " ").map V.str := by
  have e : (named_is.take 24).map wordE = Txt.split namedWords " " := by decide +kernel
  rw [← e, List.map_map]
  rfl
theorem len4 : (("name text value context page misplaced patches unfit size command trouble tree body tag" : Str).length + (" plan pass action notlibrary taken missing inuse ring nopath notlate" : Str).length) ≤ sizeLine := by decide +kernel
theorem len5 : namedWords.length + 2 ≤ sizeLine := by decide +kernel
def allE : List Nat := [0, 1, 2, 3, 4, 5, 6, 7, 8, 9, 10, 11, 12, 13, 14, 15, 16, 17, 18, 19, 20, 21, 22, 23, 24, 25, 26, 27, 28, 29, 30, 31, 32]
section
variable {base : Heap} {P : Program} {w : World} {K : PySem.W.Frag} {mg : Str → Option Value} {C fI : Nat → Addr} {fdd : Nat → FuncData} {Sh St Sz : Addr}
abbrev s_right : Stmt := top 74
abbrev N_right : List Str := ["_law_pool_here", "_law_m", "_law_n", "_law_words_here", "_law_made_here", "_law_due", "_law_named_here", "_law_each"]
abbrev P_right : List Str := ["_law_pool_here"]
theorem sc_right : FnScope N_right P_right (defScope s_right) := ⟨rfl, rfl, rfl, by decide +kernel, rfl, by decide +kernel, by decide +kernel⟩
def spRight : Sp := fun vs H Q _ => ∃ p : Addr, vs = [.ref p] ∧ PoolAt H p ∧ ∀ H' : Hp, Keep p H H' → Q (.bl true) H'
theorem ok_right {f f1 f2 f3 f4 f5 f6 f7 : Addr} {fd d1 d2 d3 d4 d5 d6 d7 : FuncData} (F : Fun K "_law_right" "_law_right" s_right f fd) (T : Bl mg) (SK : SysK K) (E : Errs P w K mg base C fI fdd Sh St Sz) (D_form : Def P w K mg base "_law_form" 5 P_form (spFormL K 3) f1 d1) (D_form1 : Def P w K mg base "_law_form" 4 P_form (spFormL K 2) f1 d1)
    (D_thing_of : Def P w K mg base "_law_thing_of" 7 P_thing (spThingL K 5) f2 d2) (D_made : Def P w K mg base "_law_made" 3 P_made (spMade C) f3 d3) (D_named : Def P w K mg base "_law_named" 3 P_named (spNamed C) f4 d4) (D_kind : Def P w K mg base "_law_kind" 1 P_kind (spKd C) f5 d5)
    (D_fields_of : Def P w K mg base "_law_fields_of" 2 P_fields (spFd C allE) f6 d6) (D_same : Def P w K mg base "same" 12 P_same (spSame1 K) f7 d7) : FnG P w K mg base 13 f fd P_right spRight := by
  refine Fun.g F sc_right (fun vs H Q h => ?_) (fun cdv A outer s H vs Q quiet hr h => ?_)
  · obtain ⟨p, rfl, _⟩ := h
    rfl
  obtain ⟨p, rfl, hp, q⟩ := h
  refine ⟨_, (pss_cons (ps_asg (pe_tup (pa_cons (pe_call D_thing_of.ok (hr.mono (by first | decide | omega)) rfl D_thing_of.g D_thing_of.kp D_thing_of.b .nil pass0 (pa_cons (pv 0) (pa_cons (pe_call D_form.ok (hr.mono (by first | decide | omega)) rfl D_form.g D_form.kp D_form.b .nil pass0 (pa_cons (pv 0) (pa_cons pe_int pa_nil))) pa_nil))) (pa_cons (pe_call D_thing_of.ok (hr.mono (by first | decide | omega)) rfl D_thing_of.g D_thing_of.kp D_thing_of.b .nil pass0 (pa_cons (pv 0) (pa_cons (pe_call D_form1.ok (hr.mono (by first | decide | omega)) rfl D_form1.g D_form1.kp D_form1.b .nil pass0 (pa_cons (pv 0) (pa_cons pe_int pa_nil))) pa_nil))) pa_nil))) (pg_tup rfl (pgs_cons (pg_name (i := 1) sc_right.nd rfl (Or.inr rfl)) (pgs_cons (pg_name (i := 2) sc_right.nd rfl (Or.inl rfl)) pgs_nil))))
    (pss_cons (ps_set (i := 3) sc_right.nd rfl (Or.inl rfl) pe_str)
    (pss_cons (ps_set (i := 3) sc_right.nd rfl (Or.inl rfl) (pe_op op_add_str (pv 3) pe_str))
    (pss_cons (ps_set (i := 3) sc_right.nd rfl (Or.inl rfl) (pe_op op_add_str (pv 3) pe_str))
    (pss_cons (ps_set (i := 4) sc_right.nd rfl (Or.inl rfl) (pe_call D_made.ok (hr.mono (by first | decide | omega)) rfl D_made.g D_made.kp D_made.b .nil pass0 (pa_cons (pv 1) (pa_cons (pv 2) pa_nil))))
    (pss_cons (ps_if (pt_cmpR (op_neS K rfl hr.units) (pe_lc (own := [("_law_each", 7)]) (g := (gName 7)) (tt := tYes) rfl sc_right.nd (pi_list (pv 4)) (blkOk_by (own := [("_law_each", 7)]) (N := N_right) (sc := defScope s_right) (by decide +kernel)) (fun _ _ _ _ _ => (pg_name (i := 7) sc_right.nd rfl (Or.inl rfl))) (fun _ _ _ _ _ => pts_nil) (fun _ _ _ _ _ => (pe_call D_kind.ok (hr.mono (by first | decide | omega)) rfl D_kind.g D_kind.kp D_kind.b .nil pass0 (pa_cons (pv 7) pa_nil)))) (pe_split (pv 3) pe_str) (nomark _))
      (pss_one (ps_ret pe_bl))
      pss_nil)
    (pss_cons (ps_setLc (i := 5) (own := [("_law_each", 7)]) (g := (gName 7)) (tt := tYes) rfl sc_right.nd rfl rfl (sw_true rfl rfl rfl (by decide +kernel)) (pi_list (pv 4)) (blkOk_by (own := [("_law_each", 7)]) (N := N_right) (sc := defScope s_right) (by decide +kernel)) (fun _ _ _ _ _ => (pg_name (i := 7) sc_right.nd rfl (Or.inl rfl))) (fun _ _ _ _ _ => pts_nil) (fun _ _ _ _ _ => (pe_lst (pa_cons (pv 1) pa_nil))))
    (pss_cons (ps_asg (pe_tup (pa_cons (pe_lst (pa_cons (pv 1) (pa_cons (pv 2) pa_nil))) (pa_cons (pe_lst pa_nil) (pa_cons (pe_lst pa_nil) (pa_cons (pe_lst pa_nil) pa_nil))))) (pg_tup rfl (pgs_cons (pg_sub (pv 5) pe_int set_list) (pgs_cons (pg_sub (pv 5) pe_int set_list) (pgs_cons (pg_sub (pv 5) pe_int set_list) (pgs_cons (pg_sub (pv 5) pe_int set_list) pgs_nil))))))
    (pss_cons (ps_if (PW.pt (pw_or (pt_cmpR op_ne (pe_callB (call_reprK K rfl SK quiet hr) (by rfl) T.repr (by decide +kernel) (pa_cons (pe_lc (own := [("_law_each", 7)]) (g := (gName 7)) (tt := tYes) rfl sc_right.nd (pi_list (pv 4)) (blkOk_by (own := [("_law_each", 7)]) (N := N_right) (sc := defScope s_right) (by decide +kernel)) (fun _ _ _ _ _ => (pg_name (i := 7) sc_right.nd rfl (Or.inl rfl))) (fun _ _ _ _ _ => pts_nil) (fun _ _ _ _ _ => (pe_call D_fields_of.ok (hr.mono (by first | decide | omega)) rfl D_fields_of.g D_fields_of.kp D_fields_of.b .nil pass0 (pa_cons (pv 7) pa_nil)))) pa_nil)) (pe_callB (call_reprK K rfl SK quiet hr) (by rfl) T.repr (by decide +kernel) (pa_cons (pv 5) pa_nil)) (nomark _)) (pw_or1 (pt_not (pt_val (pe_call D_same.ok (hr.mono (by first | decide | omega)) rfl D_same.g D_same.kp D_same.b .nil pass0 (pa_cons (pe_erF K rfl (pe_ix (ix_listK K rfl) (pv 4) pe_int (fun _ _ => rfl))) (pa_cons (pv 1) pa_nil))))))))
      (pss_one (ps_ret pe_bl))
      pss_nil)
    (pss_cons (ps_set (i := 6) sc_right.nd rfl (Or.inl rfl) (pe_call D_named.ok (hr.mono (by first | decide | omega)) rfl D_named.g D_named.kp D_named.b .nil pass0 (pa_cons (pv 1) (pa_cons (pv 2) pa_nil))))
    (pss_cons (ps_set (i := 3) sc_right.nd rfl (Or.inl rfl) pe_str)
    (pss_cons (ps_set (i := 3) sc_right.nd rfl (Or.inl rfl) (pe_op op_add_str (pv 3) pe_str))
    (pss_cons (ps_if (pt_cmpR (op_neS K rfl hr.units) (pe_lc (own := [("_law_each", 7)]) (g := (gName 7)) (tt := tYes) rfl sc_right.nd (pi_list (pv 6)) (blkOk_by (own := [("_law_each", 7)]) (N := N_right) (sc := defScope s_right) (by decide +kernel)) (fun _ _ _ _ _ => (pg_name (i := 7) sc_right.nd rfl (Or.inl rfl))) (fun _ _ _ _ _ => pts_nil) (fun _ _ _ _ _ => (pe_call D_kind.ok (hr.mono (by first | decide | omega)) rfl D_kind.g D_kind.kp D_kind.b .nil pass0 (pa_cons (pv 7) pa_nil)))) (pe_split (pv 3) pe_str) (nomark _))
      (pss_one (ps_ret pe_bl))
      pss_nil)
    (pss_cons (ps_setLc (i := 5) (own := [("_law_each", 7)]) (g := (gName 7)) (tt := tYes) rfl sc_right.nd rfl rfl (sw_true rfl rfl rfl (by decide +kernel)) (pi_list (pv 6)) (blkOk_by (own := [("_law_each", 7)]) (N := N_right) (sc := defScope s_right) (by decide +kernel)) (fun _ _ _ _ _ => (pg_name (i := 7) sc_right.nd rfl (Or.inl rfl))) (fun _ _ _ _ _ => pts_nil) (fun _ _ _ _ _ => (pe_lst (pa_cons (pv 1) pa_nil))))
    (pss_cons (ps_asg (pe_lst (pa_cons (pv 1) (pa_cons (pv 2) pa_nil))) (pg_sub (pv 5) pe_int set_list))
    (pss_one (ps_ret (pe_cmpR op_eq (pe_callB (call_reprK K rfl SK quiet hr) (by rfl) T.repr (by decide +kernel) (pa_cons (pe_lc (own := [("_law_each", 7)]) (g := (gName 7)) (tt := tYes) rfl sc_right.nd (pi_list (pv 6)) (blkOk_by (own := [("_law_each", 7)]) (N := N_right) (sc := defScope s_right) (by decide +kernel)) (fun _ _ _ _ _ => (pg_name (i := 7) sc_right.nd rfl (Or.inl rfl))) (fun _ _ _ _ _ => pts_nil) (fun _ _ _ _ _ => (pe_call D_fields_of.ok (hr.mono (by first | decide | omega)) rfl D_fields_of.g D_fields_of.kp D_fields_of.b .nil pass0 (pa_cons (pv 7) pa_nil)))) pa_nil)) (pe_callB (call_reprK K rfl SK quiet hr) (by rfl) T.repr (by decide +kernel) (pa_cons (pv 5) pa_nil)) (nomark _))))))))))))))))))), ?_⟩
  -- the two values
  refine ⟨_, rfl, _, rfl, p, rfl, hp, fun H1 v1 g1 k1 p1 e1 o1 => ?_⟩
  refine ⟨p, v1, g1, rfl, p1, Dq.same (sub_hide hp.has) _ _ e1, okD_of 2 g1 o1, fun H2 m dm k2 p2 dqm fm => ?_⟩
  refine ⟨_, rfl, _, rfl, p, rfl, p2, fun H3 v2 g2 k3 p3 e2 o2 => ?_⟩
  refine ⟨p, v2, g2, rfl, p3, Dq.same (sub_hide p2.has) _ _ e2, okD_up _ _ (okD_up _ _ (okD_of 1 g2 o2)), fun H4 n dn k4 p4 dqn fn => ?_⟩
  have vm : Vd 6 dm := (fit_vd 2 g1 dm o1 fm).ups 2
  have zm : Sd 4 dm := fit_sd 2 g1 dm o1 fm
  have zn : Sd 4 dn := (fit_sd 1 g2 dn o2 fn).up.up
  have m4 : Dq K H4 m dm := Dq.same ((sub_keep (k3.trans k4) p1.has).trans (sub_same H1 H4)) _ _ dqm
  have n4 : Dq K H4 n dn := Dq.same (sub_same H3 H4) _ _ dqn
  have kH : ∀ G : Hp, Same H4 G → Keep p H G := fun G s => k1.trans (k2.trans (k3.trans (k4.trans (Same.keep s))))
  clear k1 k2 k3 k4 p1 p2 p3 p4 e1 e2 o1 o2 fm fn dqm dqn hp
  refine ⟨(by show 2 ≤ sizeLine; decide), fun t ht => ⟨t, _, rfl, SqT.of upd_same, rfl, _, _, rfl, _, _, rfl, rfl, ?_⟩⟩
  have s1 := same_new ht (.tup [m, n])
  obtain ⟨G1, eG1⟩ : ∃ G1, G1 = upd H4 t (.tup [m, n]) := ⟨_, rfl⟩
  rw [← eG1] at s1 ⊢
  clear eG1 ht
  -- all by place
  refine ⟨_, rfl, _, _, rfl, rfl, len1, _, rfl, _, _, rfl, rfl, len2, ?_⟩
  refine ⟨_, rfl, _, rfl, m, n, rfl, fun G2 lm es s2 nl gl ae => ?_⟩
  have el : es.length = 33 := ae.len
  have s12 := s1.trans s2
  refine ⟨_, rfl, lm, rfl, ⟨_, SqL.of gl⟩, fun D hD => ?_⟩
  refine lc_it (walk_list (K := K) (a := lm) (xs := es.map V.ref)) (fun i G => Same G2 G ∧ G D = some (.lst ((made_is.take i).map fun k => V.str (wordE k)))) ⟨same_new hD _, upd_same⟩ (fun i G _ z => SqL.of (z.1 _ _ gl)) ?_ ?_
  · rintro i x G9 G hi ⟨kept, made⟩ ⟨rfl, hx⟩
    obtain ⟨a, ea, rfl⟩ : ∃ a, es[i]? = some a ∧ V.ref a = x := by
      rw [List.getElem?_map] at hx
      exact Option.map_eq_some_iff.mp hx
    obtain ⟨k, ek, er⟩ := ae.get ea
    have lt : k < 33 := lt_made_is k (List.mem_of_getElem? ek)
    refine ⟨rfl, yesT ⟨_, rfl, a, k, m, n, rfl, lt, er.same kept, fun G3 same => ⟨_, same _ _ made, ?_, Same.updNew (kept.trans same) hD, ?_⟩⟩⟩
    · rw [List.length_map, List.length_take]
      have : made_is.length = 33 := rfl
      exact less_line (by omega)
    · rw [upd_same, List.take_succ, ek, List.map_append]
      rfl
  rintro Gk ⟨kept, made⟩
  rw [show ((made_is.take (es.map V.ref).length).map fun k => V.str (wordE k)) = (Txt.split kindWords " ").map V.str from by
    rw [List.length_map, el]
    exact made_is_words] at made
  refine ⟨_, rfl, ⟨_, rfl⟩, _, _, rfl, rfl, rfl, len3, fun b hb => ?_⟩
  refine ⟨D, b, Txt.split kindWords " ", rfl, rfl, SqL.of (same_new hb _ _ _ made), SqL.of upd_same, _, rfl, if_ff rfl ?_⟩
  have s3 := kept.trans (same_new hb (.lst ((Txt.split (("name text value tree context page body tag misplaced plan pass patches size action command" : Str) ++ (" notlibrary trouble taken missing inuse ring unfit nopath notlate notdone" : Str) ++ (" busy undo templates levels nodes elements entries deep" : Str)) " ").map V.str)))
  obtain ⟨G3, eG3⟩ : ∃ G3, G3 = upd Gk b (.lst ((Txt.split (("name text value tree context page body tag misplaced plan pass patches size action command" : Str) ++ (" notlibrary trouble taken missing inuse ring unfit nopath notlate notdone" : Str) ++ (" busy undo templates levels nodes elements entries deep" : Str)) " ").map V.str)) := ⟨_, rfl⟩
  rw [← eG3] at s3 ⊢
  clear eG3 hb made kept
  have gl3 := s3 _ _ gl
  -- what is due
  refine ⟨_, rfl, lm, rfl, ⟨_, SqL.of gl3⟩, fun D newD => ?_⟩
  refine lc_it (walk_list (K := K) (a := lm) (xs := es.map V.ref)) (fun i G => Same G3 G ∧ ∃ ls : List Addr, G D = some (.lst (ls.map V.ref)) ∧ ls.length = i ∧ RowsE G D (fun _ => [m]) ls) ⟨same_new newD _, [], upd_same, rfl, fun j l e => by simp at e⟩ (fun i G _ z => SqL.of (z.1 _ _ gl3)) ?_ ?_
  · rintro i x G9 G hi ⟨kept, ls, made, len, rows⟩ ⟨rfl, hx⟩
    refine ⟨rfl, yesT ⟨_, rfl, (by show 1 ≤ sizeLine; decide), fun l newL => ?_⟩⟩
    have ne : l ≠ D := (ne_of_none made newL).symm
    have sl := same_new newL (.lst [m])
    refine ⟨_, by rw [upd_ne ne.symm]; exact made, ?_, Same.updNew (kept.trans sl) newD, ls ++ [l], by rw [upd_same, List.map_append]; rfl, by rw [List.length_append, len]; rfl, ?_⟩
    · rw [List.length_map, len]
      rw [List.length_map] at hi
      exact less_line (by omega)
    · exact ((rows.same sl).snoc ne upd_same).put
  rintro G4 ⟨s4, ls, made, len, rows⟩
  rw [List.length_map, el] at len
  refine ⟨_, rfl, _, rfl, (by show 2 ≤ sizeLine; decide), fun a1 h_a1 => ?_⟩
  have ne1 : a1 ≠ D := (ne_of_none made h_a1).symm
  have s_J1 := same_new h_a1 (.lst [m, n])
  obtain ⟨J1, e_J1⟩ : ∃ J1, J1 = upd G4 a1 (.lst [m, n]) := ⟨_, rfl⟩
  have at_a1 : J1 a1 = some (.lst [m, n]) := by rw [e_J1]; exact upd_same
  rw [← e_J1] at s_J1 ⊢
  clear e_J1
  refine ⟨(by show 0 ≤ sizeLine; decide), fun a2 h_a2 => ?_⟩
  have made1 := s_J1 _ _ made
  have ne2 : a2 ≠ D := (ne_of_none made1 h_a2).symm
  have s_J2 := same_new h_a2 (.lst [])
  obtain ⟨J2, e_J2⟩ : ∃ J2, J2 = upd J1 a2 (.lst []) := ⟨_, rfl⟩
  have at_a2 : J2 a2 = some (.lst []) := by rw [e_J2]; exact upd_same
  rw [← e_J2] at s_J2 ⊢
  clear e_J2
  refine ⟨(by show 0 ≤ sizeLine; decide), fun a3 h_a3 => ?_⟩
  have made2 := s_J2 _ _ made1
  have ne3 : a3 ≠ D := (ne_of_none made2 h_a3).symm
  have s_J3 := same_new h_a3 (.lst [])
  obtain ⟨J3, e_J3⟩ : ∃ J3, J3 = upd J2 a3 (.lst []) := ⟨_, rfl⟩
  have at_a3 : J3 a3 = some (.lst []) := by rw [e_J3]; exact upd_same
  rw [← e_J3] at s_J3 ⊢
  clear e_J3
  refine ⟨(by show 0 ≤ sizeLine; decide), fun a4 h_a4 => ?_⟩
  have made3 := s_J3 _ _ made2
  have ne4 : a4 ≠ D := (ne_of_none made3 h_a4).symm
  have s_J4 := same_new h_a4 (.lst [])
  obtain ⟨J4, e_J4⟩ : ∃ J4, J4 = upd J3 a4 (.lst []) := ⟨_, rfl⟩
  have at_a4 : J4 a4 = some (.lst []) := by rw [e_J4]; exact upd_same
  rw [← e_J4] at s_J4 ⊢
  clear e_J4
  refine ⟨(by show 4 ≤ sizeLine; decide), fun t h_t => ?_⟩
  have made4 := s_J4 _ _ made3
  have s_J5 := same_new h_t (.tup [.ref a1, .ref a2, .ref a3, .ref a4])
  obtain ⟨J5, e_J5⟩ : ∃ J5, J5 = upd J4 t (.tup [.ref a1, .ref a2, .ref a3, .ref a4]) := ⟨_, rfl⟩
  have at_t : J5 t = some (.tup [.ref a1, .ref a2, .ref a3, .ref a4]) := by rw [e_J5]; exact upd_same
  rw [← e_J5] at s_J5 ⊢
  clear e_J5
  have made5 := s_J5 _ _ made4
  have q4 := s_J5 _ _ at_a4
  have q3 := (s_J4.trans s_J5) _ _ at_a3
  have q2 := (s_J3.trans (s_J4.trans s_J5)) _ _ at_a2
  have q1 := (s_J2.trans (s_J3.trans (s_J4.trans s_J5))) _ _ at_a1
  have s45 := s_J1.trans (s_J2.trans (s_J3.trans (s_J4.trans s_J5)))
  have rows5 := rows.same s45
  have s35 := s4.trans s45
  clear made1 made2 made3 made4 at_a1 at_a2 at_a3 at_a4 s_J1 s_J2 s_J3 s_J4 s_J5 rows made s4 s45
  refine ⟨t, _, rfl, SqT.of at_t, rfl, ?_⟩
  have l33 : (ls.map V.ref).length = 33 := by rw [List.length_map]; exact len
  refine ⟨_, _, rfl, _, rfl, D, _, 8, 8, rfl, rfl, made5, (by rw [List.length_map, len]; rfl), ?_⟩
  have b0 : upd J5 D (.lst ((ls.map V.ref).set 8 (.ref a1))) D = some (.lst ((ls.set 8 a1).map V.ref)) := by
    rw [upd_same, List.map_set]
  have c0 := (rows5.set 8 [m, n] ne1 q1).put (o := .lst ((ls.map V.ref).set 8 (.ref a1)))
  have d0 := Same.updNew (o := .lst ((ls.map V.ref).set 8 (.ref a1))) s35 newD
  have q2x0 : upd J5 D (.lst ((ls.map V.ref).set 8 (.ref a1))) a2 = _ := (upd_ne ne2).trans q2
  have q3x0 : upd J5 D (.lst ((ls.map V.ref).set 8 (.ref a1))) a3 = _ := (upd_ne ne3).trans q3
  have q4x0 : upd J5 D (.lst ((ls.map V.ref).set 8 (.ref a1))) a4 = _ := (upd_ne ne4).trans q4
  obtain ⟨J6, eJ6⟩ : ∃ J6, J6 = upd J5 D (.lst ((ls.map V.ref).set 8 (.ref a1))) := ⟨_, rfl⟩
  rw [← eJ6] at b0 c0 d0 q2x0 q3x0 q4x0 ⊢
  clear eJ6
  obtain ⟨l0, el0⟩ : ∃ l0, l0 = ls.set 8 a1 := ⟨_, rfl⟩
  have len0 : l0.length = 33 := by rw [el0, List.length_set]; exact len
  rw [← el0] at b0 c0
  clear el0
  refine ⟨_, _, rfl, _, rfl, D, _, 24, 24, rfl, rfl, b0, (by rw [List.length_map, len0]; rfl), ?_⟩
  have b1 : upd J6 D (.lst ((l0.map V.ref).set 24 (.ref a2))) D = some (.lst ((l0.set 24 a2).map V.ref)) := by
    rw [upd_same, List.map_set]
  have c1 := (c0.set 24 [] ne2 q2x0).put (o := .lst ((l0.map V.ref).set 24 (.ref a2)))
  have d1 := Same.updNew (o := .lst ((l0.map V.ref).set 24 (.ref a2))) d0 newD
  have q3x1 : upd J6 D (.lst ((l0.map V.ref).set 24 (.ref a2))) a3 = _ := (upd_ne ne3).trans q3x0
  have q4x1 : upd J6 D (.lst ((l0.map V.ref).set 24 (.ref a2))) a4 = _ := (upd_ne ne4).trans q4x0
  obtain ⟨J7, eJ7⟩ : ∃ J7, J7 = upd J6 D (.lst ((l0.map V.ref).set 24 (.ref a2))) := ⟨_, rfl⟩
  rw [← eJ7] at b1 c1 d1 q3x1 q4x1 ⊢
  clear eJ7
  obtain ⟨l1, el1⟩ : ∃ l1, l1 = l0.set 24 a2 := ⟨_, rfl⟩
  have len1 : l1.length = 33 := by rw [el1, List.length_set]; exact len0
  rw [← el1] at b1 c1
  clear el1
  refine ⟨_, _, rfl, _, rfl, D, _, 25, 25, rfl, rfl, b1, (by rw [List.length_map, len1]; rfl), ?_⟩
  have b2 : upd J7 D (.lst ((l1.map V.ref).set 25 (.ref a3))) D = some (.lst ((l1.set 25 a3).map V.ref)) := by
    rw [upd_same, List.map_set]
  have c2 := (c1.set 25 [] ne3 q3x1).put (o := .lst ((l1.map V.ref).set 25 (.ref a3)))
  have d2 := Same.updNew (o := .lst ((l1.map V.ref).set 25 (.ref a3))) d1 newD
  have q4x2 : upd J7 D (.lst ((l1.map V.ref).set 25 (.ref a3))) a4 = _ := (upd_ne ne4).trans q4x1
  obtain ⟨J8, eJ8⟩ : ∃ J8, J8 = upd J7 D (.lst ((l1.map V.ref).set 25 (.ref a3))) := ⟨_, rfl⟩
  rw [← eJ8] at b2 c2 d2 q4x2 ⊢
  clear eJ8
  obtain ⟨l2, el2⟩ : ∃ l2, l2 = l1.set 25 a3 := ⟨_, rfl⟩
  have len2 : l2.length = 33 := by rw [el2, List.length_set]; exact len1
  rw [← el2] at b2 c2
  clear el2
  refine ⟨_, _, rfl, _, rfl, D, _, 26, 26, rfl, rfl, b2, (by rw [List.length_map, len2]; rfl), ?_⟩
  have b3 : upd J8 D (.lst ((l2.map V.ref).set 26 (.ref a4))) D = some (.lst ((l2.set 26 a4).map V.ref)) := by
    rw [upd_same, List.map_set]
  have c3 := (c2.set 26 [] ne4 q4x2).put (o := .lst ((l2.map V.ref).set 26 (.ref a4)))
  have d3 := Same.updNew (o := .lst ((l2.map V.ref).set 26 (.ref a4))) d2 newD
  obtain ⟨J9, eJ9⟩ : ∃ J9, J9 = upd J8 D (.lst ((l2.map V.ref).set 26 (.ref a4))) := ⟨_, rfl⟩
  rw [← eJ9] at b3 c3 d3 ⊢
  clear eJ9
  obtain ⟨l3, el3⟩ : ∃ l3, l3 = l2.set 26 a4 := ⟨_, rfl⟩
  have len3 : l3.length = 33 := by rw [el3, List.length_set]; exact len2
  rw [← el3] at b3 c3
  clear el3
  refine ⟨rfl, ?_⟩
  have dueR : RowsE J9 D (fun j => valsE (made_is.getD j 0) m n) l3 := c3.as fun j hj => vals_made j (by omega)
  have gl9 := d3 _ _ gl3
  have ae9 := ae.same (s3.trans d3)
  have s9 := s3.trans d3
  -- the fields
  refine ⟨_, rfl, lm, rfl, ⟨_, SqL.of gl9⟩, fun B newB => ?_⟩
  refine lc_it (walk_list (K := K) (a := lm) (xs := es.map V.ref)) (fun i G => Same J9 G ∧ ∃ us : List Addr, G B = some (.lst (us.map V.ref)) ∧ us.length = i ∧ RowsE G B (fun j => valsE (made_is.getD j 0) m n) us) ⟨same_new newB _, [], upd_same, rfl, fun j l e => by simp at e⟩ (fun i G _ z => SqL.of (z.1 _ _ gl9)) ?_ ?_
  · rintro i x G9 G hi ⟨kept, us, made, len, rows⟩ ⟨rfl, hx⟩
    obtain ⟨a, ea, rfl⟩ : ∃ a, es[i]? = some a ∧ V.ref a = x := by
      rw [List.getElem?_map] at hx
      exact Option.map_eq_some_iff.mp hx
    obtain ⟨k, ek, er⟩ := ae9.get ea
    have lt : k < 33 := lt_made_is k (List.mem_of_getElem? ek)
    have kd : made_is.getD i 0 = k := by rw [List.getD_eq_getElem?_getD, ek]; rfl
    refine ⟨rfl, yesT ⟨_, rfl, a, k, m, n, rfl, lt, in_all k lt, er.same kept, fun G3 l same newL row => ?_⟩⟩
    have ne : l ≠ B := (ne_of_none made newL).symm
    refine ⟨_, same _ _ made, ?_, Same.updNew (kept.trans same) newB, us ++ [l], by rw [upd_same, List.map_append]; rfl, by rw [List.length_append, len]; rfl, ?_⟩
    · rw [List.length_map, len]
      rw [List.length_map] at hi
      exact less_line (by omega)
    · exact ((rows.same same).snoc ne (by rw [len, kd]; exact row)).put
  rintro F ⟨sF, us, madeF, lenF, rowsF⟩
  rw [List.length_map] at lenF
  have mF := Dq.same (s1.trans (s2.trans (s9.trans sF))) _ _ m4
  have nF := Dq.same (s1.trans (s2.trans (s9.trans sF))) _ _ n4
  have shows : Shows (rowsD dm dn made_is) := rows_show (by decide) zm zn
  refine ⟨.ref B, rowsD dm dn made_is, rfl, .lst madeF (rows_dq mF nF made_is us (by rw [lenF, el]; rfl) fun j l e => (rowsF j l e).2), shows, ?_⟩
  refine ⟨_, rfl, .ref D, rowsD dm dn made_is, rfl, .lst (sF _ _ b3) (rows_dq mF nF made_is l3 (by rw [len3]; rfl) fun j l e => ((dueR.same sF) j l e).2), shows, ?_⟩
  refine ⟨rfl, _, rfl, if_ff (by rw [decide_eq_true rfl]; rfl) ?_⟩
  -- the first one's field
  obtain ⟨x0, ex0⟩ : ∃ x0, es[0]? = some x0 := ⟨_, List.getElem?_eq_getElem (by omega)⟩
  obtain ⟨k0, ek0, er0⟩ := ae9.get ex0
  obtain rfl : 0 = k0 := Option.some.inj ek0
  have D0 := E.d 0 (by decide)
  refine ⟨_, rfl, lm, _, 0, .ref x0, rfl, rfl, SqL.of (sF _ _ gl9), at_of (j := 0) rfl (by rw [List.getElem?_map, ex0]; rfl), ?_⟩
  refine ⟨x0, C 0, fsE 0 m n, m, _, _, _, _, rfl, er0.same sF, D0.er, D0.no "called" (by decide), rfl, ?_⟩
  refine ⟨_, rfl, m, dm, rfl, mF, vm, fun M sM => ⟨_, rfl, if_ff rfl ?_⟩⟩
  have mM := Dq.same sM _ _ mF
  have nM := Dq.same sM _ _ nF
  have s4M := s1.trans (s2.trans (s9.trans (sF.trans sM)))
  -- some by name
  refine ⟨_, rfl, _, rfl, m, n, rfl, fun N2 ln en sN nln gl2 ae2 => ?_⟩
  have el2 : en.length = 24 := ae2.len
  refine ⟨_, rfl, _, _, rfl, rfl, len4, ?_⟩
  refine ⟨_, rfl, ln, rfl, ⟨_, SqL.of gl2⟩, fun D hD => ?_⟩
  refine lc_it (walk_list (K := K) (a := ln) (xs := en.map V.ref)) (fun i G => Same N2 G ∧ G D = some (.lst ((named_is.take i).map fun k => V.str (wordE k)))) ⟨same_new hD _, upd_same⟩ (fun i G _ z => SqL.of (z.1 _ _ gl2)) ?_ ?_
  · rintro i x G9 G hi ⟨kept, made⟩ ⟨rfl, hx⟩
    obtain ⟨a, ea, rfl⟩ : ∃ a, en[i]? = some a ∧ V.ref a = x := by
      rw [List.getElem?_map] at hx
      exact Option.map_eq_some_iff.mp hx
    obtain ⟨k, ek, er⟩ := ae2.get ea
    have lt : k < 33 := lt_named_is k (List.mem_of_getElem? ek)
    refine ⟨rfl, yesT ⟨_, rfl, a, k, m, n, rfl, lt, er.same kept, fun G3 same => ⟨_, same _ _ made, ?_, Same.updNew (kept.trans same) hD, ?_⟩⟩⟩
    · rw [List.length_map, List.length_take]
      have : named_is.length = 24 := rfl
      exact less_line (by omega)
    · rw [upd_same, List.take_succ, ek, List.map_append]
      rfl
  rintro G2k ⟨kept, made⟩
  rw [show ((named_is.take (en.map V.ref).length).map fun k => V.str (wordE k)) = (Txt.split namedWords " ").map V.str from by
    rw [List.length_map, el2]
    exact named_is_words] at made
  refine ⟨_, rfl, ⟨_, rfl⟩, _, _, rfl, rfl, rfl, len5, fun b hb => ?_⟩
  refine ⟨D, b, Txt.split namedWords " ", rfl, rfl, SqL.of (same_new hb _ _ _ made), SqL.of upd_same, _, rfl, if_ff rfl ?_⟩
  have s3 := kept.trans (same_new hb (.lst ((Txt.split (("name text value context page misplaced patches unfit size command trouble tree body tag" : Str) ++ (" plan pass action notlibrary taken missing inuse ring nopath notlate" : Str)) " ").map V.str)))
  obtain ⟨N3, eN3⟩ : ∃ N3, N3 = upd G2k b (.lst ((Txt.split (("name text value context page misplaced patches unfit size command trouble tree body tag" : Str) ++ (" plan pass action notlibrary taken missing inuse ring nopath notlate" : Str)) " ").map V.str)) := ⟨_, rfl⟩
  rw [← eN3] at s3 ⊢
  clear eN3 hb made kept
  have gl32 := s3 _ _ gl2
  -- what is due
  refine ⟨_, rfl, ln, rfl, ⟨_, SqL.of gl32⟩, fun D newD => ?_⟩
  refine lc_it (walk_list (K := K) (a := ln) (xs := en.map V.ref)) (fun i G => Same N3 G ∧ ∃ ls : List Addr, G D = some (.lst (ls.map V.ref)) ∧ ls.length = i ∧ RowsE G D (fun _ => [m]) ls) ⟨same_new newD _, [], upd_same, rfl, fun j l e => by simp at e⟩ (fun i G _ z => SqL.of (z.1 _ _ gl32)) ?_ ?_
  · rintro i x G9 G hi ⟨kept, ls, made, len, rows⟩ ⟨rfl, hx⟩
    refine ⟨rfl, yesT ⟨_, rfl, (by show 1 ≤ sizeLine; decide), fun l newL => ?_⟩⟩
    have ne : l ≠ D := (ne_of_none made newL).symm
    have sl := same_new newL (.lst [m])
    refine ⟨_, by rw [upd_ne ne.symm]; exact made, ?_, Same.updNew (kept.trans sl) newD, ls ++ [l], by rw [upd_same, List.map_append]; rfl, by rw [List.length_append, len]; rfl, ?_⟩
    · rw [List.length_map, len]
      rw [List.length_map] at hi
      exact less_line (by omega)
    · exact ((rows.same sl).snoc ne upd_same).put
  rintro G42 ⟨s42, ls, made, len, rows⟩
  rw [List.length_map, el2] at len
  refine ⟨_, rfl, _, rfl, (by show 2 ≤ sizeLine; decide), fun a1 h_a1 => ?_⟩
  have ne1 : a1 ≠ D := (ne_of_none made h_a1).symm
  have s_J1 := same_new h_a1 (.lst [m, n])
  obtain ⟨J1, e_J1⟩ : ∃ J1, J1 = upd G42 a1 (.lst [m, n]) := ⟨_, rfl⟩
  have at_a1 : J1 a1 = some (.lst [m, n]) := by rw [e_J1]; exact upd_same
  rw [← e_J1] at s_J1 ⊢
  clear e_J1
  have made1 := s_J1 _ _ made
  have rows1 := rows.same s_J1
  refine ⟨_, rfl, D, _, 5, 5, rfl, rfl, made1, (by rw [List.length_map, len]; rfl), ?_⟩
  have b0 : upd J1 D (.lst ((ls.map V.ref).set 5 (.ref a1))) D = some (.lst ((ls.set 5 a1).map V.ref)) := by
    rw [upd_same, List.map_set]
  have c0 := (rows1.set 5 [m, n] ne1 at_a1).put (o := .lst ((ls.map V.ref).set 5 (.ref a1)))
  have d0 := Same.updNew (o := .lst ((ls.map V.ref).set 5 (.ref a1))) (s42.trans s_J1) newD
  obtain ⟨J6, eJ6⟩ : ∃ J6, J6 = upd J1 D (.lst ((ls.map V.ref).set 5 (.ref a1))) := ⟨_, rfl⟩
  rw [← eJ6] at b0 c0 d0 ⊢
  clear eJ6
  obtain ⟨l0, el0⟩ : ∃ l0, l0 = ls.set 5 a1 := ⟨_, rfl⟩
  have len0 : l0.length = 24 := by rw [el0, List.length_set]; exact len
  rw [← el0] at b0 c0
  clear el0
  have dueR : RowsE J6 D (fun j => valsE (named_is.getD j 0) m n) l0 := c0.as fun j hj => vals_named j (by omega)
  have gl9 := d0 _ _ gl32
  have ae9' := ae2.same (s3.trans d0)
  -- the fields
  refine ⟨_, rfl, ln, rfl, ⟨_, SqL.of gl9⟩, fun B newB => ?_⟩
  refine lc_it (walk_list (K := K) (a := ln) (xs := en.map V.ref)) (fun i G => Same J6 G ∧ ∃ us : List Addr, G B = some (.lst (us.map V.ref)) ∧ us.length = i ∧ RowsE G B (fun j => valsE (named_is.getD j 0) m n) us) ⟨same_new newB _, [], upd_same, rfl, fun j l e => by simp at e⟩ (fun i G _ z => SqL.of (z.1 _ _ gl9)) ?_ ?_
  · rintro i x G9 G hi ⟨kept, us, made, len, rows⟩ ⟨rfl, hx⟩
    obtain ⟨a, ea, rfl⟩ : ∃ a, en[i]? = some a ∧ V.ref a = x := by
      rw [List.getElem?_map] at hx
      exact Option.map_eq_some_iff.mp hx
    obtain ⟨k, ek, er⟩ := ae9'.get ea
    have lt : k < 33 := lt_named_is k (List.mem_of_getElem? ek)
    have kd : named_is.getD i 0 = k := by rw [List.getD_eq_getElem?_getD, ek]; rfl
    refine ⟨rfl, yesT ⟨_, rfl, a, k, m, n, rfl, lt, in_all k lt, er.same kept, fun G3 l same newL row => ?_⟩⟩
    have ne : l ≠ B := (ne_of_none made newL).symm
    refine ⟨_, same _ _ made, ?_, Same.updNew (kept.trans same) newB, us ++ [l], by rw [upd_same, List.map_append]; rfl, by rw [List.length_append, len]; rfl, ?_⟩
    · rw [List.length_map, len]
      rw [List.length_map] at hi
      exact less_line (by omega)
    · exact ((rows.same same).snoc ne (by rw [len, kd]; exact row)).put
  rintro F ⟨sF, us, madeF, lenF, rowsF⟩
  rw [List.length_map] at lenF
  have sAll := sN.trans (s3.trans (d0.trans sF))
  have mF := Dq.same sAll _ _ mM
  have nF := Dq.same sAll _ _ nM
  have shows : Shows (rowsD dm dn named_is) := rows_show (by decide) zm zn
  refine ⟨.ref B, rowsD dm dn named_is, rfl, .lst madeF (rows_dq mF nF named_is us (by rw [lenF, el2]; rfl) fun j l e => (rowsF j l e).2), shows, ?_⟩
  refine ⟨_, rfl, .ref D, rowsD dm dn named_is, rfl, .lst (sF _ _ b0) (rows_dq mF nF named_is l0 (by rw [len0]; rfl) fun j l e => ((dueR.same sF) j l e).2), shows, ?_⟩
  refine ⟨rfl, ?_⟩
  rw [decide_eq_true rfl]
  exact q _ (kH _ (s4M.trans sAll))
end
end KX

namespace KX
open PySem PySem.Spec L2 PyProof.Rows
theorem pool_after {H1 H2 H3 : Hp} {p : Addr} (s : Same H1 H2) (new : H1 p = none) (k : Keep p H2 H3) : Same H1 H3 := fun b o e => k b o (ne_of_none e new) (s b o e)
theorem minmax (n : Nat) : ∃ m : Nat, (if (if (4 : Int) < (n : Int) then (4 : Int) else (n : Int)) > 2 then (if (4 : Int) < (n : Int) then (4 : Int) else (n : Int)) else 2) = (m : Int) ∧ m ≤ 4 := by
  by_cases h : (4 : Int) < (n : Int)
  · exact ⟨4, by rw [if_pos h]; rfl, Nat.le_refl _⟩
  · by_cases h2 : (n : Int) > 2
    · exact ⟨n, by rw [if_neg h, if_pos h2], by omega⟩
    · exact ⟨2, by rw [if_neg h, if_neg h2]; rfl, by decide⟩
/-- the limits, as they are asked -/
def limitsD : PyData := .list [.int 60, .int 6, .int 30, .int 40, .int 3000, .int 100, .int 100]
theorem limits_show : Shows limitsD := ⟨by decide +kernel, by decide +kernel, by decide +kernel⟩
section
variable {base : Heap} {P : Program} {w : World} {K : PySem.W.Frag} {mg : Str → Option Value} {tk : Str → Tok}
theorem limits_dq {G : Hp} {a : Addr} (h : G a = some (.lst [.int 60, .int 6, .int 30, .int 40, .int 3000, .int 100, .int 100])) : Dq K G (.ref a) limitsD :=
  .lst h (.cons (.int _) (.cons (.int _) (.cons (.int _) (.cons (.int _) (.cons (.int _) (.cons (.int _) (.cons (.int _) .nil)))))))
abbrev s_law : Stmt := top 75
abbrev N_law : List Str := ["_law_script", "_law_sizes", "_law_k"]
abbrev P_law : List Str := ["_law_script"]
theorem sc_law : FnScope N_law P_law (defScope s_law) := ⟨rfl, rfl, rfl, by decide +kernel, rfl, by decide +kernel, by decide +kernel⟩
def spLaw (K : PySem.W.Frag) : Sp := fun vs H Q _ => ∃ (a : Addr) (ns : List Int), vs = [.ref a] ∧ SqL K H a (ns.map V.int) ∧ ns.length ≤ 63 ∧ ∀ H' : Hp, Q (.bl true) H'
theorem ok_law {f f2 f3 f4 : Addr} {fd d2 d3 d4 : FuncData} (F : Fun K "law" "law" s_law f fd) (T : Bl mg) (L : Lm mg tk) (SK : SysK K) (DG_right : DefG P w K mg base "_law_right" 13 P_right spRight f2 d2)
    (D_pool : Def P w K mg base "_law_pool" 1 P_pool spPool f3 d3) (D_cell : Def P w K mg base "_law_cell" 1 P_cell (spCell K) f4 d4) : FnG P w K mg base 14 f fd P_law (spLaw K) := by
  refine Fun.g F sc_law (fun vs H Q h => ?_) (fun cdv A outer s H vs Q quiet hr h => ?_)
  · obtain ⟨a, ns, rfl, _⟩ := h
    rfl
  obtain ⟨a, ns, rfl, hS, h63, q⟩ := h
  refine ⟨_, (pss_cons (ps_set (i := 1) sc_law.nd rfl (Or.inl rfl) (pe_lst (pa_cons (pe_glob (v := .int 60) rfl L.MAX_ELEMENTS ⟨_, rfl⟩) (pa_cons (pe_glob (v := .int 6) rfl L.MAX_LEVELS ⟨_, rfl⟩) (pa_cons (pe_glob (v := .int 30) rfl L.MAX_NESTED ⟨_, rfl⟩) (pa_cons (pe_glob (v := .int 40) rfl L.MAX_TEMPLATES ⟨_, rfl⟩) (pa_cons (pe_glob (v := .int 3000) rfl L.MAX_NODES ⟨_, rfl⟩) (pa_cons (pe_glob (v := .int 100) rfl L.MAX_ENTRIES ⟨_, rfl⟩) (pa_cons (pe_glob (v := .int 100) rfl L.MAX_DEPTH ⟨_, rfl⟩) pa_nil)))))))))
    (pss_cons (ps_if (pt_cmpR op_ne (pe_callB (call_reprK K rfl SK quiet hr) (by rfl) T.repr (by decide +kernel) (pa_cons (pv 1) pa_nil)) (pe_callB (call_reprK K rfl SK quiet hr) (by rfl) T.repr (by decide +kernel) (pa_cons (pe_lst (pa_cons pe_int (pa_cons pe_int (pa_cons pe_int (pa_cons pe_int (pa_cons pe_int (pa_cons pe_int (pa_cons pe_int pa_nil)))))))) pa_nil)) (nomark _))
      (pss_one (ps_ret pe_bl))
      pss_nil)
    (pss_one (ps_ret (pe_callB (cr_all rfl) (by rfl) T.all (by decide +kernel) (pa_cons (pe_lc (own := [("_law_k", 2)]) (g := (gName 2)) (tt := tYes) rfl sc_law.nd (pi_range1 rfl T.range (pa_cons (pe_callB (call_max2 rfl) (by rfl) T.max (by decide +kernel) (pa_cons pe_int (pa_cons (pe_callB (call_min2 rfl) (by rfl) T.min (by decide +kernel) (pa_cons (pe_callB (call_lenK K rfl) (by rfl) T.len PySem.boot_len (pa_cons (pv 0) pa_nil)) (pa_cons pe_int pa_nil))) pa_nil))) pa_nil)) (blkOk_by (own := [("_law_k", 2)]) (N := N_law) (sc := defScope s_law) (by decide +kernel)) (fun _ _ _ _ _ => (pg_name (i := 2) sc_law.nd rfl (Or.inl rfl))) (fun _ _ _ _ _ => pts_nil) (fun _ _ _ _ _ => (pe_callG quiet DG_right (hr.mono (by first | decide | omega)) rfl (pa_cons (pe_call D_pool.ok (hr.mono (by first | decide | omega)) rfl D_pool.g D_pool.kp D_pool.b .nil pass0 (pa_cons (pe_call D_cell.ok (hr.mono (by first | decide | omega)) rfl D_cell.g D_cell.kp D_cell.b .nil pass0 (pa_cons (pv 0) (pa_cons (pv 2) pa_nil))) pa_nil)) pa_nil)))) pa_nil)))))), ?_⟩
  refine ⟨(by show 7 ≤ sizeLine; decide), fun l1 h1 => ?_⟩
  have s1 := same_new h1 (.lst [.int 60, .int 6, .int 30, .int 40, .int 3000, .int 100, .int 100])
  refine ⟨_, rfl, .ref l1, limitsD, rfl, limits_dq upd_same, limits_show, ?_⟩
  refine ⟨(by show 7 ≤ sizeLine; decide), fun l2 h2 => ?_⟩
  have s2 := s1.trans (same_new h2 (.lst [.int 60, .int 6, .int 30, .int 40, .int 3000, .int 100, .int 100]))
  refine ⟨.ref l2, limitsD, rfl, limits_dq upd_same, limits_show, rfl, _, rfl, if_ff (by rw [decide_eq_true rfl]; rfl) ?_⟩
  obtain ⟨U, eU⟩ : ∃ U, U = upd (upd H l1 (.lst [.int 60, .int 6, .int 30, .int 40, .int 3000, .int 100, .int 100])) l2 (.lst [.int 60, .int 6, .int 30, .int 40, .int 3000, .int 100, .int 100]) := ⟨_, rfl⟩
  rw [← eU] at s2 ⊢
  clear eU
  have hU := hS
  have hSU : SqL K U a (ns.map V.int) := s2.seq hS
  obtain ⟨m, em, m4⟩ := minmax (ns.map V.int).length
  refine ⟨_, rfl, _, _, rfl, .inl ⟨_, hSU, rfl⟩, _, _, rfl, _, _, rfl, _, rfl, ?_⟩
  rw [em]
  refine ⟨by omega, by omega, fun D2 new2 => ?_⟩
  rw [show ((m : Int).toNat) = m from rfl]
  refine lc_range (lo := 0) (n := m) (fun i Z => Same U Z ∧ Z D2 = some (.lst (trues i))) ⟨same_new new2 _, upd_same⟩ ?_ ?_
  · rintro i Z hi ⟨kept2, made2⟩
    refine ⟨rfl, yesT ⟨_, rfl, _, rfl, a, ns, _, rfl, kept2.seq hSU, h63, by omega, by omega, fun T1 j sT1 => ⟨j, rfl, fun T2 p np sT2 pool => ⟨p, rfl, pool, fun T3 k3 => ?_⟩⟩⟩⟩
    have ST : Same Z T3 := sT1.trans (pool_after sT2 np k3)
    refine ⟨_, ST _ _ made2, ?_, Same.updNew (kept2.trans ST) new2, ?_⟩
    · rw [trues_len]
      exact less_line (by omega)
    · rw [upd_same, trues_more]
  · rintro Z ⟨kept2, made2⟩
    refine ⟨D2, _, rfl, SqL.of made2, ?_⟩
    rw [trues_all]
    exact q _
end
end KX

namespace KX
open PySem PySem.Spec L2 PyProof.Rows
/-- a def without defaults -/
theorem fun_plain {K : PySem.W.Frag} {x q : Str} {st : Stmt} {f : Addr} {fd : FuncData} (F : FunD K x q (defArgs st) (defBody st) (defScope st) [] [] f fd) : Fun K x q st f fd := by
  obtain ⟨⟨oc, od, dV, kV, doc, pm, an, cdv, ct, osl, e, lk, cd, none | some, _⟩, kp⟩ := F
  · obtain ⟨_, rfl⟩ := none
    exact ⟨⟨oc, od, kV, doc, pm, an, cdv, ct, osl, e, lk, cd⟩, kp⟩
  · exact absurd rfl some.1
/-- the tokens of the module's numbers -/
def tkOf (mg : Str → Option Value) (x : Str) : Tok := match mg x with
  | some (.int _ t) => t
  | _ => 0
theorem tk_of {mg : Str → Option Value} {x : Str} {i : Int} (h : ∃ t, mg x = some (.int i t)) : mg x = some (.int i (tkOf mg x)) := by
  obtain ⟨t, e⟩ := h
  unfold tkOf
  rw [e]
/-! ### what the written part says of the errors -/
theorem base_of (i : Nat) : ExcBaseFacts (bE i) (nE i) (iE i) (tE i) := by
  unfold tE bE nE iE
  by_cases a : i < 17
  · simp only [if_pos a]
    exact PySem.F.excBase_ValueError
  · by_cases b : i < 27
    · simp only [if_neg a, if_pos b]
      exact PySem.F.excBase_LookupError
    · simp only [if_neg a, if_neg b]
      exact PySem.F.excBase_ArithmeticError
theorem stored_of (i : Nat) : StoreFacts (bE i) (tE i) "object.__setattr__" "object" := by
  unfold tE bE
  by_cases a : i < 17
  · simp only [if_pos a]
    exact PySem.F.store_ValueError
  · by_cases b : i < 27
    · simp only [if_neg a, if_pos b]
      exact PySem.F.store_LookupError
    · simp only [if_neg a, if_neg b]
      exact PySem.F.store_ArithmeticError
section
variable {K : PySem.W.Frag}
structure Says (K : PySem.W.Frag) (i : Nat) : Prop where
  look : lookB K (cA K i) = true
  base : baseB K (cA K i) = true
  make : makeB K i = true
  line : lineB K i = true
theorem says_of (m : ex K = true) (i : Nat) (hi : i < 33) : Says K i := by
  have h := List.all_eq_true.mp (He.ba m).2 i (List.mem_range.mpr hi)
  obtain ⟨a, b⟩ := He.ba h
  exact ⟨(He.ba a).1, (He.ba a).2, (He.ba b).1, (He.ba b).2⟩
theorem er_of (m : ex K = true) (i : Nat) (hi : i < 33) : Er K (cA K i) (bE i) (nE i) (iE i) (tE i) := by
  have z := says_of m i hi
  obtain ⟨l1, l⟩ := He.ba z.look
  obtain ⟨l2, l⟩ := He.ba l
  obtain ⟨l3, l4⟩ := He.ba l
  obtain ⟨b2, b4⟩ := He.ba z.base
  obtain ⟨b1, b3⟩ := line_base z.line
  obtain ⟨m1, k⟩ := He.ba z.make
  obtain ⟨m2, _⟩ := He.ba k
  obtain ⟨o1, o⟩ := He.ba (He.ba (He.ba m).1).1
  obtain ⟨o2, _⟩ := He.ba o
  exact { F := base_of i, SF := stored_of i, obj := m1, over := m2, sa := He.eqO_ok l1, ga := He.eqO_ok l2, gt := He.eqO_ok l4, sub := b1, hd := b2, cl := He.eqO_ok l3, dn := He.eqO_ok o1, dt := of_decide_eq_true o2, ob := b3, kp := b4 }
theorem init_of (m : ex K = true) (i : Nat) (hi : i < 33) : PySem.W.findIn K (.ref (cA K i)) "__init__" = some (some (.ref (iA K i))) ∧ PySem.W.typeIn K (.ref (iA K i)) = some (.type "function") ∧ ∀ f ∈ fieldsE i, PySem.W.findIn K (.ref (cA K i)) f = some none := by
  obtain ⟨_, k⟩ := He.ba (says_of m i hi).make
  obtain ⟨_, k⟩ := He.ba k
  obtain ⟨m3, k⟩ := He.ba k
  obtain ⟨m4, m5⟩ := He.ba k
  exact ⟨He.eqO_ok m3, of_decide_eq_true m4, fun f hf => He.eqO_ok (List.all_eq_true.mp m5 f hf)⟩
theorem sys_of (m : ex K = true) : SysK K := by
  obtain ⟨_, o⟩ := He.ba (He.ba (He.ba m).1).1
  obtain ⟨_, o⟩ := He.ba o
  obtain ⟨es, n, sl, e⟩ := He.dictB_ok o
  exact ⟨_, e, rfl⟩
end
section
variable {K : PySem.W.Frag} {f : Addr} {fd : FuncData}
theorem kb_i0 (F : Fun K "__init__" "InvalidName.__init__" s_i0 f fd) : KBn K fd ("self" :: fieldsE 0) 1 (fieldsE 0).reverse (fun us ws => us ++ ws.reverse) (fun vs zs => vs ++ zs.reverse) := by
  obtain ⟨oc, od, kV, doc, pm, an, cdv, ct, osl, rfl, lk, code⟩ := F.ex
  refine kb_of fun s us ws l1 l2 => ?_
  obtain ⟨a, rfl⟩ := List.length_eq_one_iff.mp l1
  match ws, l2 with
  | [b], _ => exact .of_eq rfl
theorem kb_i1 (F : Fun K "__init__" "InvalidText.__init__" s_i1 f fd) : KBn K fd ("self" :: fieldsE 1) 1 (fieldsE 1).reverse (fun us ws => us ++ ws.reverse) (fun vs zs => vs ++ zs.reverse) := by
  obtain ⟨oc, od, kV, doc, pm, an, cdv, ct, osl, rfl, lk, code⟩ := F.ex
  refine kb_of fun s us ws l1 l2 => ?_
  obtain ⟨a, rfl⟩ := List.length_eq_one_iff.mp l1
  match ws, l2 with
  | [b], _ => exact .of_eq rfl
theorem kb_i2 (F : Fun K "__init__" "InvalidValue.__init__" s_i2 f fd) : KBn K fd ("self" :: fieldsE 2) 1 (fieldsE 2).reverse (fun us ws => us ++ ws.reverse) (fun vs zs => vs ++ zs.reverse) := by
  obtain ⟨oc, od, kV, doc, pm, an, cdv, ct, osl, rfl, lk, code⟩ := F.ex
  refine kb_of fun s us ws l1 l2 => ?_
  obtain ⟨a, rfl⟩ := List.length_eq_one_iff.mp l1
  match ws, l2 with
  | [b], _ => exact .of_eq rfl
theorem kb_i3 (F : Fun K "__init__" "InvalidTree.__init__" s_i3 f fd) : KBn K fd ("self" :: fieldsE 3) 1 (fieldsE 3).reverse (fun us ws => us ++ ws.reverse) (fun vs zs => vs ++ zs.reverse) := by
  obtain ⟨oc, od, kV, doc, pm, an, cdv, ct, osl, rfl, lk, code⟩ := F.ex
  refine kb_of fun s us ws l1 l2 => ?_
  obtain ⟨a, rfl⟩ := List.length_eq_one_iff.mp l1
  match ws, l2 with
  | [b], _ => exact .of_eq rfl
theorem kb_i4 (F : Fun K "__init__" "InvalidContext.__init__" s_i4 f fd) : KBn K fd ("self" :: fieldsE 4) 1 (fieldsE 4).reverse (fun us ws => us ++ ws.reverse) (fun vs zs => vs ++ zs.reverse) := by
  obtain ⟨oc, od, kV, doc, pm, an, cdv, ct, osl, rfl, lk, code⟩ := F.ex
  refine kb_of fun s us ws l1 l2 => ?_
  obtain ⟨a, rfl⟩ := List.length_eq_one_iff.mp l1
  match ws, l2 with
  | [b], _ => exact .of_eq rfl
theorem kb_i5 (F : Fun K "__init__" "InvalidPage.__init__" s_i5 f fd) : KBn K fd ("self" :: fieldsE 5) 1 (fieldsE 5).reverse (fun us ws => us ++ ws.reverse) (fun vs zs => vs ++ zs.reverse) := by
  obtain ⟨oc, od, kV, doc, pm, an, cdv, ct, osl, rfl, lk, code⟩ := F.ex
  refine kb_of fun s us ws l1 l2 => ?_
  obtain ⟨a, rfl⟩ := List.length_eq_one_iff.mp l1
  match ws, l2 with
  | [b], _ => exact .of_eq rfl
theorem kb_i6 (F : Fun K "__init__" "InvalidBody.__init__" s_i6 f fd) : KBn K fd ("self" :: fieldsE 6) 1 (fieldsE 6).reverse (fun us ws => us ++ ws.reverse) (fun vs zs => vs ++ zs.reverse) := by
  obtain ⟨oc, od, kV, doc, pm, an, cdv, ct, osl, rfl, lk, code⟩ := F.ex
  refine kb_of fun s us ws l1 l2 => ?_
  obtain ⟨a, rfl⟩ := List.length_eq_one_iff.mp l1
  match ws, l2 with
  | [b], _ => exact .of_eq rfl
theorem kb_i7 (F : Fun K "__init__" "InvalidTag.__init__" s_i7 f fd) : KBn K fd ("self" :: fieldsE 7) 1 (fieldsE 7).reverse (fun us ws => us ++ ws.reverse) (fun vs zs => vs ++ zs.reverse) := by
  obtain ⟨oc, od, kV, doc, pm, an, cdv, ct, osl, rfl, lk, code⟩ := F.ex
  refine kb_of fun s us ws l1 l2 => ?_
  obtain ⟨a, rfl⟩ := List.length_eq_one_iff.mp l1
  match ws, l2 with
  | [b], _ => exact .of_eq rfl
theorem kb_i8 (F : Fun K "__init__" "Misplaced.__init__" s_i8 f fd) : KBn K fd ("self" :: fieldsE 8) 1 (fieldsE 8).reverse (fun us ws => us ++ ws.reverse) (fun vs zs => vs ++ zs.reverse) := by
  obtain ⟨oc, od, kV, doc, pm, an, cdv, ct, osl, rfl, lk, code⟩ := F.ex
  refine kb_of fun s us ws l1 l2 => ?_
  obtain ⟨a, rfl⟩ := List.length_eq_one_iff.mp l1
  match ws, l2 with
  | [b, c], _ => exact .of_eq rfl
theorem kb_i9 (F : Fun K "__init__" "InvalidPlan.__init__" s_i9 f fd) : KBn K fd ("self" :: fieldsE 9) 1 (fieldsE 9).reverse (fun us ws => us ++ ws.reverse) (fun vs zs => vs ++ zs.reverse) := by
  obtain ⟨oc, od, kV, doc, pm, an, cdv, ct, osl, rfl, lk, code⟩ := F.ex
  refine kb_of fun s us ws l1 l2 => ?_
  obtain ⟨a, rfl⟩ := List.length_eq_one_iff.mp l1
  match ws, l2 with
  | [b], _ => exact .of_eq rfl
theorem kb_i10 (F : Fun K "__init__" "InvalidPass.__init__" s_i10 f fd) : KBn K fd ("self" :: fieldsE 10) 1 (fieldsE 10).reverse (fun us ws => us ++ ws.reverse) (fun vs zs => vs ++ zs.reverse) := by
  obtain ⟨oc, od, kV, doc, pm, an, cdv, ct, osl, rfl, lk, code⟩ := F.ex
  refine kb_of fun s us ws l1 l2 => ?_
  obtain ⟨a, rfl⟩ := List.length_eq_one_iff.mp l1
  match ws, l2 with
  | [b], _ => exact .of_eq rfl
theorem kb_i11 (F : Fun K "__init__" "InvalidPatches.__init__" s_i11 f fd) : KBn K fd ("self" :: fieldsE 11) 1 (fieldsE 11).reverse (fun us ws => us ++ ws.reverse) (fun vs zs => vs ++ zs.reverse) := by
  obtain ⟨oc, od, kV, doc, pm, an, cdv, ct, osl, rfl, lk, code⟩ := F.ex
  refine kb_of fun s us ws l1 l2 => ?_
  obtain ⟨a, rfl⟩ := List.length_eq_one_iff.mp l1
  match ws, l2 with
  | [b], _ => exact .of_eq rfl
theorem kb_i12 (F : Fun K "__init__" "InvalidSize.__init__" s_i12 f fd) : KBn K fd ("self" :: fieldsE 12) 1 (fieldsE 12).reverse (fun us ws => us ++ ws.reverse) (fun vs zs => vs ++ zs.reverse) := by
  obtain ⟨oc, od, kV, doc, pm, an, cdv, ct, osl, rfl, lk, code⟩ := F.ex
  refine kb_of fun s us ws l1 l2 => ?_
  obtain ⟨a, rfl⟩ := List.length_eq_one_iff.mp l1
  match ws, l2 with
  | [b], _ => exact .of_eq rfl
theorem kb_i13 (F : Fun K "__init__" "InvalidAction.__init__" s_i13 f fd) : KBn K fd ("self" :: fieldsE 13) 1 (fieldsE 13).reverse (fun us ws => us ++ ws.reverse) (fun vs zs => vs ++ zs.reverse) := by
  obtain ⟨oc, od, kV, doc, pm, an, cdv, ct, osl, rfl, lk, code⟩ := F.ex
  refine kb_of fun s us ws l1 l2 => ?_
  obtain ⟨a, rfl⟩ := List.length_eq_one_iff.mp l1
  match ws, l2 with
  | [b], _ => exact .of_eq rfl
theorem kb_i14 (F : Fun K "__init__" "InvalidCommand.__init__" s_i14 f fd) : KBn K fd ("self" :: fieldsE 14) 1 (fieldsE 14).reverse (fun us ws => us ++ ws.reverse) (fun vs zs => vs ++ zs.reverse) := by
  obtain ⟨oc, od, kV, doc, pm, an, cdv, ct, osl, rfl, lk, code⟩ := F.ex
  refine kb_of fun s us ws l1 l2 => ?_
  obtain ⟨a, rfl⟩ := List.length_eq_one_iff.mp l1
  match ws, l2 with
  | [b], _ => exact .of_eq rfl
theorem kb_i15 (F : Fun K "__init__" "NotALibrary.__init__" s_i15 f fd) : KBn K fd ("self" :: fieldsE 15) 1 (fieldsE 15).reverse (fun us ws => us ++ ws.reverse) (fun vs zs => vs ++ zs.reverse) := by
  obtain ⟨oc, od, kV, doc, pm, an, cdv, ct, osl, rfl, lk, code⟩ := F.ex
  refine kb_of fun s us ws l1 l2 => ?_
  obtain ⟨a, rfl⟩ := List.length_eq_one_iff.mp l1
  match ws, l2 with
  | [b], _ => exact .of_eq rfl
theorem kb_i16 (F : Fun K "__init__" "TypeTrouble.__init__" s_i16 f fd) : KBn K fd ("self" :: fieldsE 16) 1 (fieldsE 16).reverse (fun us ws => us ++ ws.reverse) (fun vs zs => vs ++ zs.reverse) := by
  obtain ⟨oc, od, kV, doc, pm, an, cdv, ct, osl, rfl, lk, code⟩ := F.ex
  refine kb_of fun s us ws l1 l2 => ?_
  obtain ⟨a, rfl⟩ := List.length_eq_one_iff.mp l1
  match ws, l2 with
  | [b], _ => exact .of_eq rfl
theorem kb_i17 (F : Fun K "__init__" "NameTaken.__init__" s_i17 f fd) : KBn K fd ("self" :: fieldsE 17) 1 (fieldsE 17).reverse (fun us ws => us ++ ws.reverse) (fun vs zs => vs ++ zs.reverse) := by
  obtain ⟨oc, od, kV, doc, pm, an, cdv, ct, osl, rfl, lk, code⟩ := F.ex
  refine kb_of fun s us ws l1 l2 => ?_
  obtain ⟨a, rfl⟩ := List.length_eq_one_iff.mp l1
  match ws, l2 with
  | [b], _ => exact .of_eq rfl
theorem kb_i18 (F : Fun K "__init__" "MissingTemplate.__init__" s_i18 f fd) : KBn K fd ("self" :: fieldsE 18) 1 (fieldsE 18).reverse (fun us ws => us ++ ws.reverse) (fun vs zs => vs ++ zs.reverse) := by
  obtain ⟨oc, od, kV, doc, pm, an, cdv, ct, osl, rfl, lk, code⟩ := F.ex
  refine kb_of fun s us ws l1 l2 => ?_
  obtain ⟨a, rfl⟩ := List.length_eq_one_iff.mp l1
  match ws, l2 with
  | [b], _ => exact .of_eq rfl
theorem kb_i19 (F : Fun K "__init__" "InUse.__init__" s_i19 f fd) : KBn K fd ("self" :: fieldsE 19) 1 (fieldsE 19).reverse (fun us ws => us ++ ws.reverse) (fun vs zs => vs ++ zs.reverse) := by
  obtain ⟨oc, od, kV, doc, pm, an, cdv, ct, osl, rfl, lk, code⟩ := F.ex
  refine kb_of fun s us ws l1 l2 => ?_
  obtain ⟨a, rfl⟩ := List.length_eq_one_iff.mp l1
  match ws, l2 with
  | [b], _ => exact .of_eq rfl
theorem kb_i20 (F : Fun K "__init__" "Ring.__init__" s_i20 f fd) : KBn K fd ("self" :: fieldsE 20) 1 (fieldsE 20).reverse (fun us ws => us ++ ws.reverse) (fun vs zs => vs ++ zs.reverse) := by
  obtain ⟨oc, od, kV, doc, pm, an, cdv, ct, osl, rfl, lk, code⟩ := F.ex
  refine kb_of fun s us ws l1 l2 => ?_
  obtain ⟨a, rfl⟩ := List.length_eq_one_iff.mp l1
  match ws, l2 with
  | [b], _ => exact .of_eq rfl
theorem kb_i21 (F : Fun K "__init__" "Unfit.__init__" s_i21 f fd) : KBn K fd ("self" :: fieldsE 21) 1 (fieldsE 21).reverse (fun us ws => us ++ ws.reverse) (fun vs zs => vs ++ zs.reverse) := by
  obtain ⟨oc, od, kV, doc, pm, an, cdv, ct, osl, rfl, lk, code⟩ := F.ex
  refine kb_of fun s us ws l1 l2 => ?_
  obtain ⟨a, rfl⟩ := List.length_eq_one_iff.mp l1
  match ws, l2 with
  | [b], _ => exact .of_eq rfl
theorem kb_i22 (F : Fun K "__init__" "NoSuchPath.__init__" s_i22 f fd) : KBn K fd ("self" :: fieldsE 22) 1 (fieldsE 22).reverse (fun us ws => us ++ ws.reverse) (fun vs zs => vs ++ zs.reverse) := by
  obtain ⟨oc, od, kV, doc, pm, an, cdv, ct, osl, rfl, lk, code⟩ := F.ex
  refine kb_of fun s us ws l1 l2 => ?_
  obtain ⟨a, rfl⟩ := List.length_eq_one_iff.mp l1
  match ws, l2 with
  | [b], _ => exact .of_eq rfl
theorem kb_i23 (F : Fun K "__init__" "NotLate.__init__" s_i23 f fd) : KBn K fd ("self" :: fieldsE 23) 1 (fieldsE 23).reverse (fun us ws => us ++ ws.reverse) (fun vs zs => vs ++ zs.reverse) := by
  obtain ⟨oc, od, kV, doc, pm, an, cdv, ct, osl, rfl, lk, code⟩ := F.ex
  refine kb_of fun s us ws l1 l2 => ?_
  obtain ⟨a, rfl⟩ := List.length_eq_one_iff.mp l1
  match ws, l2 with
  | [b], _ => exact .of_eq rfl
theorem kb_i24 (F : Fun K "__init__" "NotDone.__init__" s_i24 f fd) : KBn K fd ("self" :: fieldsE 24) 1 (fieldsE 24).reverse (fun us ws => us ++ ws.reverse) (fun vs zs => vs ++ zs.reverse) := by
  obtain ⟨oc, od, kV, doc, pm, an, cdv, ct, osl, rfl, lk, code⟩ := F.ex
  refine kb_of fun s us ws l1 l2 => ?_
  obtain ⟨a, rfl⟩ := List.length_eq_one_iff.mp l1
  match ws, l2 with
  | [], _ => exact .of_eq rfl
theorem kb_i25 (F : Fun K "__init__" "Busy.__init__" s_i25 f fd) : KBn K fd ("self" :: fieldsE 25) 1 (fieldsE 25).reverse (fun us ws => us ++ ws.reverse) (fun vs zs => vs ++ zs.reverse) := by
  obtain ⟨oc, od, kV, doc, pm, an, cdv, ct, osl, rfl, lk, code⟩ := F.ex
  refine kb_of fun s us ws l1 l2 => ?_
  obtain ⟨a, rfl⟩ := List.length_eq_one_iff.mp l1
  match ws, l2 with
  | [], _ => exact .of_eq rfl
theorem kb_i26 (F : Fun K "__init__" "NothingToUndo.__init__" s_i26 f fd) : KBn K fd ("self" :: fieldsE 26) 1 (fieldsE 26).reverse (fun us ws => us ++ ws.reverse) (fun vs zs => vs ++ zs.reverse) := by
  obtain ⟨oc, od, kV, doc, pm, an, cdv, ct, osl, rfl, lk, code⟩ := F.ex
  refine kb_of fun s us ws l1 l2 => ?_
  obtain ⟨a, rfl⟩ := List.length_eq_one_iff.mp l1
  match ws, l2 with
  | [], _ => exact .of_eq rfl
theorem kb_i27 (F : Fun K "__init__" "TooManyTemplates.__init__" s_i27 f fd) : KBn K fd ("self" :: fieldsE 27) 1 (fieldsE 27).reverse (fun us ws => us ++ ws.reverse) (fun vs zs => vs ++ zs.reverse) := by
  obtain ⟨oc, od, kV, doc, pm, an, cdv, ct, osl, rfl, lk, code⟩ := F.ex
  refine kb_of fun s us ws l1 l2 => ?_
  obtain ⟨a, rfl⟩ := List.length_eq_one_iff.mp l1
  match ws, l2 with
  | [b], _ => exact .of_eq rfl
theorem kb_i28 (F : Fun K "__init__" "TooManyLevels.__init__" s_i28 f fd) : KBn K fd ("self" :: fieldsE 28) 1 (fieldsE 28).reverse (fun us ws => us ++ ws.reverse) (fun vs zs => vs ++ zs.reverse) := by
  obtain ⟨oc, od, kV, doc, pm, an, cdv, ct, osl, rfl, lk, code⟩ := F.ex
  refine kb_of fun s us ws l1 l2 => ?_
  obtain ⟨a, rfl⟩ := List.length_eq_one_iff.mp l1
  match ws, l2 with
  | [b], _ => exact .of_eq rfl
theorem kb_i29 (F : Fun K "__init__" "TooManyNodes.__init__" s_i29 f fd) : KBn K fd ("self" :: fieldsE 29) 1 (fieldsE 29).reverse (fun us ws => us ++ ws.reverse) (fun vs zs => vs ++ zs.reverse) := by
  obtain ⟨oc, od, kV, doc, pm, an, cdv, ct, osl, rfl, lk, code⟩ := F.ex
  refine kb_of fun s us ws l1 l2 => ?_
  obtain ⟨a, rfl⟩ := List.length_eq_one_iff.mp l1
  match ws, l2 with
  | [b], _ => exact .of_eq rfl
theorem kb_i30 (F : Fun K "__init__" "TooManyElements.__init__" s_i30 f fd) : KBn K fd ("self" :: fieldsE 30) 1 (fieldsE 30).reverse (fun us ws => us ++ ws.reverse) (fun vs zs => vs ++ zs.reverse) := by
  obtain ⟨oc, od, kV, doc, pm, an, cdv, ct, osl, rfl, lk, code⟩ := F.ex
  refine kb_of fun s us ws l1 l2 => ?_
  obtain ⟨a, rfl⟩ := List.length_eq_one_iff.mp l1
  match ws, l2 with
  | [b], _ => exact .of_eq rfl
theorem kb_i31 (F : Fun K "__init__" "TooManyEntries.__init__" s_i31 f fd) : KBn K fd ("self" :: fieldsE 31) 1 (fieldsE 31).reverse (fun us ws => us ++ ws.reverse) (fun vs zs => vs ++ zs.reverse) := by
  obtain ⟨oc, od, kV, doc, pm, an, cdv, ct, osl, rfl, lk, code⟩ := F.ex
  refine kb_of fun s us ws l1 l2 => ?_
  obtain ⟨a, rfl⟩ := List.length_eq_one_iff.mp l1
  match ws, l2 with
  | [b], _ => exact .of_eq rfl
theorem kb_i32 (F : Fun K "__init__" "TooDeep.__init__" s_i32 f fd) : KBn K fd ("self" :: fieldsE 32) 1 (fieldsE 32).reverse (fun us ws => us ++ ws.reverse) (fun vs zs => vs ++ zs.reverse) := by
  obtain ⟨oc, od, kV, doc, pm, an, cdv, ct, osl, rfl, lk, code⟩ := F.ex
  refine kb_of fun s us ws l1 l2 => ?_
  obtain ⟨a, rfl⟩ := List.length_eq_one_iff.mp l1
  match ws, l2 with
  | [b], _ => exact .of_eq rfl
end
theorem facts {P : Program} {w : World} {K : PySem.W.Frag} {h : Heap} {mg : Str → Option Value} {f : Addr} (X : K.In h) (G : h.Ns mainGlobals mg) (hfa : mg ("law" : Str) = some (.ref f)) (c : Told w K) :
    ∃ fd : FuncData, (∀ (s : Shared) (v : Value), BindsTo s fd ⟨[v], []⟩ [("_law_script", v)]) ∧ ∀ base : Heap, K.In base → base.Ns mainGlobals mg → FnG P w K mg base 14 f fd P_law (spLaw K) := by
  have d := c.facts.d
  have m := c.more
  have SK := sys_of m
  have T : Bl mg := by
    constructor
    · exact He.free_ok X G (d.fact 59 (f := .free "len") rfl)
    · exact He.free_ok X G (d.fact 60 (f := .free "abs") rfl)
    · exact He.free_ok X G (d.fact 61 (f := .free "divmod") rfl)
    · exact He.free_ok X G (d.fact 62 (f := .free "min") rfl)
    · exact He.free_ok X G (d.fact 63 (f := .free "max") rfl)
    · exact He.free_ok X G (d.fact 64 (f := .free "all") rfl)
    · exact He.free_ok X G (d.fact 65 (f := .free "sorted") rfl)
    · exact He.free_ok X G (d.fact 66 (f := .free "isinstance") rfl)
    · exact He.free_ok X G (d.fact 67 (f := .free "repr") rfl)
    · exact He.free_ok X G (d.fact 68 (f := .free "ord") rfl)
    · exact He.free_ok X G (d.fact 69 (f := .free "range") rfl)
    · exact He.free_ok X G (d.fact 70 (f := .free "zip") rfl)
    · exact He.free_ok X G (d.fact 71 (f := .free "tuple") rfl)
    · exact He.free_ok X G (d.fact 72 (f := .free "list") rfl)
    · exact He.free_ok X G (d.fact 73 (f := .free "str") rfl)
    · exact He.free_ok X G (d.fact 74 (f := .free "int") rfl)
    · exact He.free_ok X G (d.fact 75 (f := .free "bool") rfl)
    · exact He.free_ok X G (d.fact 76 (f := .free "dict") rfl)
  have L : Lm mg (tkOf mg) := by
    constructor
    · exact tk_of (He.int_ok X G (d.fact 87 (f := .int "NEWLINE" 10) rfl))
    · exact tk_of (He.int_ok X G (d.fact 88 (f := .int "SPACE" 32) rfl))
    · exact tk_of (He.int_ok X G (d.fact 89 (f := .int "PERCENT" 37) rfl))
    · exact tk_of (He.int_ok X G (d.fact 90 (f := .int "TILDE" 126) rfl))
    · exact tk_of (He.int_ok X G (d.fact 80 (f := .int "MAX_ELEMENTS" 60) rfl))
    · exact tk_of (He.int_ok X G (d.fact 81 (f := .int "MAX_LEVELS" 6) rfl))
    · exact tk_of (He.int_ok X G (d.fact 91 (f := .int "MAX_LETTERS" 12) rfl))
    · exact tk_of (He.int_ok X G (d.fact 82 (f := .int "MAX_NESTED" 30) rfl))
    · exact tk_of (He.int_ok X G (d.fact 83 (f := .int "MAX_TEMPLATES" 40) rfl))
    · exact tk_of (He.int_ok X G (d.fact 84 (f := .int "MAX_NODES" 3000) rfl))
    · exact tk_of (He.int_ok X G (d.fact 85 (f := .int "MAX_DEPTH" 100) rfl))
    · exact tk_of (He.int_ok X G (d.fact 86 (f := .int "MAX_ENTRIES" 100) rfl))
  obtain ⟨g_0, V_0⟩ := d.def_ 23 (d := dd23) rfl
  have W_0 : Fun K "__init__" "InvalidName.__init__" s_i0 (iA K 0) g_0 := fun_plain V_0
  obtain ⟨g_1, V_1⟩ := d.def_ 24 (d := dd24) rfl
  have W_1 : Fun K "__init__" "InvalidText.__init__" s_i1 (iA K 1) g_1 := fun_plain V_1
  obtain ⟨g_2, V_2⟩ := d.def_ 25 (d := dd25) rfl
  have W_2 : Fun K "__init__" "InvalidValue.__init__" s_i2 (iA K 2) g_2 := fun_plain V_2
  obtain ⟨g_3, V_3⟩ := d.def_ 26 (d := dd26) rfl
  have W_3 : Fun K "__init__" "InvalidTree.__init__" s_i3 (iA K 3) g_3 := fun_plain V_3
  obtain ⟨g_4, V_4⟩ := d.def_ 27 (d := dd27) rfl
  have W_4 : Fun K "__init__" "InvalidContext.__init__" s_i4 (iA K 4) g_4 := fun_plain V_4
  obtain ⟨g_5, V_5⟩ := d.def_ 28 (d := dd28) rfl
  have W_5 : Fun K "__init__" "InvalidPage.__init__" s_i5 (iA K 5) g_5 := fun_plain V_5
  obtain ⟨g_6, V_6⟩ := d.def_ 29 (d := dd29) rfl
  have W_6 : Fun K "__init__" "InvalidBody.__init__" s_i6 (iA K 6) g_6 := fun_plain V_6
  obtain ⟨g_7, V_7⟩ := d.def_ 30 (d := dd30) rfl
  have W_7 : Fun K "__init__" "InvalidTag.__init__" s_i7 (iA K 7) g_7 := fun_plain V_7
  obtain ⟨g_8, V_8⟩ := d.def_ 31 (d := dd31) rfl
  have W_8 : Fun K "__init__" "Misplaced.__init__" s_i8 (iA K 8) g_8 := fun_plain V_8
  obtain ⟨g_9, V_9⟩ := d.def_ 32 (d := dd32) rfl
  have W_9 : Fun K "__init__" "InvalidPlan.__init__" s_i9 (iA K 9) g_9 := fun_plain V_9
  obtain ⟨g_10, V_10⟩ := d.def_ 33 (d := dd33) rfl
  have W_10 : Fun K "__init__" "InvalidPass.__init__" s_i10 (iA K 10) g_10 := fun_plain V_10
  obtain ⟨g_11, V_11⟩ := d.def_ 34 (d := dd34) rfl
  have W_11 : Fun K "__init__" "InvalidPatches.__init__" s_i11 (iA K 11) g_11 := fun_plain V_11
  obtain ⟨g_12, V_12⟩ := d.def_ 35 (d := dd35) rfl
  have W_12 : Fun K "__init__" "InvalidSize.__init__" s_i12 (iA K 12) g_12 := fun_plain V_12
  obtain ⟨g_13, V_13⟩ := d.def_ 36 (d := dd36) rfl
  have W_13 : Fun K "__init__" "InvalidAction.__init__" s_i13 (iA K 13) g_13 := fun_plain V_13
  obtain ⟨g_14, V_14⟩ := d.def_ 37 (d := dd37) rfl
  have W_14 : Fun K "__init__" "InvalidCommand.__init__" s_i14 (iA K 14) g_14 := fun_plain V_14
  obtain ⟨g_15, V_15⟩ := d.def_ 38 (d := dd38) rfl
  have W_15 : Fun K "__init__" "NotALibrary.__init__" s_i15 (iA K 15) g_15 := fun_plain V_15
  obtain ⟨g_16, V_16⟩ := d.def_ 39 (d := dd39) rfl
  have W_16 : Fun K "__init__" "TypeTrouble.__init__" s_i16 (iA K 16) g_16 := fun_plain V_16
  obtain ⟨g_17, V_17⟩ := d.def_ 40 (d := dd40) rfl
  have W_17 : Fun K "__init__" "NameTaken.__init__" s_i17 (iA K 17) g_17 := fun_plain V_17
  obtain ⟨g_18, V_18⟩ := d.def_ 41 (d := dd41) rfl
  have W_18 : Fun K "__init__" "MissingTemplate.__init__" s_i18 (iA K 18) g_18 := fun_plain V_18
  obtain ⟨g_19, V_19⟩ := d.def_ 42 (d := dd42) rfl
  have W_19 : Fun K "__init__" "InUse.__init__" s_i19 (iA K 19) g_19 := fun_plain V_19
  obtain ⟨g_20, V_20⟩ := d.def_ 43 (d := dd43) rfl
  have W_20 : Fun K "__init__" "Ring.__init__" s_i20 (iA K 20) g_20 := fun_plain V_20
  obtain ⟨g_21, V_21⟩ := d.def_ 44 (d := dd44) rfl
  have W_21 : Fun K "__init__" "Unfit.__init__" s_i21 (iA K 21) g_21 := fun_plain V_21
  obtain ⟨g_22, V_22⟩ := d.def_ 45 (d := dd45) rfl
  have W_22 : Fun K "__init__" "NoSuchPath.__init__" s_i22 (iA K 22) g_22 := fun_plain V_22
  obtain ⟨g_23, V_23⟩ := d.def_ 46 (d := dd46) rfl
  have W_23 : Fun K "__init__" "NotLate.__init__" s_i23 (iA K 23) g_23 := fun_plain V_23
  obtain ⟨g_24, V_24⟩ := d.def_ 47 (d := dd47) rfl
  have W_24 : Fun K "__init__" "NotDone.__init__" s_i24 (iA K 24) g_24 := fun_plain V_24
  obtain ⟨g_25, V_25⟩ := d.def_ 48 (d := dd48) rfl
  have W_25 : Fun K "__init__" "Busy.__init__" s_i25 (iA K 25) g_25 := fun_plain V_25
  obtain ⟨g_26, V_26⟩ := d.def_ 49 (d := dd49) rfl
  have W_26 : Fun K "__init__" "NothingToUndo.__init__" s_i26 (iA K 26) g_26 := fun_plain V_26
  obtain ⟨g_27, V_27⟩ := d.def_ 50 (d := dd50) rfl
  have W_27 : Fun K "__init__" "TooManyTemplates.__init__" s_i27 (iA K 27) g_27 := fun_plain V_27
  obtain ⟨g_28, V_28⟩ := d.def_ 51 (d := dd51) rfl
  have W_28 : Fun K "__init__" "TooManyLevels.__init__" s_i28 (iA K 28) g_28 := fun_plain V_28
  obtain ⟨g_29, V_29⟩ := d.def_ 52 (d := dd52) rfl
  have W_29 : Fun K "__init__" "TooManyNodes.__init__" s_i29 (iA K 29) g_29 := fun_plain V_29
  obtain ⟨g_30, V_30⟩ := d.def_ 53 (d := dd53) rfl
  have W_30 : Fun K "__init__" "TooManyElements.__init__" s_i30 (iA K 30) g_30 := fun_plain V_30
  obtain ⟨g_31, V_31⟩ := d.def_ 54 (d := dd54) rfl
  have W_31 : Fun K "__init__" "TooManyEntries.__init__" s_i31 (iA K 31) g_31 := fun_plain V_31
  obtain ⟨g_32, V_32⟩ := d.def_ 55 (d := dd55) rfl
  have W_32 : Fun K "__init__" "TooDeep.__init__" s_i32 (iA K 32) g_32 := fun_plain V_32
  obtain ⟨f_is_sign, U_is_sign⟩ := d.def_ 0 (d := dd0) rfl
  have F_is_sign : Fun K "is_sign" "is_sign" s_is_sign (He.ga K "is_sign") f_is_sign := fun_plain U_is_sign
  have G_is_sign : mg "is_sign" = some (.ref (He.ga K "is_sign")) := He.glo_ok X G (d.fact 0 (f := .glo "is_sign") rfl)
  have B_is_sign : Binds K f_is_sign P_is_sign [] := F_is_sign.binds fun _ _ _ _ _ _ us hl => match us, hl with | [_], _ => rfl
  obtain ⟨f_is_text, U_is_text⟩ := d.def_ 1 (d := dd1) rfl
  have F_is_text : Fun K "is_text" "is_text" s_is_text (He.ga K "is_text") f_is_text := fun_plain U_is_text
  have G_is_text : mg "is_text" = some (.ref (He.ga K "is_text")) := He.glo_ok X G (d.fact 1 (f := .glo "is_text") rfl)
  have B_is_text : Binds K f_is_text P_is_text [] := F_is_text.binds fun _ _ _ _ _ _ us hl => match us, hl with | [_], _ => rfl
  obtain ⟨f_is_letter, U_is_letter⟩ := d.def_ 2 (d := dd2) rfl
  have F_is_letter : Fun K "is_letter" "is_letter" s_is_letter (He.ga K "is_letter") f_is_letter := fun_plain U_is_letter
  have G_is_letter : mg "is_letter" = some (.ref (He.ga K "is_letter")) := He.glo_ok X G (d.fact 2 (f := .glo "is_letter") rfl)
  have B_is_letter : Binds K f_is_letter P_is_letter [] := F_is_letter.binds fun _ _ _ _ _ _ us hl => match us, hl with | [_], _ => rfl
  obtain ⟨f_is_name, U_is_name⟩ := d.def_ 3 (d := dd3) rfl
  have F_is_name : Fun K "is_name" "is_name" s_is_name (He.ga K "is_name") f_is_name := fun_plain U_is_name
  have G_is_name : mg "is_name" = some (.ref (He.ga K "is_name")) := He.glo_ok X G (d.fact 3 (f := .glo "is_name") rfl)
  have B_is_name : Binds K f_is_name P_is_name [] := F_is_name.binds fun _ _ _ _ _ _ us hl => match us, hl with | [_], _ => rfl
  obtain ⟨f_kind_of, U_kind_of⟩ := d.def_ 6 (d := dd6) rfl
  have F_kind_of : Fun K "kind_of" "kind_of" s_kind_of (He.ga K "kind_of") f_kind_of := fun_plain U_kind_of
  have G_kind_of : mg "kind_of" = some (.ref (He.ga K "kind_of")) := He.glo_ok X G (d.fact 6 (f := .glo "kind_of") rfl)
  have B_kind_of : Binds K f_kind_of P_kind_of [] := F_kind_of.binds fun _ _ _ _ _ _ us hl => match us, hl with | [_], _ => rfl
  obtain ⟨f__is_value_within, U__is_value_within⟩ := d.def_ 7 (d := dd7) rfl
  have F__is_value_within : Fun K "_is_value_within" "_is_value_within" s_within (He.ga K "_is_value_within") f__is_value_within := fun_plain U__is_value_within
  have G__is_value_within : mg "_is_value_within" = some (.ref (He.ga K "_is_value_within")) := He.glo_ok X G (d.fact 7 (f := .glo "_is_value_within") rfl)
  have B__is_value_within : Binds K f__is_value_within P_within [] := F__is_value_within.binds fun _ _ _ _ _ _ us hl => match us, hl with | [_, _], _ => rfl
  obtain ⟨f_is_value, U_is_value⟩ := d.def_ 4 (d := dd4) rfl
  have F_is_value : Fun K "is_value" "is_value" s_is_value (He.ga K "is_value") f_is_value := fun_plain U_is_value
  have G_is_value : mg "is_value" = some (.ref (He.ga K "is_value")) := He.glo_ok X G (d.fact 4 (f := .glo "is_value") rfl)
  have B_is_value : Binds K f_is_value P_is_value [] := F_is_value.binds fun _ _ _ _ _ _ us hl => match us, hl with | [_], _ => rfl
  obtain ⟨f_agree, U_agree⟩ := d.def_ 8 (d := dd8) rfl
  have F_agree : Fun K "agree" "agree" s_agree (He.ga K "agree") f_agree := fun_plain U_agree
  have G_agree : mg "agree" = some (.ref (He.ga K "agree")) := He.glo_ok X G (d.fact 8 (f := .glo "agree") rfl)
  have B_agree : Binds K f_agree P_agree [] := F_agree.binds fun _ _ _ _ _ _ us hl => match us, hl with | [_, _], _ => rfl
  obtain ⟨f_same, U_same⟩ := d.def_ 5 (d := dd5) rfl
  have F_same : Fun K "same" "same" s_same (He.ga K "same") f_same := fun_plain U_same
  have G_same : mg "same" = some (.ref (He.ga K "same")) := He.glo_ok X G (d.fact 5 (f := .glo "same") rfl)
  have B_same : Binds K f_same P_same [] := F_same.binds fun _ _ _ _ _ _ us hl => match us, hl with | [_, _], _ => rfl
  obtain ⟨f__law_cell, U__law_cell⟩ := d.def_ 9 (d := dd9) rfl
  have F__law_cell : Fun K "_law_cell" "_law_cell" s_cell (He.ga K "_law_cell") f__law_cell := fun_plain U__law_cell
  have G__law_cell : mg "_law_cell" = some (.ref (He.ga K "_law_cell")) := He.glo_ok X G (d.fact 9 (f := .glo "_law_cell") rfl)
  have B__law_cell : Binds K f__law_cell P_cell [] := F__law_cell.binds fun _ _ _ _ _ _ us hl => match us, hl with | [_, _], _ => rfl
  obtain ⟨f__law_pool, U__law_pool⟩ := d.def_ 10 (d := dd10) rfl
  have F__law_pool : Fun K "_law_pool" "_law_pool" s_pool (He.ga K "_law_pool") f__law_pool := fun_plain U__law_pool
  have G__law_pool : mg "_law_pool" = some (.ref (He.ga K "_law_pool")) := He.glo_ok X G (d.fact 10 (f := .glo "_law_pool") rfl)
  have B__law_pool : Binds K f__law_pool P_pool [] := F__law_pool.binds fun _ _ _ _ _ _ us hl => match us, hl with | [_], _ => rfl
  obtain ⟨f__law_draw, U__law_draw⟩ := d.def_ 11 (d := dd11) rfl
  have F__law_draw : Fun K "_law_draw" "_law_draw" s_draw (He.ga K "_law_draw") f__law_draw := fun_plain U__law_draw
  have G__law_draw : mg "_law_draw" = some (.ref (He.ga K "_law_draw")) := He.glo_ok X G (d.fact 11 (f := .glo "_law_draw") rfl)
  have B__law_draw : Binds K f__law_draw P_draw [] := F__law_draw.binds fun _ _ _ _ _ _ us hl => match us, hl with | [_, _], _ => rfl
  obtain ⟨f__law_words, U__law_words⟩ := d.def_ 12 (d := dd12) rfl
  have F__law_words : Fun K "_law_words" "_law_words" s_words (He.ga K "_law_words") f__law_words := fun_plain U__law_words
  have G__law_words : mg "_law_words" = some (.ref (He.ga K "_law_words")) := He.glo_ok X G (d.fact 12 (f := .glo "_law_words") rfl)
  have B__law_words : Binds K f__law_words P_words [] := F__law_words.binds fun _ _ _ _ _ _ us hl => match us, hl with | [_, _], _ => rfl
  obtain ⟨f__law_chars, U__law_chars⟩ := d.def_ 13 (d := dd13) rfl
  have F__law_chars : Fun K "_law_chars" "_law_chars" s_chars (He.ga K "_law_chars") f__law_chars := fun_plain U__law_chars
  have G__law_chars : mg "_law_chars" = some (.ref (He.ga K "_law_chars")) := He.glo_ok X G (d.fact 13 (f := .glo "_law_chars") rfl)
  have B__law_chars : Binds K f__law_chars P_chars [] := F__law_chars.binds fun _ _ _ _ _ _ us hl => match us, hl with | [_], _ => rfl
  obtain ⟨f__law_form, U__law_form⟩ := d.def_ 14 (d := dd14) rfl
  have F__law_form : Fun K "_law_form" "_law_form" s_form (He.ga K "_law_form") f__law_form := fun_plain U__law_form
  have G__law_form : mg "_law_form" = some (.ref (He.ga K "_law_form")) := He.glo_ok X G (d.fact 14 (f := .glo "_law_form") rfl)
  have B__law_form : Binds K f__law_form P_form [] := F__law_form.binds fun _ _ _ _ _ _ us hl => match us, hl with | [_, _], _ => rfl
  obtain ⟨f__law_thing_of, U__law_thing_of⟩ := d.def_ 15 (d := dd15) rfl
  have F__law_thing_of : Fun K "_law_thing_of" "_law_thing_of" s_thing (He.ga K "_law_thing_of") f__law_thing_of := fun_plain U__law_thing_of
  have G__law_thing_of : mg "_law_thing_of" = some (.ref (He.ga K "_law_thing_of")) := He.glo_ok X G (d.fact 15 (f := .glo "_law_thing_of") rfl)
  have B__law_thing_of : Binds K f__law_thing_of P_thing [] := F__law_thing_of.binds fun _ _ _ _ _ _ us hl => match us, hl with | [_, _], _ => rfl
  obtain ⟨f__law_kind, U__law_kind⟩ := d.def_ 16 (d := dd16) rfl
  have F__law_kind : Fun K "_law_kind" "_law_kind" s_kind (He.ga K "_law_kind") f__law_kind := fun_plain U__law_kind
  have G__law_kind : mg "_law_kind" = some (.ref (He.ga K "_law_kind")) := He.glo_ok X G (d.fact 16 (f := .glo "_law_kind") rfl)
  have B__law_kind : Binds K f__law_kind P_kind [] := F__law_kind.binds fun _ _ _ _ _ _ us hl => match us, hl with | [_], _ => rfl
  obtain ⟨f__law_other_fields, U__law_other_fields⟩ := d.def_ 18 (d := dd18) rfl
  have F__law_other_fields : Fun K "_law_other_fields" "_law_other_fields" s_other (He.ga K "_law_other_fields") f__law_other_fields := fun_plain U__law_other_fields
  have G__law_other_fields : mg "_law_other_fields" = some (.ref (He.ga K "_law_other_fields")) := He.glo_ok X G (d.fact 18 (f := .glo "_law_other_fields") rfl)
  have B__law_other_fields : Binds K f__law_other_fields P_other [] := F__law_other_fields.binds fun _ _ _ _ _ _ us hl => match us, hl with | [_], _ => rfl
  obtain ⟨f__law_fields_of, U__law_fields_of⟩ := d.def_ 17 (d := dd17) rfl
  have F__law_fields_of : Fun K "_law_fields_of" "_law_fields_of" s_fields (He.ga K "_law_fields_of") f__law_fields_of := fun_plain U__law_fields_of
  have G__law_fields_of : mg "_law_fields_of" = some (.ref (He.ga K "_law_fields_of")) := He.glo_ok X G (d.fact 17 (f := .glo "_law_fields_of") rfl)
  have B__law_fields_of : Binds K f__law_fields_of P_fields [] := F__law_fields_of.binds fun _ _ _ _ _ _ us hl => match us, hl with | [_], _ => rfl
  obtain ⟨f__law_made, U__law_made⟩ := d.def_ 19 (d := dd19) rfl
  have F__law_made : Fun K "_law_made" "_law_made" s_made (He.ga K "_law_made") f__law_made := fun_plain U__law_made
  have G__law_made : mg "_law_made" = some (.ref (He.ga K "_law_made")) := He.glo_ok X G (d.fact 19 (f := .glo "_law_made") rfl)
  have B__law_made : Binds K f__law_made P_made [] := F__law_made.binds fun _ _ _ _ _ _ us hl => match us, hl with | [_, _], _ => rfl
  obtain ⟨f__law_named, U__law_named⟩ := d.def_ 20 (d := dd20) rfl
  have F__law_named : Fun K "_law_named" "_law_named" s_named (He.ga K "_law_named") f__law_named := fun_plain U__law_named
  have G__law_named : mg "_law_named" = some (.ref (He.ga K "_law_named")) := He.glo_ok X G (d.fact 20 (f := .glo "_law_named") rfl)
  have B__law_named : Binds K f__law_named P_named [] := F__law_named.binds fun _ _ _ _ _ _ us hl => match us, hl with | [_, _], _ => rfl
  obtain ⟨f__law_right, U__law_right⟩ := d.def_ 21 (d := dd21) rfl
  have F__law_right : Fun K "_law_right" "_law_right" s_right (He.ga K "_law_right") f__law_right := fun_plain U__law_right
  have G__law_right : mg "_law_right" = some (.ref (He.ga K "_law_right")) := He.glo_ok X G (d.fact 21 (f := .glo "_law_right") rfl)
  have B__law_right : Binds K f__law_right P_right [] := F__law_right.binds fun _ _ _ _ _ _ us hl => match us, hl with | [_], _ => rfl
  obtain ⟨f_law, U_law⟩ := d.def_ 22 (d := dd22) rfl
  have F_law : Fun K "law" "law" s_law (He.ga K "law") f_law := fun_plain U_law
  have el := hfa.symm.trans (He.glo_ok X G (d.fact 22 (f := .glo "law") rfl))
  cases el
  refine ⟨f_law, fun s v => U_law.bindsA (ps := ["_law_script"]) (fun _ _ _ _ _ _ us hl => match us, hl with | [_], _ => rfl) s [v] rfl, fun base _ _ => ?_⟩
  have ed_0 : ED P w K mg base (nameE 0) (cA K 0) (iA K 0) g_0 (fieldsE 0) (bE 0) (nE 0) (iE 0) (tE 0) :=
    ⟨er_of m 0 (by decide), He.glo_ok X G (d.fact 23 (f := .glo "InvalidName") rfl), (init_of m 0 (by decide)).1, (init_of m 0 (by decide)).2.1, W_0.binds (ps := P_i0) fun _ _ _ _ _ _ us hl => match us, hl with | [_, _], _ => rfl, kb_i0 W_0, ok_i0 W_0 (er_of m 0 (by decide)) ((init_of m 0 (by decide)).2.2 _ (by decide)), (init_of m 0 (by decide)).2.2⟩
  have ed_1 : ED P w K mg base (nameE 1) (cA K 1) (iA K 1) g_1 (fieldsE 1) (bE 1) (nE 1) (iE 1) (tE 1) :=
    ⟨er_of m 1 (by decide), He.glo_ok X G (d.fact 24 (f := .glo "InvalidText") rfl), (init_of m 1 (by decide)).1, (init_of m 1 (by decide)).2.1, W_1.binds (ps := P_i1) fun _ _ _ _ _ _ us hl => match us, hl with | [_, _], _ => rfl, kb_i1 W_1, ok_i1 W_1 (er_of m 1 (by decide)) ((init_of m 1 (by decide)).2.2 _ (by decide)), (init_of m 1 (by decide)).2.2⟩
  have ed_2 : ED P w K mg base (nameE 2) (cA K 2) (iA K 2) g_2 (fieldsE 2) (bE 2) (nE 2) (iE 2) (tE 2) :=
    ⟨er_of m 2 (by decide), He.glo_ok X G (d.fact 25 (f := .glo "InvalidValue") rfl), (init_of m 2 (by decide)).1, (init_of m 2 (by decide)).2.1, W_2.binds (ps := P_i2) fun _ _ _ _ _ _ us hl => match us, hl with | [_, _], _ => rfl, kb_i2 W_2, ok_i2 W_2 (er_of m 2 (by decide)) ((init_of m 2 (by decide)).2.2 _ (by decide)), (init_of m 2 (by decide)).2.2⟩
  have ed_3 : ED P w K mg base (nameE 3) (cA K 3) (iA K 3) g_3 (fieldsE 3) (bE 3) (nE 3) (iE 3) (tE 3) :=
    ⟨er_of m 3 (by decide), He.glo_ok X G (d.fact 26 (f := .glo "InvalidTree") rfl), (init_of m 3 (by decide)).1, (init_of m 3 (by decide)).2.1, W_3.binds (ps := P_i3) fun _ _ _ _ _ _ us hl => match us, hl with | [_, _], _ => rfl, kb_i3 W_3, ok_i3 W_3 (er_of m 3 (by decide)) ((init_of m 3 (by decide)).2.2 _ (by decide)), (init_of m 3 (by decide)).2.2⟩
  have ed_4 : ED P w K mg base (nameE 4) (cA K 4) (iA K 4) g_4 (fieldsE 4) (bE 4) (nE 4) (iE 4) (tE 4) :=
    ⟨er_of m 4 (by decide), He.glo_ok X G (d.fact 27 (f := .glo "InvalidContext") rfl), (init_of m 4 (by decide)).1, (init_of m 4 (by decide)).2.1, W_4.binds (ps := P_i4) fun _ _ _ _ _ _ us hl => match us, hl with | [_, _], _ => rfl, kb_i4 W_4, ok_i4 W_4 (er_of m 4 (by decide)) ((init_of m 4 (by decide)).2.2 _ (by decide)), (init_of m 4 (by decide)).2.2⟩
  have ed_5 : ED P w K mg base (nameE 5) (cA K 5) (iA K 5) g_5 (fieldsE 5) (bE 5) (nE 5) (iE 5) (tE 5) :=
    ⟨er_of m 5 (by decide), He.glo_ok X G (d.fact 28 (f := .glo "InvalidPage") rfl), (init_of m 5 (by decide)).1, (init_of m 5 (by decide)).2.1, W_5.binds (ps := P_i5) fun _ _ _ _ _ _ us hl => match us, hl with | [_, _], _ => rfl, kb_i5 W_5, ok_i5 W_5 (er_of m 5 (by decide)) ((init_of m 5 (by decide)).2.2 _ (by decide)), (init_of m 5 (by decide)).2.2⟩
  have ed_6 : ED P w K mg base (nameE 6) (cA K 6) (iA K 6) g_6 (fieldsE 6) (bE 6) (nE 6) (iE 6) (tE 6) :=
    ⟨er_of m 6 (by decide), He.glo_ok X G (d.fact 29 (f := .glo "InvalidBody") rfl), (init_of m 6 (by decide)).1, (init_of m 6 (by decide)).2.1, W_6.binds (ps := P_i6) fun _ _ _ _ _ _ us hl => match us, hl with | [_, _], _ => rfl, kb_i6 W_6, ok_i6 W_6 (er_of m 6 (by decide)) ((init_of m 6 (by decide)).2.2 _ (by decide)), (init_of m 6 (by decide)).2.2⟩
  have ed_7 : ED P w K mg base (nameE 7) (cA K 7) (iA K 7) g_7 (fieldsE 7) (bE 7) (nE 7) (iE 7) (tE 7) :=
    ⟨er_of m 7 (by decide), He.glo_ok X G (d.fact 30 (f := .glo "InvalidTag") rfl), (init_of m 7 (by decide)).1, (init_of m 7 (by decide)).2.1, W_7.binds (ps := P_i7) fun _ _ _ _ _ _ us hl => match us, hl with | [_, _], _ => rfl, kb_i7 W_7, ok_i7 W_7 (er_of m 7 (by decide)) ((init_of m 7 (by decide)).2.2 _ (by decide)), (init_of m 7 (by decide)).2.2⟩
  have ed_8 : ED P w K mg base (nameE 8) (cA K 8) (iA K 8) g_8 (fieldsE 8) (bE 8) (nE 8) (iE 8) (tE 8) :=
    ⟨er_of m 8 (by decide), He.glo_ok X G (d.fact 31 (f := .glo "Misplaced") rfl), (init_of m 8 (by decide)).1, (init_of m 8 (by decide)).2.1, W_8.binds (ps := P_i8) fun _ _ _ _ _ _ us hl => match us, hl with | [_, _, _], _ => rfl, kb_i8 W_8, ok_i8 W_8 (er_of m 8 (by decide)) ((init_of m 8 (by decide)).2.2 _ (by decide)) ((init_of m 8 (by decide)).2.2 _ (by decide)), (init_of m 8 (by decide)).2.2⟩
  have ed_9 : ED P w K mg base (nameE 9) (cA K 9) (iA K 9) g_9 (fieldsE 9) (bE 9) (nE 9) (iE 9) (tE 9) :=
    ⟨er_of m 9 (by decide), He.glo_ok X G (d.fact 32 (f := .glo "InvalidPlan") rfl), (init_of m 9 (by decide)).1, (init_of m 9 (by decide)).2.1, W_9.binds (ps := P_i9) fun _ _ _ _ _ _ us hl => match us, hl with | [_, _], _ => rfl, kb_i9 W_9, ok_i9 W_9 (er_of m 9 (by decide)) ((init_of m 9 (by decide)).2.2 _ (by decide)), (init_of m 9 (by decide)).2.2⟩
  have ed_10 : ED P w K mg base (nameE 10) (cA K 10) (iA K 10) g_10 (fieldsE 10) (bE 10) (nE 10) (iE 10) (tE 10) :=
    ⟨er_of m 10 (by decide), He.glo_ok X G (d.fact 33 (f := .glo "InvalidPass") rfl), (init_of m 10 (by decide)).1, (init_of m 10 (by decide)).2.1, W_10.binds (ps := P_i10) fun _ _ _ _ _ _ us hl => match us, hl with | [_, _], _ => rfl, kb_i10 W_10, ok_i10 W_10 (er_of m 10 (by decide)) ((init_of m 10 (by decide)).2.2 _ (by decide)), (init_of m 10 (by decide)).2.2⟩
  have ed_11 : ED P w K mg base (nameE 11) (cA K 11) (iA K 11) g_11 (fieldsE 11) (bE 11) (nE 11) (iE 11) (tE 11) :=
    ⟨er_of m 11 (by decide), He.glo_ok X G (d.fact 34 (f := .glo "InvalidPatches") rfl), (init_of m 11 (by decide)).1, (init_of m 11 (by decide)).2.1, W_11.binds (ps := P_i11) fun _ _ _ _ _ _ us hl => match us, hl with | [_, _], _ => rfl, kb_i11 W_11, ok_i11 W_11 (er_of m 11 (by decide)) ((init_of m 11 (by decide)).2.2 _ (by decide)), (init_of m 11 (by decide)).2.2⟩
  have ed_12 : ED P w K mg base (nameE 12) (cA K 12) (iA K 12) g_12 (fieldsE 12) (bE 12) (nE 12) (iE 12) (tE 12) :=
    ⟨er_of m 12 (by decide), He.glo_ok X G (d.fact 35 (f := .glo "InvalidSize") rfl), (init_of m 12 (by decide)).1, (init_of m 12 (by decide)).2.1, W_12.binds (ps := P_i12) fun _ _ _ _ _ _ us hl => match us, hl with | [_, _], _ => rfl, kb_i12 W_12, ok_i12 W_12 (er_of m 12 (by decide)) ((init_of m 12 (by decide)).2.2 _ (by decide)), (init_of m 12 (by decide)).2.2⟩
  have ed_13 : ED P w K mg base (nameE 13) (cA K 13) (iA K 13) g_13 (fieldsE 13) (bE 13) (nE 13) (iE 13) (tE 13) :=
    ⟨er_of m 13 (by decide), He.glo_ok X G (d.fact 36 (f := .glo "InvalidAction") rfl), (init_of m 13 (by decide)).1, (init_of m 13 (by decide)).2.1, W_13.binds (ps := P_i13) fun _ _ _ _ _ _ us hl => match us, hl with | [_, _], _ => rfl, kb_i13 W_13, ok_i13 W_13 (er_of m 13 (by decide)) ((init_of m 13 (by decide)).2.2 _ (by decide)), (init_of m 13 (by decide)).2.2⟩
  have ed_14 : ED P w K mg base (nameE 14) (cA K 14) (iA K 14) g_14 (fieldsE 14) (bE 14) (nE 14) (iE 14) (tE 14) :=
    ⟨er_of m 14 (by decide), He.glo_ok X G (d.fact 37 (f := .glo "InvalidCommand") rfl), (init_of m 14 (by decide)).1, (init_of m 14 (by decide)).2.1, W_14.binds (ps := P_i14) fun _ _ _ _ _ _ us hl => match us, hl with | [_, _], _ => rfl, kb_i14 W_14, ok_i14 W_14 (er_of m 14 (by decide)) ((init_of m 14 (by decide)).2.2 _ (by decide)), (init_of m 14 (by decide)).2.2⟩
  have ed_15 : ED P w K mg base (nameE 15) (cA K 15) (iA K 15) g_15 (fieldsE 15) (bE 15) (nE 15) (iE 15) (tE 15) :=
    ⟨er_of m 15 (by decide), He.glo_ok X G (d.fact 38 (f := .glo "NotALibrary") rfl), (init_of m 15 (by decide)).1, (init_of m 15 (by decide)).2.1, W_15.binds (ps := P_i15) fun _ _ _ _ _ _ us hl => match us, hl with | [_, _], _ => rfl, kb_i15 W_15, ok_i15 W_15 (er_of m 15 (by decide)) ((init_of m 15 (by decide)).2.2 _ (by decide)), (init_of m 15 (by decide)).2.2⟩
  have ed_16 : ED P w K mg base (nameE 16) (cA K 16) (iA K 16) g_16 (fieldsE 16) (bE 16) (nE 16) (iE 16) (tE 16) :=
    ⟨er_of m 16 (by decide), He.glo_ok X G (d.fact 39 (f := .glo "TypeTrouble") rfl), (init_of m 16 (by decide)).1, (init_of m 16 (by decide)).2.1, W_16.binds (ps := P_i16) fun _ _ _ _ _ _ us hl => match us, hl with | [_, _], _ => rfl, kb_i16 W_16, ok_i16 W_16 (er_of m 16 (by decide)) ((init_of m 16 (by decide)).2.2 _ (by decide)), (init_of m 16 (by decide)).2.2⟩
  have ed_17 : ED P w K mg base (nameE 17) (cA K 17) (iA K 17) g_17 (fieldsE 17) (bE 17) (nE 17) (iE 17) (tE 17) :=
    ⟨er_of m 17 (by decide), He.glo_ok X G (d.fact 40 (f := .glo "NameTaken") rfl), (init_of m 17 (by decide)).1, (init_of m 17 (by decide)).2.1, W_17.binds (ps := P_i17) fun _ _ _ _ _ _ us hl => match us, hl with | [_, _], _ => rfl, kb_i17 W_17, ok_i17 W_17 (er_of m 17 (by decide)) ((init_of m 17 (by decide)).2.2 _ (by decide)), (init_of m 17 (by decide)).2.2⟩
  have ed_18 : ED P w K mg base (nameE 18) (cA K 18) (iA K 18) g_18 (fieldsE 18) (bE 18) (nE 18) (iE 18) (tE 18) :=
    ⟨er_of m 18 (by decide), He.glo_ok X G (d.fact 41 (f := .glo "MissingTemplate") rfl), (init_of m 18 (by decide)).1, (init_of m 18 (by decide)).2.1, W_18.binds (ps := P_i18) fun _ _ _ _ _ _ us hl => match us, hl with | [_, _], _ => rfl, kb_i18 W_18, ok_i18 W_18 (er_of m 18 (by decide)) ((init_of m 18 (by decide)).2.2 _ (by decide)), (init_of m 18 (by decide)).2.2⟩
  have ed_19 : ED P w K mg base (nameE 19) (cA K 19) (iA K 19) g_19 (fieldsE 19) (bE 19) (nE 19) (iE 19) (tE 19) :=
    ⟨er_of m 19 (by decide), He.glo_ok X G (d.fact 42 (f := .glo "InUse") rfl), (init_of m 19 (by decide)).1, (init_of m 19 (by decide)).2.1, W_19.binds (ps := P_i19) fun _ _ _ _ _ _ us hl => match us, hl with | [_, _], _ => rfl, kb_i19 W_19, ok_i19 W_19 (er_of m 19 (by decide)) ((init_of m 19 (by decide)).2.2 _ (by decide)), (init_of m 19 (by decide)).2.2⟩
  have ed_20 : ED P w K mg base (nameE 20) (cA K 20) (iA K 20) g_20 (fieldsE 20) (bE 20) (nE 20) (iE 20) (tE 20) :=
    ⟨er_of m 20 (by decide), He.glo_ok X G (d.fact 43 (f := .glo "Ring") rfl), (init_of m 20 (by decide)).1, (init_of m 20 (by decide)).2.1, W_20.binds (ps := P_i20) fun _ _ _ _ _ _ us hl => match us, hl with | [_, _], _ => rfl, kb_i20 W_20, ok_i20 W_20 (er_of m 20 (by decide)) ((init_of m 20 (by decide)).2.2 _ (by decide)), (init_of m 20 (by decide)).2.2⟩
  have ed_21 : ED P w K mg base (nameE 21) (cA K 21) (iA K 21) g_21 (fieldsE 21) (bE 21) (nE 21) (iE 21) (tE 21) :=
    ⟨er_of m 21 (by decide), He.glo_ok X G (d.fact 44 (f := .glo "Unfit") rfl), (init_of m 21 (by decide)).1, (init_of m 21 (by decide)).2.1, W_21.binds (ps := P_i21) fun _ _ _ _ _ _ us hl => match us, hl with | [_, _], _ => rfl, kb_i21 W_21, ok_i21 W_21 (er_of m 21 (by decide)) ((init_of m 21 (by decide)).2.2 _ (by decide)), (init_of m 21 (by decide)).2.2⟩
  have ed_22 : ED P w K mg base (nameE 22) (cA K 22) (iA K 22) g_22 (fieldsE 22) (bE 22) (nE 22) (iE 22) (tE 22) :=
    ⟨er_of m 22 (by decide), He.glo_ok X G (d.fact 45 (f := .glo "NoSuchPath") rfl), (init_of m 22 (by decide)).1, (init_of m 22 (by decide)).2.1, W_22.binds (ps := P_i22) fun _ _ _ _ _ _ us hl => match us, hl with | [_, _], _ => rfl, kb_i22 W_22, ok_i22 W_22 (er_of m 22 (by decide)) ((init_of m 22 (by decide)).2.2 _ (by decide)), (init_of m 22 (by decide)).2.2⟩
  have ed_23 : ED P w K mg base (nameE 23) (cA K 23) (iA K 23) g_23 (fieldsE 23) (bE 23) (nE 23) (iE 23) (tE 23) :=
    ⟨er_of m 23 (by decide), He.glo_ok X G (d.fact 46 (f := .glo "NotLate") rfl), (init_of m 23 (by decide)).1, (init_of m 23 (by decide)).2.1, W_23.binds (ps := P_i23) fun _ _ _ _ _ _ us hl => match us, hl with | [_, _], _ => rfl, kb_i23 W_23, ok_i23 W_23 (er_of m 23 (by decide)) ((init_of m 23 (by decide)).2.2 _ (by decide)), (init_of m 23 (by decide)).2.2⟩
  have ed_24 : ED P w K mg base (nameE 24) (cA K 24) (iA K 24) g_24 (fieldsE 24) (bE 24) (nE 24) (iE 24) (tE 24) :=
    ⟨er_of m 24 (by decide), He.glo_ok X G (d.fact 47 (f := .glo "NotDone") rfl), (init_of m 24 (by decide)).1, (init_of m 24 (by decide)).2.1, W_24.binds (ps := P_i24) fun _ _ _ _ _ _ us hl => match us, hl with | [_], _ => rfl, kb_i24 W_24, ok_i24 W_24, (init_of m 24 (by decide)).2.2⟩
  have ed_25 : ED P w K mg base (nameE 25) (cA K 25) (iA K 25) g_25 (fieldsE 25) (bE 25) (nE 25) (iE 25) (tE 25) :=
    ⟨er_of m 25 (by decide), He.glo_ok X G (d.fact 48 (f := .glo "Busy") rfl), (init_of m 25 (by decide)).1, (init_of m 25 (by decide)).2.1, W_25.binds (ps := P_i25) fun _ _ _ _ _ _ us hl => match us, hl with | [_], _ => rfl, kb_i25 W_25, ok_i25 W_25, (init_of m 25 (by decide)).2.2⟩
  have ed_26 : ED P w K mg base (nameE 26) (cA K 26) (iA K 26) g_26 (fieldsE 26) (bE 26) (nE 26) (iE 26) (tE 26) :=
    ⟨er_of m 26 (by decide), He.glo_ok X G (d.fact 49 (f := .glo "NothingToUndo") rfl), (init_of m 26 (by decide)).1, (init_of m 26 (by decide)).2.1, W_26.binds (ps := P_i26) fun _ _ _ _ _ _ us hl => match us, hl with | [_], _ => rfl, kb_i26 W_26, ok_i26 W_26, (init_of m 26 (by decide)).2.2⟩
  have ed_27 : ED P w K mg base (nameE 27) (cA K 27) (iA K 27) g_27 (fieldsE 27) (bE 27) (nE 27) (iE 27) (tE 27) :=
    ⟨er_of m 27 (by decide), He.glo_ok X G (d.fact 50 (f := .glo "TooManyTemplates") rfl), (init_of m 27 (by decide)).1, (init_of m 27 (by decide)).2.1, W_27.binds (ps := P_i27) fun _ _ _ _ _ _ us hl => match us, hl with | [_, _], _ => rfl, kb_i27 W_27, ok_i27 W_27 (er_of m 27 (by decide)) ((init_of m 27 (by decide)).2.2 _ (by decide)), (init_of m 27 (by decide)).2.2⟩
  have ed_28 : ED P w K mg base (nameE 28) (cA K 28) (iA K 28) g_28 (fieldsE 28) (bE 28) (nE 28) (iE 28) (tE 28) :=
    ⟨er_of m 28 (by decide), He.glo_ok X G (d.fact 51 (f := .glo "TooManyLevels") rfl), (init_of m 28 (by decide)).1, (init_of m 28 (by decide)).2.1, W_28.binds (ps := P_i28) fun _ _ _ _ _ _ us hl => match us, hl with | [_, _], _ => rfl, kb_i28 W_28, ok_i28 W_28 (er_of m 28 (by decide)) ((init_of m 28 (by decide)).2.2 _ (by decide)), (init_of m 28 (by decide)).2.2⟩
  have ed_29 : ED P w K mg base (nameE 29) (cA K 29) (iA K 29) g_29 (fieldsE 29) (bE 29) (nE 29) (iE 29) (tE 29) :=
    ⟨er_of m 29 (by decide), He.glo_ok X G (d.fact 52 (f := .glo "TooManyNodes") rfl), (init_of m 29 (by decide)).1, (init_of m 29 (by decide)).2.1, W_29.binds (ps := P_i29) fun _ _ _ _ _ _ us hl => match us, hl with | [_, _], _ => rfl, kb_i29 W_29, ok_i29 W_29 (er_of m 29 (by decide)) ((init_of m 29 (by decide)).2.2 _ (by decide)), (init_of m 29 (by decide)).2.2⟩
  have ed_30 : ED P w K mg base (nameE 30) (cA K 30) (iA K 30) g_30 (fieldsE 30) (bE 30) (nE 30) (iE 30) (tE 30) :=
    ⟨er_of m 30 (by decide), He.glo_ok X G (d.fact 53 (f := .glo "TooManyElements") rfl), (init_of m 30 (by decide)).1, (init_of m 30 (by decide)).2.1, W_30.binds (ps := P_i30) fun _ _ _ _ _ _ us hl => match us, hl with | [_, _], _ => rfl, kb_i30 W_30, ok_i30 W_30 (er_of m 30 (by decide)) ((init_of m 30 (by decide)).2.2 _ (by decide)), (init_of m 30 (by decide)).2.2⟩
  have ed_31 : ED P w K mg base (nameE 31) (cA K 31) (iA K 31) g_31 (fieldsE 31) (bE 31) (nE 31) (iE 31) (tE 31) :=
    ⟨er_of m 31 (by decide), He.glo_ok X G (d.fact 54 (f := .glo "TooManyEntries") rfl), (init_of m 31 (by decide)).1, (init_of m 31 (by decide)).2.1, W_31.binds (ps := P_i31) fun _ _ _ _ _ _ us hl => match us, hl with | [_, _], _ => rfl, kb_i31 W_31, ok_i31 W_31 (er_of m 31 (by decide)) ((init_of m 31 (by decide)).2.2 _ (by decide)), (init_of m 31 (by decide)).2.2⟩
  have ed_32 : ED P w K mg base (nameE 32) (cA K 32) (iA K 32) g_32 (fieldsE 32) (bE 32) (nE 32) (iE 32) (tE 32) :=
    ⟨er_of m 32 (by decide), He.glo_ok X G (d.fact 55 (f := .glo "TooDeep") rfl), (init_of m 32 (by decide)).1, (init_of m 32 (by decide)).2.1, W_32.binds (ps := P_i32) fun _ _ _ _ _ _ us hl => match us, hl with | [_, _], _ => rfl, kb_i32 W_32, ok_i32 W_32 (er_of m 32 (by decide)) ((init_of m 32 (by decide)).2.2 _ (by decide)), (init_of m 32 (by decide)).2.2⟩
  have each : ∀ i : Nat, ∃ g : FuncData, i < 33 → ED P w K mg base (nameE i) (cA K i) (iA K i) g (fieldsE i) (bE i) (nE i) (iE i) (tE i) := fun i => match i with
    | 0 => ⟨_, fun _ => ed_0⟩
    | 1 => ⟨_, fun _ => ed_1⟩
    | 2 => ⟨_, fun _ => ed_2⟩
    | 3 => ⟨_, fun _ => ed_3⟩
    | 4 => ⟨_, fun _ => ed_4⟩
    | 5 => ⟨_, fun _ => ed_5⟩
    | 6 => ⟨_, fun _ => ed_6⟩
    | 7 => ⟨_, fun _ => ed_7⟩
    | 8 => ⟨_, fun _ => ed_8⟩
    | 9 => ⟨_, fun _ => ed_9⟩
    | 10 => ⟨_, fun _ => ed_10⟩
    | 11 => ⟨_, fun _ => ed_11⟩
    | 12 => ⟨_, fun _ => ed_12⟩
    | 13 => ⟨_, fun _ => ed_13⟩
    | 14 => ⟨_, fun _ => ed_14⟩
    | 15 => ⟨_, fun _ => ed_15⟩
    | 16 => ⟨_, fun _ => ed_16⟩
    | 17 => ⟨_, fun _ => ed_17⟩
    | 18 => ⟨_, fun _ => ed_18⟩
    | 19 => ⟨_, fun _ => ed_19⟩
    | 20 => ⟨_, fun _ => ed_20⟩
    | 21 => ⟨_, fun _ => ed_21⟩
    | 22 => ⟨_, fun _ => ed_22⟩
    | 23 => ⟨_, fun _ => ed_23⟩
    | 24 => ⟨_, fun _ => ed_24⟩
    | 25 => ⟨_, fun _ => ed_25⟩
    | 26 => ⟨_, fun _ => ed_26⟩
    | 27 => ⟨_, fun _ => ed_27⟩
    | 28 => ⟨_, fun _ => ed_28⟩
    | 29 => ⟨_, fun _ => ed_29⟩
    | 30 => ⟨_, fun _ => ed_30⟩
    | 31 => ⟨_, fun _ => ed_31⟩
    | 32 => ⟨_, fun _ => ed_32⟩
    | i + 33 => ⟨g_0, fun h => absurd h (by omega)⟩
  obtain ⟨gs, all⟩ := Classical.axiomOfChoice each
  obtain ⟨up, all_cl⟩ := He.ba (He.ba (He.ba m).1).2
  have EE : Errs P w K mg base (cA K) (iA K) gs (He.ga K "ShapeError") (He.ga K "StateError") (He.ga K "SizeError") := {
    d := fun i hi => all i hi
    kit := fun i j hi hj => kit_pair up all_cl hi hj (says_of m i hi).line
    gSh := He.glo_ok X G (d.fact 56 (f := .glo "ShapeError") rfl)
    gSt := He.glo_ok X G (d.fact 57 (f := .glo "StateError") rfl)
    gSz := He.glo_ok X G (d.fact 58 (f := .glo "SizeError") rfl)
    kSh := fun i hi => (kit_base up all_cl hi (says_of m i hi).line).1
    kSt := fun i hi => (kit_base up all_cl hi (says_of m i hi).line).2.1
    kSz := fun i hi => (kit_base up all_cl hi (says_of m i hi).line).2.2
    kVE := fun i hi => (kit_made hi (says_of m i hi).line).1
    kLE := fun i hi => (kit_made hi (says_of m i hi).line).2.1
    kAE := fun i hi => (kit_made hi (says_of m i hi).line).2.2
    nVE := He.free_ok X G (d.fact 77 (f := .free "ValueError") rfl)
    nLE := He.free_ok X G (d.fact 78 (f := .free "LookupError") rfl)
    nAE := He.free_ok X G (d.fact 79 (f := .free "ArithmeticError") rfl) }
  have D_is_sign : Def P w K mg base "is_sign" 1 P_is_sign spSign (He.ga K "is_sign") f_is_sign := ⟨G_is_sign, F_is_sign.kp, B_is_sign, ok_is_sign F_is_sign T L⟩
  have D_is_text : Def P w K mg base "is_text" 2 P_is_text spText (He.ga K "is_text") f_is_text := ⟨G_is_text, F_is_text.kp, B_is_text, ok_is_text F_is_text T D_is_sign⟩
  have D_is_letter : Def P w K mg base "is_letter" 1 P_is_letter (spBetween 97 122) (He.ga K "is_letter") f_is_letter := ⟨G_is_letter, F_is_letter.kp, B_is_letter, ok_is_letter F_is_letter⟩
  have D_is_name : Def P w K mg base "is_name" 2 P_is_name spIsName (He.ga K "is_name") f_is_name := ⟨G_is_name, F_is_name.kp, B_is_name, ok_is_name F_is_name T L D_is_letter⟩
  have D_kind_of : Def P w K mg base "kind_of" 3 P_kind_of (spKind K) (He.ga K "kind_of") f_kind_of := ⟨G_kind_of, F_kind_of.kp, B_kind_of, ok_kind_of F_kind_of T L D_is_text D_is_name⟩
  have D__is_value_within : Def P w K mg base "_is_value_within" 10 P_within (spWithin K 7) (He.ga K "_is_value_within") f__is_value_within := ⟨G__is_value_within, F__is_value_within.kp, B__is_value_within, ok_within F__is_value_within T G__is_value_within B__is_value_within D_kind_of 7⟩
  have D_is_value : Def P w K mg base "is_value" 11 P_is_value (spIsValue K) (He.ga K "is_value") f_is_value := ⟨G_is_value, F_is_value.kp, B_is_value, ok_is_value F_is_value L D__is_value_within⟩
  have D_agree : Def P w K mg base "agree" 10 P_agree (spAgree K 7) (He.ga K "agree") f_agree := ⟨G_agree, F_agree.kp, B_agree, ok_agree F_agree T G_agree B_agree 7⟩
  have D_same : Def P w K mg base "same" 12 P_same (spSame1 K) (He.ga K "same") f_same := ⟨G_same, F_same.kp, B_same, ok_same1 F_same T D_is_value D_agree⟩
  have D__law_cell : Def P w K mg base "_law_cell" 1 P_cell (spCell K) (He.ga K "_law_cell") f__law_cell := ⟨G__law_cell, F__law_cell.kp, B__law_cell, ok_cell F__law_cell T⟩
  have D__law_pool : Def P w K mg base "_law_pool" 1 P_pool spPool (He.ga K "_law_pool") f__law_pool := ⟨G__law_pool, F__law_pool.kp, B__law_pool, ok_pool F__law_pool T⟩
  have D__law_draw : Def P w K mg base "_law_draw" 1 P_draw spDraw (He.ga K "_law_draw") f__law_draw := ⟨G__law_draw, F__law_draw.kp, B__law_draw, ok_draw F__law_draw T⟩
  have D__law_words : Def P w K mg base "_law_words" 2 P_words spWords (He.ga K "_law_words") f__law_words := ⟨G__law_words, F__law_words.kp, B__law_words, ok_words F__law_words T D__law_draw⟩
  have D__law_chars : Def P w K mg base "_law_chars" 2 P_chars spChars (He.ga K "_law_chars") f__law_chars := ⟨G__law_chars, F__law_chars.kp, B__law_chars, ok_chars F__law_chars T D__law_draw⟩
  have D__law_form : Def P w K mg base "_law_form" 5 P_form (spFormL K 3) (He.ga K "_law_form") f__law_form := ⟨G__law_form, F__law_form.kp, B__law_form, ok_form F__law_form T G__law_form B__law_form D__law_draw D__law_words 3⟩
  have D__law_form1 : Def P w K mg base "_law_form" 4 P_form (spFormL K 2) (He.ga K "_law_form") f__law_form := ⟨G__law_form, F__law_form.kp, B__law_form, ok_form F__law_form T G__law_form B__law_form D__law_draw D__law_words 2⟩
  have D__law_thing_of : Def P w K mg base "_law_thing_of" 7 P_thing (spThingL K 5) (He.ga K "_law_thing_of") f__law_thing_of := ⟨G__law_thing_of, F__law_thing_of.kp, B__law_thing_of, ok_thing F__law_thing_of T G__law_thing_of B__law_thing_of D__law_draw D__law_chars 5⟩
  have D__law_kind : Def P w K mg base "_law_kind" 1 P_kind (spKd (cA K)) (He.ga K "_law_kind") f__law_kind := ⟨G__law_kind, F__law_kind.kp, B__law_kind, ok_kind F__law_kind T EE⟩
  have D__law_other_fields : Def P w K mg base "_law_other_fields" 1 P_other (spFd (cA K) [1, 4, 8, 12, 14, 16, 24, 25, 26]) (He.ga K "_law_other_fields") f__law_other_fields := ⟨G__law_other_fields, F__law_other_fields.kp, B__law_other_fields, ok_other F__law_other_fields T EE⟩
  have D__law_fields_of : Def P w K mg base "_law_fields_of" 2 P_fields (spFd (cA K) allE) (He.ga K "_law_fields_of") f__law_fields_of := ⟨G__law_fields_of, F__law_fields_of.kp, B__law_fields_of, ok_fields F__law_fields_of T EE D__law_other_fields⟩
  have D__law_made : Def P w K mg base "_law_made" 3 P_made (spMade (cA K)) (He.ga K "_law_made") f__law_made := ⟨G__law_made, F__law_made.kp, B__law_made, ok_made F__law_made EE⟩
  have D__law_named : Def P w K mg base "_law_named" 3 P_named (spNamed (cA K)) (He.ga K "_law_named") f__law_named := ⟨G__law_named, F__law_named.kp, B__law_named, ok_named F__law_named EE⟩
  have D__law_right : DefG P w K mg base "_law_right" 13 P_right spRight (He.ga K "_law_right") f__law_right := ⟨G__law_right, F__law_right.kp, B__law_right, ok_right F__law_right T SK EE D__law_form D__law_form1 D__law_thing_of D__law_made D__law_named D__law_kind D__law_fields_of D_same⟩
  exact ok_law F_law T L SK D__law_right D__law_pool D__law_cell
end KX
open PySem PySem.W PySem.Calls PyProof.Rows
theorem PySem.Challenge.cw_shapekeep_k16_errors_and_limits_holds : PySem.Challenge.rw_shapekeep_k16_errors_and_limits.Holds := by
  w_on; o_law
  refine HandSHeadRun.head_any (r := KX.R) (q := view KX.R.prog [75]) (H := KX.hk) (ob := KX.ob) (M := 14000) (loose := KX.loose) (d := HandSHeadRun.topDef KX.R.prog 75) (kwd := []) KX.ob_eq
    (by kernel_rfl) (fun s => by kernel_rfl) KX.run (by kernel_rfl) (by kernel_rfl) (by kernel_rfl) (by rfl) (by first | assumption | decide +kernel) (by decide +kernel) ⟨rfl, rfl, rfl, rfl, rfl, by decide +kernel⟩ ?hw ?hc
  case hw => w_witness2
  case hc =>
    refine KX.walk_g (l := PySem.Challenge.rw_shapekeep_k16_errors_and_limits) (n := 63) (k := 14) (x := "_law_script") rfl (by decide) (by kernel_rfl) ⟨rfl, by decide, by decide⟩ ?_
    intro w mg fa h Y G hmg0
    obtain ⟨K, KI, c⟩ := Y
    have hmg : mg ("law" : PySem.Str) = some (.ref fa) := by
      have e : (HandSHeadRun.topDef KX.R.prog 75).name = ("law" : PySem.Str) := by kernel_rfl
      rw [← e]
      exact hmg0
    obtain ⟨fd, hb, hF⟩ := KX.facts (P := PySem.Challenge.rw_shapekeep_k16_errors_and_limits.prog) (w := w) KI G hmg c
    exact ⟨K, fd, KX.spLaw K, KI, hb, fun H a ns hl hS => ⟨a, ns, rfl, hS, hl, fun _ => rfl⟩, hF⟩

