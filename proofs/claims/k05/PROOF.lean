import PyProof.Rows.All
import Wide.All
import OpenK.AllK
import Wide.FinOn
import HandS.ForMost
import HandS.Flow
import HandS.IsInst
import HandS.Ends
import KE.KDictList
import HandS.Walk
import HandS.ReplaceLit
import HandS.ReplaceDef
import HandS.FStr
import HandS.Style
import HandS.NoneIn
import HandS.Defaults
import HandS.Zip
import HandS.More
import KE.DataEq
import HandS.StrMore
import KE.KFmtOwn
import HandS.MakeKw
import HandS.RaiseMore
import HandS.Set
import HandS.SetTxt0
import HandS.SetFor
import HandS.Strs
import PyProof.Rows.SortShellAny
import KE.GoesMore
import HandS.TupAny
import HandS.WordsDict
import HandS.TupMul
import PyProof.ReprLen
import PyProof.StrLawsRepr
import PyProof.ReprBulk
import HandS.ClsMeth
import PyProof.InstEq
import PyProof.ReprNest
import HandS.DictComp
import PyProof.TupleKey
import HandS.Head0
import HandS.Head1
import HandS.Head2
import HandS.HeadEnd
import HandS.HeadHook1
import HandS.HeadHook2
import HandS.HeadHook3
import HandS.HeadHook4
import HandS.HeadNt
import PySem.Challenge.RW_shapekeep_k05_values_in_types
set_option Elab.async false
set_option linter.all false
set_option maxRecDepth 100000
set_option maxHeartbeats 0
namespace KX
open PySem L2 PyProof.Rows
def top (i : Nat) : Stmt := PySem.Challenge.pw_shapekeep_k05_values_in_types.main.body.getD i (.Pass ⟨0, 0, 0, 0⟩)
/-- all but p is as it was -/
def Keep (p : Addr) (H H' : Hp) : Prop := ∀ b o, b ≠ p → H b = some o → H' b = some o
theorem Keep.refl (p : Addr) (H : Hp) : Keep p H H := fun _ _ _ h => h
theorem Keep.trans {p : Addr} {H H1 H2 : Hp} (a : Keep p H H1) (b : Keep p H1 H2) : Keep p H H2 := fun c o n h => b c o n (a c o n h)
theorem Keep.new {p q : Addr} {H : Hp} (h : H q = none) (o : HO) : Keep p H (upd H q o) := fun b u _ e => by
  rw [upd_ne (ne_of_none e h)]
  exact e
theorem Keep.self {p : Addr} {H : Hp} {o : HO} : Keep p H (upd H p o) := fun b u n e => by
  rw [upd_ne n]
  exact e
theorem Keep.at' {p q : Addr} {H H' : Hp} {o : HO} (k : Keep p H H') (e : H q = some o) (n : q ≠ p) : H' q = some o := k q o n e
theorem Keep.seq {K : PySem.W.Frag} {p a : Addr} {H H' : Hp} {xs : List V} (k : Keep p H H') (n : a ≠ p) (h : SqL K H a xs) : SqL K H' a xs := by
  rcases h with (h | ⟨o, h⟩) | h
  · exact .inl (.inl (k _ _ n h))
  · exact .inl (.inr ⟨o, k _ _ n h⟩)
  · exact .inr h
theorem same_new {q : Addr} {G : Hp} (fresh : G q = none) (what : HO) : Same G (upd G q what) := by
  intro b u there
  have other : b ≠ q := by
    rintro rfl
    exact absurd (there.symm.trans fresh) (Option.some_ne_none u)
  exact (upd_ne other).trans there
theorem Same.keep {p : Addr} {H H' : Hp} (s : Same H H') : Keep p H H' := fun b o _ e => s b o e

/-- the pool of draws -/
def PoolAt (H : Hp) (p : Addr) : Prop := ∃ s d c : Int, H p = some (.lst [.int s, .int d, .int c]) ∧ 0 ≤ s ∧ s < 1000000007 ∧ 0 ≤ d
theorem PoolAt.same {H H' : Hp} {p : Addr} (h : PoolAt H p) (s : Same H H') : PoolAt H' p := by
  obtain ⟨a, d, c, e, r⟩ := h
  exact ⟨a, d, c, s _ _ e, r⟩
theorem PoolAt.ne {H : Hp} {p q : Addr} (h : PoolAt H p) (n : H q = none) : q ≠ p := by
  obtain ⟨a, d, c, e, r⟩ := h
  exact (ne_of_none e n).symm

theorem Keep.upd {p D : Addr} {H H' : Hp} {o : HO} (k : Keep p H H') (n : H D = none) : Keep p H (upd H' D o) := fun b u nb e => by
  rw [upd_ne (ne_of_none e n)]
  exact k b u nb e
theorem PoolAt.upd {H : Hp} {p D : Addr} {o : HO} (h : PoolAt H p) (n : D ≠ p) : PoolAt (upd H D o) p := by
  obtain ⟨a, d, c, e, r⟩ := h
  exact ⟨a, d, c, by rw [upd_ne (Ne.symm n)]; exact e, r⟩
theorem Keep.gone {p r : Addr} {H H' : Hp} (k : Keep p H H') (n : r ≠ p) (h : H' r = Option.none) : H r = Option.none := by
  cases e : H r with
  | none => rfl
  | some o =>
    rw [k r o n e] at h
    cases h
theorem map_snoc {α : Type} (g : Nat → α) (i : Nat) : (List.range i).map g ++ [g i] = (List.range (i + 1)).map g := by
  rw [List.range_succ, List.map_append]
  rfl
theorem yesT {σ : L2.St} {H : Hp} {F G : Hp → Prop} (h : F H) : tYes σ H (fun b H3 => if b = true then F H3 else G H3) := by
  show (if true = true then F H else G H)
  rw [if_pos rfl]
  exact h
structure Bl (mg : Str → Option Value) : Prop where
  len : mg "len" = none
  abs : mg "abs" = none
  divmod : mg "divmod" = none
  min : mg "min" = none
  max : mg "max" = none
  all : mg "all" = none
  sorted : mg "sorted" = none
  isinstance : mg "isinstance" = none
  repr : mg "repr" = none
  ord : mg "ord" = none
  range : mg "range" = none
  zip : mg "zip" = none
  tuple : mg "tuple" = none
  list : mg "list" = none
  str : mg "str" = none
  int : mg "int" = none
  bool : mg "bool" = none
  dict : mg "dict" = none
section
variable {X : Cx}
theorem op_inK (K : PySem.W.Frag) (h : X.K = K) : OpR X (compareOp .In) (rIn K false) := by subst h; exact op_in_seq
theorem op_notInK (K : PySem.W.Frag) (h : X.K = K) : OpR X (compareOp .NotIn) (rIn K true) := by subst h; exact op_notIn_seq
theorem op_eqK (K : PySem.W.Frag) (h : X.K = K) (hu : X.A.units + 64 < cLine) : OpR X (compareOp .Eq) (rEqD K) := by subst h; exact op_eqD hu
theorem op_neK (K : PySem.W.Frag) (h : X.K = K) (hu : X.A.units + 64 < cLine) : OpR X (compareOp .NotEq) (rNeD K) := by subst h; exact op_neD hu
theorem ix_listK (K : PySem.W.Frag) (h : X.K = K) : IxR X (rIxL K) := by subst h; exact ix_list
theorem ix_tupK (K : PySem.W.Frag) (h : X.K = K) : IxR X (rIxT K) := by subst h; exact ix_tup
theorem sl_listK (K : PySem.W.Frag) (h : X.K = K) : SlR X (rSlL K) := by subst h; exact sl_list
theorem sl_tupK (K : PySem.W.Frag) (h : X.K = K) : SlR X (rSlT K) := by subst h; exact sl_tup
def rLenV (K : PySem.W.Frag) : List V → Hp → VK → Prop := fun xs H Q => ∃ x n, xs = [x] ∧ LenV K x H n ∧ Q (.int n) H
theorem call_lenK (K : PySem.W.Frag) (h : X.K = K) : CallR X (.builtin "len") (rLenV K) := by subst h; exact call_len
end
end KX

namespace KX
open PySem L2 PyProof.Rows
section
variable {base : Heap} {P : Program} {w : World} {K : PySem.W.Frag} {mg : Str → Option Value}

/-! ### _law_cell -/
abbrev s_cell : Stmt := top 39
abbrev N_cell : List Str := ["_law_script", "_law_k", "_law_state", "_law_cell_here"]
abbrev P_cell : List Str := ["_law_script", "_law_k"]
theorem sc_cell : FnScope N_cell P_cell (defScope s_cell) := ⟨rfl, rfl, rfl, by decide +kernel, rfl, by decide +kernel, by decide +kernel⟩
def spCell (K : PySem.W.Frag) : Sp := fun vs H Q _ => ∃ (a : Addr) (ns : List Int) (k : Int), vs = [.ref a, .int k] ∧ SqL K H a (ns.map V.int) ∧ ns.length ≤ 63 ∧ 0 ≤ k ∧ k ≤ 63 ∧ ∀ (H' : Hp) (i : Int), Same H H' → Q (.int i) H'
theorem int_item {ns : List Int} {i : Nat} {x : V} (h : (ns.map V.int)[i]? = some x) : ∃ z, x = .int z := by
  rw [List.getElem?_map] at h
  cases e : ns[i]? with
  | none => rw [e] at h; cases h
  | some z => rw [e] at h; exact ⟨z, (Option.some.inj h).symm⟩
theorem cutV_int {ns : List Int} {lo hi : Option Int} : ∃ ms : List Int, cutV (ns.map V.int) lo hi = ms.map V.int := by
  unfold cutV
  rw [← List.map_drop, ← List.map_take]
  exact ⟨_, rfl⟩
theorem ok_cell {f : Addr} {fd : FuncData} (F : Fun K "_law_cell" "_law_cell" s_cell f fd) (T : Bl mg) : FnOk P w K mg base CX0 1 f fd P_cell (spCell K) := by
  refine F.ok sc_cell (fun vs H Q E h => ?_) (fun cdv A outer s H vs Q E hr h => ?_)
  · obtain ⟨a, ns, k, rfl, _⟩ := h
    rfl
  obtain ⟨a, ns, k, rfl, hS, h63, h0, h1, q⟩ := h
  have hl : (ns.map V.int).length = ns.length := List.length_map _
  refine ⟨_, (pss_cons (ps_if (pt_cmpR op_lt (pv 1) (pe_callB (call_lenK K rfl) (by rfl) T.len PySem.boot_len (pa_cons (pv 0) pa_nil)) (nomark _))
      (pss_one (ps_ret (pe_ix (ix_listK K rfl) (pv 0) (pv 1) (fun _ _ => rfl))))
      pss_nil)
    (pss_cons (ps_set (i := 2) sc_cell.nd rfl (Or.inl rfl) (pe_op op_mod (pe_op op_mul pe_int (pe_op op_add (pe_op op_add (pe_op op_mul (pv 1) (pv 1)) (pe_op op_mul pe_int (pv 1))) pe_int)) pe_int))
    (pss_cons (ps_for PassesOwn.never rfl (pi_list (pe_slice (sl_listK K rfl) (pv 0) po_none (po_some pe_int))) (pg_name (i := 3) sc_cell.nd rfl (Or.inl rfl))
      (pss_one (ps_set (i := 2) sc_cell.nd rfl (Or.inl rfl) (pe_op op_mod (pe_op op_add (pe_op op_mul (pv 2) pe_int) (pv 3)) pe_int))))
    (pss_one (ps_ret (pv 2)))))), ?_⟩
  refine ⟨_, rfl, _, rfl, .ref a, ns.length, rfl, .inl ⟨_, hS, hl.symm⟩, _, _, rfl, rfl, _, rfl, ?_⟩
  refine ite2 (fun c => ?_) (fun c => ?_)
  · have c' : k < (ns.length : Int) := of_decide_eq_true c
    have hk : k.toNat < ns.length := by omega
    have ek : k = ((k.toNat : Nat) : Int) := by omega
    refine ⟨_, rfl, _, rfl, a, _, k, _, rfl, rfl, hS, at_of (v := .int ns[k.toNat]) ek ?_, ?_⟩
    · rw [List.getElem?_map, List.getElem?_eq_getElem hk] <;> rfl
    · exact q H _ (Same.refl H)
  · refine ⟨_, rfl, _, rfl, _, _, rfl, rfl, .inl ⟨by omega, by omega⟩, _, rfl, _, _, rfl, rfl, .inl ⟨by decide, by decide⟩, _, _, rfl, rfl, _, _, rfl, rfl, _, _, rfl, rfl, .inl ⟨by decide, by decide⟩, _, _, rfl, rfl, (by show (0 : Int) < 1000000007; decide), ?_⟩
    refine ⟨_, rfl, _, rfl, a, _, rfl, hS, fun p hp => ?_⟩
    obtain ⟨ms, hms⟩ := cutV_int (ns := ns) (lo := none) (hi := some 3)
    rw [hms]
    refine ⟨p, rfl, ⟨_, SqL.of upd_same⟩, for_list (K := K) (a := p) (xs := ms.map V.int) (fun i σ H' => ∃ (z : Int) (v : Option V), σ = [some (.ref a), some (.int k), some (.int z), v] ∧ 0 ≤ z ∧ z < 1000000007 ∧ H' = upd H p (.lst (ms.map V.int)))
      ⟨_, none, rfl, by omega, by omega, rfl⟩ (fun i σ H' _ ⟨_, _, _, _, _, e⟩ => by rw [e]; exact SqL.of upd_same) ?_ ?_⟩
    · rintro i x σ H' hx ⟨z, v, rfl, z0, z1, rfl⟩
      obtain ⟨y, rfl⟩ := int_item hx
      refine ⟨_, rfl, _, _, rfl, rfl, .inl ⟨by omega, by omega⟩, _, rfl, _, _, rfl, rfl, _, _, rfl, rfl, (by show (0 : Int) < 1000000007; decide), ?_⟩
      exact ⟨_, _, rfl, by omega, by omega, rfl⟩
    · rintro σ H' ⟨z, v, rfl, z0, z1, rfl⟩
      exact ⟨_, rfl, q _ _ (same_new hp _)⟩

/-! ### _law_pool -/
abbrev s_pool : Stmt := top 40
abbrev N_pool : List Str := ["_law_cell_here", "_law_digits"]
abbrev P_pool : List Str := ["_law_cell_here"]
theorem sc_pool : FnScope N_pool P_pool (defScope s_pool) := ⟨rfl, rfl, rfl, by decide +kernel, rfl, by decide +kernel, by decide +kernel⟩
def spPool : Sp := fun vs H Q _ => ∃ i : Int, vs = [.int i] ∧ ∀ (H' : Hp) (p : Addr), H p = none → Same H H' → PoolAt H' p → Q (.ref p) H'
theorem ok_pool {f : Addr} {fd : FuncData} (F : Fun K "_law_pool" "_law_pool" s_pool f fd) (T : Bl mg) : FnOk P w K mg base CX0 1 f fd P_pool spPool := by
  refine F.ok sc_pool (fun vs H Q E h => ?_) (fun cdv A outer s H vs Q E hr h => ?_)
  · obtain ⟨i, rfl, _⟩ := h
    rfl
  obtain ⟨i, rfl, q⟩ := h
  refine ⟨_, (pss_cons (ps_set (i := 1) sc_pool.nd rfl (Or.inl rfl) pe_int)
    (pss_cons (ps_if (PW.pt (pw_or (pt_cmpR op_lt (pv 0) pe_int (nomark _)) (pw_or1 (pt_cmpR op_ge (pv 0) (pe_op op_pow pe_int pe_int) (nomark _)))))
      (pss_one (ps_set (i := 1) sc_pool.nd rfl (Or.inl rfl) (pe_callB call_abs (by rfl) T.abs (by decide +kernel) (pa_cons (pv 0) pa_nil))))
      pss_nil)
    (pss_one (ps_ret (pe_lst (pa_cons (pe_op op_mod (pv 0) pe_int) (pa_cons (pv 1) (pa_cons pe_int pa_nil)))))))), ?_⟩
  have fin : ∀ d : Int, 0 ≤ d → ∀ p, H p = none → Q (.ref p) (upd H p (.lst [.int (i % 1000000007), .int d, .int 0])) := fun d hd p hp =>
    q _ p hp (same_new hp _) ⟨_, _, _, upd_same, by omega, by omega, hd⟩
  refine ⟨_, rfl, _, _, rfl, rfl, _, rfl, ?_⟩
  refine ite2 (fun c => ?_) (fun c => ?_)
  · have c' : i < 0 := of_decide_eq_true c
    refine iteT ⟨_, rfl, _, rfl, ?_⟩
    refine ⟨_, rfl, _, _, rfl, rfl, (by show (0 : Int) < 1000000007; decide), _, rfl, (by show 3 ≤ sizeLine; decide), fun p hp => fin _ (by split <;> omega) p hp⟩
  · have c' : ¬ i < 0 := of_decide_eq_false (Bool.eq_false_iff.mpr c)
    refine ⟨_, rfl, _, _, rfl, rfl, ⟨by decide, by decide, by decide⟩, _, _, rfl, rfl, _, rfl, ?_⟩
    refine ite2 (fun c2 => ?_) (fun c2 => ?_)
    · refine ⟨_, rfl, _, rfl, ?_⟩
      refine ⟨_, rfl, _, _, rfl, rfl, (by show (0 : Int) < 1000000007; decide), _, rfl, (by show 3 ≤ sizeLine; decide), fun p hp => fin _ (by split <;> omega) p hp⟩
    · exact ⟨_, rfl, _, _, rfl, rfl, (by show (0 : Int) < 1000000007; decide), _, rfl, (by show 3 ≤ sizeLine; decide), fun p hp => fin _ (by omega) p hp⟩

/-! ### _law_draw -/
abbrev s_draw : Stmt := top 41
abbrev N_draw : List Str := ["_law_pool_here", "_law_many", "_law_state", "_law_digit"]
abbrev P_draw : List Str := ["_law_pool_here", "_law_many"]
theorem sc_draw : FnScope N_draw P_draw (defScope s_draw) := ⟨rfl, rfl, rfl, by decide +kernel, rfl, by decide +kernel, by decide +kernel⟩
def spDraw : Sp := fun vs H Q _ => ∃ (p : Addr) (m : Int), vs = [.ref p, .int m] ∧ PoolAt H p ∧ 0 < m ∧ m < 1073741824 ∧ ∀ (H' : Hp) (r : Int), Keep p H H' → PoolAt H' p → 0 ≤ r → r < m → Q (.int r) H'
theorem ok_draw {f : Addr} {fd : FuncData} (F : Fun K "_law_draw" "_law_draw" s_draw f fd) (T : Bl mg) : FnOk P w K mg base CX0 1 f fd P_draw spDraw := by
  refine F.ok sc_draw (fun vs H Q E h => ?_) (fun cdv A outer s H vs Q E hr h => ?_)
  · obtain ⟨p, m, rfl, _⟩ := h
    rfl
  obtain ⟨p, m, rfl, ⟨st, d, c, hp, s0, s1, d0⟩, m0, m1, q⟩ := h
  refine ⟨_, (pss_cons (ps_asg (pe_op op_add (pe_ix (ix_listK K rfl) (pv 0) pe_int (fun _ _ => rfl)) pe_int) (pg_sub (pv 0) pe_int set_list))
    (pss_cons (ps_set (i := 2) sc_draw.nd rfl (Or.inl rfl) (pe_ix (ix_listK K rfl) (pv 0) pe_int (fun _ _ => rfl)))
    (pss_cons (ps_asg (pe_op op_mod (pe_op op_add (pe_op op_add (pe_op op_mul (pv 2) (pe_op op_add (pe_op op_mod (pv 2) pe_int) pe_int)) (pe_op op_mul pe_int (pe_ix (ix_listK K rfl) (pv 0) pe_int (fun _ _ => rfl)))) pe_int) pe_int) (pg_sub (pv 0) pe_int set_list))
    (pss_cons (ps_if (pt_cmpR op_gt (pe_ix (ix_listK K rfl) (pv 0) pe_int (fun _ _ => rfl)) pe_int (nomark _))
      (pss_cons (ps_asg (pe_callB call_divmod (by rfl) T.divmod (by decide +kernel) (pa_cons (pe_ix (ix_listK K rfl) (pv 0) pe_int (fun _ _ => rfl)) (pa_cons (pv 1) pa_nil))) (pg_tup rfl (pgs_cons (pg_sub (pv 0) pe_int set_list) (pgs_cons (pg_name (i := 3) sc_draw.nd rfl (Or.inl rfl)) pgs_nil))))
    (pss_one (ps_ret (pv 3))))
      pss_nil)
    (pss_one (ps_ret (pe_op op_mod (pe_op op_fdiv (pe_ix (ix_listK K rfl) (pv 0) pe_int (fun _ _ => rfl)) pe_int) (pv 1)))))))), ?_⟩
  have at0 : ∀ {x y z : V}, atI [x, y, z] 0 = some x := fun {x y z} => rfl
  have at1 : ∀ {x y z : V}, atI [x, y, z] 1 = some y := fun {x y z} => rfl
  have at2 : ∀ {x y z : V}, atI [x, y, z] 2 = some z := fun {x y z} => rfl
  refine ⟨_, rfl, p, _, _, _, rfl, rfl, SqL.of hp, at2, _, _, rfl, rfl, _, rfl, p, _, _, 2, rfl, rfl, hp, rfl, ?_⟩
  have e1 : (upd H p (.lst ([V.int st, .int d, .int c].set 2 (.int (c + 1))))) p = some (.lst [.int st, .int d, .int (c + 1)]) := upd_same
  generalize hH1 : upd H p (.lst ([V.int st, .int d, .int c].set 2 (.int (c + 1)))) = H1 at e1 ⊢
  have k1 : Keep p H H1 := by rw [← hH1]; exact Keep.self
  refine ⟨_, rfl, p, _, _, _, rfl, rfl, SqL.of e1, at0, ?_⟩
  refine ⟨_, rfl, _, rfl, _, _, rfl, rfl, (by show (0 : Int) < 46007; decide), _, _, rfl, rfl, _, _, rfl, rfl, .inl ⟨by omega, by omega⟩, ?_⟩
  refine ⟨_, rfl, p, _, _, _, rfl, rfl, SqL.of e1, at2, _, _, rfl, rfl, .inl ⟨by decide, by decide⟩, _, _, rfl, rfl, _, _, rfl, rfl, _, _, rfl, rfl, (by show (0 : Int) < 1000000007; decide), ?_⟩
  generalize hz : (st * (st % 46007 + 20011) + 60013 * (c + 1) + 5) % 1000000007 = z
  have z0 : 0 ≤ z := by omega
  have z1 : z < 1000000007 := by omega
  refine ⟨_, rfl, p, _, _, 0, rfl, rfl, e1, rfl, ?_⟩
  generalize hH2 : upd H1 p _ = H2
  have e2 : H2 p = some (.lst [.int z, .int d, .int (c + 1)]) := by rw [← hH2, ← hz]; exact upd_same
  have k2 : Keep p H H2 := k1.trans (by rw [← hH2]; exact Keep.self)
  refine ⟨_, rfl, p, _, _, _, rfl, rfl, SqL.of e2, at1, _, _, rfl, rfl, _, rfl, ?_⟩
  refine ite2 (fun cc => ?_) (fun cc => ?_)
  · refine ⟨_, rfl, p, _, _, _, rfl, rfl, SqL.of e2, at1, _, rfl, _, _, rfl, ⟨m0, by omega⟩, fun t ht => ?_⟩
    have npt : p ≠ t := ne_of_none e2 ht
    refine ⟨t, _, rfl, SqT.of upd_same, rfl, _, _, rfl, _, rfl, p, _, _, 1, rfl, rfl, (by rw [upd_ne npt]; exact e2), rfl, ?_⟩
    refine ⟨_, _, rfl, rfl, _, rfl, ?_⟩
    refine q _ _ (k2.trans ((Keep.new ht _).trans Keep.self)) ⟨_, _, _, upd_same, z0, z1, ?_⟩ (Int.emod_nonneg _ (by omega)) (Int.emod_lt_of_pos _ m0)
    exact Int.ediv_nonneg d0 (by omega)
  · refine ⟨_, rfl, p, _, _, _, rfl, rfl, SqL.of e2, at0, _, _, rfl, rfl, ⟨by decide, by decide⟩, _, rfl, _, _, rfl, rfl, m0, ?_⟩
    exact q _ _ k2 ⟨_, _, _, e2, z0, z1, d0⟩ (Int.emod_nonneg _ (by omega)) (Int.emod_lt_of_pos _ m0)
end
end KX

namespace KX
open PySem L2 PyProof.Rows
/-! ### texts as lists of codes -/
abbrev ql (x : Str) : List Nat := x.cps.toList
theorem ql_len (x : Str) : x.length = (ql x).length := by simp [Str.length]
theorem ql_ext {a b : Str} (h : ql a = ql b) : a = b := Str.ext' (Array.toList_inj.mp h)
theorem ql_app (x y : Str) : ql (x ++ y) = ql x ++ ql y := TL.tl_append x y
theorem ql_one (c : Nat) : ql ⟨#[c]⟩ = [c] := rfl
/-- a name: one to twelve small letters -/
def IsNm (z : Str) : Prop := 1 ≤ z.length ∧ z.length ≤ 12 ∧ ∀ c ∈ ql z, 97 ≤ c ∧ c ≤ 122
def isNmB (z : Str) : Bool := decide (1 ≤ z.length) && decide (z.length ≤ 12) && (ql z).all fun c => decide (97 ≤ c) && decide (c ≤ 122)
theorem isNm_of {z : Str} (h : isNmB z = true) : IsNm z := by
  unfold isNmB at h
  simp only [Bool.and_eq_true, decide_eq_true_eq, List.all_eq_true] at h
  exact ⟨h.1.1, h.1.2, fun c hc => h.2 c hc⟩
/-- text * int -/
def repS (z : Str) (n : Nat) : Str := ⟨(List.replicate n (ql z)).flatten.toArray⟩
theorem ql_rep (z : Str) (n : Nat) : ql (repS z n) = (List.replicate n (ql z)).flatten := rfl
theorem foldl_app (a : Array Nat) : ∀ (n : Nat) (acc : Array Nat), ((List.replicate n a).foldl (· ++ ·) acc).toList = acc.toList ++ (List.replicate n a.toList).flatten
  | 0, acc => by simp
  | n + 1, acc => by
    rw [List.replicate_succ, List.replicate_succ, List.foldl_cons, foldl_app a n, List.flatten_cons, Array.toList_append, List.append_assoc]
section
variable {X : Cx}
theorem op_mulS : OpR X (binaryOp .Mult) (fun x y H Q => ∃ (z : Str) (n : Int), x = .str z ∧ y = .int n ∧ 1 ≤ n ∧ n ≤ 1000 ∧ 1 ≤ z.length ∧ z.length ≤ 1000 ∧ Q (.str (repS z n.toNat)) H) := by
  intro pins s σ H x y v u Q I rx ry h
  obtain ⟨z, n, rfl, rfl, n1, n2, z1, z2, q⟩ := h
  obtain ⟨t, rfl⟩ := rx
  obtain ⟨t', rfl⟩ := ry
  have hs : sizeLine = 16777216 := sizeLine_eq
  have e1 : decide (n < -(2 ^ 63 : Int)) = false := decide_eq_false (by omega)
  have e2 : decide (n ≥ 2 ^ 63) = false := decide_eq_false (by omega)
  have hmul : z.length * n.toNat ≤ 1000 * 1000 := Nat.mul_le_mul z2 (by omega)
  have hz : (z.length == 0) = false := by
    rw [beq_eq_false_iff_ne]
    omega
  refine P.mul_str (by rw [e1, e2]; rfl) (fun _ _ => ?_) (fun _ _ => ?_) ?_
  · have : (1000 : Int) ≤ (2 ^ 63 - 1) / n := by
      refine (Int.le_ediv_iff_mul_le (by omega)).mpr ?_
      omega
    omega
  · show decide (z.length * n.toNat > sizeLine) = false
    exact decide_eq_false (by omega)
  · rw [if_neg (by omega), hz, Bool.or_false]
    by_cases h1 : n = 1
    · subst h1
      rw [if_pos (by rfl)]
      have e : repS z (Int.toNat 1) = z := ql_ext (by rw [ql_rep]; simp)
      rw [e] at q
      exact ⟨.str z, H, I, ⟨t, rfl⟩, q⟩
    · have hb : (n == 1) = false := beq_eq_false_iff_ne.mpr h1
      rw [hb, if_neg Bool.false_ne_true]
      have e : (⟨(List.replicate n.toNat z.cps).foldl (· ++ ·) #[]⟩ : Str) = repS z n.toNat := ql_ext (by
        show ((List.replicate n.toNat z.cps).foldl (· ++ ·) #[]).toList = _
        rw [foldl_app]
        rfl)
      rw [e]
      refine ⟨?_, .str _, H, I.tok _, ⟨_, rfl⟩, q⟩
      have el : (repS z n.toNat).length = n.toNat * z.length := by
        rw [ql_len, ql_rep, List.length_flatten, List.map_replicate, List.sum_replicate_nat, ← ql_len]
      show (repS z n.toNat).length ≤ sizeLine
      rw [el, Nat.mul_comm]
      omega
end
end KX

namespace KX
open PySem L2 PyProof.Rows
/-! ### the mathematics of the names -/
def menuW : List Str := ["data", "href", "text", "part", "page", "use", "for", "end", "else", "slot", "size", "has", "sum", "equal", "name", "x", "y", "items", "id", "link", "null", "by", "let", "if"]
theorem menuW_len : menuW.length = 24 := rfl
theorem menuW_nd : menuW.Nodup := by decide +kernel
theorem menuW_nm : ∀ z ∈ menuW, IsNm z := by
  have h : menuW.all isNmB = true := by decide +kernel
  exact fun z hz => isNm_of (List.all_eq_true.mp h z hz)
def alpha : Str := "abcdefghijklmnopqrstuvwxyz"
theorem alpha_ql : ql alpha = (List.range 26).map (· + 97) := by decide +kernel
theorem alpha_at {j : Int} (h0 : 0 ≤ j) (h1 : j < 26) : atI alpha.cps.toList j = some (97 + j.toNat) := by
  have e : (ql alpha)[j.toNat]? = some (97 + j.toNat) := by
    rw [alpha_ql, List.getElem?_map, List.getElem?_range (by omega)]
    exact congrArg some (Nat.add_comm _ _)
  have ej : j = ((j.toNat : Nat) : Int) := by omega
  rw [ej]
  exact atI_nat e
/-- names that differ -/
def Names (zs : List Str) : Prop := zs.Nodup ∧ ∀ z ∈ zs, IsNm z
theorem nodup_map_range {α : Type} {n : Nat} {g : Nat → α} (h : ∀ i j, i < j → j < n → g i ≠ g j) : ((List.range n).map g).Nodup := by
  unfold List.Nodup
  rw [List.pairwise_map]
  have hp : (List.range n).Pairwise (· < ·) := List.pairwise_lt_range
  refine List.Pairwise.imp_of_mem (fun {a b} ha hb hab => ?_) hp
  exact h a b hab (List.mem_range.mp hb)
/-- 0 -/
def g0 (b : Int) (k : Nat) : Str := menuW.getD ((b + 5 * (k : Int)) % 24).toNat ""
theorem names0 {b : Int} (h0 : 0 ≤ b) (h1 : b < 24) {n : Nat} (hn : n ≤ 24) : Names ((List.range n).map (g0 b)) := by
  refine ⟨nodup_map_range fun i j hij hj e => ?_, fun z hz => ?_⟩
  · have hi' : ((b + 5 * (i : Int)) % 24).toNat < menuW.length := by rw [menuW_len]; omega
    have hj' : ((b + 5 * (j : Int)) % 24).toNat < menuW.length := by rw [menuW_len]; omega
    unfold g0 at e
    rw [List.getD_eq_getElem?_getD, List.getD_eq_getElem?_getD, List.getElem?_eq_getElem hi', List.getElem?_eq_getElem hj'] at e
    have q := (List.getElem_inj menuW_nd).mp (show menuW[((b + 5 * (i : Int)) % 24).toNat] = menuW[((b + 5 * (j : Int)) % 24).toNat] from e)
    omega
  · obtain ⟨k, hk, rfl⟩ := List.mem_map.mp hz
    have hk' : ((b + 5 * (k : Int)) % 24).toNat < menuW.length := by rw [menuW_len]; omega
    refine menuW_nm _ ?_
    unfold g0
    rw [List.getD_eq_getElem?_getD, List.getElem?_eq_getElem hk']
    exact List.getElem_mem hk'
/-- 1 -/
def g1 (b : Int) (k : Nat) : Str := repS ⟨#[97 + ((b + 7 * (k : Int)) % 26).toNat]⟩ (1 + (k : Int) % 12).toNat
theorem names1 {b : Int} (h0 : 0 ≤ b) (h1 : b < 24) {n : Nat} (hn : n ≤ 24) : Names ((List.range n).map (g1 b)) := by
  have e1 : ∀ k, ql (g1 b k) = List.replicate (1 + (k : Int) % 12).toNat (97 + ((b + 7 * (k : Int)) % 26).toNat) := fun k => by
    unfold g1
    rw [ql_rep]
    show (List.replicate _ [_]).flatten = _
    rw [List.flatten_replicate_singleton]
  refine ⟨nodup_map_range fun i j hij hj e => ?_, fun z hz => ?_⟩
  · have q : ql (g1 b i) = ql (g1 b j) := by rw [e]
    rw [e1, e1] at q
    have hd : (List.replicate (1 + (i : Int) % 12).toNat (97 + ((b + 7 * (i : Int)) % 26).toNat)).head? = (List.replicate (1 + (j : Int) % 12).toNat (97 + ((b + 7 * (j : Int)) % 26).toNat)).head? := by rw [q]
    rw [List.head?_replicate, List.head?_replicate, if_neg (by omega), if_neg (by omega)] at hd
    have := Option.some.inj hd
    omega
  · obtain ⟨k, hk, rfl⟩ := List.mem_map.mp hz
    refine ⟨?_, ?_, fun c hc => ?_⟩
    · rw [ql_len, e1, List.length_replicate]
      omega
    · rw [ql_len, e1, List.length_replicate]
      omega
    · rw [e1] at hc
      have := List.eq_of_mem_replicate hc
      omega
/-- 2 -/
def g2 (stem : Str) (a b : Int) (k : Nat) : Str := cutS stem none (some a) ++ ⟨#[97 + ((b + 5 * (k : Int)) % 26).toNat]⟩ ++ cutS stem (some a) none
theorem ql_cut_to {z : Str} {a : Int} (h0 : 0 ≤ a) (h1 : a ≤ (z.length : Int)) : ql (cutS z none (some a)) = (ql z).take a.toNat := by
  have e : a = ((a.toNat : Nat) : Int) := by omega
  show ((z.cps.toList.drop (HT.sIx z.length 0 none)).take (HT.sIx z.length z.length (some a) - HT.sIx z.length 0 none)) = _
  rw [HT.sIx_none, e, HT.sIx_nat, List.drop_zero, Nat.sub_zero, Int.toNat_natCast, Nat.min_eq_left (by omega)]
theorem ql_cut_from {z : Str} {a : Int} (h0 : 0 ≤ a) (h1 : a ≤ (z.length : Int)) : ql (cutS z (some a) none) = (ql z).drop a.toNat := by
  have e : a = ((a.toNat : Nat) : Int) := by omega
  show ((z.cps.toList.drop (HT.sIx z.length 0 (some a))).take (HT.sIx z.length z.length none - HT.sIx z.length 0 (some a))) = _
  rw [HT.sIx_none, e, HT.sIx_nat, Int.toNat_natCast, Nat.min_eq_left (by omega)]
  have hl := ql_len z
  exact List.take_of_length_le (by rw [List.length_drop]; show (ql z).length - _ ≤ _; omega)
theorem ql_g2 {stem : Str} {a b : Int} (h0 : 0 ≤ a) (h1 : a ≤ (stem.length : Int)) (k : Nat) : ql (g2 stem a b k) = (ql stem).take a.toNat ++ [97 + ((b + 5 * (k : Int)) % 26).toNat] ++ (ql stem).drop a.toNat := by
  unfold g2
  rw [ql_app, ql_app, ql_cut_to h0 h1, ql_cut_from h0 h1]
theorem len_g2 {stem : Str} {a b : Int} (h0 : 0 ≤ a) (h1 : a ≤ (stem.length : Int)) (k : Nat) : (g2 stem a b k).length = stem.length + 1 := by
  have hl := ql_len stem
  rw [ql_len, ql_g2 h0 h1, List.length_append, List.length_append, List.length_take, List.length_drop, List.length_singleton, ql_len]
  omega
theorem g2_ne {stem : Str} {a b : Int} (h0 : 0 ≤ a) (h1 : a ≤ (stem.length : Int)) {i j : Nat} (hij : i < j) (hj : j < 24) : g2 stem a b i ≠ g2 stem a b j := fun e => by
  have q : ql (g2 stem a b i) = ql (g2 stem a b j) := by rw [e]
  rw [ql_g2 h0 h1, ql_g2 h0 h1] at q
  have q1 := List.append_inj_left q (by simp)
  have q2 := List.append_cancel_left q1
  have q3 := List.singleton_inj.mp q2
  omega
theorem g2_nm {stem : Str} {a b : Int} (h0 : 0 ≤ a) (h1 : a ≤ (stem.length : Int)) (hs : stem.length ≤ 11) (hc : ∀ c ∈ ql stem, 97 ≤ c ∧ c ≤ 122) (k : Nat) : IsNm (g2 stem a b k) := by
  refine ⟨by rw [len_g2 h0 h1]; omega, by rw [len_g2 h0 h1]; omega, fun c h => ?_⟩
  rw [ql_g2 h0 h1] at h
  rcases List.mem_append.mp h with h | h
  · rcases List.mem_append.mp h with h | h
    · exact hc c (List.mem_of_mem_take h)
    · have := List.mem_singleton.mp h
      omega
  · exact hc c (List.mem_of_mem_drop h)
/-- true, false, self are put aside -/
def g3 (z : Str) : Str := if z = "true" ∨ z = "false" ∨ z = "self" then z ++ "x" else z
theorem g3_nm {z : Str} (h : IsNm z) : IsNm (g3 z) := by
  unfold g3
  by_cases c : z = "true" ∨ z = "false" ∨ z = "self"
  · rw [if_pos c]
    rcases c with rfl | rfl | rfl <;> exact isNm_of (by decide +kernel)
  · rw [if_neg c]
    exact h
theorem g3_ne {y z : Str} (hl : y.length = z.length) (h : y ≠ z) : g3 y ≠ g3 z := fun e => by
  have l1 : ∀ x : Str, (x ++ "x").length = x.length + 1 := fun x => by rw [ql_len, ql_app, List.length_append, ← ql_len]; rfl
  unfold g3 at e
  by_cases cy : y = "true" ∨ y = "false" ∨ y = "self"
  · by_cases cz : z = "true" ∨ z = "false" ∨ z = "self"
    · rw [if_pos cy, if_pos cz] at e
      have q : ql (y ++ "x") = ql (z ++ "x") := by rw [e]
      rw [ql_app, ql_app] at q
      exact h (ql_ext (List.append_cancel_right q))
    · rw [if_pos cy, if_neg cz] at e
      have := congrArg Str.length e
      rw [l1] at this
      omega
  · by_cases cz : z = "true" ∨ z = "false" ∨ z = "self"
    · rw [if_neg cy, if_pos cz] at e
      have := congrArg Str.length e
      rw [l1] at this
      omega
    · rw [if_neg cy, if_neg cz] at e
      exact h e
theorem names2 {stem : Str} {a b : Int} (h0 : 0 ≤ a) (h1 : a ≤ (stem.length : Int)) (hs : stem.length ≤ 11) (hc : ∀ c ∈ ql stem, 97 ≤ c ∧ c ≤ 122) {n : Nat} (hn : n ≤ 24) : Names ((List.range n).map fun k => g3 (g2 stem a b k)) := by
  refine ⟨nodup_map_range fun i j hij hj => g3_ne (by rw [len_g2 h0 h1, len_g2 h0 h1]) (g2_ne h0 h1 hij (by omega)), fun z hz => ?_⟩
  obtain ⟨k, _, rfl⟩ := List.mem_map.mp hz
  exact g3_nm (g2_nm h0 h1 hs hc k)
/-! ### joined one-letter texts -/
def One (z : Str) : Prop := ∃ c, ql z = [c] ∧ 97 ≤ c ∧ c ≤ 122
theorem one_len {z : Str} (h : One z) : z.length = 1 := by
  obtain ⟨c, e, _⟩ := h
  rw [ql_len, e]
  rfl
theorem sum_len : ∀ {zs : List Str}, (∀ z ∈ zs, One z) → (zs.map (·.length)).sum = zs.length
  | [], _ => rfl
  | z :: r, h => by
    have q := sum_len (zs := r) fun x hx => h x (List.mem_cons_of_mem _ hx)
    rw [List.map_cons, List.sum_cons, q, one_len (h z List.mem_cons_self), List.length_cons]
    omega
theorem joinL_nil : ∀ ls : List (List Nat), TL.joinL [] ls = ls.flatten
  | [] => rfl
  | [p] => by simp [TL.joinL]
  | p :: q :: r => by
    have ih := joinL_nil (q :: r)
    show p ++ ([] ++ TL.joinL [] (q :: r)) = _
    rw [ih]
    rfl
theorem ql_join0 (zs : List Str) : ql (Txt.join "" zs) = (zs.map ql).flatten := by
  rw [TL.join_eq]
  have q := TL.tl_join "" zs
  show TL.tl (Str.join "" zs) = _
  rw [q]
  exact joinL_nil _
theorem stem_len : ∀ {zs : List Str}, (∀ z ∈ zs, One z) → ((zs.map ql).flatten).length = zs.length
  | [], _ => rfl
  | z :: r, h => by
    have q := stem_len (zs := r) fun x hx => h x (List.mem_cons_of_mem _ hx)
    obtain ⟨c, e, _⟩ := h z List.mem_cons_self
    rw [List.map_cons, List.flatten_cons, List.length_append, q, e]
    show 1 + r.length = r.length + 1
    omega
theorem stem_in {zs : List Str} (h : ∀ z ∈ zs, One z) : ∀ c ∈ (zs.map ql).flatten, 97 ≤ c ∧ c ≤ 122 := fun c hc => by
  obtain ⟨l, hl, hc⟩ := List.mem_flatten.mp hc
  obtain ⟨z, hz, rfl⟩ := List.mem_map.mp hl
  obtain ⟨d, e, h1, h2⟩ := h z hz
  rw [e] at hc
  have := List.mem_singleton.mp hc
  omega
theorem inV3 (z a b c : Str) : inV (.str z) [.str a, .str b, .str c] = true ↔ (z = a ∨ z = b ∨ z = c) := by
  show ((a == z) || ((b == z) || ((c == z) || false))) = true ↔ _
  simp only [Bool.or_eq_true, beq_iff_eq, Bool.false_eq_true, or_false]
  constructor
  · rintro (h | h | h)
    · exact .inl h.symm
    · exact .inr (.inl h.symm)
    · exact .inr (.inr h.symm)
  · rintro (h | h | h)
    · exact .inl h.symm
    · exact .inr (.inl h.symm)
    · exact .inr (.inr h.symm)
end KX

namespace KX
open PySem L2 PyProof.Rows
/-- a def of the module that keeps a promise -/
structure Def (P : Program) (w : World) (K : PySem.W.Frag) (mg : Str → Option Value) (base : Heap) (x : Str) (n : Nat) (ps : List Str) (sp : Sp) (f : Addr) (fd : FuncData) : Prop where
  g : mg x = some (.ref f)
  kp : PySem.W.keepIn K (.ref f) = true
  b : Binds K fd ps []
  ok : FnOk P w K mg base CX0 n f fd ps sp
section
variable {base : Heap} {P : Program} {w : World} {K : PySem.W.Frag} {mg : Str → Option Value}
abbrev s_words : Stmt := top 42
abbrev N_words : List Str := ["_law_pool_here", "_law_many", "_law_letters", "_law_menu", "_law_way", "_law_begin", "_law_stem", "_law_at", "_law_found", "_law_k", "_law_word"]
abbrev P_words : List Str := ["_law_pool_here", "_law_many"]
theorem sc_words : FnScope N_words P_words (defScope s_words) := ⟨rfl, rfl, rfl, by decide +kernel, rfl, by decide +kernel, by decide +kernel⟩
def spWords : Sp := fun vs H Q _ => ∃ (p : Addr) (m : Int), vs = [.ref p, .int m] ∧ PoolAt H p ∧ 0 ≤ m ∧ m ≤ 24 ∧
  ∀ (H' : Hp) (r : Addr) (zs : List Str), Keep p H H' → PoolAt H' p → H r = none → H' r = some (.lst (zs.map V.str)) → zs.length = m.toNat → Names zs → Q (.ref r) H'
theorem ok_words {f fdr : Addr} {fd fdd : FuncData} (F : Fun K "_law_words" "_law_words" s_words f fd) (T : Bl mg) (D_draw : Def P w K mg base "_law_draw" 1 P_draw spDraw fdr fdd) : FnOk P w K mg base CX0 2 f fd P_words spWords := by
  refine F.ok sc_words (fun vs H Q E h => ?_) (fun cdv A outer s H vs Q E hr h => ?_)
  · obtain ⟨p, m, rfl, _⟩ := h
    rfl
  obtain ⟨p, m, rfl, hp, m1, m2, q⟩ := h
  refine ⟨_, (pss_cons (ps_set (i := 2) sc_words.nd rfl (Or.inr rfl) pe_str)
    (pss_cons (ps_set (i := 3) sc_words.nd rfl (Or.inr rfl) (pe_lst (pa_cons pe_str (pa_cons pe_str (pa_cons pe_str (pa_cons pe_str (pa_cons pe_str (pa_cons pe_str (pa_cons pe_str (pa_cons pe_str (pa_cons pe_str (pa_cons pe_str (pa_cons pe_str (pa_cons pe_str pa_nil))))))))))))))
    (pss_cons (ps_set (i := 3) sc_words.nd rfl (Or.inr rfl) (pe_op op_cat (pv 3) (pe_lst (pa_cons pe_str (pa_cons pe_str (pa_cons pe_str (pa_cons pe_str (pa_cons pe_str (pa_cons pe_str (pa_cons pe_str (pa_cons pe_str (pa_cons pe_str (pa_cons pe_str (pa_cons pe_str (pa_cons pe_str pa_nil)))))))))))))))
    (pss_cons (ps_asg (pe_tup (pa_cons (pe_call D_draw.ok (hr.mono (by first | decide | omega)) rfl D_draw.g D_draw.kp D_draw.b .nil pass0 (pa_cons (pv 0) (pa_cons pe_int pa_nil))) (pa_cons (pe_call D_draw.ok (hr.mono (by first | decide | omega)) rfl D_draw.g D_draw.kp D_draw.b .nil pass0 (pa_cons (pv 0) (pa_cons pe_int pa_nil))) pa_nil))) (pg_tup rfl (pgs_cons (pg_name (i := 4) sc_words.nd rfl (Or.inl rfl)) (pgs_cons (pg_name (i := 5) sc_words.nd rfl (Or.inr rfl)) pgs_nil))))
    (pss_cons (ps_if (pt_cmpR op_eq (pv 4) pe_int (nomark _))
      (pss_one (ps_ret (pe_lc (own := [("_law_k", 9)]) (g := (gName 9)) (tt := tYes) rfl sc_words.nd (pi_range1 rfl T.range (pa_cons (pv 1) pa_nil)) (blkOk_by (own := [("_law_k", 9)]) (N := N_words) (sc := defScope s_words) (by decide +kernel)) (fun _ _ _ _ _ => (pg_name (i := 9) sc_words.nd rfl (Or.inl rfl))) (fun _ _ _ _ _ => pts_nil) (fun _ _ _ _ _ => (pe_ix (ix_listK K rfl) (pv 3) (pe_op op_mod (pe_op op_add (pv 5) (pe_op op_mul pe_int (pv 9))) pe_int) (fun _ _ => rfl))))))
      pss_nil)
    (pss_cons (ps_if (pt_cmpR op_eq (pv 4) pe_int (nomark _))
      (pss_one (ps_ret (pe_lc (own := [("_law_k", 9)]) (g := (gName 9)) (tt := tYes) rfl sc_words.nd (pi_range1 rfl T.range (pa_cons (pv 1) pa_nil)) (blkOk_by (own := [("_law_k", 9)]) (N := N_words) (sc := defScope s_words) (by decide +kernel)) (fun _ _ _ _ _ => (pg_name (i := 9) sc_words.nd rfl (Or.inl rfl))) (fun _ _ _ _ _ => pts_nil) (fun _ _ _ _ _ => (pe_op op_mulS (pe_ix ix_str (pv 2) (pe_op op_mod (pe_op op_add (pv 5) (pe_op op_mul pe_int (pv 9))) pe_int) (fun _ _ => rfl)) (pe_op op_add pe_int (pe_op op_mod (pv 9) pe_int)))))))
      pss_nil)
    (pss_cons (ps_set (i := 6) sc_words.nd rfl (Or.inr rfl) (pe_join pe_str (pe_lc (own := [("_law_k", 9)]) (g := (gName 9)) (tt := tYes) rfl sc_words.nd (pi_range1 rfl T.range (pa_cons (pe_call D_draw.ok (hr.mono (by first | decide | omega)) rfl D_draw.g D_draw.kp D_draw.b .nil pass0 (pa_cons (pv 0) (pa_cons pe_int pa_nil))) pa_nil)) (blkOk_by (own := [("_law_k", 9)]) (N := N_words) (sc := defScope s_words) (by decide +kernel)) (fun _ _ _ _ _ => (pg_name (i := 9) sc_words.nd rfl (Or.inl rfl))) (fun _ _ _ _ _ => pts_nil) (fun _ _ _ _ _ => (pe_ix ix_str (pv 2) (pe_call D_draw.ok (hr.mono (by first | decide | omega)) rfl D_draw.g D_draw.kp D_draw.b .nil pass0 (pa_cons (pv 0) (pa_cons pe_int pa_nil))) (fun _ _ => rfl))))))
    (pss_cons (ps_set (i := 7) sc_words.nd rfl (Or.inr rfl) (pe_call D_draw.ok (hr.mono (by first | decide | omega)) rfl D_draw.g D_draw.kp D_draw.b .nil pass0 (pa_cons (pv 0) (pa_cons (pe_op op_add (pe_callB (call_lenK K rfl) (by rfl) T.len PySem.boot_len (pa_cons (pv 6) pa_nil)) pe_int) pa_nil))))
    (pss_cons (ps_setLc (i := 8) (own := [("_law_k", 9)]) (g := (gName 9)) (tt := tYes) rfl sc_words.nd rfl rfl (sw_true rfl rfl rfl (by decide +kernel)) (pi_range1 rfl T.range (pa_cons (pv 1) pa_nil)) (blkOk_by (own := [("_law_k", 9)]) (N := N_words) (sc := defScope s_words) (by decide +kernel)) (fun _ _ _ _ _ => (pg_name (i := 9) sc_words.nd rfl (Or.inl rfl))) (fun _ _ _ _ _ => pts_nil) (fun _ _ _ _ _ => (pe_op op_add_str (pe_op op_add_str (pe_slice sl_str (pv 6) po_none (po_some (pv 7))) (pe_ix ix_str (pv 2) (pe_op op_mod (pe_op op_add (pv 5) (pe_op op_mul pe_int (pv 9))) pe_int) (fun _ _ => rfl))) (pe_slice sl_str (pv 6) (po_some (pv 7)) po_none))))
    (pss_one (ps_ret (pe_lc (own := [("_law_word", 10)]) (g := (gName 10)) (tt := tYes) rfl sc_words.nd (pi_list (pv 8)) (blkOk_by (own := [("_law_word", 10)]) (N := N_words) (sc := defScope s_words) (by decide +kernel)) (fun _ _ _ _ _ => (pg_name (i := 10) sc_words.nd rfl (Or.inl rfl))) (fun _ _ _ _ _ => pts_nil) (fun _ _ _ _ _ => (pe_ifExp (pt_cmpR (op_inK K rfl) (pv 10) (pe_lst (pa_cons pe_str (pa_cons pe_str (pa_cons pe_str pa_nil)))) (by with_unfolding_all rfl)) (pe_op op_add_str (pv 10) pe_str) (pv 10))))))))))))))), ?_⟩
  have small : ∀ n : Nat, n ≤ 1000 → n ≤ sizeLine := fun n h => Nat.le_of_lt (small1000 h)
  refine ⟨(by show 12 ≤ sizeLine; decide), fun l1 hl1 => ?_⟩
  refine ⟨_, rfl, (by show 12 ≤ sizeLine; decide), fun l2 hl2 => ?_⟩
  have n12 : l1 ≠ l2 := ne_of_none upd_same hl2
  refine ⟨l1, l2, _, _, rfl, rfl, Eq.trans (upd_ne n12) upd_same, upd_same, (by show 24 ≤ sizeLine; decide), fun l hl => ?_⟩
  generalize hH3 : upd (upd (upd H l1 _) l2 _) l _ = H3
  have e3 : H3 l = some (.lst (menuW.map V.str)) := by rw [← hH3]; exact upd_same
  have s3 : Same H H3 := by rw [← hH3]; exact (same_new hl1 _).trans ((same_new hl2 _).trans (same_new hl _))
  have k3 : Keep p H H3 := Same.keep s3
  have p3 := hp.same s3
  have nlp : l ≠ p := (hp.same ((same_new hl1 _).trans (same_new hl2 _))).ne hl
  clear hH3 hl hl1 hl2 n12
  refine ⟨_, rfl, p, 3, rfl, p3, by decide, by decide, fun H4 r1 k4 p4 a0 a1 => ?_⟩
  refine ⟨_, rfl, p, 24, rfl, p4, by decide, by decide, fun H5 r2 k5 p5 b0 b1 => ?_⟩
  refine ⟨(by show 2 ≤ sizeLine; decide), fun t ht => ?_⟩
  refine ⟨t, _, rfl, SqT.of upd_same, rfl, _, _, rfl, _, _, rfl, rfl, ?_⟩
  generalize hH6 : upd H5 t _ = H6
  have s6 : Same H5 H6 := by rw [← hH6]; exact same_new ht _
  have k6 : Keep p H H6 := k3.trans (k4.trans (k5.trans (Same.keep s6)))
  have p6 := p5.same s6
  have e6 : H6 l = some (.lst (menuW.map V.str)) := s6 _ _ (k5 _ _ nlp (k4 _ _ nlp e3))
  clear hH6 ht k3 p3 e3 k4 p4 k5 p5 s6 s3
  have fin : ∀ (Hx H' : Hp) (D : Addr) (g : Nat → Str), Keep p H Hx → Hx D = none → D ≠ p → Keep p Hx H' → PoolAt H' p → H' D = some (.lst ((List.range m.toNat).map fun k => V.str (g k))) → Names ((List.range m.toNat).map g) → Q (.ref D) H' :=
    fun Hx H' D g k1 n1 nD k2 pp e z => q H' D _ (k1.trans k2) pp (k1.gone nD n1) (by rw [List.map_map]; exact e) (by rw [List.length_map, List.length_range]) z
  have hm : ((m.toNat : Nat) : Int) = m := by omega
  refine ⟨_, rfl, rfl, _, rfl, ?_⟩
  refine ite2 (fun c => ?_) (fun c => ?_)
  · refine ⟨_, rfl, m, rfl, by omega, by omega, fun D hD => ?_⟩
    have nD := p6.ne hD
    refine lc_range (lo := 0) (n := m.toNat) (fun i H' => Keep p H6 H' ∧ PoolAt H' p ∧ H' D = some (.lst ((List.range i).map fun k => V.str (g0 r2 k)))) ⟨Keep.new hD _, p6.upd nD, upd_same⟩ ?_ (fun H' ⟨k7, p7, e7⟩ => fin H6 H' D _ k6 hD nD k7 p7 e7 (names0 b0 b1 (by omega)))
    rintro i H' hi ⟨k7, p7, e7⟩
    refine ⟨rfl, yesT ?_⟩
    refine ⟨_, rfl, _, rfl, _, rfl, _, _, rfl, rfl, .inl ⟨by decide, by decide⟩, _, _, rfl, rfl, _, _, rfl, rfl, (by show (0 : Int) < 24; decide), ?_⟩
    have hj : ((r2 + 5 * (i : Int)) % 24).toNat < menuW.length := by rw [menuW_len]; omega
    refine ⟨l, _, _, .str (g0 r2 i), rfl, rfl, SqL.of (k7 _ _ nlp e6), at_of (j := ((r2 + 5 * (i : Int)) % 24).toNat) (by show (r2 + 5 * (0 + (i : Int))) % 24 = _; omega) ?_, _, e7, ?_, ?_⟩
    · rw [List.getElem?_map, List.getElem?_eq_getElem hj]
      unfold g0
      rw [List.getD_eq_getElem?_getD, List.getElem?_eq_getElem hj]
      rfl
    · rw [List.length_map, List.length_range]
      exact small1000 (by omega)
    · exact ⟨k7.upd hD, p7.upd nD, by rw [upd_same, map_snoc (fun k => V.str (g0 r2 k))]⟩
  · refine ⟨_, rfl, rfl, _, rfl, ?_⟩
    refine ite2 (fun c2 => ?_) (fun c2 => ?_)
    · refine ⟨_, rfl, m, rfl, by omega, by omega, fun D hD => ?_⟩
      have nD := p6.ne hD
      refine lc_range (lo := 0) (n := m.toNat) (fun i H' => Keep p H6 H' ∧ PoolAt H' p ∧ H' D = some (.lst ((List.range i).map fun k => V.str (g1 r2 k)))) ⟨Keep.new hD _, p6.upd nD, upd_same⟩ ?_ (fun H' ⟨k7, p7, e7⟩ => fin H6 H' D _ k6 hD nD k7 p7 e7 (names1 b0 b1 (by omega)))
      rintro i H' hi ⟨k7, p7, e7⟩
      refine ⟨rfl, yesT ?_⟩
      refine ⟨_, rfl, _, rfl, _, rfl, _, _, rfl, rfl, .inl ⟨by decide, by decide⟩, _, _, rfl, rfl, _, _, rfl, rfl, (by show (0 : Int) < 26; decide), ?_⟩
      have z : (0 : Int) + (i : Int) = i := Int.zero_add _
      rw [z]
      refine ⟨alpha, _, _, rfl, rfl, (by show 26 ≤ sizeLine; decide), alpha_at (j := (r2 + 7 * (i : Int)) % 26) (by omega) (by omega), ?_⟩
      refine ⟨_, rfl, _, _, rfl, rfl, (by show (0 : Int) < 12; decide), _, _, rfl, rfl, ?_⟩
      refine ⟨_, _, rfl, rfl, by omega, by omega, (by show 1 ≤ 1; decide), (by show 1 ≤ 1000; decide), _, e7, ?_, ?_⟩
      · rw [List.length_map, List.length_range]
        exact small1000 (by omega)
      · exact ⟨k7.upd hD, p7.upd nD, by rw [upd_same]; exact congrArg (fun x => some (HO.lst x)) (map_snoc (fun k => V.str (g1 r2 k)) i)⟩
    · -- stem
      refine ⟨⟨_, rfl⟩, _, rfl, p, 12, rfl, p6, by decide, by decide, fun H7 r3 k7 p7 c0 c1 => ⟨r3, rfl, by omega, by omega, fun D hD => ?_⟩⟩
      have nD := p7.ne hD
      refine lc_range (lo := 0) (n := r3.toNat) (fun i H' => Keep p H7 H' ∧ PoolAt H' p ∧ ∃ zs : List Str, H' D = some (.lst (zs.map V.str)) ∧ zs.length = i ∧ ∀ z ∈ zs, One z) ⟨Keep.new hD _, p7.upd nD, [], upd_same, rfl, fun z hz => by cases hz⟩ ?_ ?_
      · rintro i H' hi ⟨k8, p8, zs, e8, l8, o8⟩
        refine ⟨rfl, yesT ?_⟩
        refine ⟨_, rfl, _, rfl, p, 26, rfl, p8, by decide, by decide, fun H9 r4 k9 p9 d0 d1 => ?_⟩
        refine ⟨alpha, _, _, rfl, rfl, (by show 26 ≤ sizeLine; decide), alpha_at d0 d1, _, k9 _ _ nD e8, ?_, ?_⟩
        · rw [List.length_map]
          exact small1000 (by omega)
        · refine ⟨(k8.trans k9).upd hD, p9.upd nD, zs ++ [⟨#[97 + r4.toNat]⟩], ?_, ?_, fun z hz => ?_⟩
          · rw [upd_same, List.map_append]
            rfl
          · rw [List.length_append, l8]
            rfl
          · rcases List.mem_append.mp hz with hz | hz
            · exact o8 z hz
            · rw [List.mem_singleton.mp hz]
              exact ⟨97 + r4.toNat, rfl, by omega, by omega⟩
      rintro H8 ⟨k8, p8, zs, e8, l8, o8⟩
      refine ⟨"", D, zs, rfl, rfl, .inl (SqL.of e8), ?_, ?_⟩
      · rw [sum_len o8]
        show zs.length + zs.length * 0 ≤ 16777216
        omega
      have hst : ql (Txt.join "" zs) = (zs.map ql).flatten := ql_join0 zs
      have hsl : (Txt.join "" zs).length ≤ 11 := by
        rw [ql_len, hst, stem_len o8]
        omega
      have hsc : ∀ c ∈ ql (Txt.join "" zs), 97 ≤ c ∧ c ≤ 122 := by
        rw [hst]
        exact stem_in o8
      generalize Txt.join "" zs = stem at hsl hsc
      have ks : Keep p H6 H8 := k7.trans k8
      have hz1 : stem.length ≤ sizeLine := small _ (by omega)
      clear hst e8 k8 k7 hD l8 o8
      -- at
      refine ⟨_, rfl, _, rfl, .str stem, stem.length, rfl, ⟨hz1, rfl⟩, _, _, rfl, rfl, p, ((stem.length : Int) + 1), rfl, p8, by omega, by omega, fun H9 a k9 p9 f0 f1 => ?_⟩
      have f1' : a ≤ (stem.length : Int) := by omega
      -- found
      refine ⟨_, rfl, m, rfl, by omega, by omega, fun D2 hD2 => ?_⟩
      have nD2 := p9.ne hD2
      refine lc_range (lo := 0) (n := m.toNat) (fun i H' => Keep p H9 H' ∧ PoolAt H' p ∧ H' D2 = some (.lst ((List.range i).map fun k => V.str (g2 stem a r2 k)))) ⟨Keep.new hD2 _, p9.upd nD2, upd_same⟩ ?_ ?_
      · rintro i H' hi ⟨k10, p10, e10⟩
        refine ⟨rfl, yesT ?_⟩
        have z : (0 : Int) + (i : Int) = i := Int.zero_add _
        rw [z]
        have l1 := cutS_length stem none (some a)
        have l2 := cutS_length stem (some a) none
        refine ⟨_, rfl, _, rfl, _, rfl, stem, rfl, hz1, _, rfl, _, rfl, _, rfl, _, _, rfl, rfl, .inl ⟨by decide, by decide⟩, _, _, rfl, rfl, _, _, rfl, rfl, (by show (0 : Int) < 26; decide), ?_⟩
        refine ⟨alpha, _, _, rfl, rfl, (by show 26 ≤ sizeLine; decide), alpha_at (j := (r2 + 5 * (i : Int)) % 26) (by omega) (by omega), _, _, rfl, rfl, ?_, ?_⟩
        · exact small _ (by show _ + 1 ≤ 1000; omega)
        refine ⟨_, rfl, _, rfl, _, rfl, stem, rfl, hz1, _, _, rfl, rfl, ?_, ?_⟩
        · have l3 : (cutS stem none (some a) ++ (⟨#[97 + ((r2 + 5 * (i : Int)) % 26).toNat]⟩ : Str)).length = (cutS stem none (some a)).length + 1 := by
            rw [ql_len, ql_app, List.length_append, ← ql_len]
            rfl
          exact small _ (by omega)
        · refine ⟨_, e10, ?_, k10.upd hD2, p10.upd nD2, by rw [upd_same]; exact congrArg (fun x => some (HO.lst x)) (map_snoc (fun k => V.str (g2 stem a r2 k)) i)⟩
          rw [List.length_map, List.length_range]
          exact small1000 (by omega)
      rintro H10 ⟨k10, p10, e10⟩
      refine ⟨_, rfl, D2, rfl, ⟨_, SqL.of e10⟩, fun D3 hD3 => ?_⟩
      have nD3 := p10.ne hD3
      refine lc_list (K := K) (a := D2) (xs := (List.range m.toNat).map fun k => V.str (g2 stem a r2 k)) (fun i H' => Keep p H10 H' ∧ PoolAt H' p ∧ H' D3 = some (.lst ((List.range i).map fun k => V.str (g3 (g2 stem a r2 k))))) ⟨Keep.new hD3 _, p10.upd nD3, upd_same⟩
        (fun i H' _ ⟨k11, p11, e11⟩ => SqL.of (k11 _ _ nD2 e10)) ?_ (fun H' ⟨k11, p11, e11⟩ => fin H10 H' D3 (fun k => g3 (g2 stem a r2 k)) (k6.trans (ks.trans (k9.trans k10))) hD3 nD3 k11 p11 (by rw [List.length_map, List.length_range] at e11; exact e11) (names2 f0 f1' hsl hsc (by omega)))
      rintro i x H' hx ⟨k11, p11, e11⟩
      obtain ⟨hi, rfl⟩ : i < m.toNat ∧ x = V.str (g2 stem a r2 i) := by
        have hlt := (List.getElem?_eq_some_iff.mp hx).1
        rw [List.length_map, List.length_range] at hlt
        rw [List.getElem?_map, List.getElem?_range hlt] at hx
        exact ⟨hlt, (Option.some.inj hx).symm⟩
      refine ⟨rfl, yesT ?_⟩
      refine ⟨_, rfl, (by show 3 ≤ sizeLine; decide), fun l3 hl3 => ⟨l3, _, rfl, .inl (SqL.of upd_same), rfl, rfl, _, rfl, ?_⟩⟩
      have e12 : (upd H' l3 (.lst [V.str "true", V.str "false", V.str "self"])) D3 = some (.lst ((List.range i).map fun k => V.str (g3 (g2 stem a r2 k)))) := by
        rw [upd_ne (ne_of_none e11 hl3)]
        exact e11
      have nl3 := p11.ne hl3
      have wl : (g2 stem a r2 i).length ≤ 12 := by rw [len_g2 f0 f1']; omega
      have step : ∀ z : Str, g3 (g2 stem a r2 i) = z → ∃ acc, (upd H' l3 (.lst [V.str "true", V.str "false", V.str "self"])) D3 = some (.lst acc) ∧ acc.length < sizeLine ∧ (Keep p H10 (upd (upd H' l3 (.lst [V.str "true", V.str "false", V.str "self"])) D3 (.lst (acc ++ [V.str z]))) ∧ PoolAt (upd (upd H' l3 (.lst [V.str "true", V.str "false", V.str "self"])) D3 (.lst (acc ++ [V.str z]))) p ∧ (upd (upd H' l3 (.lst [V.str "true", V.str "false", V.str "self"])) D3 (.lst (acc ++ [V.str z]))) D3 = some (.lst ((List.range (i + 1)).map fun k => V.str (g3 (g2 stem a r2 k))))) := fun z ez => by
        refine ⟨_, e12, ?_, (k11.trans (Keep.new hl3 _)).upd hD3, (p11.upd nl3).upd nD3, ?_⟩
        · rw [List.length_map, List.length_range]
          exact small1000 (by omega)
        · rw [upd_same, ← ez]
          exact congrArg (fun x => some (HO.lst x)) (map_snoc (fun k => V.str (g3 (g2 stem a r2 k))) i)
      refine ite2 (fun cc => ?_) (fun cc => ?_)
      · have cc' := (inV3 _ _ _ _).mp cc
        refine ⟨_, rfl, _, _, rfl, rfl, small _ (by show _ + 1 ≤ 1000; omega), ?_⟩
        exact step _ (by unfold g3; rw [if_pos cc'])
      · refine ⟨_, rfl, ?_⟩
        exact step _ (by unfold g3; rw [if_neg (fun h => cc ((inV3 _ _ _ _).mpr h))])
end
end KX

namespace KX
open PySem PySem.Spec L2 PyProof.Rows
/-! ### defs whose calls want to know that nothing is being shown -/
/-- what a def does where no repr is under way -/
structure FnG (P : Program) (w : World) (K : PySem.W.Frag) (mg : Str → Option Value) (base : Heap) (k : Nat) (f : Addr) (fd : FuncData) (ps : List Str) (sp : Sp) : Prop where
  long : ∀ vs H Q, sp vs H Q E0 → vs.length = ps.length
  does : ∀ (A : Around) (outer : List Env) (s : Shared) (H : Hp) (args : Args) (us : List Value) (vs : List V) (Q : VK), A.guards = some [] → Room k A → Env0 P w K mg base A outer s H → BindsTo s fd args (ps.zip us) → Vals vs us → sp vs H Q E0 →
    codeAny (model P w) A (.call (.ref f) args) (CR CX0 outer P w H s Q E0) s
structure DefG (P : Program) (w : World) (K : PySem.W.Frag) (mg : Str → Option Value) (base : Heap) (x : Str) (n : Nat) (ps : List Str) (sp : Sp) (f : Addr) (fd : FuncData) : Prop where
  named : mg x = some (.ref f)
  kept : PySem.W.keepIn K (.ref f) = true
  binds : Binds K fd ps []
  fn : FnG P w K mg base n f fd ps sp
theorem FnOk.g {P : Program} {w : World} {K : PySem.W.Frag} {mg : Str → Option Value} {base : Heap} {k : Nat} {f : Addr} {fd : FuncData} {ps : List Str} {sp : Sp} (F : FnOk P w K mg base CX0 k f fd ps sp) : FnG P w K mg base k f fd ps sp :=
  ⟨fun vs H Q => F.len vs H Q E0, fun A outer s H args us vs Q _ => F.run A outer s H args us vs Q E0⟩
section
variable {X : Cx}
/-- f(e, ..) of such a def -/
theorem pe_callG {k : Nat} {f : Addr} {fd : FuncData} {ps : List Str} {sp : Sp} {x : Str} {p pos : Pos} {e : Expr} {es : List Expr} {t : TA} (quiet : X.A.guards = some []) (D : DefG X.prog X.w X.K X.mg X.base x k ps sp f fd) (room : Room k X.A) (isG : Gl X x) (args : PA X (e :: es) t)
    (noDebug : (x == ("__debug__" : Str)) = false := by decide) (stars : starEach (e :: es) X.env = (false, eval e X.env) :: starEach es X.env := by rfl) (noStar : (backTo pos (starEach es X.env)).any (·.1) = false := by rfl) :
    PE X (.Call (.Name x p) (e :: es) [] pos) (tCall sp [] E0 t) := by
  constructor
  intro pins s σ H Q I want
  refine wpAny_Call_Name_kw (ld_glob I isG D.named ?_ noDebug)
  refine PySem.W.callWith_K (h₀ := X.base) I.ok.mod.kin D.kept (thn (args.run pos pins s σ H _ I want) ?_) stars noStar
  rintro us s1 ⟨vs, H1, J, rel, want1⟩
  have asked : sp vs H1 Q E0 := by
    have q : sp (vs ++ []) H1 Q E0 := want1
    rwa [List.append_nil] at q
  have ul : us.length = ps.length := rel.length.symm.trans (D.fn.long _ _ _ asked)
  have bound : BindsTo s1 fd ⟨us, []⟩ (ps.zip us) := by
    have q := D.binds s1 us J.kIn (by rw [List.append_nil]; exact ul)
    rwa [List.append_nil] at q
  refine ⟨J.kIn, wpAny_call (codeAny_mono (D.fn.does X.A X.stack s1 H1 ⟨us, []⟩ us vs Q quiet room J.env0 bound rel asked) ?_)⟩
  rintro (e | fl) s' h
  · exact h.elim
  · cases fl with
    | ret u => exact J.after h
    | next => exact h.elim
    | brk => exact h.elim
    | cont => exact h.elim
end
section
variable {base : Heap} {P : Program} {w : World} {K : PySem.W.Frag} {mg : Str → Option Value}
/-- a def's body, walked where nothing is being shown -/
theorem Fun.g {x qual : Str} {st : Stmt} {f : Addr} {fd : FuncData} {N ps : List Str} {k : Nat} {sp : Sp} (F : Fun K x qual st f fd) (S : FnScope N ps (defScope st)) (long : ∀ vs H Q, sp vs H Q E0 → vs.length = ps.length)
    (body : ∀ (cdv : Value) (A : Around) (outer : List Env) (s : Shared) (H : Hp) (vs : List V) (Q : VK), (cxOf CX0 P w K mg base N qual (defScope st) f cdv A outer s H E0).nox.A.guards = some [] → Room k (A.deeper (envOfC qual (defScope st) s.heap.objs.size f cdv)) → sp vs H Q E0 →
      ∃ t, PSs (cxOf CX0 P w K mg base N qual (defScope st) f cdv A outer s H E0).nox (defBody st) t ∧ t { nx := fun _ H' => Q .non H', rt := Q } (start N vs) H) : FnG P w K mg base (k + 1) f fd ps sp := by
  obtain ⟨oc, od, kV, doc, pm, an, cdv, ct, osl, rfl, lk, code⟩ := F.ex
  refine ⟨long, ?_⟩
  intro A outer s H args us vs Q quiet room e0 bound rel want
  have given := long _ _ _ want
  have here : ∀ b o, base.get? b = some o → s.heap.get? b = some o := fun b o e => (e0.bs b o e).1
  have kIn : K.In s.heap := e0.mod.kin.keeps here
  have kinds : ∀ y ∈ ps.zip us, (defScope st).names.lookup y.1 = some .local ∨ ((defScope st).names.lookup y.1 = some .cell ∧ ((cellsFrom (s.heap.objs.size + 1) (defScope st).names []).lookup y.1).isSome = true) := by
    rintro ⟨n, v⟩ hy
    exact (S.par n (List.of_mem_zip hy).1).imp id fun q => ⟨q, PySem.W.cellsFrom_some _ _ _ (.inl q)⟩
  refine codeAny_call_function room.depth (kIn _ _ lk) rfl S.co S.gen rfl (PySem.W.codeRec_of kIn code) (bound _ _ _ _ (wpAny_newFunctionEnv_cells S.kind kinds ?_))
  rintro env rfl s1 at1
  refine ⟨(e0.mod.nolimit.keeps here).keeps at1.toInCall.keep, codeAny_func ?_⟩
  obtain ⟨t, run, wish⟩ := body cdv A outer s H vs Q quiet (room.deeper _) want
  refine wpAny_mono (run.nox.run [] s1 (start N vs) H _ (inv_start S room.hd e0 given rel at1) wish) ?_ fun _ _ z => z
  rintro fl s' h
  cases fl with
  | ret u =>
    obtain ⟨v, σ', H', J', r, q⟩ := h
    exact ⟨v, H', J'.os, J'.bare, J'.base, J'.hok, r, q⟩
  | next =>
    obtain ⟨σ', H', J', q⟩ := h
    exact ⟨V.non, H', J'.os, J'.bare, J'.base, J'.hok, rfl, q⟩
  | brk => exact h.elim fun _ z => z.elim fun _ z => z.2.elim
  | cont => exact h.elim fun _ z => z.elim fun _ z => z.2.elim
/-- how a law's script may be seen: a list apart from all else, or one of the module's own -/
structure Seen (P : Program) (w : World) (K : PySem.W.Frag) (h : Heap) (a : Addr) (xs : List V) (H : Hp) : Prop where
  none' : ∀ b, b ≠ a → H b = none
  frozen : H a = none ∨ ∃ o ys, H a = some (.frz o (.lst ys))
  free : H a = none ∨ K.lookup a = none
  hok : HOk P w H h
  seq : SqL K H a xs
theorem seen_of {h : Heap} {a : Addr} {vs : List Value} {xs : List V} (kIn : K.In h) (at' : h.get? a = some { cls := .type "list", data := .seq vs.toArray }) (rel : Vals xs vs) (short : xs.length ≤ sizeLine) : ∃ H, Seen P w K h a xs H := by
  have short' : vs.toArray.size ≤ sizeLine := by
    rw [List.size_toArray, ← rel.length]
    exact short
  cases known : K.lookup a with
  | some o =>
    have e := (kIn a o known).symm.trans at'
    obtain rfl := Option.some.inj e
    exact ⟨fun _ => none, fun _ _ => rfl, .inl rfl, .inl rfl, fun _ _ z => (nomatch z), .inr ⟨_, _, _, known, rfl, rfl, rfl, short', rel⟩⟩
  | none =>
    have one : ∀ {b u}, (fun b => if b = a then some (HO.frz { cls := .type "list", data := .seq vs.toArray } (.lst xs)) else none) b = some u → b = a ∧ u = .frz { cls := .type "list", data := .seq vs.toArray } (.lst xs) := by
      intro b u z
      by_cases hb : b = a
      · exact ⟨hb, (Option.some.inj ((if_pos hb).symm.trans z)).symm⟩
      · exact nomatch (if_neg hb).symm.trans z
    refine ⟨fun b => if b = a then some (.frz { cls := .type "list", data := .seq vs.toArray } (.lst xs)) else none, fun b hb => if_neg hb, .inr ⟨_, xs, if_pos rfl⟩, .inr known, ?_, .inl (.inr ⟨_, if_pos rfl⟩)⟩
    intro b u z
    obtain ⟨rfl, rfl⟩ := one z
    exact ⟨at', short, vs, _, rel, at'⟩
/-- the law's def is called with its script -/
theorem script_call {mb : Str → Option Value} {k : Nat} {fa a : Addr} {fd : FuncData} {x : Str} {sp : Sp} {s : Shared} {vs : List Value} {ns : List Int} (kIn : K.In s.heap) (ns' : s.heap.Ns mainGlobals mg) (nb : s.heap.Ns builtinsNs mb)
    (boot : ∀ x : Str, x ≠ "__name__" → mb x = bootBuiltins x) (free : s.heap.NoLimit) (gens : s.gens = #[]) (at' : s.heap.get? a = some { cls := .type "list", data := .seq vs.toArray }) (whole : IntsAre vs ns) (short : ns.length ≤ sizeLine) (room : Room k callerA)
    (fn : ∀ base : Heap, K.In base → base.Ns mainGlobals mg → FnG P w K mg base k fa fd [x] sp) (binds : ∀ (s : Shared) (u : Value), BindsTo s fd ⟨[u], []⟩ [(x, u)]) (asked : ∀ H : Hp, SqL K H a (ns.map V.int) → sp [.ref a] H (fun v _ => v = .bl true) E0) :
    codeAny (model P w) callerA (.call (.ref fa) ⟨[.ref a], []⟩) (fun r s' => r = .ok (.ret (.bool true)) ∧ OldK s.heap s'.heap ∧ s'.os = s.os ∧ AllBare s'.gens) s := by
  obtain ⟨H, S⟩ := seen_of (P := P) (w := w) kIn at' (vals_ints whole) (by rw [List.length_map]; exact short)
  have keeps : ∀ {b o}, s.heap.get? b = some o → (b = a → H a = none) → (hidT s.heap H).get? b = some o := fun {b o} e q => hidT_get e (by
    by_cases hb : b = a
    · rw [hb]
      exact q hb
    · exact S.none' b hb)
  have spaces : ∀ {b m}, s.heap.Ns b m → (hidT s.heap H).Ns b m := by
    rintro b m ⟨o, es, ep, e, d, r⟩
    refine ⟨o, es, ep, keeps e fun hb => ?_, d, r⟩
    subst hb
    obtain rfl := Option.some.inj (e.symm.trans at')
    exact nomatch (show Data.seq vs.toArray _ = Data.dict es ep from d)
  have kIn' : K.In (hidT s.heap H) := fun b o e => keeps (kIn b o e) fun hb => S.free.resolve_right fun z => by
    subst hb
    rw [z] at e
    cases e
  have e0 : Env0 P w K mg (hidT s.heap H) callerA [] s H := by
    obtain ⟨mc, f1, f2⟩ := free
    refine ⟨rfl, ⟨kIn', spaces ns', ⟨mb, spaces nb, boot⟩, ⟨mc, spaces f1, f2⟩⟩, fun b o e => of_hidT e, ?_, trivial, fun b hb => (nomatch hb), S.hok, .of_eq gens⟩
    rw [hidT_size]
    exact Nat.le_refl _
  refine codeAny_mono ((fn _ kIn' (spaces ns')).does callerA [] s H ⟨[.ref a], []⟩ [.ref a] [.ref a] _ rfl room e0 (binds s _) (.cons rfl .nil) (asked H S.seq)) ?_
  rintro (e | fl) s' h
  · exact h.elim
  cases fl with
  | next => exact h.elim
  | brk => exact h.elim
  | cont => exact h.elim
  | ret u =>
    obtain ⟨v, H', os, bare, un, hok', rv, rfl⟩ := h
    obtain rfl : u = Value.bool true := rv
    refine ⟨rfl, OldK.of_keep fun b o e => ?_, os, bare⟩
    by_cases hb : H b = none
    · exact un.keep b o e hb (fun z => nomatch z) (fun z => nomatch z)
    · have ha : b = a := Classical.byContradiction fun z => hb (S.none' b z)
      subst ha
      obtain ⟨ob, ys, fz⟩ := S.frozen.resolve_left hb
      have old := (S.hok b _ fz).1
      exact (hok' b _ (un.frzs b ob _ fz)).1.trans (old.symm.trans e)
end
/-- the end of a law whose defs show nested values -/
theorem walk_g {l : PySem.W.OpenLaw} {n k : Nat} {q : Program} {loose : List Str} {XP : (Str → Option Value) → Heap → Prop} {YP : World → Heap → Prop} {d : DefRec} {x : Str} (most : l.most = some n) (small : n ≤ sizeLine) (plain : d.params.defaults = []) (room : Room k callerA)
    (law : ∀ (w : World) (mg : Str → Option Value) (fa : Addr) (h : Heap), YP w h → h.Ns mainGlobals mg → mg d.name = some (.ref fa) → ∃ (K : PySem.W.Frag) (fd : FuncData) (sp : Sp), K.In h ∧ (∀ (s : Shared) (u : Value), BindsTo s fd ⟨[u], []⟩ [(x, u)]) ∧
      (∀ (H : Hp) (a : Addr) (ns : List Int), ns.length ≤ n → SqL K H a (ns.map V.int) → sp [.ref a] H (fun v _ => v = .bl true) E0) ∧ ∀ base : Heap, K.In base → base.Ns mainGlobals mg → FnG l.prog w K mg base k fa fd [x] sp) :
    PySem.W.WalkO q loose XP YP l.row.toRowW d [] (fun f vs => PySem.call f vs) := by
  apply Att.attach_call most plain
  intro w s0 s1 mg mb fa o pm cd doc a vs ns G Y ho hd hcd named script whole long gens
  obtain ⟨K, fd, sp, kIn, binds, asked, fn⟩ := law w mg fa _ Y G.T.g named
  exact script_call kIn G.T.g G.T.b G.T.builtins G.T.nolimit gens script whole (Nat.le_trans long small) room fn binds fun H => asked H a ns long
end KX

namespace KX
open PySem PySem.Spec L2 PyProof.Rows
/-! ### data on the abstract heap, dicts too -/
def keyD : Key → PyData
  | .inl i => .int i
  | .inr x => .str x
mutual
inductive Dq (K : PySem.W.Frag) (H : Hp) : V → PyData → Prop
  | non : Dq K H .non .none
  | bl (b : Bool) : Dq K H (.bl b) (.bool b)
  | int (i : Int) : Dq K H (.int i) (.int i)
  | str (x : Str) : Dq K H (.str x) (.str x)
  | lst {a : Addr} {xs : List V} {ds : List PyData} : H a = some (.lst xs) → DqAll K H xs ds → Dq K H (.ref a) (.list ds)
  | tup {a : Addr} {xs : List V} {ds : List PyData} : H a = some (.tup xs) → DqAll K H xs ds → Dq K H (.ref a) (.tuple ds)
  | dct {a : Addr} {kvs : List (Key × V)} {ds : List (PyData × PyData)} : H a = some (.dK kvs) → DqKv K H kvs ds → Dq K H (.ref a) (.dict ds)
inductive DqAll (K : PySem.W.Frag) (H : Hp) : List V → List PyData → Prop
  | nil : DqAll K H [] []
  | cons {v : V} {vs : List V} {d : PyData} {ds : List PyData} : Dq K H v d → DqAll K H vs ds → DqAll K H (v :: vs) (d :: ds)
inductive DqKv (K : PySem.W.Frag) (H : Hp) : List (Key × V) → List (PyData × PyData) → Prop
  | nil : DqKv K H [] []
  | cons {k : Key} {v : V} {r : List (Key × V)} {d : PyData} {ds : List (PyData × PyData)} : Dq K H v d → DqKv K H r ds → DqKv K H ((k, v) :: r) ((keyD k, d) :: ds)
end
theorem Same.seqT {K : PySem.W.Frag} {H H' : Hp} {a : Addr} {xs : List V} (e : Same H H') (h : SqT K H a xs) : SqT K H' a xs := by
  rcases h with (h | ⟨o, h⟩) | h
  · exact .inl (.inl (e _ _ h))
  · exact .inl (.inr ⟨o, e _ _ h⟩)
  · exact .inr h
mutual
theorem Dq.same {K : PySem.W.Frag} {H H' : Hp} (e : Same H H') : ∀ (d : PyData) (v : V), Dq K H v d → Dq K H' v d
  | .none, _, .non => .non
  | .bool _, _, .bl b => .bl b
  | .int _, _, .int i => .int i
  | .str _, _, .str x => .str x
  | .list ds, _, .lst hs ha => .lst (e _ _ hs) (DqAll.same e ds _ ha)
  | .tuple ds, _, .tup hs ha => .tup (e _ _ hs) (DqAll.same e ds _ ha)
  | .dict ds, _, .dct hs ha => .dct (e _ _ hs) (DqKv.same e ds _ ha)
theorem DqAll.same {K : PySem.W.Frag} {H H' : Hp} (e : Same H H') : ∀ (ds : List PyData) (vs : List V), DqAll K H vs ds → DqAll K H' vs ds
  | [], _, .nil => .nil
  | d :: ds, _, .cons h1 h2 => .cons (Dq.same e d _ h1) (DqAll.same e ds _ h2)
theorem DqKv.same {K : PySem.W.Frag} {H H' : Hp} (e : Same H H') : ∀ (ds : List (PyData × PyData)) (vs : List (Key × V)), DqKv K H vs ds → DqKv K H' vs ds
  | [], _, .nil => .nil
  | (_, d) :: ds, _, .cons h1 h2 => .cons (Dq.same e d _ h1) (DqKv.same e ds _ h2)
end
/-- the heap without p -/
def hide (p : Addr) (H : Hp) : Hp := fun b => if b = p then none else H b
theorem hide_ne {p b : Addr} {H : Hp} (h : b ≠ p) : hide p H b = H b := if_neg h
theorem hide_sub (p : Addr) (H : Hp) : Same (hide p H) H := fun b o e => by
  by_cases h : b = p
  · subst h
    rw [show hide b H b = none from if_pos rfl] at e
    cases e
  · rw [hide_ne h] at e
    exact e
theorem Keep.hide {p : Addr} {H H' : Hp} (k : Keep p H H') : Same (hide p H) (hide p H') := fun b o e => by
  by_cases h : b = p
  · subst h
    rw [show KX.hide b H b = none from if_pos rfl] at e
    cases e
  · rw [hide_ne h] at e
    rw [hide_ne h]
    exact k b o h e
/-- what is new in H' -/
def sub (H H' : Hp) : Hp := fun b => match H b with
  | none => H' b
  | some _ => none
theorem sub_new {H H' : Hp} {b : Addr} (h : H b = none) : sub H H' b = H' b := by
  unfold sub
  rw [h]
theorem sub_old {H H' : Hp} {b : Addr} {o : HO} (h : H b = some o) : sub H H' b = none := by
  unfold sub
  rw [h]
theorem sub_same (H H' : Hp) : Same (sub H H') H' := fun b o e => by
  cases h : H b with
  | none => rw [sub_new h] at e; exact e
  | some u => rw [sub_old h] at e; cases e
/-- what was there is there -/
def Dom (H H' : Hp) : Prop := ∀ b, H' b = none → H b = none
theorem Dom.trans {H H1 H2 : Hp} (a : Dom H H1) (b : Dom H1 H2) : Dom H H2 := fun c h => a c (b c h)
theorem Same.dom {H H' : Hp} (s : Same H H') : Dom H H' := fun b h => s.free h
theorem dom_upd {H : Hp} {a : Addr} {o : HO} : Dom H (upd H a o) := fun b h => by
  by_cases e : b = a
  · subst e
    rw [upd_same] at h
    cases h
  · rw [upd_ne e] at h
    exact h
theorem Keep.dom {p : Addr} {H H' : Hp} (k : Keep p H H') (pp : PoolAt H' p) : Dom H H' := fun b h => by
  by_cases e : b = p
  · subst e
    obtain ⟨_, _, _, q, _⟩ := pp
    rw [q] at h
    cases h
  · exact k.gone e h
theorem sub_left {H0 H1 H2 : Hp} (d : Dom H0 H1) : Same (sub H1 H2) (sub H0 H2) := fun b o e => by
  cases h : H1 b with
  | none => rw [sub_new h] at e; rw [sub_new (d b h)]; exact e
  | some u => rw [sub_old h] at e; cases e
theorem sub_keep {p : Addr} {H0 H2 H3 : Hp} (k : Keep p H2 H3) (hp : ∃ o, H0 p = some o) : Same (sub H0 H2) (sub H0 H3) := fun b o e => by
  cases h : H0 b with
  | none =>
    rw [sub_new h] at e
    rw [sub_new h]
    refine k b o (fun z => ?_) e
    obtain ⟨u, hu⟩ := hp
    rw [z, hu] at h
    cases h
  | some u => rw [sub_old h] at e; cases e
theorem sub_upd {H0 H2 : Hp} {a : Addr} {o : HO} (h : ∃ u, H0 a = some u) : Same (sub H0 H2) (sub H0 (upd H2 a o)) := fun b u e => by
  cases q : H0 b with
  | none =>
    rw [sub_new q] at e
    rw [sub_new q, upd_ne (fun z => by
      obtain ⟨x, hx⟩ := h
      rw [z, hx] at q
      cases q)]
    exact e
  | some x => rw [sub_old q] at e; cases e
theorem sub_fresh {H0 H : Hp} {t : Addr} {o : HO} (h : H t = none) : Same (sub H0 H) (sub H0 (upd H t o)) := fun b u e => by
  cases q : H0 b with
  | none =>
    rw [sub_new q] at e
    rw [sub_new q, upd_ne (ne_of_none e h)]
    exact e
  | some x => rw [sub_old q] at e; cases e
theorem sub_hide {p : Addr} {H H' : Hp} (h : ∃ o, H p = some o) : Same (sub H H') (hide p H') := fun b o e => by
  cases q : H b with
  | none =>
    rw [sub_new q] at e
    rw [hide_ne (fun z => by
      obtain ⟨x, hx⟩ := h
      rw [z, hx] at q
      cases q)]
    exact e
  | some u => rw [sub_old q] at e; cases e
theorem PoolAt.has {H : Hp} {p : Addr} (h : PoolAt H p) : ∃ o, H p = some o := by
  obtain ⟨_, _, _, e, _⟩ := h
  exact ⟨_, e⟩
mutual
theorem Dq.det {K : PySem.W.Frag} {H : Hp} : ∀ (d : PyData) (v : V) (e : PyData), Dq K H v d → Dq K H v e → d = e
  | .none, _, _, .non, .non => rfl
  | .bool _, _, _, .bl b, .bl _ => rfl
  | .int _, _, _, .int i, .int _ => rfl
  | .str _, _, _, .str x, .str _ => rfl
  | .list ds, _, _, .lst hs ha, h2 => by
    cases h2 with
    | lst hs2 ha2 =>
      rw [hs] at hs2
      cases hs2
      rw [DqAll.det ds _ _ ha ha2]
    | tup hs2 _ => rw [hs] at hs2; cases hs2
    | dct hs2 _ => rw [hs] at hs2; cases hs2
  | .tuple ds, _, _, .tup hs ha, h2 => by
    cases h2 with
    | tup hs2 ha2 =>
      rw [hs] at hs2
      cases hs2
      rw [DqAll.det ds _ _ ha ha2]
    | lst hs2 _ => rw [hs] at hs2; cases hs2
    | dct hs2 _ => rw [hs] at hs2; cases hs2
  | .dict ds, _, _, .dct hs ha, h2 => by
    cases h2 with
    | dct hs2 ha2 =>
      rw [hs] at hs2
      cases hs2
      rw [DqKv.det ds _ _ ha ha2]
    | lst hs2 _ => rw [hs] at hs2; cases hs2
    | tup hs2 _ => rw [hs] at hs2; cases hs2
theorem DqAll.det {K : PySem.W.Frag} {H : Hp} : ∀ (ds : List PyData) (vs : List V) (es : List PyData), DqAll K H vs ds → DqAll K H vs es → ds = es
  | [], _, _, .nil, .nil => rfl
  | d :: ds, _, _, .cons h1 h2, .cons g1 g2 => by rw [Dq.det d _ _ h1 g1, DqAll.det ds _ _ h2 g2]
theorem DqKv.det {K : PySem.W.Frag} {H : Hp} : ∀ (ds : List (PyData × PyData)) (vs : List (Key × V)) (es : List (PyData × PyData)), DqKv K H vs ds → DqKv K H vs es → ds = es
  | [], _, _, .nil, .nil => rfl
  | (_, d) :: ds, _, _, .cons h1 h2, .cons g1 g2 => by rw [Dq.det d _ _ h1 g1, DqKv.det ds _ _ h2 g2]
end
/-! what is less deep than the thing at q does not hold it -/
mutual
theorem Dq.avoid {K : PySem.W.Frag} {H : Hp} {q : Addr} {D : PyData} (hD : Dq K H (.ref q) D) : ∀ (d : PyData) (v : V), Dq K H v d → d.depth < D.depth → Dq K (hide q H) v d
  | .none, _, .non, _ => .non
  | .bool _, _, .bl b, _ => .bl b
  | .int _, _, .int i, _ => .int i
  | .str _, _, .str x, _ => .str x
  | .list ds, _, .lst (a := a) hs ha, hd => by
    have ne : a ≠ q := fun z => by
      have := Dq.det _ _ _ (Dq.lst hs ha) (z ▸ hD)
      rw [this] at hd
      exact Nat.lt_irrefl _ hd
    refine .lst (by rw [hide_ne ne]; exact hs) (DqAll.avoid hD ds _ ha ?_)
    simp only [PyData.depth] at hd
    omega
  | .tuple ds, _, .tup (a := a) hs ha, hd => by
    have ne : a ≠ q := fun z => by
      have := Dq.det _ _ _ (Dq.tup hs ha) (z ▸ hD)
      rw [this] at hd
      exact Nat.lt_irrefl _ hd
    refine .tup (by rw [hide_ne ne]; exact hs) (DqAll.avoid hD ds _ ha ?_)
    simp only [PyData.depth] at hd
    omega
  | .dict ds, _, .dct (a := a) hs ha, hd => by
    have ne : a ≠ q := fun z => by
      have := Dq.det _ _ _ (Dq.dct hs ha) (z ▸ hD)
      rw [this] at hd
      exact Nat.lt_irrefl _ hd
    refine .dct (by rw [hide_ne ne]; exact hs) (DqKv.avoid hD ds _ ha ?_)
    simp only [PyData.depth] at hd
    omega
theorem DqAll.avoid {K : PySem.W.Frag} {H : Hp} {q : Addr} {D : PyData} (hD : Dq K H (.ref q) D) : ∀ (ds : List PyData) (vs : List V), DqAll K H vs ds → PyData.depthAll ds < D.depth → DqAll K (hide q H) vs ds
  | [], _, .nil, _ => .nil
  | d :: ds, _, .cons h1 h2, hd => by
    simp only [PyData.depthAll] at hd
    exact .cons (Dq.avoid hD d _ h1 (by omega)) (DqAll.avoid hD ds _ h2 (by omega))
theorem DqKv.avoid {K : PySem.W.Frag} {H : Hp} {q : Addr} {D : PyData} (hD : Dq K H (.ref q) D) : ∀ (ds : List (PyData × PyData)) (vs : List (Key × V)), DqKv K H vs ds → PyData.depthKv ds < D.depth → DqKv K (hide q H) vs ds
  | [], _, .nil, _ => .nil
  | (_, d) :: ds, _, .cons h1 h2, hd => by
    simp only [PyData.depthKv] at hd
    exact .cons (Dq.avoid hD d _ h1 (by omega)) (DqKv.avoid hD ds _ h2 (by omega))
end
theorem DqAll.snoc {K : PySem.W.Frag} {H : Hp} {v : V} {d : PyData} (h : Dq K H v d) : ∀ {vs : List V} {ds : List PyData}, DqAll K H vs ds → DqAll K H (vs ++ [v]) (ds ++ [d])
  | _, _, .nil => .cons h .nil
  | _, _, .cons h1 h2 => .cons h1 (DqAll.snoc h h2)
theorem DqKv.snoc {K : PySem.W.Frag} {H : Hp} {k : Key} {v : V} {d : PyData} (h : Dq K H v d) : ∀ {vs : List (Key × V)} {ds : List (PyData × PyData)}, DqKv K H vs ds → DqKv K H (vs ++ [(k, v)]) (ds ++ [(keyD k, d)])
  | _, _, .nil => .cons h .nil
  | _, _, .cons h1 h2 => .cons h1 (DqKv.snoc h h2)
theorem DqAll.length {K : PySem.W.Frag} {H : Hp} : ∀ {vs : List V} {ds : List PyData}, DqAll K H vs ds → vs.length = ds.length
  | _, _, .nil => rfl
  | _, _, .cons _ h2 => by rw [List.length_cons, List.length_cons, DqAll.length h2]
theorem DqAll.get {K : PySem.W.Frag} {H : Hp} : ∀ {vs : List V} {ds : List PyData} {i : Nat} {v : V}, DqAll K H vs ds → vs[i]? = some v → ∃ d, ds[i]? = some d ∧ Dq K H v d
  | _, _, _, _, .nil, e => by simp at e
  | _, _, 0, _, .cons h _, e => by simp at e; subst e; exact ⟨_, rfl, h⟩
  | _, _, i + 1, _, .cons _ t, e => by
    obtain ⟨d, h1, h2⟩ := DqAll.get (i := i) t (by simpa using e)
    exact ⟨d, by simpa using h1, h2⟩
/-- the system's table of modules stands in the written part -/
def SysK (K : PySem.W.Frag) : Prop := ∃ o, K.lookup sysModules = some o ∧ o.cls = .type "dict"
section
variable {X : Cx} {pins : List (Addr × Obj)} {σ : L2.St} {H : Hp} {s : Shared}
theorem sys_ne (I : Inv X pins σ H s) (S : SysK X.K) {a : Addr} {u : HO} (h : H a = some u) : a ≠ sysModules := by
  obtain ⟨o, e, _⟩ := S
  rintro rfl
  rw [(I.bs _ _ (I.ok.mod.kin _ _ e)).2] at h
  cases h
theorem keys_of {kvs : List (Key × V)} {ds : List (PyData × PyData)} {vs : List (Key × Value)} {es : List DictEntry} {prog : Program} {w : World} (h : DqKv X.K H kvs ds) (r : KV kvs vs) (p : Pairs (mixKind prog w) es vs) :
    ReadsAll s.heap (es.map (·.key)) (ds.map (·.1)) [] := by
  induction p generalizing kvs ds with
  | nil =>
    cases r
    cases h
    exact .nil
  | cons hk hv hp ih =>
    cases r with
    | cons r1 r2 =>
      cases h with
      | cons h1 h2 =>
        have q := ih h2 r2
        have e := r1.1
        simp only at e
        rw [← e] at hk
        refine ReadsAll.cons (as := []) ?_ q
        rcases keyIs_shape hk with ⟨i, t, z, ek⟩ | ⟨x, t, z, ek⟩
        · show Reads s.heap (DictEntry.key _) (keyD _) []
          rw [z, ek]
          exact Reads.int i t
        · show Reads s.heap (DictEntry.key _) (keyD _) []
          rw [z, ek]
          exact Reads.str x t
mutual
theorem Dq.reads (I : Inv X pins σ H s) (S : SysK X.K) : ∀ (d : PyData) (v : V) (u : Value), Dq X.K H v d → RelV v u → ∃ as, Reads s.heap u d as ∧ sysModules ∉ as
  | .none, _, _, .non, r => by
    cases r
    exact ⟨_, Reads.none, by simp⟩
  | .bool _, _, _, .bl b, r => by
    cases r
    exact ⟨_, Reads.bool b, by simp⟩
  | .int _, _, _, .int i, r => by
    obtain ⟨t, rfl⟩ := r
    exact ⟨_, Reads.int i t, by simp⟩
  | .str _, _, _, .str x, r => by
    obtain ⟨t, rfl⟩ := r
    exact ⟨_, Reads.str x t, by simp⟩
  | .list ds, _, _, .lst hs ha, r => by
    cases r
    have ne := sys_ne I S hs
    obtain ⟨its, rv, ⟨o, n, ho, hc, _, hd⟩, _⟩ := I.list (SqL.of hs)
    obtain ⟨as, hr, na⟩ := DqAll.reads I S ds _ its ha rv
    exact ⟨_, Reads.list ho hc hd hr, fun z => (List.mem_cons.mp z).elim (fun e => ne e.symm) na⟩
  | .tuple ds, _, _, .tup hs ha, r => by
    cases r
    obtain ⟨its, rv, ⟨o, ho, hc, n, hd⟩, _⟩ := I.tuple (SqT.of hs)
    obtain ⟨as, hr, na⟩ := DqAll.reads I S ds _ its ha rv
    exact ⟨_, Reads.tuple ho hc hd hr, na⟩
  | .dict ds, _, _, .dct hs ha, r => by
    cases r
    have ne := sys_ne I S hs
    obtain ⟨hz, _, vs, rv, o, es, ep, ho, hx, hd, _, hp, _⟩ := (show ObjOk X.prog X.w H s.heap _ (.dK _) from I.hok _ _ hs)
    have hk := keys_of (X := X) (s := s) ha rv hp
    obtain ⟨bs, hr, nb⟩ := DqKv.reads I S ds _ _ _ ha rv hp
    refine ⟨_, Reads.dict ho hx.1 hd hk hr, fun z => ?_⟩
    rcases List.mem_append.mp z with z | z
    · rcases List.mem_cons.mp z with e | z
      · exact ne e.symm
      · cases z
    · exact nb z
theorem DqAll.reads (I : Inv X pins σ H s) (S : SysK X.K) : ∀ (ds : List PyData) (vs : List V) (us : List Value), DqAll X.K H vs ds → Vals vs us → ∃ as, ReadsAll s.heap us ds as ∧ sysModules ∉ as
  | [], _, _, .nil, r => by
    cases r
    exact ⟨_, ReadsAll.nil, by simp⟩
  | d :: ds, _, _, .cons h1 h2, r => by
    cases r with
    | cons r1 r2 =>
      obtain ⟨as, q1, n1⟩ := Dq.reads I S d _ _ h1 r1
      obtain ⟨bs, q2, n2⟩ := DqAll.reads I S ds _ _ h2 r2
      exact ⟨_, ReadsAll.cons q1 q2, fun z => (List.mem_append.mp z).elim n1 n2⟩
theorem DqKv.reads (I : Inv X pins σ H s) (S : SysK X.K) : ∀ (ds : List (PyData × PyData)) (kvs : List (Key × V)) (vs : List (Key × Value)) (es : List DictEntry), DqKv X.K H kvs ds → KV kvs vs → Pairs (mixKind X.prog X.w) es vs →
    ∃ as, ReadsAll s.heap (es.map (·.val)) (ds.map (·.2)) as ∧ sysModules ∉ as
  | [], _, _, _, .nil, r, p => by
    cases r
    cases p
    exact ⟨_, ReadsAll.nil, by simp⟩
  | (_, d) :: ds, _, _, _, .cons h1 h2, r, p => by
    cases r with
    | cons r1 r2 =>
      cases p with
      | cons hk hv hp =>
        have rv := r1.2
        simp only at rv
        rw [← hv] at rv
        obtain ⟨as, q1, n1⟩ := Dq.reads I S d _ _ h1 rv
        obtain ⟨bs, q2, n2⟩ := DqKv.reads I S ds _ _ _ h2 r2 hp
        exact ⟨_, ReadsAll.cons q1 q2, fun z => (List.mem_append.mp z).elim n1 n2⟩
end
end
/-! ### repr -/
/-- data whose text may be made -/
structure Shows (d : PyData) : Prop where
  ok : d.showable = true
  deep : d.depth ≤ 60
  size : d.shown.length ≤ sizeLine
def rRepr (K : PySem.W.Frag) : List V → Hp → VK → Prop := fun xs H Q => ∃ v d, xs = [v] ∧ Dq K H v d ∧ Shows d ∧ Q (.str d.shown) H
theorem call_reprK {X : Cx} {n : Nat} (K : PySem.W.Frag) (hK : X.K = K) (S : SysK X.K) (g : X.A.guards = some []) (room : Room n X.A) : CallR X (.builtin "repr") (rRepr K) := by
  subst hK
  intro pins s σ H xs us Q I r h
  obtain ⟨v, d, rfl, hd, sh, q⟩ := h
  obtain ⟨u, rfl, ru⟩ := vals1 r
  have hu := room.un
  have sz := sh.size
  have ok := sh.ok
  have big : ∀ a, v = .ref a → wpAny (model X.prog X.w) X.A (call (.builtin "repr") [u]) (EP X pins σ Q) X.xe s := by
    rintro a rfl
    cases ru
    obtain ⟨as, rd, na⟩ := Dq.reads I S d _ _ hd rfl
    have dp := sh.deep
    exact repr_of_reads' (h₀ := s.heap) rd ok (fun _ => na) g (by omega) (fun _ _ e => e) (fun h' u tk k => ⟨.str _, H, I.kept k, ⟨_, rfl⟩, q⟩) sz
  cases hd with
  | non =>
    cases ru
    exact P.repr_of_none ⟨.str _, H, I.tok _, ⟨_, rfl⟩, by simpa only [PyData.shown] using q⟩
  | bl b =>
    cases ru
    exact P.repr_of_bool ⟨.str _, H, I.tok _, ⟨_, rfl⟩, by simpa only [PyData.shown] using q⟩
  | int i =>
    obtain ⟨t, rfl⟩ := ru
    simp only [PyData.showable, decide_eq_true_eq] at ok
    exact P.repr_of_int ok ⟨.str _, H, I.tok _, ⟨_, rfl⟩, by simpa only [PyData.shown] using q⟩
  | str x =>
    obtain ⟨t, rfl⟩ := ru
    simp only [PyData.shown] at sz
    exact P.repr_of_str ⟨.str _, H, I.tok _, ⟨_, rfl⟩, by simpa only [PyData.shown] using q⟩ sz
  | lst => exact big _ rfl
  | tup => exact big _ rfl
  | dct => exact big _ rfl
end KX

namespace KX
open PySem PySem.Spec L2 PyProof.Rows
/-- a sign that values may have -/
def AllowC (c : Nat) : Prop := c = 10 ∨ (32 ≤ c ∧ c ≤ 126 ∧ c ≠ 37)
instance (c : Nat) : Decidable (AllowC c) := by unfold AllowC; exact inferInstance
def TxOk (z : Str) : Prop := z.length ≤ 16 ∧ ∀ c ∈ ql z, AllowC c
def txB (n : Nat) (z : Str) : Bool := decide (z.length ≤ n) && (ql z).all fun c => decide (AllowC c)
theorem txB_of {n : Nat} {z : Str} (h : txB n z = true) : z.length ≤ n ∧ ∀ c ∈ ql z, AllowC c := by
  unfold txB at h
  simp only [Bool.and_eq_true, decide_eq_true_eq, List.all_eq_true] at h
  exact ⟨h.1, fun c hc => h.2 c hc⟩
def menuC : List Str := ["", "a", "A b", "<", "&", "&lt;", "\"", "~", "/", "?a=1;", "\\", "\n", "{x}", "}", "</p>", "'", "data", "0", "-7"]
theorem menuC_ok : ∀ z ∈ menuC, z.length ≤ 5 ∧ ∀ c ∈ ql z, AllowC c := by
  have h : menuC.all (txB 5) = true := by decide +kernel
  exact fun z hz => txB_of (List.all_eq_true.mp h z hz)
def signsC : Str := "ab <>&\"~/;=.-_Z9{}\\\n"
theorem signsC_ok : signsC.length = 20 ∧ ∀ c ∈ ql signsC, AllowC c := by
  have h : txB 20 signsC = true := by decide +kernel
  exact ⟨by decide +kernel, (txB_of h).2⟩
theorem menuC_at {j : Int} (h0 : 0 ≤ j) (h1 : j < 19) : ∃ z, z ∈ menuC ∧ atI (menuC.map V.str) j = some (.str z) := by
  have hj : j.toNat < menuC.length := by show j.toNat < 19; omega
  refine ⟨menuC[j.toNat], List.getElem_mem hj, at_of (j := j.toNat) (by omega) ?_⟩
  rw [List.getElem?_map, List.getElem?_eq_getElem hj]
  rfl
theorem signsC_at {j : Int} (h0 : 0 ≤ j) (h1 : j < 20) : ∃ c, AllowC c ∧ atI signsC.cps.toList j = some c := by
  have hl : (ql signsC).length = 20 := by rw [← ql_len]; exact signsC_ok.1
  have hj : j.toNat < (ql signsC).length := by omega
  have ej : j = ((j.toNat : Nat) : Int) := by omega
  refine ⟨(ql signsC)[j.toNat], signsC_ok.2 _ (List.getElem_mem hj), ?_⟩
  have q : atI (ql signsC) ((j.toNat : Nat) : Int) = some (ql signsC)[j.toNat] := atI_nat (List.getElem?_eq_getElem hj)
  rw [← ej] at q
  exact q
/-- a text of one sign -/
def OneC (z : Str) : Prop := ∃ c, ql z = [c] ∧ AllowC c
theorem oneC_len {z : Str} (h : OneC z) : z.length = 1 := by
  obtain ⟨c, e, _⟩ := h
  rw [ql_len, e]
  rfl
theorem oneC_sum : ∀ {zs : List Str}, (∀ z ∈ zs, OneC z) → (zs.map (·.length)).sum = zs.length
  | [], _ => rfl
  | z :: r, h => by
    have q := oneC_sum (zs := r) fun x hx => h x (List.mem_cons_of_mem _ hx)
    rw [List.map_cons, List.sum_cons, q, oneC_len (h z List.mem_cons_self), List.length_cons]
    omega
theorem oneC_flat : ∀ {zs : List Str}, (∀ z ∈ zs, OneC z) → ((zs.map ql).flatten).length = zs.length
  | [], _ => rfl
  | z :: r, h => by
    have q := oneC_flat (zs := r) fun x hx => h x (List.mem_cons_of_mem _ hx)
    obtain ⟨c, e, _⟩ := h z List.mem_cons_self
    rw [List.map_cons, List.flatten_cons, List.length_append, q, e]
    show 1 + r.length = r.length + 1
    omega
theorem oneC_in {zs : List Str} (h : ∀ z ∈ zs, OneC z) : ∀ c ∈ (zs.map ql).flatten, AllowC c := fun c hc => by
  obtain ⟨l, hl, hc⟩ := List.mem_flatten.mp hc
  obtain ⟨z, hz, rfl⟩ := List.mem_map.mp hl
  obtain ⟨d, e, h1⟩ := h z hz
  rw [e] at hc
  rw [List.mem_singleton.mp hc]
  exact h1
section
variable {base : Heap} {P : Program} {w : World} {K : PySem.W.Frag} {mg : Str → Option Value}
abbrev s_chars : Stmt := top 43
abbrev N_chars : List Str := ["_law_pool_here", "_law_menu", "_law_way", "_law_signs", "_law_k"]
abbrev P_chars : List Str := ["_law_pool_here"]
theorem sc_chars : FnScope N_chars P_chars (defScope s_chars) := ⟨rfl, rfl, rfl, by decide +kernel, rfl, by decide +kernel, by decide +kernel⟩
def spChars : Sp := fun vs H Q _ => ∃ p : Addr, vs = [.ref p] ∧ PoolAt H p ∧ ∀ (H' : Hp) (z : Str), Keep p H H' → PoolAt H' p → TxOk z → Q (.str z) H'
theorem ok_chars {f fdr : Addr} {fd fdd : FuncData} (F : Fun K "_law_chars" "_law_chars" s_chars f fd) (T : Bl mg) (D_draw : Def P w K mg base "_law_draw" 1 P_draw spDraw fdr fdd) : FnOk P w K mg base CX0 2 f fd P_chars spChars := by
  refine F.ok sc_chars (fun vs H Q E h => ?_) (fun cdv A outer s H vs Q E hr h => ?_)
  · obtain ⟨p, rfl, _⟩ := h
    rfl
  obtain ⟨p, rfl, hp, q⟩ := h
  refine ⟨_, (pss_cons (ps_set (i := 1) sc_chars.nd rfl (Or.inl rfl) (pe_lst (pa_cons pe_str (pa_cons pe_str (pa_cons pe_str (pa_cons pe_str (pa_cons pe_str (pa_cons pe_str (pa_cons pe_str (pa_cons pe_str (pa_cons pe_str (pa_cons pe_str (pa_cons pe_str (pa_cons pe_str (pa_cons pe_str (pa_cons pe_str pa_nil))))))))))))))))
    (pss_cons (ps_set (i := 1) sc_chars.nd rfl (Or.inl rfl) (pe_op op_cat (pv 1) (pe_lst (pa_cons pe_str (pa_cons pe_str (pa_cons pe_str (pa_cons pe_str (pa_cons pe_str pa_nil))))))))
    (pss_cons (ps_set (i := 2) sc_chars.nd rfl (Or.inl rfl) (pe_call D_draw.ok (hr.mono (by first | decide | omega)) rfl D_draw.g D_draw.kp D_draw.b .nil pass0 (pa_cons (pv 0) (pa_cons pe_int pa_nil))))
    (pss_cons (ps_if (pt_cmpR op_eq (pv 2) pe_int (nomark _))
      (pss_one (ps_ret (pe_ix (ix_listK K rfl) (pv 1) (pe_call D_draw.ok (hr.mono (by first | decide | omega)) rfl D_draw.g D_draw.kp D_draw.b .nil pass0 (pa_cons (pv 0) (pa_cons pe_int pa_nil))) (fun _ _ => rfl))))
      pss_nil)
    (pss_cons (ps_if (pt_cmpR op_eq (pv 2) pe_int (nomark _))
      (pss_one (ps_ret (pe_op op_add_str (pe_ix (ix_listK K rfl) (pv 1) (pe_call D_draw.ok (hr.mono (by first | decide | omega)) rfl D_draw.g D_draw.kp D_draw.b .nil pass0 (pa_cons (pv 0) (pa_cons pe_int pa_nil))) (fun _ _ => rfl)) (pe_ix (ix_listK K rfl) (pv 1) (pe_call D_draw.ok (hr.mono (by first | decide | omega)) rfl D_draw.g D_draw.kp D_draw.b .nil pass0 (pa_cons (pv 0) (pa_cons pe_int pa_nil))) (fun _ _ => rfl)))))
      pss_nil)
    (pss_cons (ps_set (i := 3) sc_chars.nd rfl (Or.inr rfl) pe_str)
    (pss_one (ps_ret (pe_join pe_str (pe_lc (own := [("_law_k", 4)]) (g := (gName 4)) (tt := tYes) rfl sc_chars.nd (pi_range1 rfl T.range (pa_cons (pe_call D_draw.ok (hr.mono (by first | decide | omega)) rfl D_draw.g D_draw.kp D_draw.b .nil pass0 (pa_cons (pv 0) (pa_cons pe_int pa_nil))) pa_nil)) (blkOk_by (own := [("_law_k", 4)]) (N := N_chars) (sc := defScope s_chars) (by decide +kernel)) (fun _ _ _ _ _ => (pg_name (i := 4) sc_chars.nd rfl (Or.inl rfl))) (fun _ _ _ _ _ => pts_nil) (fun _ _ _ _ _ => (pe_ix ix_str (pv 3) (pe_call D_draw.ok (hr.mono (by first | decide | omega)) rfl D_draw.g D_draw.kp D_draw.b .nil pass0 (pa_cons (pv 0) (pa_cons pe_int pa_nil))) (fun _ _ => rfl))))))))))))), ?_⟩
  have small : ∀ n : Nat, n ≤ 1000 → n ≤ sizeLine := fun n h => Nat.le_of_lt (small1000 h)
  refine ⟨(by show 14 ≤ sizeLine; decide), fun l1 hl1 => ?_⟩
  refine ⟨_, rfl, (by show 5 ≤ sizeLine; decide), fun l2 hl2 => ?_⟩
  have n12 : l1 ≠ l2 := ne_of_none upd_same hl2
  refine ⟨l1, l2, _, _, rfl, rfl, Eq.trans (upd_ne n12) upd_same, upd_same, (by show 19 ≤ sizeLine; decide), fun l hl => ?_⟩
  generalize hH3 : upd (upd (upd H l1 _) l2 _) l _ = H3
  have e3 : H3 l = some (.lst (menuC.map V.str)) := by rw [← hH3]; exact upd_same
  have s3 : Same H H3 := by rw [← hH3]; exact (same_new hl1 _).trans ((same_new hl2 _).trans (same_new hl _))
  have k3 : Keep p H H3 := Same.keep s3
  have p3 := hp.same s3
  have nlp : l ≠ p := (hp.same ((same_new hl1 _).trans (same_new hl2 _))).ne hl
  clear hH3 hl hl1 hl2 n12
  refine ⟨_, rfl, p, 3, rfl, p3, by decide, by decide, fun H4 r1 k4 p4 a0 a1 => ?_⟩
  refine ⟨_, rfl, rfl, _, rfl, ?_⟩
  refine ite2 (fun c => ?_) (fun c => ?_)
  · refine ⟨_, rfl, _, rfl, p, 19, rfl, p4, by decide, by decide, fun H5 r2 k5 p5 b0 b1 => ?_⟩
    obtain ⟨z, hz, ez⟩ := menuC_at b0 b1
    obtain ⟨z1, z2⟩ := menuC_ok z hz
    exact ⟨l, _, _, _, rfl, rfl, SqL.of (k5 _ _ nlp (k4 _ _ nlp e3)), ez, q _ _ (k3.trans (k4.trans k5)) p5 ⟨by omega, z2⟩⟩
  refine ⟨_, rfl, rfl, _, rfl, ?_⟩
  refine ite2 (fun c2 => ?_) (fun c2 => ?_)
  · refine ⟨_, rfl, _, rfl, p, 19, rfl, p4, by decide, by decide, fun H5 r2 k5 p5 b0 b1 => ?_⟩
    obtain ⟨z, hz, ez⟩ := menuC_at b0 b1
    obtain ⟨z1, z2⟩ := menuC_ok z hz
    refine ⟨l, _, _, _, rfl, rfl, SqL.of (k5 _ _ nlp (k4 _ _ nlp e3)), ez, ?_⟩
    refine ⟨_, rfl, _, rfl, p, 19, rfl, p5, by decide, by decide, fun H6 r3 k6 p6 d0 d1 => ?_⟩
    obtain ⟨y, hy, ey⟩ := menuC_at d0 d1
    obtain ⟨y1, y2⟩ := menuC_ok y hy
    refine ⟨l, _, _, _, rfl, rfl, SqL.of (k6 _ _ nlp (k5 _ _ nlp (k4 _ _ nlp e3))), ey, _, _, rfl, rfl, small _ (by omega), ?_⟩
    refine q _ _ (k3.trans (k4.trans (k5.trans k6))) p6 ⟨?_, fun c hc => ?_⟩
    · rw [ql_len, ql_app, List.length_append, ← ql_len, ← ql_len]
      omega
    · rw [ql_app] at hc
      rcases List.mem_append.mp hc with hc | hc
      · exact z2 c hc
      · exact y2 c hc
  · refine ⟨⟨_, rfl⟩, _, rfl, p, 9, rfl, p4, by decide, by decide, fun H7 r3 k7 p7 c0 c1 => ⟨r3, rfl, by omega, by omega, fun D hD => ?_⟩⟩
    have nD := p7.ne hD
    refine lc_range (lo := 0) (n := r3.toNat) (fun i H' => Keep p H7 H' ∧ PoolAt H' p ∧ ∃ zs : List Str, H' D = some (.lst (zs.map V.str)) ∧ zs.length = i ∧ ∀ z ∈ zs, OneC z) ⟨Keep.new hD _, p7.upd nD, [], upd_same, rfl, fun z hz => by cases hz⟩ ?_ ?_
    · rintro i H' hi ⟨k8, p8, zs, e8, l8, o8⟩
      refine ⟨rfl, yesT ?_⟩
      refine ⟨_, rfl, _, rfl, p, 20, rfl, p8, by decide, by decide, fun H9 r4 k9 p9 d0 d1 => ?_⟩
      obtain ⟨c, hc, ec⟩ := signsC_at d0 d1
      refine ⟨signsC, _, _, rfl, rfl, (by show 20 ≤ sizeLine; decide), ec, _, k9 _ _ nD e8, ?_, ?_⟩
      · rw [List.length_map]
        exact small1000 (by omega)
      · refine ⟨(k8.trans k9).upd hD, p9.upd nD, zs ++ [⟨#[c]⟩], ?_, ?_, fun z hz => ?_⟩
        · rw [upd_same, List.map_append]
          rfl
        · rw [List.length_append, l8]
          rfl
        · rcases List.mem_append.mp hz with hz | hz
          · exact o8 z hz
          · rw [List.mem_singleton.mp hz]
            exact ⟨c, rfl, hc⟩
    rintro H8 ⟨k8, p8, zs, e8, l8, o8⟩
    refine ⟨"", D, zs, rfl, rfl, .inl (SqL.of e8), ?_, ?_⟩
    · rw [oneC_sum o8]
      show zs.length + zs.length * 0 ≤ 16777216
      omega
    refine q _ _ (k3.trans (k4.trans (k7.trans k8))) p8 ⟨?_, ?_⟩
    · rw [ql_len, ql_join0, oneC_flat o8]
      omega
    · rw [ql_join0]
      exact oneC_in o8
end
end KX

namespace KX
open PySem PySem.Spec L2 PyProof.Rows
/-! ### the forms of types -/
inductive Fm where
  | text | number | flag
  | list (f : Fm)
  | opt (f : Fm)
  | rcd (fs : List (Str × Fm))
  | keyed (k : Str) (num : Bool) (w : Str) (f : Fm)
def kword : Bool → Str
  | true => "number"
  | false => "text"
mutual
def enc : Fm → PyData
  | .text => .tuple [.str "text"]
  | .number => .tuple [.str "number"]
  | .flag => .tuple [.str "flag"]
  | .list f => .tuple [.str "list", enc f]
  | .opt f => .tuple [.str "optional", enc f]
  | .rcd fs => .tuple [.str "record", .tuple (encFs fs)]
  | .keyed k num w f => .tuple [.str "keyed", .tuple [.str "record", .tuple [.tuple [.str k, .tuple [.str (kword num)]], .tuple [.str w, enc f]]], .str k]
def encFs : List (Str × Fm) → List PyData
  | [] => []
  | (w, f) :: r => .tuple [.str w, enc f] :: encFs r
end
def Fm.isOpt : Fm → Bool
  | .opt _ => true
  | _ => false
/-- a form of at most this many levels -/
def okF : Nat → Fm → Prop
  | _, .text => True
  | _, .number => True
  | _, .flag => True
  | 0, _ => False
  | n + 1, .list f => okF n f
  | n + 1, .opt f => okF n f ∧ f.isOpt = false
  | n + 1, .rcd fs => Names (fs.map (·.1)) ∧ sortedS (fs.map (·.1)) = true ∧ 1 ≤ fs.length ∧ fs.length ≤ 3 ∧ ∀ q ∈ fs, okF n q.2
  | n + 1, .keyed k _ w f => Names [k, w] ∧ sortedS [k, w] = true ∧ okF n f
theorem okF_up : ∀ (n : Nat) (f : Fm), okF n f → okF (n + 1) f
  | _, .text, _ => by simp [okF]
  | _, .number, _ => by simp [okF]
  | _, .flag, _ => by simp [okF]
  | 0, .list _, h => by simp [okF] at h
  | 0, .opt _, h => by simp [okF] at h
  | 0, .rcd _, h => by simp [okF] at h
  | 0, .keyed _ _ _ _, h => by simp [okF] at h
  | n + 1, .list f, h => by
    have h' : okF n f := by simpa [okF] using h
    show okF (n + 1 + 1) (.list f)
    simp only [okF]
    exact okF_up n f h'
  | n + 1, .opt f, h => by
    have h' : okF n f ∧ f.isOpt = false := by simpa [okF] using h
    show okF (n + 1 + 1) (.opt f)
    simp only [okF]
    exact ⟨okF_up n f h'.1, h'.2⟩
  | n + 1, .rcd fs, h => by
    have h' : Names (fs.map (·.1)) ∧ sortedS (fs.map (·.1)) = true ∧ 1 ≤ fs.length ∧ fs.length ≤ 3 ∧ ∀ q ∈ fs, okF n q.2 := by simpa only [okF] using h
    show okF (n + 1 + 1) (.rcd fs)
    simp only [okF]
    exact ⟨h'.1, h'.2.1, h'.2.2.1, h'.2.2.2.1, fun q hq => okF_up n q.2 (h'.2.2.2.2 q hq)⟩
  | n + 1, .keyed k num w f, h => by
    have h' : Names [k, w] ∧ sortedS [k, w] = true ∧ okF n f := by simpa only [okF] using h
    show okF (n + 1 + 1) (.keyed k num w f)
    simp only [okF]
    exact ⟨h'.1, h'.2.1, okF_up n f h'.2.2⟩
theorem encFs_snoc (w : Str) (f : Fm) : ∀ fs : List (Str × Fm), encFs (fs ++ [(w, f)]) = encFs fs ++ [.tuple [.str w, enc f]]
  | [] => by simp [encFs]
  | (w', f') :: r => by simp [encFs, encFs_snoc w f r]
theorem Names.perm {ys zs : List Str} (h : Names zs) (p : ys.Perm zs) : Names ys := ⟨p.nodup_iff.mpr h.1, fun z hz => h.2 z (p.mem_iff.mp hz)⟩
/-- the first word of a form -/
def Fm.word : Fm → Str
  | .text => "text"
  | .number => "number"
  | .flag => "flag"
  | .list _ => "list"
  | .opt _ => "optional"
  | .rcd _ => "record"
  | .keyed _ _ _ _ => "keyed"
theorem enc_head {K : PySem.W.Frag} {H : Hp} {v : V} (f : Fm) (h : Dq K H v (enc f)) : ∃ a xs, v = .ref a ∧ H a = some (.tup xs) ∧ xs[0]? = some (.str f.word) := by
  cases f <;> (simp only [enc] at h; cases h with | tup hs ha => cases ha with | cons h1 h2 => cases h1; exact ⟨_, _, rfl, hs, rfl⟩)
section
variable {base : Heap} {P : Program} {w : World} {K : PySem.W.Frag} {mg : Str → Option Value}
abbrev s_form : Stmt := top 44
abbrev N_form : List Str := ["_law_pool_here", "_law_deep", "_law_way", "_law_words_here", "_law_fields", "_law_key", "_law_inner", "_law_word"]
abbrev P_form : List Str := ["_law_pool_here", "_law_deep"]
theorem sc_form : FnScope N_form P_form (defScope s_form) := ⟨rfl, rfl, rfl, by decide +kernel, rfl, by decide +kernel, by decide +kernel⟩
/-- with that many levels less one (with none: it is not asked) -/
def spFormL (K : PySem.W.Frag) : Nat → Sp
  | 0 => fun _ _ _ _ => False
  | n + 1 => fun vs H Q _ => ∃ p : Addr, vs = [.ref p, .int (n : Int)] ∧ PoolAt H p ∧
    ∀ (H' : Hp) (v : V) (f : Fm), Keep p H H' → PoolAt H' p → Dq K (sub H H') v (enc f) → okF n f → Q v H'
theorem ok_formS {f fdr fwo : Addr} {fd fdd fdw : FuncData} {n : Nat} (F : Fun K "_law_form" "_law_form" s_form f fd) (T : Bl mg) (D_draw : Def P w K mg base "_law_draw" 1 P_draw spDraw fdr fdd) (D_words : Def P w K mg base "_law_words" 2 P_words spWords fwo fdw)
    (D_form : Def P w K mg base "_law_form" (n + 2) P_form (spFormL K n) f fd) : FnOk P w K mg base CX0 (n + 3) f fd P_form (spFormL K (n + 1)) := by
  refine F.ok sc_form (fun vs H Q E h => ?_) (fun cdv A outer s H vs Q E hr h => ?_)
  · obtain ⟨p, rfl, _⟩ := h
    rfl
  obtain ⟨p, rfl, hp, q⟩ := h
  refine ⟨_, (pss_cons (ps_set (i := 2) sc_form.nd rfl (Or.inl rfl) (pe_call D_draw.ok (hr.mono (by first | decide | omega)) rfl D_draw.g D_draw.kp D_draw.b .nil pass0 (pa_cons (pv 0) (pa_cons pe_int pa_nil))))
    (pss_cons (ps_if (PW.pt (pw_or (pt_cmpR op_eq (pv 1) pe_int (nomark _)) (pw_or1 (pt_cmpR op_lt (pv 2) pe_int (nomark _)))))
      (pss_one (ps_ret (pe_ix (ix_listK K rfl) (pe_lst (pa_cons (pe_tup (pa_cons pe_str pa_nil)) (pa_cons (pe_tup (pa_cons pe_str pa_nil)) (pa_cons (pe_tup (pa_cons pe_str pa_nil)) (pa_cons (pe_tup (pa_cons pe_str pa_nil)) pa_nil))))) (pe_op op_mod (pv 2) pe_int) (fun _ _ => rfl))))
      pss_nil)
    (pss_cons (ps_if (pt_cmpR op_eq (pv 2) pe_int (nomark _))
      (pss_one (ps_ret (pe_tup (pa_cons pe_str (pa_cons (pe_call D_form.ok (hr.mono (by first | decide | omega)) rfl D_form.g D_form.kp D_form.b .nil pass0 (pa_cons (pv 0) (pa_cons (pe_op op_sub (pv 1) pe_int) pa_nil))) pa_nil)))))
      pss_nil)
    (pss_cons (ps_if (pt_cmpR (op_inK K rfl) (pv 2) (pe_lst (pa_cons pe_int (pa_cons pe_int pa_nil))) (by with_unfolding_all rfl))
      (pss_cons (ps_set (i := 3) sc_form.nd rfl (Or.inl rfl) (pe_callB cr_sortedS (by rfl) T.sorted (by decide +kernel) (pa_cons (pe_call D_words.ok (hr.mono (by first | decide | omega)) rfl D_words.g D_words.kp D_words.b .nil pass0 (pa_cons (pv 0) (pa_cons (pe_op op_add pe_int (pe_call D_draw.ok (hr.mono (by first | decide | omega)) rfl D_draw.g D_draw.kp D_draw.b .nil pass0 (pa_cons (pv 0) (pa_cons pe_int pa_nil)))) pa_nil))) pa_nil)))
    (pss_cons (ps_setLc (i := 4) (own := [("_law_word", 7)]) (g := (gName 7)) (tt := tYes) rfl sc_form.nd rfl rfl (sw_true rfl rfl rfl (by decide +kernel)) (pi_list (pv 3)) (blkOk_by (own := [("_law_word", 7)]) (N := N_form) (sc := defScope s_form) (by decide +kernel)) (fun _ _ _ _ _ => (pg_name (i := 7) sc_form.nd rfl (Or.inl rfl))) (fun _ _ _ _ _ => pts_nil) (fun _ _ _ _ _ => (pe_tup (pa_cons (pv 7) (pa_cons (pe_call D_form.ok (hr.mono (by first | decide | omega)) rfl D_form.g D_form.kp D_form.b .nil pass0 (pa_cons (pv 0) (pa_cons (pe_op op_sub (pv 1) pe_int) pa_nil))) pa_nil)))))
    (pss_one (ps_ret (pe_tup (pa_cons pe_str (pa_cons (pe_callTy call_tuple_of (by rfl) T.tuple (by decide +kernel) (pa_cons (pv 4) pa_nil)) pa_nil)))))))
      pss_nil)
    (pss_cons (ps_if (pt_cmpR op_eq (pv 2) pe_int (nomark _))
      (pss_cons (ps_set (i := 3) sc_form.nd rfl (Or.inl rfl) (pe_callB cr_sortedS (by rfl) T.sorted (by decide +kernel) (pa_cons (pe_call D_words.ok (hr.mono (by first | decide | omega)) rfl D_words.g D_words.kp D_words.b .nil pass0 (pa_cons (pv 0) (pa_cons pe_int pa_nil))) pa_nil)))
    (pss_cons (ps_set (i := 5) sc_form.nd rfl (Or.inl rfl) (pe_ix (ix_listK K rfl) (pe_lst (pa_cons pe_str (pa_cons pe_str pa_nil))) (pe_call D_draw.ok (hr.mono (by first | decide | omega)) rfl D_draw.g D_draw.kp D_draw.b .nil pass0 (pa_cons (pv 0) (pa_cons pe_int pa_nil))) (fun _ _ => rfl)))
    (pss_one (ps_ret (pe_tup (pa_cons pe_str (pa_cons (pe_tup (pa_cons pe_str (pa_cons (pe_tup (pa_cons (pe_tup (pa_cons (pe_ix (ix_listK K rfl) (pv 3) pe_int (fun _ _ => rfl)) (pa_cons (pe_tup (pa_cons (pv 5) pa_nil)) pa_nil))) (pa_cons (pe_tup (pa_cons (pe_ix (ix_listK K rfl) (pv 3) pe_int (fun _ _ => rfl)) (pa_cons (pe_call D_form.ok (hr.mono (by first | decide | omega)) rfl D_form.g D_form.kp D_form.b .nil pass0 (pa_cons (pv 0) (pa_cons (pe_op op_sub (pv 1) pe_int) pa_nil))) pa_nil))) pa_nil))) pa_nil))) (pa_cons (pe_ix (ix_listK K rfl) (pv 3) pe_int (fun _ _ => rfl)) pa_nil))))))))
      pss_nil)
    (pss_cons (ps_set (i := 6) sc_form.nd rfl (Or.inl rfl) (pe_call D_form.ok (hr.mono (by first | decide | omega)) rfl D_form.g D_form.kp D_form.b .nil pass0 (pa_cons (pv 0) (pa_cons (pe_op op_sub (pv 1) pe_int) pa_nil))))
    (pss_one (ps_ret (pe_ifExp (pt_cmpR op_eq (pe_ix (ix_tupK K rfl) (pv 6) pe_int (fun _ _ => rfl)) pe_str (nomark _)) (pv 6) (pe_tup (pa_cons pe_str (pa_cons (pv 6) pa_nil)))))))))))), ?_⟩
  have small : ∀ n : Nat, n ≤ 1000 → n ≤ sizeLine := fun n h => Nat.le_of_lt (small1000 h)
  refine ⟨_, rfl, p, 10, rfl, hp, by decide, by decide, fun H1 r k1 p1 a0 a1 => ?_⟩
  have d1 : Dom H H1 := k1.dom p1
  have hasP := hp.has
  -- the forms without parts
  have leaf : ∀ (t1 t2 t3 t4 l : Addr), H1 t1 = none → (upd H1 t1 (.tup [.str "text"])) t2 = none → (upd (upd H1 t1 (.tup [.str "text"])) t2 (.tup [.str "text"])) t3 = none →
      (upd (upd (upd H1 t1 (.tup [.str "text"])) t2 (.tup [.str "text"])) t3 (.tup [.str "number"])) t4 = none →
      (upd (upd (upd (upd H1 t1 (.tup [.str "text"])) t2 (.tup [.str "text"])) t3 (.tup [.str "number"])) t4 (.tup [.str "flag"])) l = none →
      ∀ H2 : Hp, H2 = upd (upd (upd (upd (upd H1 t1 (.tup [.str "text"])) t2 (.tup [.str "text"])) t3 (.tup [.str "number"])) t4 (.tup [.str "flag"])) l (.lst [.ref t1, .ref t2, .ref t3, .ref t4]) →
      ∃ x : V, atI [V.ref t1, .ref t2, .ref t3, .ref t4] (r % 4) = some x ∧ Q x H2 := by
    intro t1 t2 t3 t4 l h1 h2 h3 h4 hl H2 e2
    have n1 : t1 ≠ t2 := ne_of_none upd_same h2
    have g1 : H t1 = none := d1 _ h1
    have g2 : H t2 = none := (d1.trans dom_upd) _ h2
    have g3 : H t3 = none := (d1.trans (dom_upd.trans dom_upd)) _ h3
    have g4 : H t4 = none := (d1.trans (dom_upd.trans (dom_upd.trans dom_upd))) _ h4
    have s1 := same_new h1 (.tup [.str "text"])
    have s2 := same_new h2 (.tup [.str "text"])
    have s3 := same_new h3 (.tup [.str "number"])
    have s4 := same_new h4 (.tup [.str "flag"])
    have s5 := same_new hl (.lst [.ref t1, .ref t2, .ref t3, .ref t4])
    have kk : Same H1 H2 := by rw [e2]; exact s1.trans (s2.trans (s3.trans (s4.trans s5)))
    have f1 : H2 t1 = some (.tup [.str "text"]) := by rw [e2]; exact (s2.trans (s3.trans (s4.trans s5))) _ _ upd_same
    have f2 : H2 t2 = some (.tup [.str "text"]) := by rw [e2]; exact (s3.trans (s4.trans s5)) _ _ upd_same
    have f3 : H2 t3 = some (.tup [.str "number"]) := by rw [e2]; exact (s4.trans s5) _ _ upd_same
    have f4 : H2 t4 = some (.tup [.str "flag"]) := by rw [e2]; exact s5 _ _ upd_same
    have f5 : H2 l = some (.lst [.ref t1, .ref t2, .ref t3, .ref t4]) := by rw [e2]; exact upd_same
    have fin : ∀ (t : Addr) (z : Str) (f : Fm), H t = none → H2 t = some (.tup [.str z]) → enc f = .tuple [.str z] → okF n f → Q (.ref t) H2 := fun t z f gt ft ef okf =>
      q H2 _ f (k1.trans (Same.keep kk)) (p1.same kk) (by rw [ef]; exact .tup (by rw [sub_new gt]; exact ft) (.cons (.str z) .nil)) okf
    rcases (show r % 4 = 0 ∨ r % 4 = 1 ∨ r % 4 = 2 ∨ r % 4 = 3 by omega) with e | e | e | e
    · exact ⟨.ref t1, by rw [e]; rfl, fin t1 "text" .text g1 f1 (by simp [enc]) (by simp [okF])⟩
    · exact ⟨.ref t2, by rw [e]; rfl, fin t2 "text" .text g2 f2 (by simp [enc]) (by simp [okF])⟩
    · exact ⟨.ref t3, by rw [e]; rfl, fin t3 "number" .number g3 f3 (by simp [enc]) (by simp [okF])⟩
    · exact ⟨.ref t4, by rw [e]; rfl, fin t4 "flag" .flag g4 f4 (by simp [enc]) (by simp [okF])⟩
  refine ⟨_, rfl, rfl, _, rfl, ?_⟩
  refine ite2 (fun c => iteT ?_) (fun c => ?_)
  · refine ⟨(by show 1 ≤ sizeLine; decide), fun t1 h1 => ⟨(by show 1 ≤ sizeLine; decide), fun t2 h2 => ⟨(by show 1 ≤ sizeLine; decide), fun t3 h3 => ⟨(by show 1 ≤ sizeLine; decide), fun t4 h4 => ⟨(by show 4 ≤ sizeLine; decide), fun l hl => ?_⟩⟩⟩⟩⟩
    obtain ⟨x, ex, qx⟩ := leaf t1 t2 t3 t4 l h1 h2 h3 h4 hl _ rfl
    exact ⟨_, rfl, _, _, rfl, rfl, (by show (0 : Int) < 4; decide), l, _, _, x, rfl, rfl, SqL.of upd_same, ex, qx⟩
  refine ⟨_, rfl, _, _, rfl, rfl, _, rfl, ?_⟩
  refine ite2 (fun c2 => ?_) (fun c2 => ?_)
  · refine ⟨(by show 1 ≤ sizeLine; decide), fun t1 h1 => ⟨(by show 1 ≤ sizeLine; decide), fun t2 h2 => ⟨(by show 1 ≤ sizeLine; decide), fun t3 h3 => ⟨(by show 1 ≤ sizeLine; decide), fun t4 h4 => ⟨(by show 4 ≤ sizeLine; decide), fun l hl => ?_⟩⟩⟩⟩⟩
    obtain ⟨x, ex, qx⟩ := leaf t1 t2 t3 t4 l h1 h2 h3 h4 hl _ rfl
    exact ⟨_, rfl, _, _, rfl, rfl, (by show (0 : Int) < 4; decide), l, _, _, x, rfl, rfl, SqL.of upd_same, ex, qx⟩
  clear leaf
  -- from here on there is a level left
  obtain ⟨n', rfl⟩ : ∃ n', n = n' + 1 := by
    cases n with
    | zero => exact absurd (show decide (V.int ((0 : Nat) : Int) = V.int 0) = true by decide) c
    | succ n' => exact ⟨n', rfl⟩
  have hn : ((n' + 1 : Nat) : Int) - 1 = (n' : Int) := by omega
  have arg : ([V.ref p, V.int (((n' + 1 : Nat) : Int) - 1)] : List V) ++ [] = [.ref p, .int (n' : Int)] := by rw [hn]; rfl
  refine ⟨_, rfl, rfl, _, rfl, ?_⟩
  refine ite2 (fun c3 => ?_) (fun c3 => ?_)
  · refine ⟨_, rfl, _, rfl, _, _, rfl, rfl, p, arg, p1, fun H2 v f k2 p2 dv okf => ⟨(by show 2 ≤ sizeLine; decide), fun t ht => ?_⟩⟩
    have gt : H t = none := d1 _ (k2.dom p2 _ ht)
    refine q _ _ (.list f) (k1.trans (k2.trans (Keep.new ht _))) (p2.same (same_new ht _)) ?_ (by simpa only [okF] using okf)
    simp only [enc]
    refine .tup (by rw [sub_new gt]; exact upd_same) (.cons (.str _) (.cons ?_ .nil))
    exact Dq.same ((sub_left d1).trans (sub_fresh ht)) _ _ dv
  refine ⟨_, rfl, (by show 2 ≤ sizeLine; decide), fun l56 hl56 => ⟨l56, _, rfl, .inl (SqL.of upd_same), rfl, rfl, _, rfl, ?_⟩⟩
  generalize hH2 : upd H1 l56 _ = H2
  have s2 : Same H1 H2 := by rw [← hH2]; exact same_new hl56 _
  have k2 : Keep p H H2 := k1.trans (Same.keep s2)
  have p2 := p1.same s2
  have d2 : Dom H H2 := d1.trans (Same.dom s2)
  clear hH2 hl56 s2
  refine ite2 (fun c4 => ?_) (fun c4 => ?_)
  · -- a record
    refine ⟨_, rfl, _, rfl, p, 3, rfl, p2, by decide, by decide, fun H3 r3 k3 p3 b0 b1 => ⟨_, _, rfl, rfl, p, 1 + r3, rfl, p3, by omega, by omega, fun H4 lw zs k4 p4 n4 e4 z4 nm4 => ?_⟩⟩
    refine ⟨lw, zs, rfl, SqL.of e4, by omega, fun ys l5 perm srt n5 => ?_⟩
    have ylen : ys.length = zs.length := perm.length_eq
    have ynm : Names ys := nm4.perm perm
    generalize hH5 : upd H4 l5 _ = H5
    have s5 : Same H4 H5 := by rw [← hH5]; exact same_new n5 _
    have e5 : H5 l5 = some (.lst (ys.map V.str)) := by rw [← hH5]; exact upd_same
    have k5 : Keep p H H5 := k2.trans (k3.trans (k4.trans (Same.keep s5)))
    have p5 := p4.same s5
    have n5p : l5 ≠ p := p4.ne n5
    clear hH5 s5 n5 e4 n4 k3 p3 k4 p4
    refine ⟨_, rfl, l5, rfl, ⟨_, SqL.of e5⟩, fun D hD => ?_⟩
    have nD := p5.ne hD
    obtain ⟨H6, hH6⟩ : ∃ H6, H6 = upd H5 D (.lst []) := ⟨_, rfl⟩
    have s6 : Same H5 H6 := by rw [hH6]; exact same_new hD _
    have e6 : H6 D = some (.lst []) := by rw [hH6]; exact upd_same
    have p6 := p5.same s6
    have l6 : H6 l5 = some (.lst (ys.map V.str)) := s6 _ _ e5
    have nl : l5 ≠ D := ne_of_none e5 hD
    have has6 : ∃ u, H6 p = some u := p6.has
    have hasD : ∃ u, H6 D = some u := ⟨_, e6⟩
    have d56 : Dom H H6 := (k5.trans (Same.keep s6)).dom p6
    refine lc_list (K := K) (a := l5) (xs := ys.map V.str) (fun i H' => Keep p H5 H' ∧ PoolAt H' p ∧ Dom H6 H' ∧ ∃ (vs : List V) (fs : List (Str × Fm)), H' D = some (.lst vs) ∧ DqAll K (sub H6 H') vs (encFs fs) ∧ fs.map (·.1) = ys.take i ∧ vs.length = i ∧ ∀ g ∈ fs, okF n' g.2)
      (by rw [← hH6]; exact ⟨Same.keep s6, p6, fun _ z => z, [], [], e6, .nil, rfl, rfl, fun _ z => by cases z⟩) (fun i H' _ ⟨k, _⟩ => SqL.of (k _ _ n5p e5)) ?_ ?_
    · rintro i x H' hx ⟨k7, p7, d67, vs, fs, e7, dv7, m7, z7, o7⟩
      obtain ⟨hi, rfl⟩ : ∃ hi : i < ys.length, x = V.str ys[i] := by
        have hlt := (List.getElem?_eq_some_iff.mp hx).1
        rw [List.length_map] at hlt
        rw [List.getElem?_map, List.getElem?_eq_getElem hlt] at hx
        exact ⟨hlt, (Option.some.inj hx).symm⟩
      refine ⟨rfl, yesT ?_⟩
      refine ⟨_, rfl, _, rfl, _, rfl, _, _, rfl, rfl, p, arg, p7, fun H8 v f k8 p8 dv okf => ⟨(by show 2 ≤ sizeLine; decide), fun t ht => ?_⟩⟩
      have e8 : H8 D = some (.lst vs) := k8 _ _ nD e7
      have ntD : t ≠ D := (ne_of_none e8 ht).symm
      have d68 : Dom H6 H8 := d67.trans (k8.dom p8)
      have g6 : H6 t = none := d68 _ ht
      refine ⟨vs, by rw [upd_ne ntD.symm]; exact e8, by rw [z7]; exact small1000 (by omega), ?_⟩
      refine ⟨(k7.trans (k8.trans (Keep.new ht _))).upd hD, (p8.same (same_new ht _)).upd nD, d68.trans (dom_upd.trans dom_upd), vs ++ [.ref t], fs ++ [(ys[i], f)], upd_same, ?_, ?_, ?_, ?_⟩
      · rw [encFs_snoc]
        have carry : Same (sub H6 H8) (sub H6 (upd (upd H8 t (.tup [.str ys[i], v])) D (.lst (vs ++ [.ref t])))) := (sub_fresh ht).trans (sub_upd hasD)
        refine DqAll.snoc ?_ (DqAll.same ((sub_keep k8 has6).trans carry) _ _ dv7)
        refine .tup ?_ (.cons (.str _) (.cons (Dq.same ((sub_left d67).trans carry) _ _ dv) .nil))
        rw [sub_new g6, upd_ne ntD]
        exact upd_same
      · rw [List.map_append, m7, List.take_succ, List.getElem?_eq_getElem hi]
        rfl
      · rw [List.length_append, z7]
        rfl
      · intro g hg
        rcases List.mem_append.mp hg with hg | hg
        · exact o7 g hg
        · rw [List.mem_singleton.mp hg]
          exact okf
    rintro H7 ⟨k7, p7, d67, vs, fs, e7, dv7, m7, z7, o7⟩
    rw [List.length_map] at m7 z7
    rw [List.take_length] at m7
    refine ⟨_, rfl, D, vs, rfl, .inl ⟨SqL.of e7, fun l8 hl8 => ⟨(by show 2 ≤ sizeLine; decide), fun t ht => ?_⟩⟩⟩
    have g8 : H l8 = none := d56 _ (d67 _ hl8)
    have gt : H t = none := (d56.trans d67) _ (dom_upd _ ht)
    have n8 : l8 ≠ t := ne_of_none upd_same ht
    refine q _ _ (.rcd fs) (k5.trans (k7.trans ((Keep.new hl8 _).trans (Keep.new ht _)))) (p7.same ((same_new hl8 _).trans (same_new ht _))) ?_ ?_
    · simp only [enc]
      refine .tup (by rw [sub_new gt]; exact upd_same) (.cons (.str _) (.cons (.tup (by rw [sub_new g8, upd_ne n8]; exact upd_same) ?_) .nil))
      exact DqAll.same ((sub_left d56).trans ((sub_fresh hl8).trans (sub_fresh ht))) _ _ dv7
    · have fl : fs.length = ys.length := by rw [← m7, List.length_map]
      simp only [okF]
      rw [m7]
      exact ⟨ynm, srt, by omega, by omega, o7⟩
  refine ⟨_, rfl, rfl, _, rfl, ?_⟩
  refine ite2 (fun c5 => ?_) (fun c5 => ?_)
  · -- a list by a key
    refine ⟨_, rfl, p, 2, rfl, p2, by decide, by decide, fun H4 lw zs k4 p4 n4 e4 z4 nm4 => ?_⟩
    refine ⟨lw, zs, rfl, SqL.of e4, by omega, fun ys l5 perm srt n5 => ?_⟩
    have ylen : ys.length = zs.length := perm.length_eq
    have ynm : Names ys := nm4.perm perm
    obtain ⟨y0, y1, rfl⟩ : ∃ y0 y1, ys = [y0, y1] := by
      match ys, (show ys.length = 2 by omega) with
      | [a, b], _ => exact ⟨a, b, rfl⟩
    generalize hH5 : upd H4 l5 _ = H5
    have s5 : Same H4 H5 := by rw [← hH5]; exact same_new n5 _
    have e5 : H5 l5 = some (.lst [.str y0, .str y1]) := by rw [← hH5]; exact upd_same
    have k5 : Keep p H H5 := k2.trans (k4.trans (Same.keep s5))
    have p5 := p4.same s5
    have n5p : l5 ≠ p := p4.ne n5
    clear hH5 s5 n5 e4 n4 k4 p4
    refine ⟨(by show 2 ≤ sizeLine; decide), fun lk hlk => ?_⟩
    have p6 := p5.same (same_new hlk (.lst [.str "text", .str "number"]))
    refine ⟨_, rfl, p, 2, rfl, p6, by decide, by decide, fun H7 r2 k7 p7 b0 b1 => ?_⟩
    obtain ⟨num, enum⟩ : ∃ num : Bool, atI [V.str "text", .str "number"] r2 = some (.str (kword num)) := by
      rcases (show r2 = 0 ∨ r2 = 1 by omega) with e | e
      · exact ⟨false, by rw [e]; rfl⟩
      · exact ⟨true, by rw [e]; rfl⟩
    refine ⟨lk, _, r2, _, rfl, rfl, SqL.of (k7 _ _ (p5.ne hlk) upd_same), enum, ?_⟩
    have e7 : H7 l5 = some (.lst [.str y0, .str y1]) := k7 _ _ n5p (same_new hlk _ _ _ e5)
    have kH7 : Keep p H H7 := k5.trans ((Keep.new hlk _).trans k7)
    have dH7 : Dom H H7 := kH7.dom p7
    clear k7 p6 hlk e5 k5 p5
    refine ⟨_, rfl, l5, _, 0, _, rfl, rfl, SqL.of e7, rfl, _, rfl, (by show 1 ≤ sizeLine; decide), fun t1 h1 => ⟨(by show 2 ≤ sizeLine; decide), fun t2 h2 => ?_⟩⟩
    obtain ⟨H8, hH8⟩ : ∃ H8, H8 = upd (upd H7 t1 (.tup [.str (kword num)])) t2 (.tup [.str y0, .ref t1]) := ⟨_, rfl⟩
    rw [← hH8]
    have n12 : t1 ≠ t2 := ne_of_none upd_same h2
    have s8 : Same H7 H8 := by rw [hH8]; exact (same_new h1 _).trans (same_new h2 _)
    have f1 : H8 t1 = some (.tup [.str (kword num)]) := by rw [hH8, upd_ne n12]; exact upd_same
    have f2 : H8 t2 = some (.tup [.str y0, .ref t1]) := by rw [hH8]; exact upd_same
    have g1 : H t1 = none := dH7 _ h1
    have g2 : H t2 = none := dH7 _ (dom_upd _ h2)
    have e8 := s8 _ _ e7
    have p8 := p7.same s8
    have d8 : Dom H H8 := dH7.trans (Same.dom s8)
    have k8 : Keep p H H8 := kH7.trans (Same.keep s8)
    have m1 : t1 ≠ p := p7.ne h1
    have m2 : t2 ≠ p := (p7.same (same_new h1 (.tup [.str (kword num)]))).ne h2
    clear hH8 h1 h2 s8 kH7 dH7
    refine ⟨_, rfl, l5, _, 1, _, rfl, rfl, SqL.of e8, rfl, _, rfl, _, rfl, _, _, rfl, rfl, p, arg, p8, fun H9 v f k9 p9 dv okf => ?_⟩
    have q1 := k9 _ _ m1 f1
    have q2 := k9 _ _ m2 f2
    have e9 := k9 _ _ n5p e8
    have d9 : Dom H H9 := d8.trans (k9.dom p9)
    refine ⟨(by show 2 ≤ sizeLine; decide), fun t3 h3 => ⟨(by show 2 ≤ sizeLine; decide), fun t4 h4 => ⟨(by show 2 ≤ sizeLine; decide), fun t5 h5 => ?_⟩⟩⟩
    have s3 := same_new h3 (.tup [.str y1, v])
    have s4 := same_new h4 (.tup [.ref t2, .ref t3])
    have s5 := same_new h5 (.tup [.str "record", .ref t4])
    refine ⟨_, rfl, l5, _, 0, _, rfl, rfl, SqL.of ((s3.trans (s4.trans s5)) _ _ e9), rfl, (by show 3 ≤ sizeLine; decide), fun t6 h6 => ?_⟩
    have s6 := same_new h6 (.tup [.str "keyed", .ref t5, .str y0])
    have g3 : H t3 = none := d9 _ h3
    have g4 : H t4 = none := (d9.trans dom_upd) _ h4
    have g5 : H t5 = none := (d9.trans (dom_upd.trans dom_upd)) _ h5
    have g6 : H t6 = none := (d9.trans (dom_upd.trans (dom_upd.trans dom_upd))) _ h6
    have all := s3.trans (s4.trans (s5.trans s6))
    refine q _ _ (.keyed y0 num y1 f) (k8.trans (k9.trans (Same.keep all))) (p9.same all) ?_ ?_
    · simp only [enc]
      refine .tup (by rw [sub_new g6]; exact upd_same) (.cons (.str _) (.cons ?_ (.cons (.str _) .nil)))
      refine .tup (by rw [sub_new g5]; exact s6 _ _ upd_same) (.cons (.str _) (.cons ?_ .nil))
      refine .tup (by rw [sub_new g4]; exact (s5.trans s6) _ _ upd_same) (.cons ?_ (.cons ?_ .nil))
      · refine .tup (by rw [sub_new g2]; exact all _ _ q2) (.cons (.str _) (.cons ?_ .nil))
        exact .tup (by rw [sub_new g1]; exact all _ _ q1) (.cons (.str _) .nil)
      · refine .tup (by rw [sub_new g3]; exact (s4.trans (s5.trans s6)) _ _ upd_same) (.cons (.str _) (.cons ?_ .nil))
        refine Dq.same ((sub_left d8).trans ?_) _ _ dv
        exact (sub_fresh h3).trans ((sub_fresh h4).trans ((sub_fresh h5).trans (sub_fresh h6)))
    · simp only [okF]
      exact ⟨ynm, srt, okf⟩
  · refine ⟨_, rfl, _, rfl, _, _, rfl, rfl, p, arg, p2, fun H3 v f k3 p3 dv okf => ?_⟩
    have d3 : Dom H2 H3 := k3.dom p3
    obtain ⟨a, xs, rfl, ea, e0⟩ := enc_head f (Dq.same (sub_same _ _) _ _ dv)
    refine ⟨_, rfl, a, xs, 0, .str f.word, rfl, rfl, SqT.of ea, at_of (j := 0) rfl e0, rfl, _, rfl, ?_⟩
    refine ite2 (fun c6 => ?_) (fun c6 => ?_)
    · exact ⟨_, rfl, q _ _ f (k2.trans k3) p3 (Dq.same (sub_left d2) _ _ dv) (okF_up _ _ okf)⟩
    · refine ⟨_, rfl, (by show 2 ≤ sizeLine; decide), fun t ht => ?_⟩
      have gt : H t = none := (d2.trans d3) _ ht
      refine q _ _ (.opt f) (k2.trans (k3.trans (Keep.new ht _))) (p3.same (same_new ht _)) ?_ ?_
      · simp only [enc]
        refine .tup (by rw [sub_new gt]; exact upd_same) (.cons (.str _) (.cons ?_ .nil))
        exact Dq.same ((sub_left d2).trans (sub_fresh ht)) _ _ dv
      · simp only [okF]
        refine ⟨okf, ?_⟩
        cases f with
        | opt g => exact absurd (show decide (V.str (Fm.opt g).word = V.str "optional") = true from decide_eq_true rfl) c6
        | _ => rfl
theorem ok_form {f fdr fwo : Addr} {fd fdd fdw : FuncData} (F : Fun K "_law_form" "_law_form" s_form f fd) (T : Bl mg) (g : mg "_law_form" = some (.ref f)) (b : Binds K fd P_form []) (D_draw : Def P w K mg base "_law_draw" 1 P_draw spDraw fdr fdd) (D_words : Def P w K mg base "_law_words" 2 P_words spWords fwo fdw) :
    ∀ n : Nat, FnOk P w K mg base CX0 (n + 2) f fd P_form (spFormL K n)
  | 0 => ⟨fun _ _ _ _ h => h.elim, fun _ _ _ _ _ _ _ _ _ _ _ _ _ h => h.elim⟩
  | n + 1 => ok_formS F T D_draw D_words ⟨g, F.kp, b, ok_form F T g b D_draw D_words n⟩
end
end KX

namespace KX
open PySem PySem.Spec L2 PyProof.Rows
/-! ### things of a form -/
def keyOf (num : Bool) (i : Nat) (d : PyData) : Prop := if num = true then ∃ j : Int, d = .int j ∧ 3 * (i : Int) ≤ j ∧ j < 3 * (i : Int) + 3 else d = .str (repS "k" (i + 1))
inductive Fit : Fm → PyData → Prop
  | text {z : Str} : TxOk z → Fit .text (.str z)
  | number {i : Int} : i.natAbs ≤ 10 ^ 20 → Fit .number (.int i)
  | flag (b : Bool) : Fit .flag (.bool b)
  | optN (f : Fm) : Fit (.opt f) .none
  | opt {f : Fm} {d : PyData} : Fit f d → Fit (.opt f) d
  | list {f : Fm} {ds : List PyData} : ds.length ≤ 3 → (∀ x ∈ ds, Fit f x) → Fit (.list f) (.tuple ds)
  | rcd {fs : List (Str × Fm)} {kvs : List (PyData × PyData)} : kvs.map (·.1) = fs.map (fun q => PyData.str q.1) → (∀ (i : Nat) (q : Str × Fm) (kv : PyData × PyData), fs[i]? = some q → kvs[i]? = some kv → Fit q.2 kv.2) → Fit (.rcd fs) (.dict kvs)
  | keyed {k : Str} {num : Bool} {w : Str} {f : Fm} {rows : List (PyData × PyData)} : rows.length ≤ 3 → (∀ (i : Nat) (r : PyData × PyData), rows[i]? = some r → keyOf num i r.1) → (∀ r ∈ rows, Fit f r.2) →
      Fit (.keyed k num w f) (.tuple (rows.map fun r => .dict [(.str k, r.1), (.str w, r.2)]))
/-- a form, a keyed list counted as two levels -/
def okD : Nat → Fm → Prop
  | _, .text => True
  | _, .number => True
  | _, .flag => True
  | n + 1, .list f => okD n f
  | n + 1, .opt f => okD n f
  | n + 1, .rcd fs => (fs.map (·.1)).Nodup ∧ fs.length ≤ 3 ∧ ∀ q ∈ fs, okD n q.2
  | n + 2, .keyed k _ w f => k ≠ w ∧ okD n f
  | _, _ => False
theorem okD_up : ∀ (n : Nat) (f : Fm), okD n f → okD (n + 1) f
  | _, .text, _ => by simp [okD]
  | _, .number, _ => by simp [okD]
  | _, .flag, _ => by simp [okD]
  | 0, .list _, h => by simp [okD] at h
  | 0, .opt _, h => by simp [okD] at h
  | 0, .rcd _, h => by simp [okD] at h
  | 0, .keyed _ _ _ _, h => by simp [okD] at h
  | 1, .keyed _ _ _ _, h => by simp [okD] at h
  | n + 1, .list f, h => by
    have h' : okD n f := by simpa [okD] using h
    show okD (n + 1 + 1) (.list f)
    simp only [okD]
    exact okD_up n f h'
  | n + 1, .opt f, h => by
    have h' : okD n f := by simpa [okD] using h
    show okD (n + 1 + 1) (.opt f)
    simp only [okD]
    exact okD_up n f h'
  | n + 1, .rcd fs, h => by
    have h' : (fs.map (·.1)).Nodup ∧ fs.length ≤ 3 ∧ ∀ q ∈ fs, okD n q.2 := by simpa only [okD] using h
    show okD (n + 1 + 1) (.rcd fs)
    simp only [okD]
    exact ⟨h'.1, h'.2.1, fun q hq => okD_up n q.2 (h'.2.2 q hq)⟩
  | n + 2, .keyed k num w f, h => by
    have h' : k ≠ w ∧ okD n f := by simpa only [okD] using h
    show okD (n + 1 + 2) (.keyed k num w f)
    simp only [okD]
    exact ⟨h'.1, okD_up n f h'.2⟩
theorem okD_of : ∀ (n : Nat) (f : Fm), okF n f → okD (2 * n) f
  | _, .text, _ => by simp [okD]
  | _, .number, _ => by simp [okD]
  | _, .flag, _ => by simp [okD]
  | 0, .list _, h => by simp [okF] at h
  | 0, .opt _, h => by simp [okF] at h
  | 0, .rcd _, h => by simp [okF] at h
  | 0, .keyed _ _ _ _, h => by simp [okF] at h
  | n + 1, .list f, h => by
    have h' : okF n f := by simpa [okF] using h
    show okD (2 * n + 1 + 1) (.list f)
    simp only [okD]
    exact okD_up _ f (okD_of n f h')
  | n + 1, .opt f, h => by
    have h' : okF n f ∧ f.isOpt = false := by simpa [okF] using h
    show okD (2 * n + 1 + 1) (.opt f)
    simp only [okD]
    exact okD_up _ f (okD_of n f h'.1)
  | n + 1, .rcd fs, h => by
    have h' : Names (fs.map (·.1)) ∧ sortedS (fs.map (·.1)) = true ∧ 1 ≤ fs.length ∧ fs.length ≤ 3 ∧ ∀ q ∈ fs, okF n q.2 := by simpa only [okF] using h
    show okD (2 * n + 1 + 1) (.rcd fs)
    simp only [okD]
    exact ⟨h'.1.1, h'.2.2.2.1, fun q hq => okD_up _ q.2 (okD_of n q.2 (h'.2.2.2.2 q hq))⟩
  | n + 1, .keyed k num w f, h => by
    have h' : Names [k, w] ∧ sortedS [k, w] = true ∧ okF n f := by simpa only [okF] using h
    show okD (2 * n + 2) (.keyed k num w f)
    simp only [okD]
    refine ⟨fun e => ?_, okD_of n f h'.2.2⟩
    have := h'.1.1
    rw [e] at this
    simp at this
theorem if_ff {c : Bool} {A B : Prop} (hc : c = false) (h : B) : if c = true then A else B := by
  rw [hc]
  exact iteF h
theorem if_tt {c : Bool} {A B : Prop} (hc : c = true) (h : A) : if c = true then A else B := by
  rw [hc]
  exact iteT h
mutual
theorem Dq.dp {K : PySem.W.Frag} {H : Hp} : ∀ (d : PyData) (v : V), Dq K H v d → d.hasDict = false → Dp K H v d
  | .none, _, .non, _ => .non
  | .bool _, _, .bl b, _ => .bl b
  | .int _, _, .int i, _ => .int i
  | .str _, _, .str x, _ => .str x
  | .list ds, _, .lst hs ha, h => .lst (SqL.of hs) (DqAll.dp ds _ ha (by simpa only [PyData.hasDict] using h))
  | .tuple ds, _, .tup hs ha, h => .tup (SqT.of hs) (DqAll.dp ds _ ha (by simpa only [PyData.hasDict] using h))
  | .dict _, _, .dct _ _, h => by simp [PyData.hasDict] at h
theorem DqAll.dp {K : PySem.W.Frag} {H : Hp} : ∀ (ds : List PyData) (vs : List V), DqAll K H vs ds → PyData.hasDictAll ds = false → DpAll K H vs ds
  | [], _, .nil, _ => .nil
  | d :: ds, _, .cons h1 h2, h => by
    simp only [PyData.hasDictAll, Bool.or_eq_false_iff] at h
    exact .cons (Dq.dp d _ h1 h.1) (DqAll.dp ds _ h2 h.2)
end
/-- the heap without these -/
def hideL (as : List Addr) (H : Hp) : Hp := fun b => if b ∈ as then none else H b
theorem hideL_ne {as : List Addr} {b : Addr} {H : Hp} (h : b ∉ as) : hideL as H b = H b := if_neg h
theorem hideL_some {as : List Addr} {b : Addr} {H : Hp} {o : HO} (h : hideL as H b = some o) : b ∉ as ∧ H b = some o := by
  by_cases z : b ∈ as
  · rw [show hideL as H b = none from if_pos z] at h
    cases h
  · rw [hideL_ne z] at h
    exact ⟨z, h⟩
theorem sub_some {H H' : Hp} {b : Addr} {o : HO} (h : sub H H' b = some o) : H b = none ∧ H' b = some o := by
  cases q : H b with
  | none => rw [sub_new q] at h; exact ⟨rfl, h⟩
  | some u => rw [sub_old q] at h; cases h
theorem put_new {kvs : List (Key × V)} {k : Key} (v : V) (h : k ∉ kvs.map (·.1)) : putK kvs k v = kvs ++ [(k, v)] := by
  unfold putK
  rw [if_neg]
  intro z
  obtain ⟨q, hq, e⟩ := List.any_eq_true.mp z
  exact h (List.mem_map.mpr ⟨q, hq, of_decide_eq_true e⟩)
theorem encFs_get {K : PySem.W.Frag} {H : Hp} : ∀ {ps : List V} {fs : List (Str × Fm)} {i : Nat} {x : V}, DqAll K H ps (encFs fs) → ps[i]? = some x →
    ∃ (w : Str) (f : Fm) (t : Addr) (y : V), fs[i]? = some (w, f) ∧ x = .ref t ∧ H t = some (.tup [.str w, y]) ∧ Dq K H y (enc f)
  | _, [], i, x, h, e => by
    simp only [encFs] at h
    cases h
    simp at e
  | _, (w, f) :: r, i, x, h, e => by
    simp only [encFs] at h
    cases h with
    | cons h1 h2 =>
      cases i with
      | zero =>
        simp at e
        subst e
        cases h1 with
        | tup hs ha =>
          cases ha with
          | cons g1 g2 =>
            cases g1
            cases g2 with
            | cons g3 g4 =>
              cases g4
              exact ⟨w, f, _, _, rfl, rfl, hs, g3⟩
      | succ i =>
        obtain ⟨w', f', t, y, z1, z2⟩ := encFs_get (i := i) h2 (by simpa using e)
        exact ⟨w', f', t, y, by simpa using z1, z2⟩
/-- a row of a keyed list: its dict's place, its key, its other value and what that is -/
structure Rw where
  a : Addr
  u : V
  y : V
  x : PyData
/-- rows as they stand: dicts of their own, whose values hold none of them -/
structure RowsAt (K : PySem.W.Frag) (H : Hp) (kw ww : Str) (g : Fm) (rs : List Rw) : Prop where
  nd : (rs.map (·.a)).Nodup
  dct : ∀ r ∈ rs, H r.a = some (.dK [(Sum.inr kw, r.u), (Sum.inr ww, r.y)])
  val : ∀ r ∈ rs, Dq K (hideL (rs.map (·.a)) H) r.y r.x
  fit : ∀ r ∈ rs, Fit g r.x
theorem RowsAt.same {K : PySem.W.Frag} {H H' : Hp} {kw ww : Str} {g : Fm} {rs : List Rw} (h : RowsAt K H kw ww g rs) (s : Same H H') : RowsAt K H' kw ww g rs :=
  ⟨h.nd, fun r hr => s _ _ (h.dct r hr), fun r hr => Dq.same (fun b o e => by
    obtain ⟨z, e⟩ := hideL_some e
    rw [hideL_ne z]
    exact s _ _ e) _ _ (h.val r hr), h.fit⟩
theorem RowsAt.snoc {K : PySem.W.Frag} {H0 H H' : Hp} {kw ww : Str} {g : Fm} {rs : List Rw} {r : Rw} (h : RowsAt K (sub H0 H) kw ww g rs) (s : Same (sub H0 H) (sub H0 H')) (d : Dom H0 H)
    (e : sub H H' r.a = some (.dK [(Sum.inr kw, r.u), (Sum.inr ww, r.y)])) (v : Dq K (hide r.a (sub H H')) r.y r.x) (f : Fit g r.x) : RowsAt K (sub H0 H') kw ww g (rs ++ [r]) := by
  have h' := h.same s
  obtain ⟨na, ea⟩ := sub_some e
  have nin : r.a ∉ rs.map (·.a) := fun z => by
    obtain ⟨q, hq, eq⟩ := List.mem_map.mp z
    have := (sub_some (h.dct q hq)).2
    rw [eq, na] at this
    cases this
  refine ⟨?_, ?_, ?_, ?_⟩
  · rw [List.map_append]
    exact nd_snoc h.nd nin
  · intro q hq
    rcases List.mem_append.mp hq with hq | hq
    · exact h'.dct q hq
    · rw [List.mem_singleton.mp hq, sub_new (d _ na)]
      exact ea
  · intro q hq
    rcases List.mem_append.mp hq with hq | hq
    · refine Dq.same (fun b o eb => ?_) _ _ (h.val q hq)
      obtain ⟨z, eb⟩ := hideL_some eb
      have z2 : b ∉ (rs ++ [r]).map (·.a) := by
        rw [List.map_append]
        intro m
        rcases List.mem_append.mp m with m | m
        · exact z m
        · have e1 : b = r.a := List.mem_singleton.mp m
          have := (sub_some eb).2
          rw [e1, na] at this
          cases this
      rw [hideL_ne z2]
      exact s _ _ eb
    · rw [List.mem_singleton.mp hq]
      refine Dq.same (fun b o eb => ?_) _ _ v
      by_cases hb : b = r.a
      · subst hb
        rw [show hide r.a (sub H H') r.a = none from if_pos rfl] at eb
        cases eb
      rw [hide_ne hb] at eb
      obtain ⟨nb, eb⟩ := sub_some eb
      have z2 : b ∉ (rs ++ [r]).map (·.a) := by
        rw [List.map_append]
        intro m
        rcases List.mem_append.mp m with m | m
        · obtain ⟨q2, hq2, eq2⟩ := List.mem_map.mp m
          have := (sub_some (h.dct q2 hq2)).2
          rw [eq2, nb] at this
          cases this
        · exact hb (List.mem_singleton.mp m)
      rw [hideL_ne z2, sub_new (d _ nb)]
      exact eb
  · intro q hq
    rcases List.mem_append.mp hq with hq | hq
    · exact h.fit q hq
    · rw [List.mem_singleton.mp hq]
      exact f
/-- the key of the i-th row is stored -/
theorem RowsAt.set {K : PySem.W.Frag} {H0 H : Hp} {kw ww : Str} {g : Fm} {rs : List Rw} {i : Nat} {r : Rw} {u : V} (h : RowsAt K (sub H0 H) kw ww g rs) (hi : rs[i]? = some r) :
    RowsAt K (sub H0 (upd H r.a (.dK [(Sum.inr kw, u), (Sum.inr ww, r.y)]))) kw ww g (rs.set i { r with u := u }) := by
  have hr := List.mem_of_getElem? hi
  have ma : (rs.set i { r with u := u }).map (·.a) = rs.map (·.a) := by
    rw [List.map_set]
    show (rs.map (·.a)).set i r.a = _
    apply List.ext_getElem?
    intro j
    rw [List.getElem?_set]
    by_cases e : i = j
    · subst e
      have hl := (List.getElem?_eq_some_iff.mp hi).1
      rw [if_pos rfl, if_pos (by rw [List.length_map]; exact hl), List.getElem?_map, hi]
      rfl
    · rw [if_neg e]
  have na := (sub_some (h.dct r hr)).1
  have memb : ∀ q ∈ rs.set i { r with u := u }, q = { r with u := u } ∨ (q ∈ rs ∧ q.a ≠ r.a) := by
    intro q hq
    obtain ⟨j, hj⟩ := List.getElem?_of_mem hq
    rw [List.getElem?_set] at hj
    by_cases e : i = j
    · rw [if_pos e] at hj
      split at hj
      · exact .inl (Option.some.inj hj).symm
      · cases hj
    · rw [if_neg e] at hj
      refine .inr ⟨List.mem_of_getElem? hj, fun z => e ?_⟩
      have j1 := (List.getElem?_eq_some_iff.mp hj).1
      have i1 := (List.getElem?_eq_some_iff.mp hi).1
      refine (List.getElem_inj h.nd (h₀ := by rw [List.length_map]; exact i1) (h₁ := by rw [List.length_map]; exact j1)).mp ?_
      rw [List.getElem_map, List.getElem_map, (List.getElem?_eq_some_iff.mp hi).2, (List.getElem?_eq_some_iff.mp hj).2]
      exact z.symm
  have carry : ∀ {v : V} {x : PyData}, Dq K (hideL (rs.map (·.a)) (sub H0 H)) v x → Dq K (hideL (rs.map (·.a)) (sub H0 (upd H r.a (.dK [(Sum.inr kw, u), (Sum.inr ww, r.y)])))) v x := fun hv => Dq.same (fun b o eb => by
    obtain ⟨z, eb⟩ := hideL_some eb
    obtain ⟨nb, eb⟩ := sub_some eb
    have hb : b ≠ r.a := fun e => z (List.mem_map.mpr ⟨r, hr, e.symm⟩)
    rw [hideL_ne z, sub_new nb, upd_ne hb]
    exact eb) _ _ hv
  refine ⟨by rw [ma]; exact h.nd, ?_, ?_, ?_⟩
  · intro q hq
    rcases memb q hq with rfl | ⟨hq, ne⟩
    · show sub H0 (upd H r.a _) r.a = _
      rw [sub_new na]
      exact upd_same
    · obtain ⟨nb, eb⟩ := sub_some (h.dct q hq)
      rw [sub_new nb, upd_ne ne]
      exact eb
  · intro q hq
    rw [ma]
    rcases memb q hq with rfl | ⟨hq, ne⟩
    · exact carry (h.val r hr)
    · exact carry (h.val q hq)
  · intro q hq
    rcases memb q hq with rfl | ⟨hq, ne⟩
    · exact h.fit r hr
    · exact h.fit q hq
theorem DqKv.inv {K : PySem.W.Frag} {S : Hp} {kk : List (Key × V)} {L : List (PyData × PyData)} (h : DqKv K S kk L) : ∀ (k0 d0 : PyData) (ds : List (PyData × PyData)), L = (k0, d0) :: ds →
    ∃ q u r, kk = (q, u) :: r ∧ keyD q = k0 ∧ Dq K S u d0 ∧ DqKv K S r ds := by
  cases h with
  | nil => intro _ _ _ e; cases e
  | cons h1 h2 =>
    intro k0 d0 ds e
    simp only [List.cons.injEq, Prod.mk.injEq] at e
    obtain ⟨⟨rfl, rfl⟩, rfl⟩ := e
    exact ⟨_, _, _, rfl, rfl, h1, h2⟩
def kform : Bool → Fm
  | true => .number
  | false => .text
theorem enc_kform (num : Bool) : enc (kform num) = .tuple [.str (kword num)] := by cases num <;> simp [kform, enc, kword]
theorem row_of {K : PySem.W.Frag} {S : Hp} {kw ww : Str} {kf g : Fm} {y : V} {d : PyData} (h : Dq K S y d) (f : Fit (.rcd [(kw, kf), (ww, g)]) d) :
    ∃ r : Rw, y = .ref r.a ∧ S r.a = some (.dK [(Sum.inr kw, r.u), (Sum.inr ww, r.y)]) ∧ Dq K (hide r.a S) r.y r.x ∧ Fit g r.x := by
  have h0 := h
  cases f with
  | rcd m ft =>
    rename_i kvs
    match kvs, m with
    | [(k0, d0), (k1, d1)], m =>
      simp only [List.map_cons, List.map_nil, List.cons.injEq, and_true] at m
      obtain ⟨rfl, rfl⟩ := m
      have f1 := ft 1 (ww, g) (.str ww, d1) rfl rfl
      cases h with
      | dct hs ha =>
        rename_i aa kk
        obtain ⟨q0, u0, r0, rfl, z0, a1, ha⟩ := DqKv.inv ha _ _ _ rfl
        obtain ⟨q1, u1, r1, rfl, z1, a3, ha⟩ := DqKv.inv ha _ _ _ rfl
        cases ha
        have e0 : q0 = Sum.inr kw := by
          cases q0 with
          | inl i => simp [keyD] at z0
          | inr x => simp only [keyD, PyData.str.injEq] at z0; rw [z0]
        have e1 : q1 = Sum.inr ww := by
          cases q1 with
          | inl i => simp [keyD] at z1
          | inr x => simp only [keyD, PyData.str.injEq] at z1; rw [z1]
        subst e0 e1
        refine ⟨⟨aa, u0, u1, d1⟩, rfl, hs, ?_, f1⟩
        refine Dq.avoid h0 _ _ a3 ?_
        simp only [PyData.depth, PyData.depthKv]
        omega
theorem encFs_len : ∀ fs : List (Str × Fm), (encFs fs).length = fs.length
  | [] => rfl
  | (_, _) :: r => by simp [encFs, encFs_len r]
section
variable {base : Heap} {P : Program} {w : World} {K : PySem.W.Frag} {mg : Str → Option Value}
abbrev s_thing : Stmt := top 46
abbrev N_thing : List Str := ["_law_pool_here", "_law_form_here", "_law_found", "_law_word", "_law_inner", "_law_k", "_law_numbers"]
abbrev P_thing : List Str := ["_law_pool_here", "_law_form_here"]
theorem sc_thing : FnScope N_thing P_thing (defScope s_thing) := ⟨rfl, rfl, rfl, by decide +kernel, rfl, by decide +kernel, by decide +kernel⟩
def spThingL (K : PySem.W.Frag) : Nat → Sp
  | 0 => fun _ _ _ _ => False
  | n + 1 => fun vs H Q _ => ∃ (p : Addr) (v : V) (f : Fm), vs = [.ref p, v] ∧ PoolAt H p ∧ Dq K (hide p H) v (enc f) ∧ okD n f ∧
    ∀ (H' : Hp) (y : V) (d : PyData), Keep p H H' → PoolAt H' p → Dq K (sub H H') y d → Fit f d → Q y H'
theorem ok_thingS {f fdr fch : Addr} {fd fdd fdc : FuncData} {n : Nat} (F : Fun K "_law_thing_of" "_law_thing_of" s_thing f fd) (T : Bl mg) (D_draw : Def P w K mg base "_law_draw" 1 P_draw spDraw fdr fdd) (D_chars : Def P w K mg base "_law_chars" 2 P_chars spChars fch fdc)
    (D_thing_of : Def P w K mg base "_law_thing_of" (n + 2) P_thing (spThingL K n) f fd) : FnOk P w K mg base CX0 (n + 3) f fd P_thing (spThingL K (n + 1)) := by
  refine F.ok sc_thing (fun vs H Q E h => ?_) (fun cdv A outer s H vs Q E hr h => ?_)
  · obtain ⟨p, v, f, rfl, _⟩ := h
    rfl
  obtain ⟨p, v, fm, rfl, hp, dv, okf, q⟩ := h
  refine ⟨_, (pss_cons (ps_if (pt_cmpR op_eq (pe_ix (ix_tupK K rfl) (pv 1) pe_int (fun _ _ => rfl)) pe_str (nomark _))
      (pss_one (ps_ret (pe_call D_chars.ok (hr.mono (by first | decide | omega)) rfl D_chars.g D_chars.kp D_chars.b .nil pass0 (pa_cons (pv 0) pa_nil))))
      pss_nil)
    (pss_cons (ps_if (pt_cmpR op_eq (pe_ix (ix_tupK K rfl) (pv 1) pe_int (fun _ _ => rfl)) pe_str (nomark _))
      (pss_one (ps_ret (pe_ix (ix_listK K rfl) (pe_lst (pa_cons (pe_call D_draw.ok (hr.mono (by first | decide | omega)) rfl D_draw.g D_draw.kp D_draw.b .nil pass0 (pa_cons (pv 0) (pa_cons pe_int pa_nil))) (pa_cons (pe_un un_neg (pe_call D_draw.ok (hr.mono (by first | decide | omega)) rfl D_draw.g D_draw.kp D_draw.b .nil pass0 (pa_cons (pv 0) (pa_cons pe_int pa_nil)))) (pa_cons (pe_op op_sub (pe_op op_pow pe_int pe_int) (pe_call D_draw.ok (hr.mono (by first | decide | omega)) rfl D_draw.g D_draw.kp D_draw.b .nil pass0 (pa_cons (pv 0) (pa_cons pe_int pa_nil)))) pa_nil)))) (pe_call D_draw.ok (hr.mono (by first | decide | omega)) rfl D_draw.g D_draw.kp D_draw.b .nil pass0 (pa_cons (pv 0) (pa_cons pe_int pa_nil))) (fun _ _ => rfl))))
      pss_nil)
    (pss_cons (ps_if (pt_cmpR op_eq (pe_ix (ix_tupK K rfl) (pv 1) pe_int (fun _ _ => rfl)) pe_str (nomark _))
      (pss_one (ps_ret (pe_cmpR op_eq (pe_call D_draw.ok (hr.mono (by first | decide | omega)) rfl D_draw.g D_draw.kp D_draw.b .nil pass0 (pa_cons (pv 0) (pa_cons pe_int pa_nil))) pe_int (nomark _))))
      pss_nil)
    (pss_cons (ps_if (pt_cmpR op_eq (pe_ix (ix_tupK K rfl) (pv 1) pe_int (fun _ _ => rfl)) pe_str (nomark _))
      (pss_one (ps_ret (pe_ifExp (pt_cmpR op_gt (pe_call D_draw.ok (hr.mono (by first | decide | omega)) rfl D_draw.g D_draw.kp D_draw.b .nil pass0 (pa_cons (pv 0) (pa_cons pe_int pa_nil))) pe_int (nomark _)) (pe_call D_thing_of.ok (hr.mono (by first | decide | omega)) rfl D_thing_of.g D_thing_of.kp D_thing_of.b .nil pass0 (pa_cons (pv 0) (pa_cons (pe_ix (ix_tupK K rfl) (pv 1) pe_int (fun _ _ => rfl)) pa_nil))) pe_non)))
      pss_nil)
    (pss_cons (ps_if (pt_cmpR op_eq (pe_ix (ix_tupK K rfl) (pv 1) pe_int (fun _ _ => rfl)) pe_str (nomark _))
      (pss_cons (ps_set (i := 2) sc_thing.nd rfl (Or.inl rfl) pe_dnewK)
    (pss_cons (ps_for PassesOwn.never rfl (pi_tup (pe_ix (ix_tupK K rfl) (pv 1) pe_int (fun _ _ => rfl))) (pg_tup rfl (pgs_cons (pg_name (i := 3) sc_thing.nd rfl (Or.inl rfl)) (pgs_cons (pg_name (i := 4) sc_thing.nd rfl (Or.inl rfl)) pgs_nil)))
      (pss_one (ps_dput (hu_of hr) (pv 2) (pv 3) (pe_call D_thing_of.ok (hr.mono (by first | decide | omega)) rfl D_thing_of.g D_thing_of.kp D_thing_of.b .nil pass0 (pa_cons (pv 0) (pa_cons (pv 4) pa_nil))) rfl)))
    (pss_one (ps_ret (pv 2)))))
      pss_nil)
    (pss_cons (ps_setLc (i := 2) (own := [("_law_k", 5)]) (g := (gName 5)) (tt := tYes) rfl sc_thing.nd rfl rfl (sw_true rfl rfl rfl (by decide +kernel)) (pi_range1 rfl T.range (pa_cons (pe_call D_draw.ok (hr.mono (by first | decide | omega)) rfl D_draw.g D_draw.kp D_draw.b .nil pass0 (pa_cons (pv 0) (pa_cons pe_int pa_nil))) pa_nil)) (blkOk_by (own := [("_law_k", 5)]) (N := N_thing) (sc := defScope s_thing) (by decide +kernel)) (fun _ _ _ _ _ => (pg_name (i := 5) sc_thing.nd rfl (Or.inl rfl))) (fun _ _ _ _ _ => pts_nil) (fun _ _ _ _ _ => (pe_call D_thing_of.ok (hr.mono (by first | decide | omega)) rfl D_thing_of.g D_thing_of.kp D_thing_of.b .nil pass0 (pa_cons (pv 0) (pa_cons (pe_ix (ix_tupK K rfl) (pv 1) pe_int (fun _ _ => rfl)) pa_nil)))))
    (pss_cons (ps_if (pt_cmpR op_eq (pe_ix (ix_tupK K rfl) (pv 1) pe_int (fun _ _ => rfl)) pe_str (nomark _))
      (pss_one (ps_for PassesOwn.never rfl (pi_range1 rfl T.range (pa_cons (pe_callB (call_lenK K rfl) (by rfl) T.len PySem.boot_len (pa_cons (pv 2) pa_nil)) pa_nil)) (pg_name (i := 5) sc_thing.nd rfl (Or.inl rfl))
      (pss_cons (ps_set (i := 6) sc_thing.nd rfl (Or.inl rfl) (pe_cmpR (op_eqK K rfl hr.units) (pe_ix (ix_tupK K rfl) (pe_ix (ix_tupK K rfl) (pe_ix (ix_tupK K rfl) (pe_ix (ix_tupK K rfl) (pv 1) pe_int (fun _ _ => rfl)) pe_int (fun _ _ => rfl)) pe_int (fun _ _ => rfl)) pe_int (fun _ _ => rfl)) (pe_tup (pa_cons pe_str pa_nil)) (nomark _)))
    (pss_one (ps_dput (hu_of hr) (pe_ix (ix_listK K rfl) (pv 2) (pv 5) (fun _ _ => rfl)) (pe_ix (ix_tupK K rfl) (pv 1) pe_int (fun _ _ => rfl)) (pe_ifExp (pt_val (pv 6)) (pe_op op_add (pe_op op_mul (pv 5) pe_int) (pe_call D_draw.ok (hr.mono (by first | decide | omega)) rfl D_draw.g D_draw.kp D_draw.b .nil pass0 (pa_cons (pv 0) (pa_cons pe_int pa_nil)))) (pe_op op_mulS pe_str (pe_op op_add (pv 5) pe_int))) rfl)))))
      pss_nil)
    (pss_one (ps_ret (pe_callTy call_tuple_of (by rfl) T.tuple (by decide +kernel) (pa_cons (pv 2) pa_nil))))))))))), ?_⟩
  have small : ∀ n : Nat, n ≤ 1000 → n ≤ sizeLine := fun n h => Nat.le_of_lt (small1000 h)
  have hasP := hp.has
  obtain ⟨a, xs, rfl, ea, e0⟩ := enc_head fm dv
  have eaH : H a = some (.tup xs) := hide_sub p H _ _ ea
  have at0 : atI xs 0 = some (.str fm.word) := at_of (j := 0) rfl e0
  cases fm with
  | text =>
    refine ⟨_, rfl, a, xs, 0, .str _, rfl, rfl, SqT.of eaH, at0, rfl, _, rfl, ?_⟩
    refine if_tt (by decide) ?_
    exact ⟨_, rfl, p, rfl, hp, fun H' z k pp tx => q H' _ _ k pp (.str z) (.text tx)⟩
  | number =>
    refine ⟨_, rfl, a, xs, 0, .str _, rfl, rfl, SqT.of eaH, at0, rfl, _, rfl, ?_⟩
    refine if_ff (by decide) ?_
    refine ⟨_, rfl, a, xs, 0, .str _, rfl, rfl, SqT.of eaH, at0, rfl, _, rfl, ?_⟩
    refine if_tt (by decide) ?_
    refine ⟨_, rfl, p, 10, rfl, hp, by decide, by decide, fun H1 r1 k1 p1 a0 a1 => ?_⟩
    refine ⟨_, rfl, p, 100, rfl, p1, by decide, by decide, fun H2 r2 k2 p2 b0 b1 => ⟨_, rfl, _, _, rfl, rfl, ⟨by decide, by decide, by decide⟩, ?_⟩⟩
    refine ⟨_, rfl, p, 5, rfl, p2, by decide, by decide, fun H3 r3 k3 p3 c0 c1 => ⟨_, _, rfl, rfl, (by show 3 ≤ sizeLine; decide), fun l hl => ?_⟩⟩
    have p4 := p3.same (same_new hl (.lst [.int r1, .int (-r2), .int ((10 : Int) ^ (20 : Int).toNat - r3)]))
    refine ⟨_, rfl, p, 3, rfl, p4, by decide, by decide, fun H5 r4 k5 p5 d0 d1 => ?_⟩
    have e5 := k5 _ _ (p3.ne hl) upd_same
    have pw : (10 : Int) ^ (20 : Int).toNat = 100000000000000000000 := by decide
    have kk := k1.trans (k2.trans (k3.trans ((Keep.new hl (.lst [.int r1, .int (-r2), .int ((10 : Int) ^ (20 : Int).toNat - r3)])).trans k5)))
    obtain ⟨z, ez, bz⟩ : ∃ z : Int, atI [V.int r1, .int (-r2), .int ((10 : Int) ^ (20 : Int).toNat - r3)] r4 = some (.int z) ∧ z.natAbs ≤ 10 ^ 20 := by
      have big : (10 : Nat) ^ 20 = 100000000000000000000 := by decide
      rw [big]
      rcases (show r4 = 0 ∨ r4 = 1 ∨ r4 = 2 by omega) with e | e | e
      · exact ⟨r1, by rw [e]; rfl, by omega⟩
      · exact ⟨-r2, by rw [e]; rfl, by omega⟩
      · exact ⟨_, by rw [e]; rfl, by rw [pw]; omega⟩
    exact ⟨l, _, r4, _, rfl, rfl, SqL.of e5, ez, q _ _ _ kk p5 (.int z) (.number bz)⟩
  | flag =>
    refine ⟨_, rfl, a, xs, 0, .str _, rfl, rfl, SqT.of eaH, at0, rfl, _, rfl, ?_⟩
    refine if_ff (by decide) ?_
    refine ⟨_, rfl, a, xs, 0, .str _, rfl, rfl, SqT.of eaH, at0, rfl, _, rfl, ?_⟩
    refine if_ff (by decide) ?_
    refine ⟨_, rfl, a, xs, 0, .str _, rfl, rfl, SqT.of eaH, at0, rfl, _, rfl, ?_⟩
    refine if_tt (by decide) ?_
    exact ⟨_, rfl, p, 2, rfl, hp, by decide, by decide, fun H1 r1 k1 p1 a0 a1 => ⟨rfl, q _ _ _ k1 p1 (.bl _) (.flag _)⟩⟩
  | opt g =>
    refine ⟨_, rfl, a, xs, 0, .str _, rfl, rfl, SqT.of eaH, at0, rfl, _, rfl, ?_⟩
    refine if_ff (show decide (V.str ("optional" : Str) = V.str ("text" : Str)) = false by decide) ?_
    refine ⟨_, rfl, a, xs, 0, .str _, rfl, rfl, SqT.of eaH, at0, rfl, _, rfl, ?_⟩
    refine if_ff (show decide (V.str ("optional" : Str) = V.str ("number" : Str)) = false by decide) ?_
    refine ⟨_, rfl, a, xs, 0, .str _, rfl, rfl, SqT.of eaH, at0, rfl, _, rfl, ?_⟩
    refine if_ff (show decide (V.str ("optional" : Str) = V.str ("flag" : Str)) = false by decide) ?_
    refine ⟨_, rfl, a, xs, 0, .str _, rfl, rfl, SqT.of eaH, at0, rfl, _, rfl, ?_⟩
    refine if_tt (show decide (V.str ("optional" : Str) = V.str ("optional" : Str)) = true by decide) ?_
    obtain ⟨n', rfl, okg⟩ : ∃ n', n = n' + 1 ∧ okD n' g := by
      match n, okf with
      | n' + 1, h => exact ⟨n', rfl, by simpa only [okD] using h⟩
    simp only [enc] at dv
    obtain ⟨x1, exs, dx1⟩ : ∃ x1, xs = [.str "optional", x1] ∧ Dq K (hide p H) x1 (enc g) := by
      cases dv with
      | tup hs ha =>
        rw [ea] at hs
        cases hs
        cases ha with
        | cons h1 h2 =>
          cases h1
          cases h2 with
          | cons h3 h4 =>
            cases h4
            exact ⟨_, rfl, h3⟩
    refine ⟨_, rfl, p, 3, rfl, hp, by decide, by decide, fun H1 r1 k1 p1 a0 a1 => ⟨_, _, rfl, rfl, _, rfl, ?_⟩⟩
    have dom1 := k1.dom p1
    refine ite2 (fun c => ?_) (fun c => ?_)
    · have ea1 : H1 a = some (.tup xs) := hide_sub p H1 _ _ (k1.hide _ _ ea)
      refine ⟨_, rfl, _, rfl, a, xs, 1, x1, rfl, rfl, SqT.of ea1, by rw [exs]; rfl, ?_⟩
      refine ⟨p, x1, g, rfl, p1, Dq.same k1.hide _ _ dx1, okg, fun H2 y d k2 p2 dy fy => ?_⟩
      exact q _ _ _ (k1.trans k2) p2 (Dq.same (sub_left dom1) _ _ dy) (.opt fy)
    · exact q _ _ _ k1 p1 .non (.optN g)
  | list g =>
    refine ⟨_, rfl, a, xs, 0, .str _, rfl, rfl, SqT.of eaH, at0, rfl, _, rfl, ?_⟩
    refine if_ff (show decide (V.str ("list" : Str) = V.str ("text" : Str)) = false by decide) ?_
    refine ⟨_, rfl, a, xs, 0, .str _, rfl, rfl, SqT.of eaH, at0, rfl, _, rfl, ?_⟩
    refine if_ff (show decide (V.str ("list" : Str) = V.str ("number" : Str)) = false by decide) ?_
    refine ⟨_, rfl, a, xs, 0, .str _, rfl, rfl, SqT.of eaH, at0, rfl, _, rfl, ?_⟩
    refine if_ff (show decide (V.str ("list" : Str) = V.str ("flag" : Str)) = false by decide) ?_
    refine ⟨_, rfl, a, xs, 0, .str _, rfl, rfl, SqT.of eaH, at0, rfl, _, rfl, ?_⟩
    refine if_ff (show decide (V.str ("list" : Str) = V.str ("optional" : Str)) = false by decide) ?_
    refine ⟨_, rfl, a, xs, 0, .str _, rfl, rfl, SqT.of eaH, at0, rfl, _, rfl, ?_⟩
    refine if_ff (show decide (V.str ("list" : Str) = V.str ("record" : Str)) = false by decide) ?_
    obtain ⟨n', rfl, okg⟩ : ∃ n', n = n' + 1 ∧ okD n' g := by
      match n, okf with
      | n' + 1, h => exact ⟨n', rfl, by simpa only [okD] using h⟩
    simp only [enc] at dv
    obtain ⟨x1, exs, dx1⟩ : ∃ x1, xs = [.str "list", x1] ∧ Dq K (hide p H) x1 (enc g) := by
      cases dv with
      | tup hs ha =>
        rw [ea] at hs
        cases hs
        cases ha with
        | cons h1 h2 =>
          cases h1
          cases h2 with
          | cons h3 h4 =>
            cases h4
            exact ⟨_, rfl, h3⟩
    refine ⟨_, rfl, p, 4, rfl, hp, by decide, by decide, fun H1 r1 k1 p1 a0 a1 => ⟨r1, rfl, by omega, by omega, fun D hD => ?_⟩⟩
    have nD := p1.ne hD
    have dom1 := k1.dom p1
    obtain ⟨H2, hH2⟩ : ∃ H2, H2 = upd H1 D (.lst []) := ⟨_, rfl⟩
    have s2 : Same H1 H2 := by rw [hH2]; exact same_new hD _
    have e2 : H2 D = some (.lst []) := by rw [hH2]; exact upd_same
    have p2 := p1.same s2
    have has2 : ∃ u, H2 p = some u := p2.has
    have hasD : ∃ u, H2 D = some u := ⟨_, e2⟩
    have dom2 : Dom H H2 := dom1.trans (Same.dom s2)
    refine lc_range (lo := 0) (n := r1.toNat) (fun i H' => Keep p H1 H' ∧ PoolAt H' p ∧ Dom H2 H' ∧ ∃ (vs : List V) (ds : List PyData), H' D = some (.lst vs) ∧ vs.length = i ∧ DqAll K (sub H2 H') vs ds ∧ ∀ x ∈ ds, Fit g x)
      (by rw [← hH2]; exact ⟨Same.keep s2, p2, fun _ z => z, [], [], e2, rfl, .nil, fun _ z => by cases z⟩) ?_ ?_
    · rintro i H' hi ⟨k3, p3, d3, vs, ds, e3, z3, dv3, f3⟩
      refine ⟨rfl, yesT ?_⟩
      have ea1 : H' a = some (.tup xs) := hide_sub p H' _ _ ((k1.trans k3).hide _ _ ea)
      refine ⟨_, rfl, _, rfl, a, xs, 1, x1, rfl, rfl, SqT.of ea1, by rw [exs]; rfl, p, x1, g, rfl, p3, Dq.same (k1.trans k3).hide _ _ dx1, okg, fun H4 y d k4 p4 dy fy => ?_⟩
      refine ⟨vs, k4 _ _ nD e3, by rw [z3]; exact small1000 (by omega), (k3.trans k4).upd hD, p4.upd nD, d3.trans ((k4.dom p4).trans dom_upd), vs ++ [y], ds ++ [d], upd_same, by rw [List.length_append, z3]; rfl, ?_, ?_⟩
      · exact DqAll.snoc (Dq.same ((sub_left d3).trans (sub_upd hasD)) _ _ dy) (DqAll.same ((sub_keep k4 has2).trans (sub_upd hasD)) _ _ dv3)
      · intro x hx
        rcases List.mem_append.mp hx with hx | hx
        · exact f3 x hx
        · rw [List.mem_singleton.mp hx]
          exact fy
    rintro H3 ⟨k3, p3, d3, vs, ds, e3, z3, dv3, f3⟩
    have ea3 : H3 a = some (.tup xs) := hide_sub p H3 _ _ ((k1.trans k3).hide _ _ ea)
    refine ⟨_, rfl, a, xs, 0, .str _, rfl, rfl, SqT.of ea3, at0, rfl, _, rfl, ?_⟩
    refine if_ff (show decide (V.str ("list" : Str) = V.str ("keyed" : Str)) = false by decide) ?_
    refine ⟨_, rfl, D, vs, rfl, .inl ⟨SqL.of e3, fun t ht => ?_⟩⟩
    have gt : H t = none := (dom2.trans d3) _ ht
    refine q _ _ (.tuple ds) (k1.trans (k3.trans (Keep.new ht _))) (p3.same (same_new ht _)) ?_ (.list ?_ f3)
    · exact .tup (by rw [sub_new gt]; exact upd_same) (DqAll.same ((sub_left dom2).trans (sub_fresh ht)) _ _ dv3)
    · rw [← DqAll.length dv3]
      omega
  | rcd fs =>
    refine ⟨_, rfl, a, xs, 0, .str _, rfl, rfl, SqT.of eaH, at0, rfl, _, rfl, ?_⟩
    refine if_ff (show decide (V.str ("record" : Str) = V.str ("text" : Str)) = false by decide) ?_
    refine ⟨_, rfl, a, xs, 0, .str _, rfl, rfl, SqT.of eaH, at0, rfl, _, rfl, ?_⟩
    refine if_ff (show decide (V.str ("record" : Str) = V.str ("number" : Str)) = false by decide) ?_
    refine ⟨_, rfl, a, xs, 0, .str _, rfl, rfl, SqT.of eaH, at0, rfl, _, rfl, ?_⟩
    refine if_ff (show decide (V.str ("record" : Str) = V.str ("flag" : Str)) = false by decide) ?_
    refine ⟨_, rfl, a, xs, 0, .str _, rfl, rfl, SqT.of eaH, at0, rfl, _, rfl, ?_⟩
    refine if_ff (show decide (V.str ("record" : Str) = V.str ("optional" : Str)) = false by decide) ?_
    refine ⟨_, rfl, a, xs, 0, .str _, rfl, rfl, SqT.of eaH, at0, rfl, _, rfl, ?_⟩
    refine if_tt (show decide (V.str ("record" : Str) = V.str ("record" : Str)) = true by decide) ?_
    obtain ⟨n', rfl, nd, l3, okg⟩ : ∃ n', n = n' + 1 ∧ (fs.map (·.1)).Nodup ∧ fs.length ≤ 3 ∧ ∀ z ∈ fs, okD n' z.2 := by
      match n, okf with
      | n' + 1, h => exact ⟨n', rfl, by simpa only [okD] using h⟩
    simp only [enc] at dv
    obtain ⟨b, ps, exs, eb, dps⟩ : ∃ b ps, xs = [.str "record", .ref b] ∧ hide p H b = some (.tup ps) ∧ DqAll K (hide p H) ps (encFs fs) := by
      cases dv with
      | tup hs ha =>
        rw [ea] at hs
        cases hs
        cases ha with
        | cons h1 h2 =>
          cases h1
          cases h2 with
          | cons h3 h4 =>
            cases h4
            cases h3 with
            | tup g1 g2 => exact ⟨_, _, rfl, g1, g2⟩
    intro dx hdx
    have ndx := hp.ne hdx
    obtain ⟨H1, hH1⟩ : ∃ H1, H1 = upd H dx (.dK []) := ⟨_, rfl⟩
    rw [← hH1]
    have s1 : Same H H1 := by rw [hH1]; exact same_new hdx _
    have e1 : H1 dx = some (.dK []) := by rw [hH1]; exact upd_same
    have k1 : Keep p H H1 := Same.keep s1
    have p1 := hp.same s1
    have has1 : ∃ u, H1 p = some u := p1.has
    have hasD : ∃ u, H1 dx = some u := ⟨_, e1⟩
    have dom1 : Dom H H1 := Same.dom s1
    have plen : ps.length = fs.length := by rw [DqAll.length dps, encFs_len]
    refine ⟨_, rfl, a, xs, 1, .ref b, rfl, rfl, SqT.of (s1 _ _ eaH), by rw [exs]; rfl, b, rfl, ⟨_, SqT.of (s1 _ _ (hide_sub p H _ _ eb))⟩, ?_⟩
    refine for_tup (K := K) (a := b) (xs := ps) (fun i σ H' => ∃ s3 s4 : Option V, σ = [some (.ref p), some (.ref a), some (.ref dx), s3, s4, none, none] ∧ Keep p H H' ∧ PoolAt H' p ∧ Dom H1 H' ∧
        ∃ (kvs : List (Key × V)) (ds : List (PyData × PyData)), H' dx = some (.dK kvs) ∧ kvs.map (·.1) = (fs.take i).map (fun z => Sum.inr z.1) ∧ ds.map (·.1) = (fs.take i).map (fun z => PyData.str z.1) ∧ DqKv K (sub H1 H') kvs ds ∧
          ∀ (j : Nat) (z : Str × Fm) (kv : PyData × PyData), fs[j]? = some z → ds[j]? = some kv → Fit z.2 kv.2)
      ⟨none, none, rfl, k1, p1, fun _ z => z, [], [], e1, rfl, rfl, .nil, fun j z kv _ h => by simp at h⟩ (fun i σ H' _ ⟨_, _, _, k, _⟩ => SqT.of (hide_sub p H' _ _ (k.hide _ _ eb))) ?_ ?_
    · rintro i x σ H' hx ⟨s3, s4, rfl, k2, p2, d2, kvs, ds, e2, m2, w2, dv2, f2⟩
      obtain ⟨ww, g, t, y0, hfs, rfl, et, dy0⟩ := encFs_get dps hx
      have hi : i < fs.length := (List.getElem?_eq_some_iff.mp hfs).1
      refine ⟨t, _, rfl, SqT.of (hide_sub p H' _ _ (k2.hide _ _ et)), rfl, _, _, rfl, _, _, rfl, rfl, ?_⟩
      refine ⟨_, rfl, _, rfl, p, y0, g, rfl, p2, Dq.same k2.hide _ _ dy0, okg _ (List.mem_of_getElem? hfs), fun H3 y d k3 p3 dy fy => ?_⟩
      have e3 := k3 _ _ ndx e2
      have klen : kvs.length = i := by
        have := congrArg List.length m2
        rw [List.length_map, List.length_map, List.length_take, Nat.min_eq_left (by omega)] at this
        exact this
      refine ⟨_, rfl, _, rfl, dx, _, rfl, DPut.k (k := Sum.inr ww) e3 (by rw [klen]; exact small1000 (by omega)), ?_⟩
      have fresh : Sum.inr ww ∉ kvs.map (·.1) := by
        rw [m2]
        intro z
        obtain ⟨u, hu, e⟩ := List.mem_map.mp z
        have e' : u.1 = ww := Sum.inr.inj e
        obtain ⟨j, hj, ej⟩ := List.mem_iff_getElem.mp hu
        rw [List.length_take] at hj
        rw [List.getElem_take] at ej
        have hj2 : j < (fs.map (·.1)).length := by rw [List.length_map]; omega
        have hi2 : i < (fs.map (·.1)).length := by rw [List.length_map]; exact hi
        have := (List.getElem_inj nd (h₀ := hj2) (h₁ := hi2)).mp (by
          rw [List.getElem_map, List.getElem_map, ej, e']
          have := (List.getElem?_eq_some_iff.mp hfs).2
          rw [this])
        omega
      rw [put_new y fresh]
      have tk : fs.take (i + 1) = fs.take i ++ [(ww, g)] := by rw [List.take_succ, hfs]; rfl
      have carry : Same (sub H1 H3) (sub H1 (upd H3 dx (.dK (kvs ++ [(Sum.inr ww, y)])))) := sub_upd hasD
      refine ⟨_, _, rfl, (k2.trans k3).upd hdx, p3.upd ndx, d2.trans ((k3.dom p3).trans dom_upd), kvs ++ [(Sum.inr ww, y)], ds ++ [(.str ww, d)], upd_same, ?_, ?_, ?_, ?_⟩
      · rw [tk, List.map_append, List.map_append, m2]
        rfl
      · rw [tk, List.map_append, List.map_append, w2]
        rfl
      · exact DqKv.snoc (k := Sum.inr ww) (Dq.same ((sub_left d2).trans carry) _ _ dy) (DqKv.same ((sub_keep k3 has1).trans carry) _ _ dv2)
      · intro j z kv hz hkv
        have dlen : ds.length = i := by
          have := congrArg List.length w2
          rw [List.length_map, List.length_map, List.length_take, Nat.min_eq_left (by omega)] at this
          exact this
        by_cases hj : j < i
        · rw [List.getElem?_append_left (by omega)] at hkv
          exact f2 j z kv hz hkv
        · have hj2 := (List.getElem?_eq_some_iff.mp hkv).1
          rw [List.length_append, List.length_singleton] at hj2
          have ej : j = i := by omega
          subst ej
          rw [hfs] at hz
          cases hz
          rw [List.getElem?_append_right (by omega), dlen, Nat.sub_self] at hkv
          cases hkv
          exact fy
    · rintro σ H' ⟨s3, s4, rfl, k2, p2, d2, kvs, ds, e2, m2, w2, dv2, f2⟩
      rw [plen, List.take_length] at w2
      refine ⟨_, rfl, q _ _ (.dict ds) k2 p2 (.dct (by rw [sub_new hdx]; exact e2) (DqKv.same (sub_left dom1) _ _ dv2)) (.rcd w2 f2)⟩
  | keyed kw num ww g =>
    refine ⟨_, rfl, a, xs, 0, .str _, rfl, rfl, SqT.of eaH, at0, rfl, _, rfl, ?_⟩
    refine if_ff (show decide (V.str ("keyed" : Str) = V.str ("text" : Str)) = false by decide) ?_
    refine ⟨_, rfl, a, xs, 0, .str _, rfl, rfl, SqT.of eaH, at0, rfl, _, rfl, ?_⟩
    refine if_ff (show decide (V.str ("keyed" : Str) = V.str ("number" : Str)) = false by decide) ?_
    refine ⟨_, rfl, a, xs, 0, .str _, rfl, rfl, SqT.of eaH, at0, rfl, _, rfl, ?_⟩
    refine if_ff (show decide (V.str ("keyed" : Str) = V.str ("flag" : Str)) = false by decide) ?_
    refine ⟨_, rfl, a, xs, 0, .str _, rfl, rfl, SqT.of eaH, at0, rfl, _, rfl, ?_⟩
    refine if_ff (show decide (V.str ("keyed" : Str) = V.str ("optional" : Str)) = false by decide) ?_
    refine ⟨_, rfl, a, xs, 0, .str _, rfl, rfl, SqT.of eaH, at0, rfl, _, rfl, ?_⟩
    refine if_ff (show decide (V.str ("keyed" : Str) = V.str ("record" : Str)) = false by decide) ?_
    obtain ⟨n', rfl, nkw, okg⟩ : ∃ n', n = n' + 2 ∧ kw ≠ ww ∧ okD n' g := by
      match n, okf with
      | n' + 2, h => exact ⟨n', rfl, by simpa only [okD] using h⟩
      | 1, h => simp [okD] at h
      | 0, h => simp [okD] at h
    obtain ⟨b, c, e0', h0', exs, db, eb, ec, ee, eh⟩ : ∃ b c e h : Addr, xs = [.str "keyed", .ref b, .str kw] ∧ Dq K (hide p H) (.ref b) (enc (.rcd [(kw, kform num), (ww, g)])) ∧ hide p H b = some (.tup [.str "record", .ref c]) ∧
        (∃ e1, hide p H c = some (.tup [.ref e, .ref e1])) ∧ hide p H e = some (.tup [.str kw, .ref h]) ∧ hide p H h = some (.tup [.str (kword num)]) := by
      simp only [enc] at dv
      cases dv with
      | tup hs ha =>
        rw [ea] at hs
        cases hs
        cases ha with
        | cons h1 h2 =>
          cases h1
          cases h2 with
          | cons h3 h4 =>
            cases h4 with
            | cons h5 h6 =>
              cases h5
              cases h6
              have hb := h3
              cases h3 with
              | tup b1 b2 =>
                cases b2 with
                | cons b3 b4 =>
                  cases b3
                  cases b4 with
                  | cons b5 b6 =>
                    cases b6
                    cases b5 with
                    | tup c1 c2 =>
                      cases c2 with
                      | cons c3 c4 =>
                        cases c4 with
                        | cons c5 c6 =>
                          cases c6
                          cases c3 with
                          | tup e1 e2 =>
                            cases e2 with
                            | cons e3 e4 =>
                              cases e3
                              cases e4 with
                              | cons e5 e6 =>
                                cases e6
                                cases e5 with
                                | tup g1 g2 =>
                                  cases g2 with
                                  | cons g3 g4 =>
                                    cases g3
                                    cases g4
                                    cases c5 with
                                    | tup x1 x2 =>
                                      refine ⟨_, _, _, _, rfl, ?_, b1, ⟨_, c1⟩, e1, g1⟩
                                      simp only [enc, encFs, enc_kform]
                                      exact hb
    obtain ⟨e1', ec⟩ := ec
    have okr : okD (n' + 1) (.rcd [(kw, kform num), (ww, g)]) := by
      simp only [okD]
      refine ⟨by simp [nkw], by simp, fun z hz => ?_⟩
      rcases List.mem_cons.mp hz with rfl | hz
      · cases num <;> simp [kform, okD]
      · rw [List.mem_singleton.mp hz]
        exact okg
    refine ⟨_, rfl, p, 4, rfl, hp, by decide, by decide, fun H1 r1 k1 p1 a0 a1 => ⟨r1, rfl, by omega, by omega, fun D hD => ?_⟩⟩
    have nD := p1.ne hD
    have dom1 := k1.dom p1
    obtain ⟨H2, hH2⟩ : ∃ H2, H2 = upd H1 D (.lst []) := ⟨_, rfl⟩
    have s2 : Same H1 H2 := by rw [hH2]; exact same_new hD _
    have e2 : H2 D = some (.lst []) := by rw [hH2]; exact upd_same
    have p2 := p1.same s2
    have has2 : ∃ u, H2 p = some u := p2.has
    have hasD : ∃ u, H2 D = some u := ⟨_, e2⟩
    have dom2 : Dom H H2 := dom1.trans (Same.dom s2)
    refine lc_range (lo := 0) (n := r1.toNat) (fun i H' => Keep p H1 H' ∧ PoolAt H' p ∧ Dom H2 H' ∧ ∃ rs : List Rw, H' D = some (.lst (rs.map fun r => .ref r.a)) ∧ rs.length = i ∧ RowsAt K (sub H2 H') kw ww g rs)
      (by rw [← hH2]; exact ⟨Same.keep s2, p2, fun _ z => z, [], e2, rfl, ⟨by simp, (by simp), (by simp), (by simp)⟩⟩) ?_ ?_
    · rintro i H' hi ⟨k3, p3, d3, rs, e3, z3, R3⟩
      refine ⟨rfl, yesT ?_⟩
      have ea1 : H' a = some (.tup xs) := hide_sub p H' _ _ ((k1.trans k3).hide _ _ ea)
      refine ⟨_, rfl, _, rfl, a, xs, 1, .ref b, rfl, rfl, SqT.of ea1, by rw [exs]; rfl, p, .ref b, _, rfl, p3, Dq.same (k1.trans k3).hide _ _ db, okr, fun H4 y d k4 p4 dy fy => ?_⟩
      obtain ⟨r, rfl, er, vr, fr⟩ := row_of dy fy
      have ndA : r.a ≠ D := fun z => by
        have := (sub_some er).1
        rw [z, e3] at this
        cases this
      refine ⟨_, k4 _ _ nD e3, by rw [List.length_map, z3]; exact small1000 (by omega), (k3.trans k4).upd hD, p4.upd nD, d3.trans ((k4.dom p4).trans dom_upd), rs ++ [r], by rw [upd_same, List.map_append]; rfl, by rw [List.length_append, z3]; rfl, ?_⟩
      have R4 := RowsAt.snoc (H' := H4) R3 (sub_keep k4 has2) d3 er vr fr
      exact R4.same (sub_upd hasD)
    rintro H3 ⟨k3, p3, d3, rs, e3, z3, R3⟩
    have ea3 : H3 a = some (.tup xs) := hide_sub p H3 _ _ ((k1.trans k3).hide _ _ ea)
    refine ⟨_, rfl, a, xs, 0, .str _, rfl, rfl, SqT.of ea3, at0, rfl, _, rfl, ?_⟩
    refine if_tt (show decide (V.str ("keyed" : Str) = V.str ("keyed" : Str)) = true by decide) ?_
    -- the keys
    refine ⟨_, rfl, .ref D, rs.length, rfl, .inl ⟨_, SqL.of e3, by rw [List.length_map]⟩, rs.length, rfl, by omega, by omega, ?_⟩
    rw [Int.toNat_natCast]
    refine for_range (lo := 0) (n := rs.length) (fun i σ H' => ∃ s5 s6 : Option V, σ = [some (.ref p), some (.ref a), some (.ref D), none, none, s5, s6] ∧ Keep p H1 H' ∧ PoolAt H' p ∧ Dom H2 H' ∧
        ∃ rs' : List Rw, H' D = some (.lst (rs'.map fun r => .ref r.a)) ∧ rs'.length = rs.length ∧ RowsAt K (sub H2 H') kw ww g rs' ∧ ∀ (j : Nat) (r : Rw), j < i → rs'[j]? = some r → ∃ kd, keyOf num j kd ∧ ∀ S, Dq K S r.u kd)
      ⟨none, none, rfl, k3, p3, d3, rs, e3, rfl, R3, fun j r h => absurd h (Nat.not_lt_zero j)⟩ ?_ ?_
    · rintro i σ H' hi ⟨s5, s6, rfl, k4, p4, d4, rs', e4, z4, R4, ky⟩
      have hh : Same (hide p H) (hide p H') := (k1.trans k4).hide
      have up : ∀ {q : Addr} {o : HO}, hide p H q = some o → H' q = some o := fun {q o} e => hide_sub p H' _ _ (hh _ _ e)
      refine ⟨_, rfl, a, xs, 1, .ref b, rfl, rfl, SqT.of (up ea), by rw [exs]; rfl, b, _, 1, .ref c, rfl, rfl, SqT.of (up eb), rfl, c, _, 0, .ref e0', rfl, rfl, SqT.of (up ec), rfl, e0', _, 1, .ref h0', rfl, rfl, SqT.of (up ee), rfl, ?_⟩
      refine ⟨(by show 1 ≤ sizeLine; decide), fun t ht => ?_⟩
      have nth : h0' ≠ t := ne_of_none (up eh) ht
      refine ⟨.tuple [.str (kword num)], .tuple [.str "number"], .tup (SqT.of (by rw [upd_ne nth]; exact up eh)) (.cons (.str _) .nil), .tup (SqT.of upd_same) (.cons (.str _) .nil), (by cases num <;> decide +kernel), (by decide +kernel), ?_⟩
      have eqn : PyData.eqv (.tuple [.str (kword num)]) (.tuple [.str "number"]) = num := by cases num <;> decide +kernel
      rw [eqn]
      obtain ⟨H5, hH5⟩ : ∃ H5, H5 = upd H' t (.tup [.str "number"]) := ⟨_, rfl⟩
      rw [← hH5]
      have s5' : Same H' H5 := by rw [hH5]; exact same_new ht _
      have p5 := p4.same s5'
      have k5 : Keep p H1 H5 := k4.trans (Same.keep s5')
      have d5 : Dom H2 H5 := d4.trans (Same.dom s5')
      have e5 := s5' _ _ e4
      have R5 : RowsAt K (sub H2 H5) kw ww g rs' := R4.same (by rw [hH5]; exact sub_fresh ht)
      have i' : i < rs'.length := by omega
      -- the row, stored
      have store : ∀ (H6 : Hp) (u : V) (kd : PyData), Keep p H5 H6 → PoolAt H6 p → keyOf num i kd → (∀ S, Dq K S u kd) → ∃ (s5 s6 : Option V), ([some (.ref p), some (.ref a), some (.ref D), none, none, some (.int (0 + (i : Int))), some (.bl num)] : L2.St) = [some (.ref p), some (.ref a), some (.ref D), none, none, s5, s6] ∧
          ∃ (q1 : Addr) (xs1 : List V) (i1 : Int) (v1 : V), V.ref D = .ref q1 ∧ V.int (0 + (i : Int)) = .int i1 ∧ SqL K H6 q1 xs1 ∧ atI xs1 i1 = some v1 ∧ ∃ (a2 : Addr) (H7 : Hp), v1 = .ref a2 ∧ H6 a = some (.tup xs) ∧ DPut H6 a2 (.str kw) u H7 ∧ Keep p H1 H7 ∧ PoolAt H7 p ∧ Dom H2 H7 ∧
            ∃ rs' : List Rw, H7 D = some (.lst (rs'.map fun r => .ref r.a)) ∧ rs'.length = rs.length ∧ RowsAt K (sub H2 H7) kw ww g rs' ∧ ∀ (j : Nat) (r : Rw), j < i + 1 → rs'[j]? = some r → ∃ kd, keyOf num j kd ∧ ∀ S, Dq K S r.u kd := by
        intro H6 u kd k6 p6 hk hu
        have e6 := k6 _ _ nD e5
        have R6 : RowsAt K (sub H2 H6) kw ww g rs' := R5.same (sub_keep k6 has2)
        have hr : rs'[i]? = some rs'[i] := List.getElem?_eq_getElem i'
        have dr := R6.dct _ (List.mem_of_getElem? hr)
        have nrD : rs'[i].a ≠ D := fun z => by
          have := (sub_some dr).2
          rw [z, e6] at this
          cases this
        have nrp : rs'[i].a ≠ p := fun z => by
          have := (sub_some dr).1
          obtain ⟨u, hu⟩ := has2
          rw [z, hu] at this
          cases this
        refine ⟨_, _, rfl, D, _, _, .ref rs'[i].a, rfl, rfl, SqL.of e6, at_of (j := i) (by omega) (by rw [List.getElem?_map, hr]; rfl), rs'[i].a, _, rfl, hide_sub p H6 _ _ ((k1.trans (k5.trans k6)).hide _ _ ea), DPut.k (k := Sum.inr kw) (sub_some dr).2 (by show 2 < sizeLine; decide), ?_⟩
        have pk : putK [(Sum.inr kw, rs'[i].u), (Sum.inr ww, rs'[i].y)] (Sum.inr kw) u = ([(Sum.inr kw, u), (Sum.inr ww, rs'[i].y)] : List (Key × V)) := by
          have nk : ¬ (Sum.inr ww : Key) = Sum.inr kw := fun z => nkw (Sum.inr.inj z).symm
          unfold putK
          rw [if_pos (by simp)]
          simp [nk]
        rw [pk]
        have nH1 : H1 rs'[i].a = none := by
          have := (sub_some dr).1
          rw [hH2, upd_ne nrD] at this
          exact this
        refine ⟨(k5.trans k6).upd nH1, p6.upd nrp, d5.trans ((k6.dom p6).trans dom_upd), rs'.set i { rs'[i] with u := u }, ?_, ?_, R6.set hr, ?_⟩
        · rw [upd_ne nrD.symm, e6, List.map_set]
          refine congrArg (fun z => some (HO.lst z)) ?_
          apply List.ext_getElem?
          intro j
          rw [List.getElem?_set]
          by_cases e : i = j
          · subst e
            rw [if_pos rfl, if_pos (by rw [List.length_map]; exact i'), List.getElem?_map, hr]
            rfl
          · rw [if_neg e]
        · rw [List.length_set]
          exact z4
        · intro j r hj hrj
          rw [List.getElem?_set] at hrj
          by_cases e : i = j
          · rw [if_pos e, if_pos i'] at hrj
            have := Option.some.inj hrj
            subst e
            rw [← this]
            exact ⟨kd, hk, hu⟩
          · rw [if_neg e] at hrj
            exact ky j r (by omega) hrj
      cases num with
      | true =>
        refine ⟨_, rfl, _, rfl, iteT ?_⟩
        refine ⟨_, rfl, _, _, rfl, rfl, .inr ⟨by decide, by decide⟩, ?_⟩
        refine ⟨_, rfl, p, 3, rfl, p5, by decide, by decide, fun H6 r2 k6 p6 b0 b1 => ⟨_, _, rfl, rfl, ?_⟩⟩
        obtain ⟨t5, t6, es, q1, xs1, i1, v1, g1, g2, g3, g4, a2, H7, g5, g6, g7, g8⟩ := store H6 (.int ((0 + (i : Int)) * 3 + r2)) (.int ((0 + (i : Int)) * 3 + r2)) k6 p6 ⟨_, rfl, by omega, by omega⟩ (fun S => .int _)
        refine ⟨_, rfl, _, rfl, q1, xs1, i1, v1, g1, g2, g3, g4, ?_⟩
        refine ⟨_, rfl, a, xs, 2, .str kw, rfl, rfl, SqT.of g6, by rw [exs]; rfl, a2, H7, g5, g7, t5, t6, es, g8⟩
      | false =>
        refine ⟨_, rfl, _, rfl, iteF ?_⟩
        refine ⟨_, rfl, _, _, rfl, rfl, ?_⟩
        refine ⟨_, _, rfl, rfl, by omega, by omega, (by show 1 ≤ 1; decide), (by show 1 ≤ 1000; decide), ?_⟩
        have en : (0 + (i : Int) + 1).toNat = i + 1 := by omega
        obtain ⟨t5, t6, es, q1, xs1, i1, v1, g1, g2, g3, g4, a2, H7, g5, g6, g7, g8⟩ := store H5 (.str (repS "k" (0 + (i : Int) + 1).toNat)) (.str (repS "k" (0 + (i : Int) + 1).toNat)) (Keep.refl _ _) p5 (by rw [en]; rfl) (fun S => .str _)
        refine ⟨_, rfl, _, rfl, q1, xs1, i1, v1, g1, g2, g3, g4, ?_⟩
        refine ⟨_, rfl, a, xs, 2, .str kw, rfl, rfl, SqT.of g6, by rw [exs]; rfl, a2, H7, g5, g7, t5, t6, es, g8⟩
    · rintro σ H' ⟨s5, s6, rfl, k4, p4, d4, rs', e4, z4, R4, ky⟩
      refine ⟨_, rfl, D, _, rfl, .inl ⟨SqL.of e4, fun t ht => ?_⟩⟩
      have gt : H t = none := (dom2.trans d4) _ ht
      -- the rows as they are at last
      obtain ⟨rows, hl, hk, hf, hd⟩ : ∃ rows : List (PyData × PyData), rows.length = rs'.length ∧ (∀ (i : Nat) (r : PyData × PyData), rows[i]? = some r → keyOf num i r.1) ∧ (∀ r ∈ rows, Fit g r.2) ∧
          DqAll K (sub H H') (rs'.map fun r => .ref r.a) (rows.map fun r => .dict [(.str kw, r.1), (.str ww, r.2)]) := by
        have R5 : RowsAt K (sub H H') kw ww g rs' := R4.same (sub_left dom2)
        have gen : ∀ (tl : List Rw) (m : Nat), (∀ r ∈ tl, r ∈ rs') → (∀ (j : Nat) (r : Rw), tl[j]? = some r → ∃ kd, keyOf num (m + j) kd ∧ ∀ S, Dq K S r.u kd) →
            ∃ rows : List (PyData × PyData), rows.length = tl.length ∧ (∀ (i : Nat) (r : PyData × PyData), rows[i]? = some r → keyOf num (m + i) r.1) ∧ (∀ r ∈ rows, Fit g r.2) ∧
              DqAll K (sub H H') (tl.map fun r => .ref r.a) (rows.map fun r => .dict [(.str kw, r.1), (.str ww, r.2)]) := by
          intro tl
          induction tl with
          | nil => exact fun m _ _ => ⟨[], rfl, (fun i r h => by simp at h), (fun r h => by cases h), .nil⟩
          | cons r tl ih =>
            intro m hm hkk
            obtain ⟨rows, h1, h2, h3, h4⟩ := ih (m + 1) (fun x hx => hm x (List.mem_cons_of_mem _ hx)) (fun j x hx => by
              have := hkk (j + 1) x (by simpa using hx)
              rw [show m + 1 + j = m + (j + 1) by omega]
              exact this)
            obtain ⟨kd, q1, q2⟩ := hkk 0 r rfl
            have hr := hm r List.mem_cons_self
            refine ⟨(kd, r.x) :: rows, by rw [List.length_cons, List.length_cons, h1], fun i x hx => ?_, fun x hx => ?_, ?_⟩
            · cases i with
              | zero =>
                simp at hx
                rw [← hx]
                exact q1
              | succ i =>
                have := h2 i x (by simpa using hx)
                rw [show m + (i + 1) = m + 1 + i by omega]
                exact this
            · rcases List.mem_cons.mp hx with rfl | hx
              · exact R5.fit r hr
              · exact h3 x hx
            · refine .cons ?_ h4
              refine .dct (R5.dct r hr) (DqKv.cons (k := Sum.inr kw) (q2 _) (DqKv.cons (k := Sum.inr ww) ?_ .nil))
              exact Dq.same (fun b o e => (hideL_some e).2) _ _ (R5.val r hr)
        have := gen rs' 0 (fun r hr => hr) (fun j r hr => ky j r (by
          have := (List.getElem?_eq_some_iff.mp hr).1
          omega) (by simpa using hr) |> fun ⟨kd, h1, h2⟩ => ⟨kd, by rw [Nat.zero_add]; exact h1, h2⟩)
        obtain ⟨rows, h1, h2, h3, h4⟩ := this
        exact ⟨rows, h1, fun i r hr => by
          have := h2 i r hr
          rw [Nat.zero_add] at this
          exact this, h3, h4⟩
      refine q _ _ (.tuple (rows.map fun r => .dict [(.str kw, r.1), (.str ww, r.2)])) (k1.trans (k4.trans (Keep.new ht _))) (p4.same (same_new ht _)) ?_ (.keyed (by omega) hk hf)
      exact .tup (by rw [sub_new gt]; exact upd_same) (DqAll.same (sub_fresh ht) _ _ hd)
theorem ok_thing {f fdr fch : Addr} {fd fdd fdc : FuncData} (F : Fun K "_law_thing_of" "_law_thing_of" s_thing f fd) (T : Bl mg) (g : mg "_law_thing_of" = some (.ref f)) (b : Binds K fd P_thing []) (D_draw : Def P w K mg base "_law_draw" 1 P_draw spDraw fdr fdd) (D_chars : Def P w K mg base "_law_chars" 2 P_chars spChars fch fdc) :
    ∀ n : Nat, FnOk P w K mg base CX0 (n + 2) f fd P_thing (spThingL K n)
  | 0 => ⟨fun _ _ _ _ h => h.elim, fun _ _ _ _ _ _ _ _ _ _ _ _ _ h => h.elim⟩
  | n + 1 => ok_thingS F T D_draw D_chars ⟨g, F.kp, b, ok_thing F T g b D_draw D_chars n⟩
end
end KX

namespace KX
open PySem PySem.Spec L2 PyProof.Rows
/-! ### list(d.values()) -/
theorem vals_snd : ∀ {rows : List (Key × V)} {vs : List (Key × Value)}, KV rows vs → Vals (rows.map Prod.snd) (vs.map Prod.snd)
  | _, _, .nil => .nil
  | _, _, .cons one more => .cons one.2 (vals_snd more)
theorem snd_of_items {κ : Type} {vs : List (κ × Value)} {acc : Array Value} (z : acc.size = vs.length) (each : ∀ (j : Nat) (v : Value), acc[j]? = some v → ∃ k, vs[j]? = some (k, v)) : acc.toList = vs.map Prod.snd := by
  apply List.ext_getElem?
  intro j
  rw [Array.getElem?_toList, List.getElem?_map]
  cases q : acc[j]? with
  | none =>
    rw [Array.getElem?_eq_none_iff] at q
    rw [List.getElem?_eq_none (by omega)]
    rfl
  | some v =>
    obtain ⟨k, ek⟩ := each j v q
    rw [ek]
    rfl
def tListVals (te : TE) : TE := fun σ H Q => te σ H fun x G => ∃ (m : Addr) (rows : List (Key × V)), x = .ref m ∧ G m = some (.dK rows) ∧ ∀ l, G l = none → Q (.ref l) (upd G l (.lst (rows.map Prod.snd)))
section
variable {X : Cx} {e : Expr} {te : TE} {p apos cpos pos : Pos}
theorem pe_listVals (calm : X.calm = true) (isG : Gl X "list") (own : X.mg "list" = none) (recv : PE X e te)
    (attr : attributeBase e "values" X.env (eval e X.env) = eval e X.env := by rfl) (row : (apos.endLine == cpos.line) = true := by rfl)
    (stars : starEach [.Call (.Attribute e "values" apos) [] [] cpos] X.env = (false, eval (.Call (.Attribute e "values" apos) [] [] cpos) X.env) :: starEach [] X.env := by rfl) :
    PE X (.Call (.Name "list" p) [.Call (.Attribute e "values" apos) [] [] cpos] [] pos) (tListVals te) := by
  constructor
  intro pins s σ H Q I want
  have calls : wpAny (model X.prog X.w) X.A (eval (.Call (.Attribute e "values" apos) [] [] cpos) X.env) (fun u s2 => wpAny (model X.prog X.w) X.A (call (.type "list") [u]) (EP X pins σ Q) X.xe s2) X.xe s := by
    refine wpAny_Call_method (T := "dict") (id := "dict.values") attr rfl row PySem.F.plainAttrs_dict PySem.F.slot_dict_values PySem.F.type_dict_values ?_
    refine thn (recv.run pins s σ H _ I want) ?_
    rintro u s1 ⟨x, G, J, rx, m, rows, rfl, em, q⟩
    have eu : u = Value.ref m := rx
    subst eu
    obtain ⟨short, low, vs, kv, dict⟩ := J.hok m _ em
    obtain ⟨ep, stands⟩ := dict.dictAt
    have len : rows.length = vs.length := Paired.length kv
    refine ⟨dict.typeIs, dict.mapOf.noDict, ?_⟩
    generalize hv : ({ cls := .type "dict_values", data := .fields #[.ref m] } : Obj) = view
    have J2 : Inv X pins σ G { s1 with heap := s1.heap.push view } := J.kept (t' := s1.toks) (fun b o there => Heap.get?_push_of_some _ there)
    refine method_meetsIn PySem.F.slot_dict_values PySem.F.entry_dict_values rfl (PySem.evalArgs_none ⟨rfl, dict.typeIs, PySem.F.args_dict_values_1 _, _, meets_dict_values (mixKind X.prog X.w) m low, ⟨vs, dict⟩, ?_⟩)
    rw [hv]
    have src : (s1.heap.push view).IsValuesView s1.heap.objs.size m ∧ (s1.heap.push view).DictAt (mixKind X.prog X.w) m vs ep := ⟨by subst hv; exact ⟨_, Heap.get?_push_size _ rfl, rfl, rfl⟩, stands.push _⟩
    refine PySem.W.kdl_call (PySem.W.kdl_values (knd := mixKind X.prog X.w) (kvs := vs) (ep := ep)) (J.ok.hd calm) src (by omega) ?_
    intro h' tk acc c keeps made items
    have all : acc.toList = vs.map Prod.snd := snd_of_items items.1 items.2
    refine ⟨.ref _, _, J2.laid (t' := tk) (o := .lst (rows.map Prod.snd)) keeps (Nat.le_refl _) ?_, rfl, q _ (J2.hok.fresh (Nat.le_refl _))⟩
    refine ⟨by rw [List.length_map]; exact short, acc.toList, c, ?_, ?_⟩
    · rw [all]
      exact vals_snd kv
    · rw [Array.toArray_toList]
      exact made
  have known : bootBuiltins "list" = some (Value.type "list") := by decide +kernel
  refine wpAny_Call_Name_kw (ld_blt I isG own known ?_)
  refine PyProof.Rows.callWith_type1 ?_ stars rfl
  rw [stars]
  exact Calls.spliced_cons (thn calls fun u s2 h => Calls.spliced_nil h)
end
end KX

namespace KX
open PySem PySem.Spec L2 PyProof.Rows
/-! ### signs -/
/-- the whole numbers of the module, each with its token -/
structure Lm (mg : Str → Option Value) (t : Str → Tok) : Prop where
  NEWLINE : mg "NEWLINE" = some (.int 10 (t "NEWLINE"))
  SPACE : mg "SPACE" = some (.int 32 (t "SPACE"))
  PERCENT : mg "PERCENT" = some (.int 37 (t "PERCENT"))
  TILDE : mg "TILDE" = some (.int 126 (t "TILDE"))
  MAX_ELEMENTS : mg "MAX_ELEMENTS" = some (.int 60 (t "MAX_ELEMENTS"))
  MAX_LEVELS : mg "MAX_LEVELS" = some (.int 6 (t "MAX_LEVELS"))
  MAX_LETTERS : mg "MAX_LETTERS" = some (.int 12 (t "MAX_LETTERS"))
theorem one_lt (c d : Nat) : (⟨#[c]⟩ : Str).cps.toList < (⟨#[d]⟩ : Str).cps.toList ↔ c < d := by
  show [c] < [d] ↔ c < d
  constructor
  · intro h
    rcases h with _ | h | h
    · assumption
    · cases h
  · exact List.Lex.rel
theorem one_le (c d : Nat) : (!decide ((⟨#[d]⟩ : Str).cps.toList < (⟨#[c]⟩ : Str).cps.toList)) = decide (c ≤ d) := by
  have e : decide ((⟨#[d]⟩ : Str).cps.toList < (⟨#[c]⟩ : Str).cps.toList) = decide (d < c) := by
    rw [decide_eq_decide]
    exact one_lt d c
  rw [e, Bool.eq_iff_iff]
  simp only [Bool.not_eq_true', decide_eq_false_iff_not, decide_eq_true_eq]
  omega
/-- a text as values have it -/
def TxV (z : Str) : Prop := z.length ≤ 64 ∧ ∀ c ∈ ql z, AllowC c
theorem Same.updNew {G G' : Hp} {D : Addr} {o : HO} (k : Same G G') (new : G D = none) : Same G (upd G' D o) := fun b u there =>
  (upd_ne (ne_of_none there new)).trans (k b u there)
theorem Same.unlock {G G' : Hp} {d : Addr} {f u : HO} (k : Same (upd G d f) G') (was : G d = some u) : Same G (upd G' d u) := by
  intro b o there
  rcases Classical.em (b = d) with rfl | other
  · exact upd_same.trans (was.symm.trans there)
  · exact (upd_ne other).trans (k b o ((upd_ne other).trans there))
theorem less_line {n : Nat} (h : n ≤ 1000) : n < sizeLine := small1000 h
def trues (n : Nat) : List V := (List.replicate n true).map V.bl
theorem trues_more (n : Nat) : trues n ++ [V.bl true] = trues (n + 1) := by
  simp [trues, List.replicate_succ']
theorem trues_len (n : Nat) : (trues n).length = n := by simp [trues]
theorem trues_all (n : Nat) : (List.replicate n true).all id = true := by simp
section
variable {base : Heap} {P : Program} {w : World} {K : PySem.W.Frag} {mg : Str → Option Value} {tk : Str → Tok}
abbrev s_is_sign : Stmt := top 12
abbrev N_is_sign : List Str := ["sign", "code"]
abbrev P_is_sign : List Str := ["sign"]
theorem sc_is_sign : FnScope N_is_sign P_is_sign (defScope s_is_sign) := ⟨rfl, rfl, rfl, by decide +kernel, rfl, by decide +kernel, by decide +kernel⟩
def spSign : Sp := fun vs H Q _ => ∃ c : Nat, vs = [.str ⟨#[c]⟩] ∧ AllowC c ∧ Q (.bl true) H
theorem ok_is_sign {f : Addr} {fd : FuncData} (F : Fun K "is_sign" "is_sign" s_is_sign f fd) (T : Bl mg) (L : Lm mg tk) : FnOk P w K mg base CX0 1 f fd P_is_sign spSign := by
  refine F.ok sc_is_sign (fun vs H Q E h => ?_) (fun cdv A outer s H vs Q E hr h => ?_)
  · obtain ⟨c, rfl, _⟩ := h
    rfl
  obtain ⟨c, rfl, hc, q⟩ := h
  refine ⟨_, (pss_cons (ps_set (i := 1) sc_is_sign.nd rfl (Or.inl rfl) (pe_callB call_ord (by rfl) T.ord (by decide +kernel) (pa_cons (pv 0) pa_nil)))
    (pss_one (ps_ret (pe_or (pe_cmpR op_eq (pv 1) (pe_glob (v := .int 10) rfl L.NEWLINE ⟨_, rfl⟩) (nomark _)) (pe_one (pe_and (pe_chain op_le op_le (pe_glob (v := .int 32) rfl L.SPACE ⟨_, rfl⟩) (pv 1) (pe_glob (v := .int 126) rfl L.TILDE ⟨_, rfl⟩)) (pe_one (pe_cmpR op_ne (pv 1) (pe_glob (v := .int 37) rfl L.PERCENT ⟨_, rfl⟩) (nomark _))))))))), ?_⟩
  refine ⟨_, rfl, _, rfl, rfl, _, rfl, rfl, _, rfl, ite2 (fun _ => q) (fun n => ?_)⟩
  have hn : c ≠ 10 := fun e => n (by rw [e]; rfl)
  have h2 : 32 ≤ c ∧ c ≤ 126 ∧ c ≠ 37 := hc.resolve_left hn
  refine ⟨_, rfl, _, _, rfl, rfl, _, rfl, if_tt (decide_eq_true (by show (32 : Int) ≤ (c : Int); omega)) ⟨_, _, rfl, rfl, _, rfl, if_tt (decide_eq_true (by show (c : Int) ≤ (126 : Int); omega)) ⟨_, rfl, rfl, ?_⟩⟩⟩
  have e : (!decide (V.int (c : Int) = V.int 37)) = true := by
    simp only [V.int.injEq, Bool.not_eq_true', decide_eq_false_iff_not]
    omega
  have e' : (!decide (V.int (((⟨#[c]⟩ : Str).cps.getD 0 0 : Nat) : Int) = V.int 37)) = true := e
  rw [e']
  exact q
abbrev s_is_text : Stmt := top 13
abbrev N_is_text : List Str := ["thing", "sign"]
abbrev P_is_text : List Str := ["thing"]
theorem sc_is_text : FnScope N_is_text P_is_text (defScope s_is_text) := ⟨rfl, rfl, rfl, by decide +kernel, rfl, by decide +kernel, by decide +kernel⟩
/-- a text is one; a tuple, a list and a dict are none -/
def spText : Sp := fun vs H Q _ => (∃ z : Str, vs = [.str z] ∧ TxV z ∧ ∀ H', Same H H' → Q (.bl true) H') ∨ (∃ a, vs = [.ref a] ∧ ((∃ xs, H a = some (.tup xs)) ∨ (∃ kvs, H a = some (.dK kvs)) ∨ ∃ xs, H a = some (.lst xs)) ∧ Q (.bl false) H)
theorem ok_is_text {f g : Addr} {fd gd : FuncData} (F : Fun K "is_text" "is_text" s_is_text f fd) (T : Bl mg) (D_is_sign : Def P w K mg base "is_sign" 1 P_is_sign spSign g gd) : FnOk P w K mg base CX0 2 f fd P_is_text spText := by
  refine F.ok sc_is_text (fun vs H Q E h => ?_) (fun cdv A outer s H vs Q E hr h => ?_)
  · rcases h with ⟨c, rfl, _⟩ | ⟨c, rfl, _⟩ <;> rfl
  refine ⟨_, (pss_one (ps_ret (pe_and (pe_callB call_isi (by rfl) T.isinstance (by decide +kernel) (pa_cons (pv 0) (pa_cons (pe_bltn (v := .ty "str") (by rfl) T.str (by decide +kernel) rfl) pa_nil))) (pe_one (pe_callB (cr_all rfl) (by rfl) T.all (by decide +kernel) (pa_cons (pe_lc (own := [("sign", 1)]) (g := (gName 1)) (tt := tYes) rfl sc_is_text.nd (pi_str (pv 0)) (blkOk_by (own := [("sign", 1)]) (N := N_is_text) (sc := defScope s_is_text) (by decide +kernel)) (fun _ _ _ _ _ => (pg_name (i := 1) sc_is_text.nd rfl (Or.inl rfl))) (fun _ _ _ _ _ => pts_nil) (fun _ _ _ _ _ => (pe_call D_is_sign.ok (hr.mono (by first | decide | omega)) rfl D_is_sign.g D_is_sign.kp D_is_sign.b .nil pass0 (pa_cons (pv 1) pa_nil)))) pa_nil)))))), ?_⟩
  rcases h with ⟨z, rfl, ⟨z1, z2⟩, q⟩ | ⟨a, rfl, ha, q⟩
  · refine ⟨_, rfl, _, _, _, _, true, rfl, .ty _, .base (.str _), kit_ty (by decide +kernel), _, rfl, if_tt rfl ?_⟩
    refine ⟨_, rfl, z, rfl, fun D new => ?_⟩
    refine lc_it walk_str (fun i H' => Same H H' ∧ H' D = some (.lst (trues i))) ⟨same_new new _, upd_same⟩ (fun _ _ _ _ => trivial) ?_ ?_
    · rintro i x G G' hi ⟨kept, made⟩ ⟨rfl, c, at', rfl⟩
      have cm : c ∈ ql z := List.mem_of_getElem? (by rw [← Array.getElem?_toList] at at'; exact at')
      have sz : z.cps.size = z.length := rfl
      refine ⟨rfl, yesT ⟨_, rfl, c, rfl, z2 c cm, _, made, ?_, Same.updNew kept new, ?_⟩⟩
      · rw [trues_len]
        exact less_line (by omega)
      · rw [upd_same, trues_more]
    · rintro G ⟨kept, made⟩
      refine ⟨D, _, rfl, SqL.of made, ?_⟩
      rw [trues_all]
      exact q G kept
  · rcases ha with ⟨xs, ha⟩ | ⟨kvs, ha⟩ | ⟨xs, ha⟩
    · exact ⟨_, rfl, _, _, _, _, false, rfl, .ty _, .base (.tup ha), kit_ty (by decide +kernel), _, rfl, if_ff rfl q⟩
    · exact ⟨_, rfl, _, _, _, _, false, rfl, .ty _, .base (.dK ha), kit_ty (by decide +kernel), _, rfl, if_ff rfl q⟩
    · exact ⟨_, rfl, _, _, _, _, false, rfl, .ty _, .base (.lst ha), kit_ty (by decide +kernel), _, rfl, if_ff rfl q⟩
abbrev s_is_letter : Stmt := top 14
abbrev N_is_letter : List Str := ["sign"]
abbrev P_is_letter : List Str := ["sign"]
theorem sc_is_letter : FnScope N_is_letter P_is_letter (defScope s_is_letter) := ⟨rfl, rfl, rfl, by decide +kernel, rfl, by decide +kernel, by decide +kernel⟩
def spBetween (lo hi : Nat) : Sp := fun vs H Q _ => ∃ c : Nat, vs = [.str ⟨#[c]⟩] ∧ Q (.bl (decide (lo ≤ c ∧ c ≤ hi))) H
theorem between_of {lo hi c : Nat} {Q : VK} {H : Hp} (q : Q (.bl (decide (lo ≤ c ∧ c ≤ hi))) H) : if decide (lo ≤ c) = true then Q (.bl (decide (c ≤ hi))) H else Q (.bl false) H := by
  refine ite2 (fun a => ?_) (fun a => ?_)
  · rw [decide_eq_true_eq] at a
    have e : decide (c ≤ hi) = decide (lo ≤ c ∧ c ≤ hi) := by
      rw [decide_eq_decide]
      exact ⟨fun b => ⟨a, b⟩, fun b => b.2⟩
    rw [e]
    exact q
  · rw [decide_eq_true_eq] at a
    rw [decide_eq_false (fun h => a h.1)] at q
    exact q
theorem ok_is_letter {f : Addr} {fd : FuncData} (F : Fun K "is_letter" "is_letter" s_is_letter f fd) : FnOk P w K mg base CX0 1 f fd P_is_letter (spBetween 97 122) := by
  refine F.ok sc_is_letter (fun vs H Q E h => ?_) (fun cdv A outer s H vs Q E hr h => ?_)
  · obtain ⟨c, rfl, _⟩ := h
    rfl
  obtain ⟨c, rfl, q⟩ := h
  refine ⟨_, (pss_one (ps_ret (pe_chain op_le_str op_le_str pe_str (pv 0) pe_str))), ?_⟩
  have lo : (!decide ((⟨#[c]⟩ : Str).cps.toList < (("a" : Str)).cps.toList)) = decide (97 ≤ c) := one_le 97 c
  have hi : (!decide ((("z" : Str)).cps.toList < (⟨#[c]⟩ : Str).cps.toList)) = decide (c ≤ 122) := one_le c 122
  have both := between_of q
  refine ⟨_, rfl, _, _, rfl, rfl, _, rfl, ?_⟩
  rw [lo]
  refine ite2 (fun a => ⟨_, _, rfl, rfl, ?_⟩) (fun a => ?_)
  · rw [if_pos a] at both
    rw [hi]
    exact both
  · rw [if_neg a] at both
    exact both
end
end KX

namespace KX
open PySem PySem.Spec L2 PyProof.Rows
/-! ### sorted texts are in one order -/
theorem rising_pw : ∀ (l : List Str) (p : Str), risingS p l = true → (∀ x ∈ l, p.cps.toList ≤ x.cps.toList) ∧ l.Pairwise (fun a b => a.cps.toList ≤ b.cps.toList)
  | [], _, _ => ⟨(fun _ h => nomatch h), List.Pairwise.nil⟩
  | x :: r, p, h => by
    unfold risingS at h
    simp only [Bool.and_eq_true, Bool.not_eq_true', ltCps_eq, decide_eq_false_iff_not] at h
    obtain ⟨h1, h2⟩ := rising_pw r x h.2
    have hp : p.cps.toList ≤ x.cps.toList := List.not_lt.mp h.1
    refine ⟨fun y hy => ?_, .cons h1 h2⟩
    rcases List.mem_cons.mp hy with rfl | hy
    · exact hp
    · exact List.le_trans hp (h1 y hy)
theorem sorted_pw {l : List Str} (h : sortedS l = true) : l.Pairwise (fun a b => a.cps.toList ≤ b.cps.toList) := by
  cases l with
  | nil => exact .nil
  | cons x r =>
    obtain ⟨h1, h2⟩ := rising_pw r x h
    exact .cons h1 h2
/-- a key: a name, or a number -/
def KeyOk : PyData → Prop
  | .str z => IsNm z
  | .int _ => True
  | _ => False
def nameK : PyData → Bool
  | .str _ => true
  | _ => false
/-- things as they are drawn and bent: small, of at most this many levels; lists at any place, tuples that are too long -/
def Vd : Nat → PyData → Prop
  | n + 1, .tuple ds => ds.length ≤ 100 ∧ ∀ x ∈ ds, Vd n x
  | n + 1, .dict kvs => (kvs.length ≤ 100 ∧ (kvs.map (·.1)).Nodup ∧ ∀ kv ∈ kvs, KeyOk kv.1) ∧ ∀ kv ∈ kvs, Vd n kv.2
  | _, .none => True
  | _, .bool _ => True
  | _, .int i => i.natAbs ≤ 10 ^ 40
  | _, .str z => TxV z
  | _, .list _ => True
  | 0, .tuple _ => False
  | 0, .dict _ => False
/-- by what stands on top -/
def Vk : PyData → Prop
  | .str z => TxV z
  | .list _ => True
  | .tuple ds => ds.length ≤ 100
  | .dict kvs => kvs.length ≤ 100 ∧ (kvs.map (·.1)).Nodup ∧ ∀ kv ∈ kvs, KeyOk kv.1
  | .int i => i.natAbs ≤ 10 ^ 40
  | _ => True
theorem Vd.vk : ∀ {n : Nat} {d : PyData}, Vd n d → Vk d
  | _, .none, _ => trivial
  | _, .bool _, _ => trivial
  | _, .int _, h => by simpa only [Vd, Vk] using h
  | _, .str z, h => by simpa only [Vd, Vk] using h
  | n + 1, .tuple ds, h => by
    have h' : ds.length ≤ 100 ∧ ∀ x ∈ ds, Vd n x := by simpa only [Vd] using h
    exact h'.1
  | n + 1, .dict kvs, h => by
    have h' : (kvs.length ≤ 100 ∧ (kvs.map (·.1)).Nodup ∧ ∀ kv ∈ kvs, KeyOk kv.1) ∧ ∀ kv ∈ kvs, Vd n kv.2 := by simpa only [Vd] using h
    exact h'.1
  | 0, .tuple _, h => by simp [Vd] at h
  | 0, .dict _, h => by simp [Vd] at h
  | _, .list _, _ => trivial
theorem Vd.up : ∀ {n : Nat} {d : PyData}, Vd n d → Vd (n + 1) d
  | _, .none, _ => by simp [Vd]
  | _, .bool _, _ => by simp [Vd]
  | _, .int _, h => by simpa only [Vd] using h
  | _, .str z, h => by simpa only [Vd] using h
  | n + 1, .tuple ds, h => by
    have h' : ds.length ≤ 100 ∧ ∀ x ∈ ds, Vd n x := by simpa only [Vd] using h
    show Vd (n + 1 + 1) (.tuple ds)
    simp only [Vd]
    exact ⟨h'.1, fun x hx => (h'.2 x hx).up⟩
  | n + 1, .dict kvs, h => by
    have h' : (kvs.length ≤ 100 ∧ (kvs.map (·.1)).Nodup ∧ ∀ kv ∈ kvs, KeyOk kv.1) ∧ ∀ kv ∈ kvs, Vd n kv.2 := by simpa only [Vd] using h
    show Vd (n + 1 + 1) (.dict kvs)
    simp only [Vd]
    exact ⟨h'.1, fun x hx => (h'.2 x hx).up⟩
  | 0, .tuple _, h => by simp [Vd] at h
  | 0, .dict _, h => by simp [Vd] at h
  | _, .list _, _ => by simp [Vd]
theorem Vd.ups {n : Nat} {d : PyData} (h : Vd n d) : ∀ k, Vd (n + k) d
  | 0 => h
  | k + 1 => (Vd.ups h k).up
section
variable {base : Heap} {P : Program} {w : World} {K : PySem.W.Frag} {mg : Str → Option Value} {tk : Str → Tok}
abbrev s_is_name : Stmt := top 17
abbrev N_is_name : List Str := ["thing", "letter"]
abbrev P_is_name : List Str := ["thing"]
theorem sc_is_name : FnScope N_is_name P_is_name (defScope s_is_name) := ⟨rfl, rfl, rfl, by decide +kernel, rfl, by decide +kernel, by decide +kernel⟩
def spIsName : Sp := fun vs H Q _ => ∃ z : Str, vs = [.str z] ∧ IsNm z ∧ ∀ H', Same H H' → Q (.bl true) H'
theorem ok_is_name {f g : Addr} {fd gd : FuncData} (F : Fun K "is_name" "is_name" s_is_name f fd) (T : Bl mg) (L : Lm mg tk) (D_is_letter : Def P w K mg base "is_letter" 1 P_is_letter (spBetween 97 122) g gd) : FnOk P w K mg base CX0 2 f fd P_is_name spIsName := by
  refine F.ok sc_is_name (fun vs H Q E h => ?_) (fun cdv A outer s H vs Q E hr h => ?_)
  · obtain ⟨c, rfl, _⟩ := h
    rfl
  obtain ⟨z, rfl, ⟨z1, z2, z3⟩, q⟩ := h
  have zs : z.length ≤ sizeLine := Nat.le_of_lt (less_line (by omega))
  refine ⟨_, (pss_cons (ps_if (PW.pt (pw_or (pt_not (pt_val (pe_callB call_isi (by rfl) T.isinstance (by decide +kernel) (pa_cons (pv 0) (pa_cons (pe_bltn (v := .ty "str") (by rfl) T.str (by decide +kernel) rfl) pa_nil))))) (pw_or1 (pt_not (pt_chain op_le op_le pe_int (pe_callB (call_lenK K rfl) (by rfl) T.len PySem.boot_len (pa_cons (pv 0) pa_nil)) (pe_glob (v := .int 12) rfl L.MAX_LETTERS ⟨_, rfl⟩))))))
      (pss_one (ps_ret pe_bl))
      pss_nil)
    (pss_one (ps_ret (pe_callB (cr_all rfl) (by rfl) T.all (by decide +kernel) (pa_cons (pe_lc (own := [("letter", 1)]) (g := (gName 1)) (tt := tYes) rfl sc_is_name.nd (pi_str (pv 0)) (blkOk_by (own := [("letter", 1)]) (N := N_is_name) (sc := defScope s_is_name) (by decide +kernel)) (fun _ _ _ _ _ => (pg_name (i := 1) sc_is_name.nd rfl (Or.inl rfl))) (fun _ _ _ _ _ => pts_nil) (fun _ _ _ _ _ => (pe_call D_is_letter.ok (hr.mono (by first | decide | omega)) rfl D_is_letter.g D_is_letter.kp D_is_letter.b .nil pass0 (pa_cons (pv 1) pa_nil)))) pa_nil))))), ?_⟩
  refine ⟨_, rfl, _, _, _, _, true, rfl, .ty _, .base (.str _), kit_ty (by decide +kernel), _, rfl, if_ff rfl ?_⟩
  refine ⟨_, rfl, _, z.length, rfl, ⟨zs, rfl⟩, _, _, rfl, rfl, _, rfl, if_tt (decide_eq_true (by omega)) ⟨_, _, rfl, rfl, _, rfl, if_ff ?_ ?_⟩⟩
  · rw [decide_eq_true (by omega)]
    rfl
  refine ⟨_, rfl, z, rfl, fun D new => ?_⟩
  refine lc_it walk_str (fun i G => Same H G ∧ G D = some (.lst (trues i))) ⟨same_new new _, upd_same⟩ (fun _ _ _ _ => trivial) ?_ ?_
  · rintro i x G2 G hi ⟨kept, made⟩ ⟨rfl, c, at', rfl⟩
    have cm : c ∈ ql z := List.mem_of_getElem? (by rw [← Array.getElem?_toList] at at'; exact at')
    have sz : z.cps.size = z.length := rfl
    refine ⟨rfl, yesT ⟨_, rfl, c, rfl, _, made, ?_, Same.updNew kept new, ?_⟩⟩
    · rw [trues_len]
      exact less_line (by omega)
    · rw [upd_same, decide_eq_true (z3 c cm), trues_more]
  · rintro G ⟨kept, made⟩
    refine ⟨D, _, rfl, SqL.of made, ?_⟩
    rw [trues_all]
    exact q G kept
/-- either promise -/
theorem FnOk.or {k : Nat} {f : Addr} {fd : FuncData} {ps : List Str} {s1 s2 : Sp} (F : FnOk P w K mg base CX0 k f fd ps s1) (G : FnOk P w K mg base CX0 k f fd ps s2) : FnOk P w K mg base CX0 k f fd ps (fun vs H Q E => s1 vs H Q E ∨ s2 vs H Q E) :=
  ⟨fun vs H Q E h => h.elim (F.len vs H Q E) (G.len vs H Q E), fun A outer s H args us vs Q E room e0 bound rel h => h.elim (F.run A outer s H args us vs Q E room e0 bound rel) (G.run A outer s H args us vs Q E room e0 bound rel)⟩
/-- no text is no name -/
def spNoName : Sp := fun vs H Q _ => ((∃ i : Int, vs = [.int i]) ∨ vs = [.non]) ∧ ∀ H', Same H H' → Q (.bl false) H'
theorem ok_no_name {f g : Addr} {fd gd : FuncData} (F : Fun K "is_name" "is_name" s_is_name f fd) (T : Bl mg) (L : Lm mg tk) (D_is_letter : Def P w K mg base "is_letter" 1 P_is_letter (spBetween 97 122) g gd) : FnOk P w K mg base CX0 2 f fd P_is_name spNoName := by
  refine F.ok sc_is_name (fun vs H Q E h => ?_) (fun cdv A outer s H vs Q E hr h => ?_)
  · obtain ⟨⟨i, rfl⟩ | rfl, _⟩ := h <;> rfl
  obtain ⟨no, q⟩ := h
  refine ⟨_, (pss_cons (ps_if (PW.pt (pw_or (pt_not (pt_val (pe_callB call_isi (by rfl) T.isinstance (by decide +kernel) (pa_cons (pv 0) (pa_cons (pe_bltn (v := .ty "str") (by rfl) T.str (by decide +kernel) rfl) pa_nil))))) (pw_or1 (pt_not (pt_chain op_le op_le pe_int (pe_callB (call_lenK K rfl) (by rfl) T.len PySem.boot_len (pa_cons (pv 0) pa_nil)) (pe_glob (v := .int 12) rfl L.MAX_LETTERS ⟨_, rfl⟩))))))
      (pss_one (ps_ret pe_bl))
      pss_nil)
    (pss_one (ps_ret (pe_callB (cr_all rfl) (by rfl) T.all (by decide +kernel) (pa_cons (pe_lc (own := [("letter", 1)]) (g := (gName 1)) (tt := tYes) rfl sc_is_name.nd (pi_str (pv 0)) (blkOk_by (own := [("letter", 1)]) (N := N_is_name) (sc := defScope s_is_name) (by decide +kernel)) (fun _ _ _ _ _ => (pg_name (i := 1) sc_is_name.nd rfl (Or.inl rfl))) (fun _ _ _ _ _ => pts_nil) (fun _ _ _ _ _ => (pe_call D_is_letter.ok (hr.mono (by first | decide | omega)) rfl D_is_letter.g D_is_letter.kp D_is_letter.b .nil pass0 (pa_cons (pv 1) pa_nil)))) pa_nil))))), ?_⟩
  rcases no with ⟨i, rfl⟩ | rfl
  · refine ⟨_, rfl, _, _, _, _, false, rfl, .ty _, .base (.int _), kit_ty (by decide +kernel), _, rfl, if_tt rfl ?_⟩
    exact q _ (Same.refl H)
  · refine ⟨_, rfl, _, _, _, _, false, rfl, .ty _, .base .non, kit_ty (by decide +kernel), _, rfl, if_tt rfl ?_⟩
    exact q _ (Same.refl H)
def spName2 : Sp := fun vs H Q E => spIsName vs H Q E ∨ spNoName vs H Q E
end
end KX

namespace KX
open PySem PySem.Spec L2 PyProof.Rows
theorem keyD_str {k : Key} {z : Str} (h : keyD k = .str z) : k = .inr z := by
  cases k with
  | inl i => cases h
  | inr x => simp only [keyD, PyData.str.injEq] at h; rw [h]
theorem DqKv.length {K : PySem.W.Frag} {H : Hp} : ∀ {vs : List (Key × V)} {ds : List (PyData × PyData)}, DqKv K H vs ds → vs.length = ds.length
  | _, _, .nil => rfl
  | _, _, .cons _ h2 => by rw [List.length_cons, List.length_cons, DqKv.length h2]
theorem DqKv.get {K : PySem.W.Frag} {H : Hp} : ∀ {vs : List (Key × V)} {ds : List (PyData × PyData)} {i : Nat} {k : Key} {v : V}, DqKv K H vs ds → vs[i]? = some (k, v) → ∃ d, ds[i]? = some (keyD k, d) ∧ Dq K H v d
  | _, _, _, _, _, .nil, e => by simp at e
  | _, _, 0, _, _, .cons h _, e => by simp at e; obtain ⟨rfl, rfl⟩ := e; exact ⟨_, rfl, h⟩
  | _, _, i + 1, _, _, .cons _ t, e => by
    obtain ⟨d, h1, h2⟩ := DqKv.get (i := i) t (by simpa using e)
    exact ⟨d, by simpa using h1, h2⟩
/-- the kind of a thing, "?" where it has none -/
def kindS : PyData → Str
  | .none => "absent"
  | .bool _ => "flag"
  | .int _ => "number"
  | .str _ => "text"
  | .list _ => "?"
  | .tuple ds => if ds.length ≤ 60 then "list" else "?"
  | .dict kvs => if (kvs.all fun kv => nameK kv.1) = true then "record" else "?"
/-- .. as it is told -/
def kindV : PyData → V
  | .none => .str "absent"
  | .bool _ => .str "flag"
  | .int _ => .str "number"
  | .str _ => .str "text"
  | .list _ => .non
  | .tuple ds => if ds.length ≤ 60 then .str "list" else .non
  | .dict kvs => if (kvs.all fun kv => nameK kv.1) = true then .str "record" else .non
theorem kindV_is {d : PyData} {z : Str} (k : z ≠ "?") : kindV d = .str z ↔ kindS d = z := by
  have one : ∀ y : Str, V.str y = .str z ↔ y = z := fun y => ⟨V.str.inj, fun e => by rw [e]⟩
  have no : V.non = .str z ↔ ("?" : Str) = z := ⟨fun h => (nomatch h), fun h => absurd h.symm k⟩
  cases d with
  | none => exact one _
  | bool => exact one _
  | int => exact one _
  | str => exact one _
  | list => exact no
  | dict kvs =>
    show (if (kvs.all fun kv => nameK kv.1) = true then V.str "record" else V.non) = .str z ↔ (if (kvs.all fun kv => nameK kv.1) = true then ("record" : Str) else "?") = z
    by_cases all : (kvs.all fun kv => nameK kv.1) = true
    · rw [if_pos all, if_pos all]
      exact one _
    · rw [if_neg all, if_neg all]
      exact no
  | tuple ds =>
    show (if ds.length ≤ 60 then V.str "list" else V.non) = .str z ↔ (if ds.length ≤ 60 then ("list" : Str) else "?") = z
    by_cases le : ds.length ≤ 60
    · rw [if_pos le, if_pos le]
      exact one _
    · rw [if_neg le, if_neg le]
      exact no
section
variable {base : Heap} {P : Program} {w : World} {K : PySem.W.Frag} {mg : Str → Option Value} {tk : Str → Tok}
abbrev s_kind_of : Stmt := top 24
abbrev N_kind_of : List Str := ["thing", "name"]
abbrev P_kind_of : List Str := ["thing"]
theorem sc_kind_of : FnScope N_kind_of P_kind_of (defScope s_kind_of) := ⟨rfl, rfl, rfl, by decide +kernel, rfl, by decide +kernel, by decide +kernel⟩
def spKind (K : PySem.W.Frag) : Sp := fun vs H Q _ => ∃ (v : V) (d : PyData), vs = [v] ∧ Dq K H v d ∧ Vk d ∧ ∀ H', Same H H' → Q (kindV d) H'
theorem ok_kind_of {f ft fn : Addr} {fd fdt fdn : FuncData} (F : Fun K "kind_of" "kind_of" s_kind_of f fd) (T : Bl mg) (L : Lm mg tk) (D_is_text : Def P w K mg base "is_text" 2 P_is_text spText ft fdt) (D_is_name : Def P w K mg base "is_name" 2 P_is_name spName2 fn fdn) :
    FnOk P w K mg base CX0 3 f fd P_kind_of (spKind K) := by
  refine F.ok sc_kind_of (fun vs H Q E h => ?_) (fun cdv A outer s H vs Q E hr h => ?_)
  · obtain ⟨v, d, rfl, _⟩ := h
    rfl
  obtain ⟨v, d, rfl, hd, hv, q⟩ := h
  refine ⟨_, (pss_cons (ps_if (pt_cmpR op_isN (pv 0) pe_non (nomark _))
      (pss_one (ps_ret pe_str))
      pss_nil)
    (pss_cons (ps_if (pt_val (pe_callB call_isi (by rfl) T.isinstance (by decide +kernel) (pa_cons (pv 0) (pa_cons (pe_bltn (v := .ty "bool") (by rfl) T.bool (by decide +kernel) rfl) pa_nil))))
      (pss_one (ps_ret pe_str))
      pss_nil)
    (pss_cons (ps_if (pt_val (pe_callB call_isi (by rfl) T.isinstance (by decide +kernel) (pa_cons (pv 0) (pa_cons (pe_bltn (v := .ty "int") (by rfl) T.int (by decide +kernel) rfl) pa_nil))))
      (pss_one (ps_ret pe_str))
      pss_nil)
    (pss_cons (ps_if (pt_val (pe_call D_is_text.ok (hr.mono (by first | decide | omega)) rfl D_is_text.g D_is_text.kp D_is_text.b .nil pass0 (pa_cons (pv 0) pa_nil)))
      (pss_one (ps_ret pe_str))
      pss_nil)
    (pss_cons (ps_if (PW.pt (pw_and (pt_val (pe_callB call_isi (by rfl) T.isinstance (by decide +kernel) (pa_cons (pv 0) (pa_cons (pe_bltn (v := .ty "tuple") (by rfl) T.tuple (by decide +kernel) rfl) pa_nil)))) (pw_and1 (pt_cmpR op_le (pe_callB (call_lenK K rfl) (by rfl) T.len PySem.boot_len (pa_cons (pv 0) pa_nil)) (pe_glob (v := .int 60) rfl L.MAX_ELEMENTS ⟨_, rfl⟩) (nomark _)))))
      (pss_one (ps_ret pe_str))
      pss_nil)
    (pss_cons (ps_if (PW.pt (pw_and (pt_val (pe_callB call_isi (by rfl) T.isinstance (by decide +kernel) (pa_cons (pv 0) (pa_cons (pe_bltn (v := .ty "dict") (by rfl) T.dict (by decide +kernel) rfl) pa_nil)))) (pw_and1 (pt_val (pe_callB (cr_all rfl) (by rfl) T.all (by decide +kernel) (pa_cons (pe_lock (pe_lc (own := [("name", 1)]) (g := (gName 1)) (tt := tYes) rfl sc_kind_of.nd (pi_keys (pv 0)) (blkOk_by (own := [("name", 1)]) (N := N_kind_of) (sc := defScope s_kind_of) (by decide +kernel)) (fun _ _ _ _ _ => (pg_name (i := 1) sc_kind_of.nd rfl (Or.inl rfl))) (fun _ _ _ _ _ => pts_nil) (fun _ _ _ _ _ => (pe_call D_is_name.ok (hr.mono (by first | decide | omega)) rfl D_is_name.g D_is_name.kp D_is_name.b .nil pass0 (pa_cons (pv 1) pa_nil))))) pa_nil))))))
      (pss_one (ps_ret pe_str))
      pss_nil)
    (pss_one (ps_ret pe_non)))))))), ?_⟩
  cases hd with
  | non => exact ⟨_, rfl, rfl, _, rfl, if_tt rfl (q _ (Same.refl H))⟩
  | bl b =>
    refine ⟨_, rfl, rfl, _, rfl, if_ff rfl ?_⟩
    refine ⟨_, rfl, _, _, _, _, true, rfl, .ty _, .base (.bl _), kit_ty (by decide +kernel), _, rfl, if_tt rfl ?_⟩
    exact q _ (Same.refl H)
  | int i =>
    refine ⟨_, rfl, rfl, _, rfl, if_ff rfl ?_⟩
    refine ⟨_, rfl, _, _, _, _, false, rfl, .ty _, .base (.int _), kit_ty (by decide +kernel), _, rfl, if_ff rfl ?_⟩
    refine ⟨_, rfl, _, _, _, _, true, rfl, .ty _, .base (.int _), kit_ty (by decide +kernel), _, rfl, if_tt rfl ?_⟩
    exact q _ (Same.refl H)
  | str x =>
    refine ⟨_, rfl, rfl, _, rfl, if_ff rfl ?_⟩
    refine ⟨_, rfl, _, _, _, _, false, rfl, .ty _, .base (.str _), kit_ty (by decide +kernel), _, rfl, if_ff rfl ?_⟩
    refine ⟨_, rfl, _, _, _, _, false, rfl, .ty _, .base (.str _), kit_ty (by decide +kernel), _, rfl, if_ff rfl ?_⟩
    exact ⟨_, rfl, .inl ⟨x, rfl, hv, fun H' same => ⟨_, rfl, if_tt rfl (q _ same)⟩⟩⟩
  | lst hs ha =>
    refine ⟨_, rfl, rfl, _, rfl, if_ff rfl ?_⟩
    refine ⟨_, rfl, _, _, _, _, false, rfl, .ty _, .base (.lst hs), kit_ty (by decide +kernel), _, rfl, if_ff rfl ?_⟩
    refine ⟨_, rfl, _, _, _, _, false, rfl, .ty _, .base (.lst hs), kit_ty (by decide +kernel), _, rfl, if_ff rfl ?_⟩
    refine ⟨_, rfl, .inr ⟨_, rfl, .inr (.inr ⟨_, hs⟩), _, rfl, if_ff rfl ?_⟩⟩
    refine ⟨_, rfl, _, _, _, _, false, rfl, .ty _, .base (.lst hs), kit_ty (by decide +kernel), _, rfl, if_ff rfl ?_⟩
    refine if_ff rfl ?_
    refine ⟨_, rfl, _, _, _, _, false, rfl, .ty _, .base (.lst hs), kit_ty (by decide +kernel), _, rfl, if_ff rfl ?_⟩
    exact q _ (Same.refl H)
  | tup hs ha =>
    rename_i a xs ds
    have hl : ds.length ≤ 100 := hv
    have el := DqAll.length ha
    refine ⟨_, rfl, rfl, _, rfl, if_ff rfl ?_⟩
    refine ⟨_, rfl, _, _, _, _, false, rfl, .ty _, .base (.tup hs), kit_ty (by decide +kernel), _, rfl, if_ff rfl ?_⟩
    refine ⟨_, rfl, _, _, _, _, false, rfl, .ty _, .base (.tup hs), kit_ty (by decide +kernel), _, rfl, if_ff rfl ?_⟩
    refine ⟨_, rfl, .inr ⟨a, rfl, .inl ⟨_, hs⟩, _, rfl, if_ff rfl ?_⟩⟩
    refine ⟨_, rfl, _, _, _, _, true, rfl, .ty _, .base (.tup hs), kit_ty (by decide +kernel), _, rfl, if_tt rfl ?_⟩
    have qq := q _ (Same.refl H)
    replace qq : Q (if ds.length ≤ 60 then V.str "list" else .non) H := qq
    refine ⟨_, rfl, _, xs.length, rfl, .inr ⟨xs, SqT.of hs, rfl⟩, _, _, rfl, rfl, _, rfl, ?_⟩
    by_cases le : ds.length ≤ 60
    · rw [if_pos le] at qq
      exact if_tt (decide_eq_true (by omega)) qq
    · rw [if_neg le] at qq
      refine if_ff (decide_eq_false (by omega)) ?_
      refine ⟨_, rfl, _, _, _, _, false, rfl, .ty _, .base (.tup hs), kit_ty (by decide +kernel), _, rfl, if_ff rfl ?_⟩
      exact qq
  | dct hs ha =>
    rename_i a kvs ds
    obtain ⟨hl, _, hk⟩ := hv
    refine ⟨_, rfl, rfl, _, rfl, if_ff rfl ?_⟩
    refine ⟨_, rfl, _, _, _, _, false, rfl, .ty _, .base (.dK hs), kit_ty (by decide +kernel), _, rfl, if_ff rfl ?_⟩
    refine ⟨_, rfl, _, _, _, _, false, rfl, .ty _, .base (.dK hs), kit_ty (by decide +kernel), _, rfl, if_ff rfl ?_⟩
    refine ⟨_, rfl, .inr ⟨a, rfl, .inr (.inl ⟨_, hs⟩), _, rfl, if_ff rfl ?_⟩⟩
    refine ⟨_, rfl, _, _, _, _, false, rfl, .ty _, .base (.dK hs), kit_ty (by decide +kernel), _, rfl, if_ff rfl ?_⟩
    refine if_ff rfl ?_
    refine ⟨_, rfl, _, _, _, _, true, rfl, .ty _, .base (.dK hs), kit_ty (by decide +kernel), _, rfl, if_tt rfl ?_⟩
    refine ⟨a, _, hs, trivial, fun od => ⟨_, rfl, a, od, rfl, .inl ⟨kvs, upd_same, fun D hD => ?_⟩⟩⟩
    have hDa : D ≠ a := fun e => by
      rw [e, upd_same] at hD
      cases hD
    have el := DqKv.length ha
    refine lc_it walk_keys (fun i G => Same (upd H a (.frz od (.dK kvs))) G ∧ G D = some (.lst ((ds.take i).map fun kv => .bl (nameK kv.1)))) ⟨same_new hD _, upd_same⟩ (fun i G _ p => p.1 _ _ upd_same) ?_ ?_
    · rintro i x G2 G hi ⟨kept, made⟩ ⟨rfl, k, v, hkv, rfl⟩
      obtain ⟨d, e1, e2⟩ := DqKv.get ha hkv
      have hz := hk _ (List.mem_of_getElem? e1)
      have tk : ds.take (i + 1) = ds.take i ++ [(keyD k, d)] := by rw [List.take_succ, e1]; rfl
      have small : ((ds.take i).map fun kv => V.bl (nameK kv.1)).length < sizeLine := by
        rw [List.length_map, List.length_take]
        exact less_line (by omega)
      refine ⟨rfl, yesT ?_⟩
      cases k with
      | inr z =>
        refine ⟨_, rfl, .inl ⟨z, rfl, hz, fun G3 same => ⟨_, same _ _ made, small, Same.updNew (kept.trans same) hD, ?_⟩⟩⟩
        rw [upd_same, tk, List.map_append]
        rfl
      | inl j =>
        refine ⟨_, rfl, .inr ⟨.inl ⟨j, rfl⟩, fun G3 same => ⟨_, same _ _ made, small, Same.updNew (kept.trans same) hD, ?_⟩⟩⟩
        rw [upd_same, tk, List.map_append]
        rfl
    · rintro G ⟨kept, made⟩
      rw [el, List.take_length] at made
      refine ⟨kept _ _ upd_same, D, ds.map fun kv => nameK kv.1, rfl, SqL.of (by rw [upd_ne hDa, made, List.map_map]; rfl), ?_⟩
      have same : ((ds.map fun kv => nameK kv.1).all id) = ds.all fun kv => nameK kv.1 := by
        rw [List.all_map]
        rfl
      rw [same]
      have qq := q _ (Same.unlock kept hs)
      replace qq : Q (if (ds.all fun kv => nameK kv.1) = true then V.str "record" else .non) (upd G a (.dK kvs)) := qq
      by_cases all : (ds.all fun kv => nameK kv.1) = true
      · rw [if_pos all] at qq
        exact ⟨_, rfl, if_tt all qq⟩
      · rw [if_neg all] at qq
        exact ⟨_, rfl, if_ff (by simpa using all) qq⟩
end
end KX

namespace KX
open PySem PySem.Spec L2 PyProof.Rows
/-- two tuples, side by side -/
theorem walk_zipT {K : PySem.W.Frag} {a b : Addr} {xs ys : List V} {n : Nat} (least : n = min xs.length ys.length) : Walk (RZ.ItzT K a b) n (fun H => SqT K H a xs ∧ SqT K H b ys) (YPair (fun i => xs[i]?) (fun i => ys[i]?)) := by
  constructor
  · intro i H hi h
    have l1 : i < xs.length := by omega
    have l2 : i < ys.length := by omega
    exact ⟨xs, ys, xs[i], ys[i], h.1, h.2, List.getElem?_eq_getElem l1, List.getElem?_eq_getElem l2⟩
  · intro H h
    exact ⟨xs, ys, h.1, h.2, by omega⟩
  · rintro i H v H' _ h ⟨T, x, y, e, new, up, fx, fy⟩
    exact ⟨T, x, y, e, new, up, fx _ h.1, fy _ h.2⟩
theorem sorted_one {ys zs : List Str} (p : ys.Perm zs) (h1 : sortedS ys = true) (h2 : sortedS zs = true) : ys = zs :=
  List.Perm.eq_of_pairwise (le := fun a b : Str => a.cps.toList ≤ b.cps.toList) (fun a b _ _ h h' => ql_ext (List.le_antisymm h h')) (sorted_pw h1) (sorted_pw h2) p
def isKey : PyData → Str → Bool
  | .str z, k => decide (z = k)
  | _, _ => false
def keyIn (kvs : List (PyData × PyData)) (k : Str) : Option PyData := (kvs.find? fun kv => isKey kv.1 k).map (·.2)
theorem find_kv {K : PySem.W.Frag} {H : Hp} (n : Str) : ∀ {vs : List (Key × V)} {ds : List (PyData × PyData)}, DqKv K H vs ds → (valV vs (.inr n) = none ∧ keyIn ds n = none) ∨ ∃ v d, valV vs (.inr n) = some v ∧ keyIn ds n = some d ∧ Dq K H v d ∧ ∃ k, (k, d) ∈ ds
  | _, _, .nil => .inl ⟨rfl, rfl⟩
  | _, _, @DqKv.cons _ _ k v r d ds h more => by
    have e : isKey (keyD k) n = decide (k = .inr n) := by
      cases k with
      | inl i =>
        rw [decide_eq_false (by intro z; cases z)]
        rfl
      | inr z =>
        show decide (z = n) = _
        rw [decide_eq_decide]
        exact ⟨fun x => by rw [x], fun x => Sum.inr.inj x⟩
    unfold valV keyIn
    rw [List.find?_cons, List.find?_cons]
    dsimp only
    rw [e]
    by_cases z : k = .inr n
    · rw [decide_eq_true z]
      exact .inr ⟨v, d, rfl, rfl, h, _, List.mem_cons_self⟩
    · rw [decide_eq_false z]
      rcases find_kv n more with ⟨a, b⟩ | ⟨v', d', a, b, c, k', m⟩
      · exact .inl ⟨a, b⟩
      · exact .inr ⟨v', d', a, b, c, k', List.mem_cons_of_mem _ m⟩
/-! ### the same value, whatever the order of the fields -/
mutual
inductive Alike : PyData → PyData → Prop
  | non : Alike .none .none
  | bl (b : Bool) : Alike (.bool b) (.bool b)
  | int (i : Int) : Alike (.int i) (.int i)
  | str (z : Str) : Alike (.str z) (.str z)
  | tup {ds es : List PyData} : AlikeL ds es → Alike (.tuple ds) (.tuple es)
  | dct {ds es fs : List (PyData × PyData)} : AlikeK ds fs → fs.Perm es → Alike (.dict ds) (.dict es)
inductive AlikeL : List PyData → List PyData → Prop
  | nil : AlikeL [] []
  | cons {d e : PyData} {ds es : List PyData} : Alike d e → AlikeL ds es → AlikeL (d :: ds) (e :: es)
inductive AlikeK : List (PyData × PyData) → List (PyData × PyData) → Prop
  | nil : AlikeK [] []
  | cons {k d e : PyData} {ds es : List (PyData × PyData)} : Alike d e → AlikeK ds es → AlikeK ((k, d) :: ds) ((k, e) :: es)
end
theorem AlikeL.length : ∀ {ds es : List PyData}, AlikeL ds es → ds.length = es.length
  | _, _, .nil => rfl
  | _, _, .cons _ t => congrArg (· + 1) t.length
theorem AlikeL.at' : ∀ {ds es : List PyData} {i : Nat} {d : PyData}, AlikeL ds es → ds[i]? = some d → ∃ e, es[i]? = some e ∧ Alike d e
  | _, _, _, _, .nil, h => by simp at h
  | _, _, 0, _, .cons a _, h => by
    obtain rfl := Option.some.inj h
    exact ⟨_, rfl, a⟩
  | _, _, i + 1, _, .cons _ t, h => t.at' (i := i) h
theorem AlikeK.keys : ∀ {ds es : List (PyData × PyData)}, AlikeK ds es → ds.map (·.1) = es.map (·.1)
  | _, _, .nil => rfl
  | _, _, .cons _ t => congrArg (_ :: ·) t.keys
theorem AlikeK.mem : ∀ {ds es : List (PyData × PyData)} {k d : PyData}, AlikeK ds es → (k, d) ∈ ds → ∃ e, (k, e) ∈ es ∧ Alike d e
  | _, _, _, _, .nil, h => nomatch h
  | _, _, _, _, .cons a t, h => by
    rcases List.mem_cons.mp h with z | z
    · cases z
      exact ⟨_, List.mem_cons_self, a⟩
    · obtain ⟨e, m, b⟩ := t.mem z
      exact ⟨e, List.mem_cons_of_mem _ m, b⟩
theorem depthKv_perm {es fs : List (PyData × PyData)} (p : fs.Perm es) : PyData.depthKv fs = PyData.depthKv es := by
  induction p with
  | nil => rfl
  | cons x _ ih =>
    obtain ⟨k, d⟩ := x
    simp only [PyData.depthKv, ih]
  | swap x y l =>
    obtain ⟨k, d⟩ := x
    obtain ⟨k', d'⟩ := y
    simp only [PyData.depthKv]
    omega
  | trans _ _ a b => exact a.trans b
mutual
theorem Alike.depth : ∀ {d e : PyData}, Alike d e → d.depth = e.depth
  | _, _, .non => rfl
  | _, _, .bl _ => rfl
  | _, _, .int _ => rfl
  | _, _, .str _ => rfl
  | _, _, .tup h => by simp only [PyData.depth, h.depth]
  | _, _, .dct h p => by simp only [PyData.depth, h.depth, depthKv_perm p]
theorem AlikeL.depth : ∀ {ds es : List PyData}, AlikeL ds es → PyData.depthAll ds = PyData.depthAll es
  | _, _, .nil => rfl
  | _, _, .cons a t => by simp only [PyData.depthAll, a.depth, t.depth]
theorem AlikeK.depth : ∀ {ds es : List (PyData × PyData)}, AlikeK ds es → PyData.depthKv ds = PyData.depthKv es
  | _, _, .nil => rfl
  | _, _, .cons a t => by simp only [PyData.depthKv, a.depth, t.depth]
end
theorem keyIn_mem {n : Str} {d : PyData} : ∀ {kvs : List (PyData × PyData)}, (kvs.map (·.1)).Nodup → (PyData.str n, d) ∈ kvs → keyIn kvs n = some d
  | [], _, h => nomatch h
  | (k, x) :: r, nd, h => by
    rw [List.map_cons, List.nodup_cons] at nd
    unfold keyIn
    rw [List.find?_cons]
    rcases List.mem_cons.mp h with z | z
    · cases z
      rw [show isKey (PyData.str n) n = true from decide_eq_true rfl]
      rfl
    · have ne : isKey k n = false := by
        cases k with
        | str y =>
          refine decide_eq_false fun e => nd.1 ?_
          subst e
          exact List.mem_map.mpr ⟨_, z, rfl⟩
        | _ => rfl
      dsimp only
      rw [ne]
      exact keyIn_mem nd.2 z
section
variable {base : Heap} {P : Program} {w : World} {K : PySem.W.Frag} {mg : Str → Option Value} {tk : Str → Tok}
theorem strs_dp {H : Hp} : ∀ (ys : List Str), DpAll K H (ys.map V.str) (ys.map PyData.str)
  | [] => .nil
  | y :: r => .cons (.str y) (strs_dp r)
theorem strs_eqv : ∀ ys : List Str, PyData.eqv (.list (ys.map PyData.str)) (.list (ys.map PyData.str)) = true := fun ys => by
  refine PySem.SeqAt.eqv_refl_plain _ ?_
  induction ys with
  | nil => rfl
  | cons y r ih => exact ih
theorem strs_shaped {ys : List Str} (h : ∀ z ∈ ys, IsNm z) : SeqAt.shaped (.list (ys.map PyData.str)) = true := by
  unfold SeqAt.shaped
  rw [Bool.and_eq_true, decide_eq_true_eq]
  constructor
  · show PyData.canLayAll0 (ys.map PyData.str) = true
    induction ys with
    | nil => rfl
    | cons y r ih =>
      have h1 := h y List.mem_cons_self
      rw [List.map_cons]
      simp only [PyData.canLayAll0, PyData.canLay0]
      rw [ih fun z hz => h z (List.mem_cons_of_mem _ hz), Bool.and_true]
      show (y.cps.all (· < 0x110000)) = true
      rw [Array.all_eq_true]
      intro i hi
      have := h1.2.2 y.cps[i] (List.mem_of_getElem? (i := i) (by rw [show ql y = y.cps.toList from rfl, Array.getElem?_toList]; exact Array.getElem?_eq_getElem hi))
      simp only [decide_eq_true_eq]
      omega
  · have d : PyData.depthAll (ys.map PyData.str) ≤ 1 := by
      induction ys with
      | nil => simp [PyData.depthAll]
      | cons y r ih =>
        have := ih fun z hz => h z (List.mem_cons_of_mem _ hz)
        simp only [List.map_cons, PyData.depthAll, PyData.depth]
        omega
    simp only [PyData.depth]
    omega
end
end KX

namespace KX
open PySem PySem.Spec L2 PyProof.Rows
/-! ### a reader of a text -/
/-- at r: a reader of z that stands at i -/
def Rd (RC : Addr) (H : Hp) (r : Addr) (z : Str) (i : Nat) : Prop := ∃ dx, H r = some (.ins RC dx [("written", .str z), ("at", .int (i : Int))])
theorem Rd.same {RC : Addr} {H H' : Hp} {r : Addr} {z : Str} {i : Nat} (h : Rd RC H r z i) (s : Same H H') : Rd RC H' r z i := h.imp fun _ e => s _ _ e
theorem Rd.has {RC : Addr} {H : Hp} {r : Addr} {z : Str} {i : Nat} (h : Rd RC H r z i) : ∃ o, H r = some o := let ⟨_, e⟩ := h; ⟨_, e⟩
/-- a reader goes on, nothing else is laid or changed -/
structure Goes (r : Addr) (H H' : Hp) : Prop where
  keep : Keep r H H'
  dom : ∀ b, H b = none → H' b = none
theorem Goes.refl (r : Addr) (H : Hp) : Goes r H H := ⟨Keep.refl _ _, fun _ h => h⟩
theorem Goes.trans {r : Addr} {H H1 H2 : Hp} (a : Goes r H H1) (b : Goes r H1 H2) : Goes r H H2 := ⟨a.keep.trans b.keep, fun c h => b.dom c (a.dom c h)⟩
theorem Goes.put {r : Addr} {H : Hp} {o u : HO} (h : H r = some u) : Goes r H (upd H r o) := ⟨Keep.self, fun b e => by
  rw [upd_ne (fun z => by rw [z, h] at e; cases e)]
  exact e⟩
/-- S stands at the beginning of L -/
def pre (S L : List Nat) : Bool := L.take S.length == S
theorem pre_fits {S L : List Nat} (h : pre S L = true) : S.length ≤ L.length := by
  have e : L.take S.length = S := eq_of_beq h
  have := congrArg List.length e
  rw [List.length_take] at this
  omega
/-- the text stands at i -/
theorem sw3_at {x y : Str} {i : Nat} (h : i ≤ x.length) : Txt.startswith3 x y (i : Int) = pre (ql y) ((ql x).drop i) := by
  have f : fromIndex x.length (i : Int) = i := by
    unfold fromIndex
    rw [if_neg (by omega)]
    omega
  unfold Txt.startswith3
  rw [f, PySem.StrLaws.subAt_eq]
  cases p : pre (ql y) ((ql x).drop i) with
  | true =>
    have l := pre_fits p
    rw [List.length_drop, ← ql_len, ← ql_len] at l
    have e : ((x.cps.toList.drop i).take y.length == y.cps.toList) = true := by
      rw [ql_len y]
      exact p
    rw [e, Bool.and_true, decide_eq_true]
    omega
  | false =>
    have e : ((x.cps.toList.drop i).take y.length == y.cps.toList) = false := by
      rw [ql_len y]
      exact p
    rw [e, Bool.and_false]
/-- a method and its promise -/
structure MtD (P : Program) (w : World) (K : PySem.W.Frag) (mg : Str → Option Value) (base : Heap) (C : Addr) (m : Str) (n : Nat) (ps : List Str) (sp : Sp) (f : Addr) (fd : FuncData) : Prop where
  cl : Cls K C
  me : Meth K C m f
  b : Binds K fd ps []
  ok : FnOk P w K mg base CX0 n f fd ps sp
/-- a def that a name of another def's own holds -/
theorem pe_held {X : Cx} {x : Str} {p pos : Pos} {e : Expr} {es : List Expr} {t : TA} {i k : Nat} {f : Addr} {fd : FuncData} {ps : List Str} {sp : Sp} (F : FnOk X.prog X.w X.K X.mg X.base CX0 k f fd ps sp) (kept : PySem.W.keepIn X.K (.ref f) = true) (binds : Binds X.K fd ps []) (room : Room k X.A)
    (slot : X.N[i]? = some x) (own : Vis X.env.scope x) (args : PA X (e :: es) t) (d1 : (x == ("__debug__" : Str)) = false := by decide) (d2 : (x == ("__classdict__" : Str)) = false := by decide)
    (stars : starEach (e :: es) X.env = (false, eval e X.env) :: starEach es X.env := by rfl) (noStar : (backTo pos (starEach es X.env)).any (·.1) = false := by rfl) :
    PE X (.Call (.Name x p) (e :: es) [] pos) (fun σ H Q => σ[i]? = some (some (.ref f)) ∧ t σ H fun vs H1 => sp vs H1 Q E0) := by
  constructor
  rintro pins s σ H Q I ⟨here, want⟩
  have name := (pe_var (pos := p) slot own d1 d2).run pins s σ H (fun v G => v = .ref f ∧ G = H) I ⟨_, here, rfl, rfl⟩
  refine wpAny_Call_Name_kw (thn name ?_)
  rintro u s1 ⟨v, G, J, rel, rfl, rfl⟩
  obtain rfl : u = Value.ref f := rel
  refine PySem.W.callWith_K (h₀ := X.base) J.ok.mod.kin kept (thn (args.run pos pins s1 σ _ _ J want) ?_) stars noStar
  rintro us s2 ⟨vs, G2, J2, rels, asked⟩
  exact ⟨J2.kIn, run_fn F room binds .nil pass0 J2 rels (by rw [List.append_nil]; exact asked)⟩
section
variable {base : Heap} {P : Program} {w : World} {K : PySem.W.Frag} {mg : Str → Option Value} {tk : Str → Tok} {RC : Addr}
/-- what the written part says of the class of readers -/
structure RdC (K : PySem.W.Frag) (RC : Addr) : Prop where
  cl : Cls K RC
  written : NoAttr K RC "written"
  at' : NoAttr K RC "at"
abbrev s_skips : Stmt := inClass (top 19) 1
abbrev N_skips : List Str := ["self", "word"]
abbrev P_skips : List Str := ["self", "word"]
theorem sc_skips : FnScope N_skips P_skips (defScope s_skips) := ⟨rfl, rfl, rfl, by decide +kernel, rfl, by decide +kernel, by decide +kernel⟩
def spSkips (RC : Addr) : Sp := fun vs H Q _ => ∃ (r : Addr) (z w : Str) (i : Nat), vs = [.ref r, .str w] ∧ Rd RC H r z i ∧ i ≤ z.length ∧ w.length ≤ 1000 ∧
  ∀ H' : Hp, Goes r H H' → Rd RC H' r z (if pre (ql w) ((ql z).drop i) = true then i + w.length else i) → Q (.bl (pre (ql w) ((ql z).drop i))) H'
theorem ok_skips {f : Addr} {fd : FuncData} (F : Fun K "skips" "Reader.skips" s_skips f fd) (T : Bl mg) (C : RdC K RC) : FnOk P w K mg base CX0 1 f fd P_skips (spSkips RC) := by
  refine F.ok sc_skips (fun vs H Q E h => ?_) (fun cdv A outer s H vs Q E hr h => ?_)
  · obtain ⟨r, z, w, i, rfl, _⟩ := h
    rfl
  obtain ⟨r, z, w, i, rfl, ⟨dx, at'⟩, hi, hw, q⟩ := h
  refine ⟨_, (pss_cons (ps_if (pt_not (pt_val (pe_bm PySem.F.plainAttrs_str PySem.F.slot_str_startswith PySem.F.type_str_startswith mt_startswith3 (pe_fld (pv 0) rfl) (pa_cons (pv 1) (pa_cons (pe_fld (pv 0) rfl) pa_nil)))))
      (pss_one (ps_ret pe_bl))
      pss_nil)
    (pss_cons (ps_fldaug (pv 0) (pe_callB (call_lenK K rfl) (by rfl) T.len PySem.boot_len (pa_cons (pv 1) pa_nil)) in_add)
    (pss_one (ps_ret pe_bl)))), ?_⟩
  refine ⟨_, rfl, r, RC, dx, _, _, rfl, at', C.cl, C.written, rfl, rfl, _, rfl, _, rfl, r, RC, dx, _, _, rfl, at', C.cl, C.at', rfl, z, w, (i : Int), rfl, rfl, _, rfl, ?_⟩
  rw [sw3_at hi]
  cases p : pre (ql w) ((ql z).drop i) with
  | false =>
    rw [p] at q
    exact if_tt rfl (q H (Goes.refl _ _) ⟨dx, at'⟩)
  | true =>
    rw [p] at q
    refine if_ff rfl ⟨_, rfl, r, RC, dx, _, _, rfl, at', C.cl, C.at', rfl, _, rfl, _, w.length, rfl, ⟨Nat.le_of_lt (less_line hw), rfl⟩, _, _, rfl, rfl, dx, _, at', (by show 2 < 1000; decide), ?_⟩
    refine q _ (Goes.put at') ⟨dx, ?_⟩
    rw [upd_same]
    show some (HO.ins RC dx [("written", .str z), ("at", .int ((i : Int) + (w.length : Int)))]) = _
    rw [if_pos rfl, Int.natCast_add]
abbrev s_ended : Stmt := inClass (top 19) 9
abbrev N_ended : List Str := ["self"]
abbrev P_ended : List Str := ["self"]
theorem sc_ended : FnScope N_ended P_ended (defScope s_ended) := ⟨rfl, rfl, rfl, by decide +kernel, rfl, by decide +kernel, by decide +kernel⟩
def spEnded (RC : Addr) : Sp := fun vs H Q _ => ∃ (r : Addr) (z : Str) (i : Nat), vs = [.ref r] ∧ Rd RC H r z i ∧ z.length ≤ sizeLine ∧ Q (.bl (decide (i = z.length))) H
theorem ok_ended {f : Addr} {fd : FuncData} (F : Fun K "ended" "Reader.ended" s_ended f fd) (T : Bl mg) (C : RdC K RC) : FnOk P w K mg base CX0 1 f fd P_ended (spEnded RC) := by
  refine F.ok sc_ended (fun vs H Q E h => ?_) (fun cdv A outer s H vs Q E hr h => ?_)
  · obtain ⟨r, z, i, rfl, _⟩ := h
    rfl
  obtain ⟨r, z, i, rfl, ⟨dx, at'⟩, hz, q⟩ := h
  refine ⟨_, (pss_one (ps_ret (pe_cmpR op_eq (pe_fld (pv 0) rfl) (pe_callB (call_lenK K rfl) (by rfl) T.len PySem.boot_len (pa_cons (pe_fld (pv 0) rfl) pa_nil)) (nomark _)))), ?_⟩
  refine ⟨_, rfl, r, RC, dx, _, _, rfl, at', C.cl, C.at', rfl, _, rfl, r, RC, dx, _, _, rfl, at', C.cl, C.written, rfl, _, z.length, rfl, ⟨hz, rfl⟩, rfl, ?_⟩
  have e : decide (V.int (i : Int) = V.int (z.length : Int)) = decide (i = z.length) := by
    rw [decide_eq_decide]
    exact ⟨fun h => by have := V.int.inj h; omega, fun h => by rw [h]⟩
  rw [e]
  exact q
abbrev s_starts : Stmt := inClass (top 19) 2
abbrev N_starts : List Str := ["self", "is_wanted"]
abbrev P_starts : List Str := ["self", "is_wanted"]
theorem sc_starts : FnScope N_starts P_starts (defScope s_starts) := ⟨rfl, rfl, rfl, by decide +kernel, rfl, by decide +kernel, by decide +kernel⟩
/-- the sign that stands here -/
def hereIs (z : Str) (i : Nat) : Bool := match (ql z)[i]? with
  | some c => decide (97 ≤ c ∧ c ≤ 122)
  | none => false
def spStarts (RC fl : Addr) : Sp := fun vs H Q _ => ∃ (r : Addr) (z : Str) (i : Nat), vs = [.ref r, .ref fl] ∧ Rd RC H r z i ∧ i ≤ z.length ∧ z.length ≤ sizeLine ∧ Q (.bl (hereIs z i)) H
theorem ok_starts {f fl fe : Addr} {fd dl de : FuncData} (F : Fun K "starts" "Reader.starts" s_starts f fd) (C : RdC K RC) (M_ended : MtD P w K mg base RC "ended" 1 P_ended (spEnded RC) fe de) (CL : Def P w K mg base "is_letter" 1 P_is_letter (spBetween 97 122) fl dl) : FnOk P w K mg base CX0 2 f fd P_starts (spStarts RC fl) := by
  refine F.ok sc_starts (fun vs H Q E h => ?_) (fun cdv A outer s H vs Q E hr h => ?_)
  · obtain ⟨r, z, i, rfl, _⟩ := h
    rfl
  obtain ⟨r, z, i, rfl, ⟨dx, at'⟩, hi, hz, q⟩ := h
  refine ⟨_, (pss_one (ps_ret (pe_and (pe_not (pe_meth0 (pv 0) M_ended.cl M_ended.me M_ended.ok (hr.mono (by first | decide | omega)) M_ended.b .nil pass0)) (pe_one (pe_held (i := 1) CL.ok CL.kp CL.b (hr.mono (by first | decide | omega)) rfl (.inl rfl) (pa_cons (pe_ix ix_str (pe_fld (pv 0) rfl) (pe_fld (pv 0) rfl) (fun _ _ => rfl)) pa_nil)))))), ?_⟩
  refine ⟨_, rfl, r, dx, _, rfl, at', rfl, r, z, i, rfl, ⟨dx, at'⟩, hz, _, rfl, _, rfl, ?_⟩
  by_cases e : i = z.length
  · have no : (ql z)[i]? = none := by
      rw [List.getElem?_eq_none_iff, ← ql_len]
      omega
    rw [decide_eq_true e]
    refine if_ff rfl ?_
    unfold hereIs at q
    rw [no] at q
    exact q
  · have lt : i < (ql z).length := by rw [← ql_len]; omega
    rw [decide_eq_false e]
    refine if_tt rfl ⟨rfl, ?_⟩
    have c := List.getElem?_eq_getElem lt
    refine ⟨_, rfl, r, RC, dx, _, _, rfl, at', C.cl, C.written, rfl, _, rfl, r, RC, dx, _, _, rfl, at', C.cl, C.at', rfl, z, (i : Int), (ql z)[i], rfl, rfl, hz, (atI_nat c), (ql z)[i], rfl, ?_⟩
    unfold hereIs at q
    rw [c] at q
    exact q
abbrev s_letters : Stmt := inClass (top 19) 7
abbrev N_letters : List Str := ["self", "start"]
abbrev P_letters : List Str := ["self"]
theorem sc_letters : FnScope N_letters P_letters (defScope s_letters) := ⟨rfl, rfl, rfl, by decide +kernel, rfl, by decide +kernel, by decide +kernel⟩
/-- how many letters stand here -/
def run (L : List Nat) : Nat := (L.takeWhile fun c => decide (97 ≤ c ∧ c ≤ 122)).length
def spLetters (RC : Addr) : Sp := fun vs H Q _ => ∃ (r : Addr) (z : Str) (i : Nat), vs = [.ref r] ∧ Rd RC H r z i ∧ i ≤ z.length ∧ z.length ≤ sizeLine ∧
  ∀ H' : Hp, Goes r H H' → Rd RC H' r z (i + run ((ql z).drop i)) → Q (.str ⟨(((ql z).drop i).take (run ((ql z).drop i))).toArray⟩) H'
theorem run_here {L : List Nat} {j : Nat} (h : j ≤ run L) : (match L[j]? with | some c => decide (97 ≤ c ∧ c ≤ 122) | none => false) = decide (j < run L) := by
  induction L generalizing j with
  | nil =>
    have : j = 0 := by simpa [run] using h
    subst this
    rfl
  | cons c L ih =>
    unfold run at h ⊢
    rw [List.takeWhile_cons] at h ⊢
    by_cases ok : decide (97 ≤ c ∧ c ≤ 122) = true
    · rw [if_pos ok] at h ⊢
      cases j with
      | zero => simpa using ok
      | succ j =>
        have := ih (j := j) (by unfold run; simpa using h)
        unfold run at this
        simpa using this
    · rw [if_neg ok] at h ⊢
      have : j = 0 := by simpa using h
      subst this
      simpa using ok
theorem run_le (L : List Nat) : run L ≤ L.length := by
  unfold run
  exact (List.takeWhile_prefix _).length_le
theorem cut_two {z : Str} {i j : Nat} (h : i ≤ j) (l : j ≤ z.length) : cutS z (some (i : Int)) (some (j : Int)) = ⟨(((ql z).drop i).take (j - i)).toArray⟩ := by
  unfold cutS
  rw [HT.sIx_nat, HT.sIx_nat]
  have a : min i z.length = i := by omega
  have b : min j z.length = j := by omega
  rw [a, b]
theorem ok_letters {f fl fs : Addr} {fd dl ds : FuncData} (F : Fun K "letters" "Reader.letters" s_letters f fd) (C : RdC K RC) (M_starts : MtD P w K mg base RC "starts" 2 P_starts (spStarts RC fl) fs ds) (CL : Def P w K mg base "is_letter" 1 P_is_letter (spBetween 97 122) fl dl) : FnOk P w K mg base CX0 3 f fd P_letters (spLetters RC) := by
  refine F.ok sc_letters (fun vs H Q E h => ?_) (fun cdv A outer s H vs Q E hr h => ?_)
  · obtain ⟨r, z, i, rfl, _⟩ := h
    rfl
  obtain ⟨r, z, i, rfl, ⟨dx, at'⟩, hi, hz, q⟩ := h
  refine ⟨_, (pss_cons (ps_set (i := 1) sc_letters.nd rfl (Or.inl rfl) (pe_fld (pv 0) rfl))
    (pss_cons (ps_while PassesOwn.never (pt_val (pe_meth (pv 0) M_starts.cl M_starts.me M_starts.ok (hr.mono (by first | decide | omega)) M_starts.b .nil pass0 (pa_cons (pe_glob (v := .ref fl) rfl CL.g rfl) pa_nil)))
      (pss_one (ps_fldaug (pv 0) pe_int in_add)))
    (pss_one (ps_ret (pe_slice sl_str (pe_fld (pv 0) rfl) (po_some (pv 1)) (po_some (pe_fld (pv 0) rfl))))))), ?_⟩
  refine ⟨_, rfl, r, RC, dx, _, _, rfl, at', C.cl, C.at', rfl, ?_⟩
  have full := run_le ((ql z).drop i)
  rw [List.length_drop, ← ql_len] at full
  refine while_by (fun σ G => ∃ j : Nat, σ = [some (.ref r), some (.int (i : Int))] ∧ j ≤ run ((ql z).drop i) ∧ Goes r H G ∧ Rd RC G r z (i + j)) (fun σ G => match G r with
    | some (.ins _ _ [_, (_, .int k)]) => (z.length : Nat) - k.toNat
    | _ => 0) ⟨0, rfl, Nat.zero_le _, Goes.refl _ _, ⟨dx, at'⟩⟩ ?_ ?_
  · rintro σ G ⟨j, rfl, hj, goes, ⟨dy, ag⟩⟩
    refine ⟨_, rfl, r, dy, _, rfl, ag, rfl, r, z, i + j, rfl, ⟨dy, ag⟩, by omega, hz, _, rfl, ?_⟩
    have e : hereIs z (i + j) = decide (j < run ((ql z).drop i)) := by
      have := run_here hj
      rw [List.getElem?_drop] at this
      exact this
    rw [e]
    by_cases lt : j < run ((ql z).drop i)
    · rw [decide_eq_true lt]
      refine if_tt rfl ?_
      refine ⟨_, rfl, r, RC, dy, _, _, rfl, ag, C.cl, C.at', rfl, _, _, rfl, rfl, dy, _, ag, (by show 2 < 1000; decide), ?_⟩
      have now : upd G r (.ins RC dy (putF "at" (.int (((i + j : Nat) : Int) + 1)) [("written", .str z), ("at", .int ((i + j : Nat) : Int))])) r = some (.ins RC dy [("written", .str z), ("at", .int ((i + (j + 1) : Nat) : Int))]) := by
        rw [upd_same]
        show some (HO.ins RC dy [("written", .str z), ("at", .int (((i + j : Nat) : Int) + 1))]) = _
        have e2 : (((i + j : Nat) : Int) + 1) = ((i + (j + 1) : Nat) : Int) := by omega
        rw [e2]
      refine ⟨⟨j + 1, rfl, lt, goes.trans (Goes.put ag), dy, now⟩, ?_⟩
      show (match (upd G r _) r with
        | some (.ins _ _ [_, (_, .int k)]) => (z.length : Nat) - k.toNat
        | _ => 0) < (match G r with
        | some (.ins _ _ [_, (_, .int k)]) => (z.length : Nat) - k.toNat
        | _ => 0)
      rw [now, ag]
      show z.length - (((i + (j + 1) : Nat) : Int)).toNat < z.length - (((i + j : Nat) : Int)).toNat
      omega
    · have ej : j = run ((ql z).drop i) := by omega
      rw [decide_eq_false lt]
      refine if_ff rfl ?_
      refine ⟨_, rfl, r, RC, dy, _, _, rfl, ag, C.cl, C.written, rfl, _, rfl, _, rfl, _, rfl, r, RC, dy, _, _, rfl, ag, C.cl, C.at', rfl, _, rfl, ?_⟩
      refine ⟨z, rfl, hz, ?_⟩
      rw [cut_two (by omega) (by omega), show i + j - i = run ((ql z).drop i) from by omega]
      exact q G goes (by rw [← ej]; exact ⟨dy, ag⟩)
  · rintro σ G Q1 Q2 imp ⟨v, e0, a, dy, fs, e1, e2, e3, r1, z1, i1, e4, e5, e6, e7, k, e8, q1⟩
    exact ⟨v, e0, a, dy, fs, e1, e2, e3, r1, z1, i1, e4, e5, e6, e7, k, e8, imp _ _ q1⟩
abbrev s_needs : Stmt := inClass (top 19) 3
abbrev N_needs : List Str := ["self", "word"]
abbrev P_needs : List Str := ["self", "word"]
theorem sc_needs : FnScope N_needs P_needs (defScope s_needs) := ⟨rfl, rfl, rfl, by decide +kernel, rfl, by decide +kernel, by decide +kernel⟩
/-- what must stand here does -/
def spNeeds (RC : Addr) : Sp := fun vs H Q _ => ∃ (r : Addr) (z w : Str) (i : Nat), vs = [.ref r, .str w] ∧ Rd RC H r z i ∧ i ≤ z.length ∧ w.length ≤ 1000 ∧ pre (ql w) ((ql z).drop i) = true ∧
  ∀ H' : Hp, Goes r H H' → Rd RC H' r z (i + w.length) → Q .non H'
theorem ok_needs {f fs : Addr} {fd ds : FuncData} (F : Fun K "needs" "Reader.needs" s_needs f fd) (M_skips : MtD P w K mg base RC "skips" 1 P_skips (spSkips RC) fs ds) : FnOk P w K mg base CX0 2 f fd P_needs (spNeeds RC) := by
  refine F.ok sc_needs (fun vs H Q E h => ?_) (fun cdv A outer s H vs Q E hr h => ?_)
  · obtain ⟨r, z, w, i, rfl, _⟩ := h
    rfl
  obtain ⟨r, z, w, i, rfl, ⟨dx, at'⟩, hi, hw, yes, q⟩ := h
  refine ⟨_, (pss_one (ps_if (pt_not (pt_val (pe_meth (pv 0) M_skips.cl M_skips.me M_skips.ok (hr.mono (by first | decide | omega)) M_skips.b .nil pass0 (pa_cons (pv 1) pa_nil))))
      (pss_one ps_never)
      pss_nil)), ?_⟩
  refine ⟨_, rfl, r, dx, _, rfl, at', rfl, _, rfl, r, z, w, i, rfl, ⟨dx, at'⟩, hi, hw, fun G goes now => ?_⟩
  rw [if_pos yes] at now
  exact ⟨_, rfl, by rw [yes]; exact if_ff rfl (q G goes now)⟩
abbrev s_rinit : Stmt := inClass (top 19) 0
abbrev N_rinit : List Str := ["self", "written"]
abbrev P_rinit : List Str := ["self", "written"]
theorem sc_rinit : FnScope N_rinit P_rinit (defScope s_rinit) := ⟨rfl, rfl, rfl, by decide +kernel, rfl, by decide +kernel, by decide +kernel⟩
def spRInit (RC : Addr) : Sp := fun vs H Q _ => ∃ (r dx : Addr) (z : Str), vs = [.ref r, .str z] ∧ H r = some (.ins RC dx []) ∧ Q .non (upd H r (.ins RC dx [("written", .str z), ("at", .int 0)]))
theorem ok_rinit {f : Addr} {fd : FuncData} (F : Fun K "__init__" "Reader.__init__" s_rinit f fd) (C : RdC K RC) : FnOk P w K mg base CX0 1 f fd P_rinit (spRInit RC) := by
  refine F.ok sc_rinit (fun vs H Q E h => ?_) (fun cdv A outer s H vs Q E hr h => ?_)
  · obtain ⟨r, dx, z, rfl, _⟩ := h
    rfl
  obtain ⟨r, dx, z, rfl, at', q⟩ := h
  refine ⟨_, (pss_cons (ps_fld (pv 0) (pv 1) rfl)
    (pss_one (ps_fld (pv 0) pe_int rfl))), ?_⟩
  refine ⟨_, rfl, _, rfl, r, RC, dx, _, rfl, at', C.cl, C.written, (by show 0 < 1000; decide), ?_⟩
  refine ⟨_, rfl, r, RC, dx, _, rfl, upd_same, C.cl, C.at', (by show 1 < 1000; decide), ?_⟩
  rw [upd_upd]
  exact q
end
end KX

namespace KX
open PySem PySem.Spec L2 PyProof.Rows
/-! ### types -/
inductive Ty where
  | text | number | flag
  | opt (t : Ty)
  | list (t : Ty)
  | keyed (t : Ty) (k : Str)
  | rcd (fs : List (Str × Ty))
def kindW : Ty → Str
  | .text => "text"
  | .number => "number"
  | .flag => "flag"
  | .opt _ => "optional"
  | .list _ => "list"
  | .keyed _ _ => "keyed"
  | .rcd _ => "record"
def plainT : Ty → Bool
  | .text => true
  | .number => true
  | .flag => true
  | _ => false
mutual
def wr : Ty → Str
  | .text => "text"
  | .number => "number"
  | .flag => "flag"
  | .opt t => wr t ++ "?"
  | .list t => "[" ++ wr t ++ "]"
  | .keyed t k => "[" ++ wr t ++ " by " ++ k ++ "]"
  | .rcd fs => "{" ++ Txt.join ", " (wrFs fs) ++ "}"
def wrFs : List (Str × Ty) → List Str
  | [] => []
  | (n, t) :: r => (n ++ ": " ++ wr t) :: wrFs r
end
theorem wrFs_map : ∀ fs : List (Str × Ty), wrFs fs = fs.map fun q => q.1 ++ ": " ++ wr q.2
  | [] => by simp [wrFs]
  | (n, t) :: r => by simp [wrFs, wrFs_map r]
theorem wr_plain {t : Ty} (h : plainT t = true) : wr t = kindW t := by
  cases t with
  | text => simp [wr, kindW]
  | number => simp [wr, kindW]
  | flag => simp [wr, kindW]
  | opt => cases h
  | list => cases h
  | keyed => cases h
  | rcd => cases h
/-- the fields of the object of a type -/
def rowT (kind : Str) (inner key fields : V) (z : Str) : List (Str × V) := [("kind", .str kind), ("inner", inner), ("key", key), ("fields", fields), ("_writing", .str z)]
mutual
inductive TyAt (TC E : Addr) (H : Hp) : V → Ty → Prop
  | plain {a dx : Addr} {t : Ty} : plainT t = true → H a = some (.ins TC dx (rowT (kindW t) .non .non (.ref E) (wr t))) → TyAt TC E H (.ref a) t
  | opt {a dx : Addr} {v : V} {t : Ty} : H a = some (.ins TC dx (rowT "optional" v .non (.ref E) (wr (.opt t)))) → TyAt TC E H v t → TyAt TC E H (.ref a) (.opt t)
  | list {a dx : Addr} {v : V} {t : Ty} : H a = some (.ins TC dx (rowT "list" v .non (.ref E) (wr (.list t)))) → TyAt TC E H v t → TyAt TC E H (.ref a) (.list t)
  | keyed {a dx : Addr} {v : V} {t : Ty} {k : Str} : H a = some (.ins TC dx (rowT "keyed" v (.str k) (.ref E) (wr (.keyed t k)))) → TyAt TC E H v t → TyAt TC E H (.ref a) (.keyed t k)
  | rcd {a dx b : Addr} {rows : List V} {fs : List (Str × Ty)} : H a = some (.ins TC dx (rowT "record" .non .non (.ref b) (wr (.rcd fs)))) → H b = some (.tup rows) → TyRows TC E H rows fs → TyAt TC E H (.ref a) (.rcd fs)
inductive TyRows (TC E : Addr) (H : Hp) : List V → List (Str × Ty) → Prop
  | nil : TyRows TC E H [] []
  | cons {c : Addr} {v : V} {n : Str} {t : Ty} {rows : List V} {fs : List (Str × Ty)} : H c = some (.tup [.str n, v]) → TyAt TC E H v t → TyRows TC E H rows fs → TyRows TC E H (.ref c :: rows) ((n, t) :: fs)
end
section
variable {TC E : Addr} {H H' : Hp}
mutual
theorem TyAt.same (s : Same H H') : ∀ (t : Ty) (v : V), TyAt TC E H v t → TyAt TC E H' v t
  | .text, _, .plain p h => .plain p (s _ _ h)
  | .number, _, .plain p h => .plain p (s _ _ h)
  | .flag, _, .plain p h => .plain p (s _ _ h)
  | .opt t, _, .opt h i => .opt (s _ _ h) (TyAt.same s t _ i)
  | .opt _, _, .plain p _ => nomatch p
  | .list t, _, .list h i => .list (s _ _ h) (TyAt.same s t _ i)
  | .list _, _, .plain p _ => nomatch p
  | .keyed t _, _, .keyed h i => .keyed (s _ _ h) (TyAt.same s t _ i)
  | .keyed _ _, _, .plain p _ => nomatch p
  | .rcd fs, _, .rcd h1 h2 r => .rcd (s _ _ h1) (s _ _ h2) (TyRows.same s fs _ r)
  | .rcd _, _, .plain p _ => nomatch p
theorem TyRows.same (s : Same H H') : ∀ (fs : List (Str × Ty)) (rows : List V), TyRows TC E H rows fs → TyRows TC E H' rows fs
  | [], _, .nil => .nil
  | (_, t) :: fs, _, .cons h i r => .cons (s _ _ h) (TyAt.same s t _ i) (TyRows.same s fs _ r)
end
/-- the object of a type: its inner one, its key, its fields -/
def partsT (t : Ty) : Option Ty × V := match t with
  | .opt u => (some u, .non)
  | .list u => (some u, .non)
  | .keyed u k => (some u, .str k)
  | _ => (none, .non)
theorem TyAt.obj {v : V} {t : Ty} (h : TyAt TC E H v t) : ∃ (a dx : Addr) (vi vf : V), v = .ref a ∧ H a = some (.ins TC dx (rowT (kindW t) vi (partsT t).2 vf (wr t))) ∧ (∀ u, (partsT t).1 = some u → TyAt TC E H vi u) ∧ ((partsT t).1 = none → vi = .non) ∧
    ((∃ fs b rows, t = .rcd fs ∧ vf = .ref b ∧ H b = some (.tup rows) ∧ TyRows TC E H rows fs) ∨ ((∀ fs, t ≠ .rcd fs) ∧ vf = .ref E)) := by
  cases h with
  | plain p e =>
    have q : partsT t = (none, .non) := by cases t <;> first | rfl | cases p
    refine ⟨_, _, _, _, rfl, by rw [q]; exact e, fun u z => ?_, fun _ => rfl, .inr ⟨fun fs z => ?_, rfl⟩⟩
    · rw [q] at z
      cases z
    · rw [z] at p
      cases p
  | opt e i => exact ⟨_, _, _, _, rfl, e, fun u z => by cases z; exact i, fun z => (nomatch z), .inr ⟨fun fs z => (nomatch z), rfl⟩⟩
  | list e i => exact ⟨_, _, _, _, rfl, e, fun u z => by cases z; exact i, fun z => (nomatch z), .inr ⟨fun fs z => (nomatch z), rfl⟩⟩
  | keyed e i => exact ⟨_, _, _, _, rfl, e, fun u z => by cases z; exact i, fun z => (nomatch z), .inr ⟨fun fs z => (nomatch z), rfl⟩⟩
  | rcd e eb r => exact ⟨_, _, _, _, rfl, e, fun u z => (nomatch z), fun _ => rfl, .inl ⟨_, _, _, rfl, rfl, eb, r⟩⟩
end
section
variable {base : Heap} {P : Program} {w : World} {K : PySem.W.Frag} {mg : Str → Option Value} {tk : Str → Tok} {TC E : Addr}
/-- what the written part says of the class of types -/
structure TyC (K : PySem.W.Frag) (TC : Addr) : Prop where
  cl : Cls K TC
  kind : NoAttr K TC "kind"
  inner : NoAttr K TC "inner"
  key : NoAttr K TC "key"
  fields : NoAttr K TC "fields"
  writing : NoAttr K TC "_writing"
  fmt : PySem.W.findIn K (.ref TC) "__format__" = some (some (.builtin "object.__format__"))
  obj : PySem.W.mroIn K TC (.type "object") = some true
/-- str(a text) -/
theorem call_strS {X : Cx} : CallR X (.type "str") (fun xs H Q => ∃ a : Str, xs = [.str a] ∧ Q (.str a) H) := fun pins s σ H xs us Q I r ⟨a, e, q⟩ => SkE.call_str_str pins s σ H xs us Q I r ⟨a, e, q⟩
abbrev s_tstr : Stmt := inClass (top 23) 5
abbrev N_tstr : List Str := ["self"]
abbrev P_tstr : List Str := ["self"]
theorem sc_tstr : FnScope N_tstr P_tstr (defScope s_tstr) := ⟨rfl, rfl, rfl, by decide +kernel, rfl, by decide +kernel, by decide +kernel⟩
def spTStr (TC : Addr) : Sp := fun vs H Q _ => ∃ (a dx : Addr) (fs : List (Str × V)) (z : Str), vs = [.ref a] ∧ H a = some (.ins TC dx fs) ∧ fs.lookup ("_writing" : Str) = some (.str z) ∧ Q (.str z) H
theorem ok_tstr {f : Addr} {fd : FuncData} (F : Fun K "__str__" "Type.__str__" s_tstr f fd) (T : Bl mg) (C : TyC K TC) : FnOk P w K mg base CX0 1 f fd P_tstr (spTStr TC) := by
  refine F.ok sc_tstr (fun vs H Q E h => ?_) (fun cdv A outer s H vs Q E hr h => ?_)
  · obtain ⟨r, dx, fs, z, rfl, _⟩ := h
    rfl
  obtain ⟨a, dx, fs, z, rfl, at', has, q⟩ := h
  refine ⟨_, (pss_one (ps_ret (pe_callTy call_strS (by rfl) T.str (by decide +kernel) (pa_cons (pe_fld (pv 0) rfl) pa_nil)))), ?_⟩
  exact ⟨_, rfl, a, TC, dx, fs, _, rfl, at', C.cl, C.writing, has, z, rfl, q⟩
end
section
variable {X : Cx} {e : Expr} {te : TE} {pos : Pos} {TC f : Addr} {fd : FuncData} {k : Nat} {ps : List Str} {sp : Sp}
/-- {x} in a text, x an object with a __str__ of its own -/
theorem pe_own (C : TyC X.K TC) (M : MtD X.prog X.w X.K X.mg X.base TC "__str__" k ps sp f fd) (room : Room (k + 1) X.A) (val : PE X e te) :
    PE X (.FormattedValue e (-1) none pos) (fun σ H Q => te σ H fun x G => ∃ (a dx : Addr) (fs : List (Str × V)), x = .ref a ∧ G a = some (.ins TC dx fs) ∧ sp [.ref a] G (fun v G2 => ∃ z, v = .str z ∧ Q (.str z) G2) E0) := by
  constructor
  intro pins s σ H Q I want
  refine wpAny_FormattedValue_plain (thn (val.run pins s σ H _ I want) ?_)
  rintro u s1 ⟨x, G, J, rel, a, dx, fs, rfl, at', asked⟩
  obtain rfl : u = Value.ref a := rel
  obtain ⟨mA, O, _⟩ := ins_get J.hok at'
  obtain ⟨od, inst, _⟩ := O.look
  refine PySem.W.kfo_fieldS room.in1.units0 J.kIn inst C.fmt C.obj M.me.at_ M.me.fn ?_
  have J1 := J.tok (s1.toks + 1)
  have bound := M.b _ [.ref a] J1.kIn (by rw [List.append_nil]; exact (M.ok.len _ _ _ _ asked).symm ▸ rfl)
  rw [List.append_nil] at bound
  refine wpAny_call (codeAny_mono (M.ok.run X.A.in1 X.stack _ G ⟨[.ref a], []⟩ [.ref a] [.ref a] _ E0 room.in1 J1.env0.in1 bound (.cons rfl .nil) asked) ?_)
  rintro (er | fl) s2 h
  · exact h.elim
  cases fl with
  | ret u =>
    obtain ⟨v, G2, J2, rv, z, rfl, q⟩ := J1.after h
    obtain ⟨t, rfl⟩ := rv
    exact ⟨.str z, G2, J2, ⟨t, rfl⟩, q⟩
  | next => exact h.elim
  | brk => exact h.elim
  | cont => exact h.elim
end
end KX

namespace KX
open PySem PySem.Spec L2 PyProof.Rows
section
variable {base : Heap} {P : Program} {w : World} {K : PySem.W.Frag} {mg : Str → Option Value} {tk : Str → Tok} {TC E0' : Addr}
theorem len_app (a b : Str) : (a ++ b).length = a.length + b.length := by rw [ql_len, ql_app, List.length_append, ← ql_len, ← ql_len]
theorem emp_app (a : Str) : Str.empty ++ a = a := ql_ext (by rw [ql_app]; rfl)
theorem word_ne {a b : Str} {A B : Prop} (ne : a ≠ b) (h : B) : if decide (V.str a = V.str b) = true then A else B := if_ff (decide_eq_false (by simpa using ne)) h
/-- what is known of the parts of a type that is being made -/
structure Given (TC ED : Addr) (H : Hp) (t : Ty) (vi vf : V) : Prop where
  inner : ∀ u, (partsT t).1 = some u → TyAt TC ED H vi u
  none' : (partsT t).1 = none → vi = .non
  rows : ∀ fs, t = .rcd fs → ∃ b rows, vf = .ref b ∧ H b = some (.tup rows) ∧ TyRows TC ED H rows fs
  plain : (∀ fs, t ≠ .rcd fs) → vf = .ref ED
theorem Given.same {TC ED : Addr} {H H' : Hp} {t : Ty} {vi vf : V} (g : Given TC ED H t vi vf) (s : Same H H') : Given TC ED H' t vi vf :=
  ⟨fun u e => TyAt.same s u _ (g.inner u e), g.none', fun fs e => let ⟨b, rows, h1, h2, h3⟩ := g.rows fs e; ⟨b, rows, h1, s _ _ h2, TyRows.same s fs _ h3⟩, g.plain⟩
theorem TyAt.of {TC ED : Addr} {H : Hp} {t : Ty} {vi vf : V} {a dx : Addr} (g : Given TC ED H t vi vf) (h : H a = some (.ins TC dx (rowT (kindW t) vi (partsT t).2 vf (wr t)))) : TyAt TC ED H (.ref a) t := by
  cases t with
  | text =>
    rw [g.none' rfl, g.plain (fun _ z => nomatch z)] at h
    exact .plain rfl h
  | number =>
    rw [g.none' rfl, g.plain (fun _ z => nomatch z)] at h
    exact .plain rfl h
  | flag =>
    rw [g.none' rfl, g.plain (fun _ z => nomatch z)] at h
    exact .plain rfl h
  | opt t =>
    rw [g.plain (fun _ z => nomatch z)] at h
    exact .opt h (g.inner t rfl)
  | list t =>
    rw [g.plain (fun _ z => nomatch z)] at h
    exact .list h (g.inner t rfl)
  | keyed t k =>
    rw [g.plain (fun _ z => nomatch z)] at h
    exact .keyed h (g.inner t rfl)
  | rcd fs =>
    obtain ⟨b, rows, rfl, h2, h3⟩ := g.rows fs rfl
    rw [g.none' rfl] at h
    exact .rcd h h2 h3
theorem TyRows.get {TC ED : Addr} {H : Hp} : ∀ {rows : List V} {fs : List (Str × Ty)} {i : Nat} {v : V}, TyRows TC ED H rows fs → rows[i]? = some v → ∃ c n u t, v = .ref c ∧ fs[i]? = some (n, t) ∧ H c = some (.tup [.str n, u]) ∧ TyAt TC ED H u t
  | _, _, _, _, .nil, e => by simp at e
  | _, _, 0, _, .cons h i _, e => by simp at e; subst e; exact ⟨_, _, _, _, rfl, rfl, h, i⟩
  | _, _, j + 1, _, .cons _ _ r, e => by
    obtain ⟨c, n, u, t, h1, h2, h3, h4⟩ := TyRows.get (i := j) r (by simpa using e)
    exact ⟨c, n, u, t, h1, by simpa using h2, h3, h4⟩
theorem TyRows.length {TC ED : Addr} {H : Hp} : ∀ {rows : List V} {fs : List (Str × Ty)}, TyRows TC ED H rows fs → rows.length = fs.length
  | _, _, .nil => rfl
  | _, _, .cons _ _ r => by rw [List.length_cons, List.length_cons, TyRows.length r]
theorem ql_join (zs : List Str) : ql (Txt.join ", " zs) = TL.joinL [44, 32] (zs.map ql) := by
  rw [TL.join_eq]
  exact TL.tl_join ", " zs
theorem joinL_len (zs : List (List Nat)) : (zs.map (·.length)).sum + zs.length * 2 ≤ (TL.joinL [44, 32] zs).length + 2 := by
  induction zs with
  | nil => simp
  | cons z zs ih =>
    cases zs with
    | nil =>
      show z.length + 0 + 1 * 2 ≤ z.length + 2
      omega
    | cons y r =>
      have e : (TL.joinL [44, 32] (z :: y :: r)).length = z.length + (2 + (TL.joinL [44, 32] (y :: r)).length) := by
        show (z ++ ([44, 32] ++ TL.joinL [44, 32] (y :: r))).length = _
        rw [List.length_append, List.length_append]
        rfl
      rw [e]
      simp only [List.map_cons, List.sum_cons, List.length_cons] at ih ⊢
      omega
theorem join_len (zs : List Str) : (zs.map (·.length)).sum + zs.length * 2 ≤ (Txt.join ", " zs).length + 2 := by
  have h := joinL_len (zs.map ql)
  rw [← ql_join, ← ql_len, List.map_map, List.length_map] at h
  have e : (zs.map ((·.length) ∘ ql)) = zs.map (·.length) := List.map_congr_left fun z _ => (ql_len z).symm
  rw [e] at h
  exact h
theorem mem_sum {l : List Nat} {n : Nat} (h : n ∈ l) : n ≤ l.sum := by
  induction l with
  | nil => cases h
  | cons a r ih =>
    rw [List.sum_cons]
    rcases List.mem_cons.mp h with rfl | h
    · omega
    · have := ih h
      omega
theorem big {n : Nat} (h : n ≤ 200000) : n ≤ sizeLine := by
  rw [sizeLine_eq]
  omega
def tOwn (TC : Addr) (te : TE) : TE := fun σ H Q => te σ H fun x G => ∃ (a dx : Addr) (fs : List (Str × V)), x = .ref a ∧ G a = some (.ins TC dx fs) ∧ spTStr TC [.ref a] G (fun v G2 => ∃ z, v = .str z ∧ Q (.str z) G2) E0
abbrev s_wof : Stmt := top 27
abbrev N_wof : List Str := ["kind", "inner", "key", "fields", "name", "part"]
abbrev P_wof : List Str := ["kind", "inner", "key", "fields"]
theorem sc_wof : FnScope N_wof P_wof (defScope s_wof) := ⟨rfl, rfl, rfl, by decide +kernel, rfl, by decide +kernel, by decide +kernel⟩
def spWof (TC ED : Addr) : Sp := fun vs H Q _ => ∃ (t : Ty) (vi vf : V), vs = [.str (kindW t), vi, (partsT t).2, vf] ∧ Given TC ED H t vi vf ∧ (wr t).length ≤ 100000 ∧ ∀ H', Same H H' → Q (.str (wr t)) H'
theorem ok_wof {f fs : Addr} {fd ds : FuncData} {ED : Addr} (F : Fun K "_writing_of" "_writing_of" s_wof f fd) (TCc : TyC K TC) (M_str : MtD P w K mg base TC "__str__" 1 P_tstr (spTStr TC) fs ds) : FnOk P w K mg base CX0 3 f fd P_wof (spWof TC ED) := by
  refine F.ok sc_wof (fun vs H Q E h => ?_) (fun cdv A outer s H vs Q E hr h => ?_)
  · obtain ⟨t, vi, vf, rfl, _⟩ := h
    rfl
  obtain ⟨t, vi, vf, rfl, g, len, q⟩ := h
  refine ⟨_, (pss_cons (ps_if (pt_cmpR op_eq (pv 0) pe_str (nomark _))
      (pss_one (ps_ret (pe_joined (PJ.cons pe_str (PJ.cons (pe_own TCc M_str (hr.mono (by first | decide | omega)) (pv 1)) (PJ.cons pe_str PJ.nil))))))
      pss_nil)
    (pss_cons (ps_if (pt_cmpR op_eq (pv 0) pe_str (nomark _))
      (pss_one (ps_ret (pe_joined (PJ.cons pe_str (PJ.cons (pe_own TCc M_str (hr.mono (by first | decide | omega)) (pv 1)) (PJ.cons pe_str (PJ.cons (pe_fmt (pv 2)) (PJ.cons pe_str PJ.nil))))))))
      pss_nil)
    (pss_cons (ps_if (pt_cmpR op_eq (pv 0) pe_str (nomark _))
      (pss_one (ps_ret (pe_joined (PJ.cons (pe_own TCc M_str (hr.mono (by first | decide | omega)) (pv 1)) (PJ.cons pe_str PJ.nil)))))
      pss_nil)
    (pss_cons (ps_if (pt_cmpR op_eq (pv 0) pe_str (nomark _))
      (pss_one (ps_ret (pe_op op_add_str (pe_op op_add_str pe_str (pe_join pe_str (pe_lc (own := [("name", 4), ("part", 5)]) (g := (gTup K 2 (gCons (gName 4) (gCons (gName 5) gNil)))) (tt := tYes) rfl sc_wof.nd (pi_tup (pv 3)) (blkOk_by (own := [("name", 4), ("part", 5)]) (N := N_wof) (sc := defScope s_wof) (by decide +kernel)) (fun _ _ _ _ _ => (pg_tup rfl (pgs_cons (pg_name (i := 4) sc_wof.nd rfl (Or.inl rfl)) (pgs_cons (pg_name (i := 5) sc_wof.nd rfl (Or.inl rfl)) pgs_nil)))) (fun _ _ _ _ _ => pts_nil) (fun _ _ _ _ _ => (pe_joined (PJ.cons (pe_fmt (pv 4)) (PJ.cons pe_str (PJ.cons (pe_own TCc M_str (hr.mono (by first | decide | omega)) (pv 5)) PJ.nil)))))))) pe_str)))
      pss_nil)
    (pss_one (ps_ret (pv 0))))))), ?_⟩
  refine ⟨_, rfl, rfl, _, rfl, ?_⟩
  cases t with
  | text =>
    refine word_ne (by simp only [kindW]; decide) ⟨_, rfl, rfl, _, rfl, word_ne (by simp only [kindW]; decide) ⟨_, rfl, rfl, _, rfl, word_ne (by simp only [kindW]; decide) ⟨_, rfl, rfl, _, rfl, word_ne (by simp only [kindW]; decide) ⟨_, rfl, ?_⟩⟩⟩⟩
    have z := q H (Same.refl H)
    simp only [wr] at z
    exact z
  | number =>
    refine word_ne (by simp only [kindW]; decide) ⟨_, rfl, rfl, _, rfl, word_ne (by simp only [kindW]; decide) ⟨_, rfl, rfl, _, rfl, word_ne (by simp only [kindW]; decide) ⟨_, rfl, rfl, _, rfl, word_ne (by simp only [kindW]; decide) ⟨_, rfl, ?_⟩⟩⟩⟩
    have z := q H (Same.refl H)
    simp only [wr] at z
    exact z
  | flag =>
    refine word_ne (by simp only [kindW]; decide) ⟨_, rfl, rfl, _, rfl, word_ne (by simp only [kindW]; decide) ⟨_, rfl, rfl, _, rfl, word_ne (by simp only [kindW]; decide) ⟨_, rfl, rfl, _, rfl, word_ne (by simp only [kindW]; decide) ⟨_, rfl, ?_⟩⟩⟩⟩
    have z := q H (Same.refl H)
    simp only [wr] at z
    exact z
  | list u =>
    obtain ⟨a, dx, vi', vf', rfl, at', _⟩ := (g.inner u rfl).obj
    have z := q H (Same.refl H)
    simp only [wr] at z len
    rw [len_app, len_app] at len
    refine if_tt rfl ⟨"[", rfl, big (by decide), _, rfl, a, dx, _, rfl, at', a, dx, _, wr u, rfl, at', rfl, _, rfl, wr u, rfl, big ?_, _, rfl, big ?_, z⟩
    · rw [len_app]
      show 1 + _ ≤ _
      omega
    · rw [len_app, len_app]
      show 1 + _ + 1 ≤ _
      omega
  | keyed u k =>
    obtain ⟨a, dx, vi', vf', rfl, at', _⟩ := (g.inner u rfl).obj
    have z := q H (Same.refl H)
    simp only [wr] at z len
    rw [len_app, len_app, len_app, len_app] at len
    refine word_ne (by simp only [kindW]; decide) ⟨_, rfl, rfl, _, rfl, if_tt rfl ⟨"[", rfl, big (by decide), _, rfl, a, dx, _, rfl, at', a, dx, _, wr u, rfl, at', rfl, _, rfl, wr u, rfl, big ?_, _, rfl, big ?_, _, rfl, .inl ⟨k, rfl, big ?_, _, rfl, big ?_, _, rfl, big ?_, z⟩⟩⟩
    · rw [len_app]
      show 1 + _ ≤ _
      omega
    · rw [len_app, len_app]
      show 1 + _ + 4 ≤ _
      omega
    · omega
    · rw [len_app, len_app, len_app]
      show 1 + _ + 4 + _ ≤ _
      omega
    · rw [len_app, len_app, len_app, len_app]
      show 1 + _ + 4 + _ + 1 ≤ _
      omega
  | opt u =>
    obtain ⟨a, dx, vi', vf', rfl, at', _⟩ := (g.inner u rfl).obj
    have z := q H (Same.refl H)
    simp only [wr] at z len
    rw [len_app] at len
    refine word_ne (by simp only [kindW]; decide) ⟨_, rfl, rfl, _, rfl, word_ne (by simp only [kindW]; decide) ⟨_, rfl, rfl, _, rfl, if_tt rfl ⟨_, rfl, a, dx, _, rfl, at', a, dx, _, wr u, rfl, at', rfl, _, rfl, wr u, rfl, big ?_, _, rfl, big ?_, ?_⟩⟩⟩
    · show (Str.empty ++ wr u).length ≤ _
      rw [len_app]
      show 0 + _ ≤ _
      omega
    · rw [len_app, len_app]
      show 0 + _ + 1 ≤ _
      omega
    · have e : Str.empty ++ wr u ++ "?" = wr u ++ "?" := ql_ext (by rw [ql_app, ql_app, ql_app]; rfl)
      rw [e]
      exact z
  | rcd fs =>
    obtain ⟨b, rows, rfl, hb, hr'⟩ := g.rows fs rfl
    simp only [wr] at len
    rw [len_app, len_app] at len
    have jl := join_len (wrFs fs)
    have wl : (wrFs fs).length = fs.length := by rw [wrFs_map, List.length_map]
    rw [wl] at jl
    refine word_ne (by simp only [kindW]; decide) ⟨_, rfl, rfl, _, rfl, word_ne (by simp only [kindW]; decide) ⟨_, rfl, rfl, _, rfl, word_ne (by simp only [kindW]; decide) ⟨_, rfl, rfl, _, rfl, if_tt rfl ?_⟩⟩⟩
    refine ⟨⟨_, rfl⟩, _, rfl, b, rfl, ⟨_, SqT.of hb⟩, fun D new => ?_⟩
    refine lc_it (g := gTup K 2 (gCons (gName 4) (gCons (gName 5) gNil))) (tt := tYes) (vs := [4, 5]) (te := fun σ H Q => tJs [tFmt (tVar 4), tC (V.str ": "), tOwn TC (tVar 5)] Str.empty σ H fun out H1 => Q (V.str out) H1) (walk_tup (K := K) (a := b) (xs := rows)) (fun i G => Same H G ∧ G D = some (.lst ((fs.take i).map fun q => .str (q.1 ++ ": " ++ wr q.2)))) ⟨same_new new _, upd_same⟩ (fun i G _ p => SqT.of (p.1 _ _ hb)) ?_ ?_
    · rintro i x G2 G hi ⟨kept, made⟩ ⟨rfl, hx⟩
      obtain ⟨c, n, u, t, rfl, ef, hc, ht⟩ := hr'.get hx
      obtain ⟨a, dx, vi', vf', rfl, at', _⟩ := (TyAt.same kept t _ ht).obj
      have one : (n ++ ": " ++ wr t).length ≤ (Txt.join ", " (wrFs fs)).length + 2 := by
        have m := mem_sum (List.mem_map.mpr ⟨_, List.mem_map.mpr ⟨(n, t), List.mem_of_getElem? ef, rfl⟩, rfl⟩ : (n ++ ": " ++ wr t).length ∈ ((fs.map fun q => q.1 ++ ": " ++ wr q.2).map (·.length)))
        rw [← wrFs_map] at m
        omega
      rw [len_app, len_app] at one
      refine ⟨c, _, rfl, SqT.of (kept _ _ hc), rfl, _, _, rfl, _, _, rfl, rfl, rfl, yesT ?_⟩
      refine ⟨_, rfl, .inl ⟨n, rfl, big ?_, _, rfl, big ?_, _, rfl, big ?_, _, rfl, a, dx, _, rfl, at', a, dx, _, wr t, rfl, at', rfl, _, rfl, wr t, rfl, big ?_, ?_⟩⟩
      · omega
      · rw [emp_app]
        omega
      · rw [emp_app, len_app]
        omega
      · rw [emp_app, len_app, len_app]
        omega
      · refine ⟨_, made, ?_, Same.updNew kept new, ?_⟩
        · rw [List.length_map, List.length_take]
          have hl := hr'.length
          rw [sizeLine_eq]
          omega
        · rw [upd_same, emp_app]
          have e : fs.take (i + 1) = fs.take i ++ [(n, t)] := by
            rw [List.take_succ, ef]
            rfl
          rw [e, List.map_append]
          rfl
    · rintro G ⟨kept, made⟩
      rw [hr'.length, List.take_length] at made
      have made2 : G D = some (.lst ((wrFs fs).map V.str)) := by
        rw [made, wrFs_map, List.map_map]
        rfl
      have z := q G kept
      simp only [wr] at z
      refine ⟨", ", D, wrFs fs, rfl, rfl, .inl (SqL.of made2), ?_, "{", _, rfl, rfl, big (by omega), _, _, rfl, rfl, big ?_, z⟩
      · rw [wl]
        show _ + fs.length * 2 ≤ _
        omega
      · rw [len_app]
        omega
end
end KX

namespace KX
open PySem PySem.Spec L2 PyProof.Rows
/-! ### sets of texts, unlike ones -/
/-- the set at a of the texts l -/
def TxSet (P : Program) (w : World) (h : Heap) (a : Addr) (l : List Str) : Prop :=
  ∃ D : Froz.SD, h.get? a = some (Froz.sObj "set" D) ∧ Froz.TxOk P w D l ∧ (l.length < 4000 ∧ l.Nodup) ∧ Ris D.2.2.place.toList ∧ (w.params.followText "set-order" = true ∨ D.2.2.led = true)
section
variable {P : Program} {w : World} {h h' : Heap} {a : Addr} {l : List Str}
theorem TxSet.at (R : TxSet P w h a l) (k : ∀ o, h.get? a = some o → h'.get? a = some o) : TxSet P w h' a l := R.imp fun _ r => ⟨k _ r.1, r.2⟩
theorem TxSet.perm {l' : List Str} (R : TxSet P w h a l) (p : l'.Perm l) : TxSet P w h a l' := by
  obtain ⟨D, h1, F, few, more⟩ := R
  refine ⟨D, h1, ⟨F.el, fun k => by rw [p.mem_iff]; exact F.mem k, by rw [p.length_eq]; exact F.sz, F.fit⟩, ⟨by rw [p.length_eq]; exact few.1, p.nodup_iff.mpr few.2⟩, more⟩
/-- what one more text leaves of the table's order -/
theorem tail_ris {ep : Nat} {es : Array (Int × Value)} {t : SetTable} {b : Bool} (r : Ris t.place.toList) : Ris (Froz.tailTx ep es t b).2.2.place.toList := by
  unfold Froz.tailTx
  split
  · exact relayAll_ris _ _ _
  · exact r
theorem tail_led {ep : Nat} {es : Array (Int × Value)} {t : SetTable} {b : Bool} (r : t.led = true) : (Froz.tailTx ep es t b).2.2.led = true := by
  unfold Froz.tailTx
  split
  · exact (relayAll_led _ _ _).trans r
  · exact r
theorem more_ris {D : Froz.SD} {n : Int} {v : Value} (r : Ris D.2.2.place.toList) : Ris (Froz.addTx n v D).2.2.place.toList := by
  refine tail_ris ?_
  split
  · exact layNew_ris D.2.2 D.1 n v r
  · exact layNew_ris D.2.2 D.1 n v r
theorem more_led {D : Froz.SD} {n : Int} {v : Value} (r : D.2.2.led = true) : (Froz.addTx n v D).2.2.led = true := by
  refine tail_led ?_
  split
  · exact (layNew_led D.2.2 D.1 n v).trans r
  · exact (layNew_led D.2.2 D.1 n v).trans r
theorem TxSet.fresh (h : Heap) : TxSet P w (h.push { cls := .type "set", dict := none, data := .set #[] 0 (.fresh 0 0 (!w.params.followText "set-order")) }) h.objs.size [] := by
  refine ⟨(#[], 0, .fresh 0 0 (!w.params.followText "set-order")), Heap.get?_push_size _ rfl, Froz.TxOk.nil (by rfl), ⟨by decide, List.nodup_nil⟩, by simp [SetTable.fresh, Ris], ?_⟩
  cases e : w.params.followText "set-order" with
  | true => exact .inl rfl
  | false => exact .inr rfl
variable {A : Around} {E : Value → Shared → Prop} {s : Shared}
/-- a text that is not there is added -/
theorem TxSet.add {k : Str} {u : Tok} {Q : Bool → Shared → Prop} (R : TxSet P w s.heap a l) (new : k ∉ l) (few : l.length + 1 < 4000)
    (q : ∀ h', TxSet P w h' a (k :: l) → (∀ b, b ≠ a → h'.get? b = s.heap.get? b) → Q true { s with heap := h' }) : wpAny (model P w) A (setAddHashed a (.str k u) (hashStr w k)) Q E s := by
  obtain ⟨D, h1, F, old, r1, r2⟩ := R
  refine Froz.add_x h1 F new (by unfold scanBound; omega) (q _ ⟨_, ?_, Froz.add_ok u F, ⟨few, List.nodup_cons.mpr ⟨new, old.2⟩⟩, more_ris r1, r2.imp id more_led⟩ fun b ne => ?_)
  · exact Froz.get_upd _ h1 rfl
  · exact Heap.get?_update_other _ _ (Ne.symm ne)
theorem fresh_at {xs : List Str} (nd : xs.Nodup) {i : Nat} {x : Str} (e : xs[i]? = some x) : x ∉ xs.take i := fun m => by
  obtain ⟨j, lt, ej⟩ := List.mem_take_iff_getElem.mp m
  obtain ⟨li, ei⟩ := List.getElem?_eq_some_iff.mp e
  have lj : j < i := by omega
  exact List.pairwise_iff_getElem.mp nd j i (by omega) li lj (ej.trans ei.symm)
theorem back_next {xs : List Str} {i : Nat} {x : Str} (e : xs[i]? = some x) : (xs.take (i + 1)).reverse = x :: (xs.take i).reverse := by
  rw [List.take_succ, e]
  show (xs.take i ++ [x]).reverse = _
  rw [List.reverse_append]
  rfl
/-! ### a loop of additions: J i holds of the heap when i things have gone in, whatever they are -/
structure Adds (P : Program) (w : World) (A : Around) (S : Addr) (n : Nat) (Pv : Nat → Value → Prop) (J : Nat → Heap → Prop) : Prop where
  stays : ∀ {i : Nat} {h h' : Heap}, J i h → (∀ o, h.get? S = some o → h'.get? S = some o) → J i h'
  adds : ∀ {i : Nat} {v : Value} {s : Shared} {Q : Bool → Shared → Prop} {E : Value → Shared → Prop}, i < n → Pv i v → J i s.heap →
    (∀ b h' tk, s.toks ≤ tk → J (i + 1) h' → (∀ c, c ≠ S → h'.get? c = s.heap.get? c) → Q b { s with heap := h', toks := tk }) → wpAny (model P w) A (holding [v] (setAdd S v)) Q E s
theorem Adds.loop {I S : Addr} {fp wr : List Addr} {G : Array GenState → Array GenState → Prop} {n : Nat} {Pv : Nat → Value → Prop} {St : Nat → Shared → Prop} {J : Nat → Heap → Prop} {R : Result → Shared → Prop} (T : Adds P w A.in1 S n Pv J)
    (W : WalksS P w A.in1 I fp wr G n Pv St) (out : S ∉ fp) : ∀ (k : Nat) {s : Shared}, k ≤ n → St (n - k) s → J (n - k) s.heap → (∀ s', Moved (S :: wr) G s s' → J n s'.heap → R (.ok (.ret .none)) s') →
    codeAny (model P w) A (.builtin "set.update.loop" ⟨[.ref S, .ref I], []⟩) R s := by
  have off : S ∉ wr := fun m => out (W.sub _ m)
  have wide : ∀ {x y : Shared}, Moved wr G x y → Moved (S :: wr) G x y := fun m => m.mono fun _ z => List.mem_cons_of_mem _ z
  have enter : ∀ {s : Shared}, wpAny (model P w) A.in1 (pyNext (.ref I)) (fun o s' => match o with
      | none => R (.ok (.ret .none)) s'
      | some v => wpAny (model P w) A.in1 (holding [v] (setAdd S v)) (fun _ s2 => codeAny (model P w) A (.builtin "set.update.loop" ⟨[.ref S, .ref I], []⟩) R s2) (fun e s2 => R (.error e) s2) s') (fun e s' => R (.error e) s') s →
      codeAny (model P w) A (.builtin "set.update.loop" ⟨[.ref S, .ref I], []⟩) R s := fun {s} h => by
    refine codeAny_builtin F.entry_set_update_loop ?_
    rw [Around.under_plainId F.plain_set_update_loop _]
    refine wpAny_bind (m := pyNext (.ref I)) (wpAny_mono h (fun o s' g => ?_) fun _ _ e => e)
    cases o with
    | none => exact wpAny_pure g
    | some v => exact wpAny_bind (m := holding [v] (setAdd S v)) (wpAny_mono g (fun _ s2 g2 => wpAny_pure ⟨plainId_quiet F.plain_set_update_loop _, g2⟩) fun _ _ e => e)
  intro k
  induction k with
  | zero =>
    intro s _ st j done
    rw [Nat.sub_zero] at st j
    exact enter (W.done s _ _ st fun s' m => done s' (wide m) (T.stays j fun o g => m.heap S o off g))
  | succ k more =>
    intro s le st j done
    have next : n - (k + 1) + 1 = n - k := by omega
    refine enter (W.item _ s _ _ (by omega) st fun v s' is st' m => T.adds (by omega) is (T.stays j fun o g => m.heap S o off g) fun b h' tk later j' same => more (by omega) ?_ ?_ fun s2 m2 => done s2 ?_)
    · rw [← next]
      exact W.frame _ s' _ _ st' later fun b mb o g => (same b fun z => out (z ▸ mb)).trans g
    · rw [← next]
      exact j'
    · exact Moved.trans W.gtrans ((wide m).then_heap later fun b o nb g => (same b fun z => nb (z ▸ List.mem_cons_self)).trans g) m2
/-- unlike texts go into a set, one behind the other -/
theorem texts_add {S : Addr} {xs : List Str} {n : Nat} {Pv : Nat → Value → Prop} (nd : xs.Nodup) (few : xs.length < 4000) (are : ∀ i v, Pv i v → ∃ x u, xs[i]? = some x ∧ v = .str x u) :
    Adds P w A S n Pv fun i h => TxSet P w h S (xs.take i).reverse where
  stays r k := r.at k
  adds {i v s Q E} lt is here q := by
    obtain ⟨x, u, ex, rfl⟩ := are _ _ is
    have new : x ∉ (xs.take i).reverse := fun m => fresh_at nd ex (List.mem_reverse.mp m)
    have lx := (List.getElem?_eq_some_iff.mp ex).1
    refine wpAny_holding ?_
    unfold setAdd
    refine wpAny_holding (wpAny_bind ((strKind P w).pyHash (Froz.is_str x u) (TxSet.add (s := { s with toks := s.toks + 1 }) here new (by rw [List.length_reverse, List.length_take]; omega) fun h' now same => ?_)))
    rw [← back_next ex] at now
    exact q _ _ _ (Nat.le_succ _) now same
/-! ### a built-in type is called: made, then filled -/
theorem made_in_two {T newId initId : String} {B : Builtin} {v r : Value} {s1 : Shared} {Q : Value → Shared → Prop} (c : TypeCalled T newId initId) (one : checkTypeCall T ⟨[v], []⟩ = pure ()) (entry : entryFor table initId = some B)
    (fresh : codeAny (model P w) A.in1 (.call (.builtin newId) ⟨[.type T, v], []⟩) (wants (fun o s' => o = r ∧ s' = s1) E) s) (ty : s1.TypeIs r T)
    (checked : ∀ {M : Model} {A' : Around} {Q' : Unit → Shared → Prop} {E' : Value → Shared → Prop}, Q' () s1 → wpAny M A' (checkBuiltinCall initId ⟨[r, v], []⟩) Q' E' s1)
    (filled : wpAny (model P w) A.in1.in1 (B ⟨[r, v], []⟩) (fun f s' => f = .done (.ret .none) ∧ Q r s') E s1) : wpAny (model P w) A (call (.type T) [v]) Q E s := by
  obtain ⟨_, _, order⟩ := c.mro
  have a1 := c.made
  have a2 := c.sub
  have a3 := c.notType
  have a4 := c.canCreate
  have a5 := c.init.lookup
  have a6 := c.init.bind r
  have second : codeAny (model P w) A.in1 (.call (.builtin initId) ⟨[r, v], []⟩) (wants (fun o s' => o = .none ∧ Q r s') E) s1 :=
    codeAny_call_builtin c.init.plain entry (checked (wpAny_mono filled (fun f s2 g => by
      obtain ⟨rfl, g⟩ := g
      exact ⟨rfl, g⟩) fun _ _ e => e))
  refine wpAny_call (codeAny_of_tree (wpAny_pure ⟨Code.quiet_builtin _ (by decide +kernel), codeAny_builtin F.entry_type_call ?_⟩))
  rw [Around.under_plain (weight_type_call_type T [v] []) (units_type_call_type T [v] [])]
  repeat (any_goals (first | assumption | wp_step))
  refine codeAny_mono fresh fun o s2 g => ?_
  match o, g with
  | .error _, g => exact g
  | .ok .next, g => exact g.elim
  | .ok .brk, g => exact g.elim
  | .ok .cont, g => exact g.elim
  | .ok (.ret _), ⟨e1, e2⟩ =>
    subst e1 e2
    repeat (any_goals (first | assumption | wp_step))
    refine codeAny_mono second fun o s3 g => ?_
    match o, g with
    | .error _, g => exact g
    | .ok .next, g => exact g.elim
    | .ok .brk, g => exact g.elim
    | .ok .cont, g => exact g.elim
    | .ok (.ret _), ⟨e1, g⟩ =>
      subst e1
      repeat (any_goals (first | assumption | wp_step))
/-- what lies at the heap's end behind a push -/
theorem beyond {h : Heap} {b : Addr} (e : h.objs.size ≤ b) : h.get? b = none := by
  cases g : h.get? b with
  | none => rfl
  | some o => exact absurd (Heap.lt_size g) (Nat.not_lt.mpr e)
theorem strs_in {vs : List Value} {xs : List Str} (are : StrsAre vs xs) {i : Nat} {v : Value} (g : vs[i]? = some v) : ∃ x u, xs[i]? = some x ∧ v = .str x u := by
  induction are generalizing i with
  | nil => simp at g
  | cons x u _ more =>
    cases i with
    | zero => exact ⟨x, u, rfl, by simpa using g.symm⟩
    | succ i => exact more (i := i) (by simpa using g)
def emptySet (w : World) : Obj := { cls := .type "set", dict := none, data := .set #[] 0 (.fresh 0 0 (!w.params.followText "set-order")) }
/-- what set(xs) leaves: the set of the texts at the heap's old end, and what was there -/
def SetDone (P : Program) (w : World) (s : Shared) (xs : List Str) (s' : Shared) : Prop := ∃ h' tk, s' = { s with heap := h', toks := tk } ∧ TxSet P w h' s.heap.objs.size xs ∧ ∀ b o, s.heap.get? b = some o → h'.get? b = some o
/-- an empty set takes a list: a loop over the list's iterator -/
theorem set_from_list {S at' : Addr} {its : Array Value} {R : Fin → Shared → Prop} {G : Heap} (lst : G.IsList at' its) (mine : G.get? S = some (emptySet w))
    (loop : codeAny (model P w) A (.builtin "set.update.loop" ⟨[.ref S, .ref G.objs.size], []⟩) (wants (fun _ s' => R (.done (.ret .none)) s') E) { s with heap := G.push { cls := .type "list_iterator", data := .fields #[.ref at', .int 0 0] } }) :
    wpAny (model P w) A (Builtin.«set.__init__» ⟨[.ref S, .ref at'], []⟩) R E { s with heap := G } := by
  obtain ⟨o, e, cls, n, data⟩ := id lst
  have none1 := F.sub_list_set
  have none2 := F.sub_list_frozenset
  have other : (Value.type "list" == Value.type "dict") = false := by decide
  have begins : ∀ {A' : Around} {E' : Value → Shared → Prop} {Q' : Value → Shared → Prop}, Q' (.ref G.objs.size) { s with heap := G.push { cls := .type "list_iterator", data := .fields #[.ref at', .int 0 0] } } → wpAny (model P w) A' (pyIter (.ref at')) Q' E' { s with heap := G } :=
    fun q => (begins_list at' its).iter P w _ _ { s with heap := G } _ lst q
  obtain ⟨oc, od, odata, osl⟩ := o
  obtain rfl : oc = .type "list" := cls
  obtain rfl : odata = .seq its n := data
  unfold Builtin.«set.__init__» noKeywords Builtin.Frozenset.updateFrom emptySet at *
  wp_walk using begins
  refine codeAny_mono loop fun o s2 g => ?_
  match o, g with
  | .error _, g => exact g
  | .ok .next, g => exact g.elim
  | .ok .brk, g => exact g.elim
  | .ok .cont, g => exact g.elim
  | .ok (.ret _), g => exact wpAny_pure (wpAny_pure g)
/-- set(xs), a list of unlike texts -/
theorem call_texts {at' : Addr} {its : Array Value} {xs : List Str} {Q : Value → Shared → Prop} (calm : A.handled = none) (lst : s.heap.IsList at' its) (are : StrsAre its.toList xs) (nd : xs.Nodup) (few : xs.length < 4000)
    (q : ∀ s', SetDone P w s xs s' → Q (.ref s.heap.objs.size) s') : wpAny (model P w) A (call (.type "set") [.ref at']) Q E s := by
  generalize hk : s.heap.objs.size = k at q
  have low : at' < k := by
    obtain ⟨o, e, _⟩ := lst
    rw [← hk]
    exact Heap.lt_size e
  have len : xs.length = its.size := by rw [← Array.length_toList, are.length]
  have mine : (s.heap.push (emptySet w)).get? k = some (emptySet w) := by
    rw [← hk]
    exact Heap.get?_push_size _ rfl
  have top : (s.heap.push (emptySet w)).objs.size = k + 1 := by rw [Heap.size_push, hk]
  have lst2 : (s.heap.push (emptySet w)).IsList at' its := Heap.IsList.push lst _
  refine made_in_two (s1 := { s with heap := s.heap.push (emptySet w) }) (r := .ref k) F.called_set (F.typeCall_set_1 _) F.entry_set_init (code_set_led1 _ ⟨by rw [hk], rfl⟩) ⟨_, mine, rfl⟩ (fun q' => check_set_init_1 ⟨_, mine, rfl⟩ q') (set_from_list lst2 mine ?_)
  rw [top]
  have calm3 : A.in1.in1.in1.handled = none := by simp [calm]
  have ne1 : at' ≠ k + 1 := Nat.ne_of_lt (Nat.lt_succ_of_lt low)
  have off : k ∉ [k + 1, at'] := fun m => by
    rcases List.mem_cons.mp m with z | z
    · exact absurd z (Nat.ne_of_lt (Nat.lt_succ_self _))
    · exact absurd (List.mem_singleton.mp z) (Nat.ne_of_gt low)
  have W := (Walks.list calm3 (k + 1) at' ne1 its).toS (prog := P) (w := w)
  have T : Adds P w A.in1.in1.in1 k its.size _ _ := texts_add (P := P) (w := w) (A := A.in1.in1.in1) (S := k) (n := its.size) (Pv := fun i v => its[i]? = some v) nd few fun i v g => strs_in are (by rw [Array.getElem?_toList]; exact g)
  refine T.loop W off its.size (Nat.le_refl _) ?_ ?_ fun s' moved all => ?_
  · rw [Nat.sub_self]
    exact ⟨⟨_, by rw [← top]; exact Heap.get?_push_size _ rfl, rfl, rfl⟩, Heap.IsList.push lst2 _⟩
  · rw [Nat.sub_self]
    have f := TxSet.fresh (P := P) (w := w) s.heap
    rw [hk] at f
    exact f.at fun o g => Heap.get?_push_of_some _ g
  · obtain ⟨h', g', d', tk', os'⟩ := s'
    obtain rfl : g' = s.gens := moved.gens
    obtain rfl : d' = s.drawn := moved.drawn
    obtain rfl : os' = s.os := moved.os
    rw [← len, List.take_length] at all
    refine ⟨rfl, q _ ⟨h', tk', rfl, ?_, fun b o g => ?_⟩⟩
    · rw [hk]
      exact all.perm (List.reverse_perm xs).symm
    · have lb := Heap.lt_size g
      rw [hk] at lb
      refine moved.heap b o (fun m => ?_) (Heap.get?_push_of_some _ (Heap.get?_push_of_some _ g))
      rcases List.mem_cons.mp m with z | z
      · exact absurd z (Nat.ne_of_lt lb)
      · exact absurd (List.mem_singleton.mp z) (Nat.ne_of_lt (Nat.lt_succ_of_lt lb))
def textOf : Value → Str
  | .str x _ => x
  | _ => ""
theorem texts_are : ∀ {vs : List Value}, (∀ v ∈ vs, ∃ x u, v = Value.str x u) → StrsAre vs (vs.map textOf)
  | [], _ => .nil
  | v :: vs, h => by
    obtain ⟨x, u, rfl⟩ := h v List.mem_cons_self
    exact .cons x u (texts_are fun v m => h v (List.mem_cons_of_mem _ m))
/-- unlike ones that all stand in a row of as many -/
theorem cover : ∀ {xs zs : List Str}, xs.Nodup → (∀ x ∈ xs, x ∈ zs) → zs.length = xs.length → zs.Perm xs
  | [], zs, _, _, l => by
    rw [List.length_eq_zero_iff.mp l]
  | x :: xs, zs, d, m, l => by
    obtain ⟨no, d⟩ := List.nodup_cons.mp d
    have mx := m x List.mem_cons_self
    refine (List.perm_cons_erase mx).trans (.cons x (cover d (fun y my => ?_) ?_))
    · exact (List.mem_erase_of_ne fun e : y = x => no (by rw [← e]; exact my)).mpr (m y (List.mem_cons_of_mem _ my))
    · rw [List.length_erase_of_mem mx, l]
      rfl
/-- what is drawn of a set of texts: all of them, in some order -/
theorem collect_texts {xs : List Str} {Q : List Value → Shared → Prop} (calm : A.handled = none) (R : TxSet P w s.heap a xs)
    (q : ∀ s1 vs zs, (∀ b o, s.heap.get? b = some o → s1.heap.get? b = some o) → s.heap.objs.size ≤ s1.heap.objs.size → s1.gens = s.gens → s1.os = s.os → StrsAre vs zs → zs.Perm xs → Q vs s1) : wpAny (model P w) A (collect (.ref a)) Q E s := by
  obtain ⟨D, at', F, ⟨few, nd⟩, ris, led⟩ := R
  have bound : D.1.size < scanBound := by
    rw [F.sz]
    unfold scanBound
    omega
  refine collect_set calm ⟨_, at', rfl, rfl⟩ F.fit bound ris led fun s1 vs keep more gens os perm => q s1 vs (vs.map textOf) keep more gens os (texts_are fun v m => ?_) (cover nd (fun x m => ?_) ?_)
  · obtain ⟨e, me, rfl⟩ := List.mem_map.mp (perm.mem_iff.mp m)
    obtain ⟨k, is, _⟩ := (F.el e me).1
    exact ⟨k, Value.isStrOf_shape is⟩
  · obtain ⟨e, me, is⟩ := (F.mem x).mp m
    obtain ⟨u, eu⟩ := Value.isStrOf_shape (x := x) is
    exact List.mem_map.mpr ⟨e.2, perm.mem_iff.mpr (List.mem_map.mpr ⟨e, me, rfl⟩), by rw [eu]; rfl⟩
  · rw [List.length_map, perm.length_eq, List.length_map, Array.length_toList]
    exact F.sz
/-- a new list of texts is put in order -/
theorem order_texts {vs : List Value} {zs : List Str} {R : Value → Shared → Prop} (are : StrsAre vs zs) (few : zs.length < 4000)
    (q : ∀ h' (out : Array Value) (c : Nat) (ys : List Str), (∀ b o, s.heap.get? b = some o → h'.get? b = some o) → h'.get? s.heap.objs.size = some (seqObj "list" out c) → StrsAre out.toList ys → ys.Perm zs → sortedS ys = true → R .none { s with heap := h' }) :
    wpAny (model P w) A (call (.builtin "list.sort") [.ref s.heap.objs.size]) R E { s with heap := s.heap.push (seqObj "list" vs.toArray 0) } := by
  have mine : (s.heap.push (seqObj "list" vs.toArray 0)).get? s.heap.objs.size = some (seqObj "list" vs.toArray 0) := Heap.get?_push_size _ rfl
  have short : vs.length < 4000 := by
    rw [are.length]
    exact few
  refine wpAny_call_entry slot_list_sort ⟨_, mine, rfl⟩ entry_list_sort (list_sort_treeKAny strKind_oneLt mine are.keysOf (fun v1 v2 rest e => keyKind_strs (by rw [← e]; exact are)) (by rw [sizeLine_eq]; omega) fun st hp hs => ⟨_, rfl, ?_⟩) (args_list_sort _)
  obtain ⟨ys, y1, y2, y3⟩ := sorted_out_str are hp hs
  obtain ⟨c, last⟩ := sortedHeap_at (vs := vs) (out := (arrOf st).map (·.2)) mine
  refine q _ _ c ys (fun b o g => ?_) last y1 y2 y3
  have lb := Heap.lt_size g
  exact (sortedHeap_old (Nat.ne_of_lt lb) (by rw [size_push']; exact Nat.lt_succ_of_lt lb)).trans (Heap.get?_push_of_some _ g)
/-- sorted(a set of texts) -/
theorem sorted_texts {xs : List Str} {Q : Value → Shared → Prop} (calm : A.handled = none) (R : TxSet P w s.heap a xs)
    (q : ∀ s' p (out : Array Value) (c : Nat) (ys : List Str), (∀ b o, s.heap.get? b = some o → s'.heap.get? b = some o) → s'.gens = s.gens → s'.os = s.os → s.heap.objs.size ≤ p → s'.heap.get? p = some (seqObj "list" out c) → StrsAre out.toList ys → ys.Perm xs → sortedS ys = true → Q (.ref p) s') :
    wpAny (model P w) A (call (.builtin "sorted") [.ref a]) Q E s := by
  have few : xs.length < 4000 := R.elim fun _ z => z.2.2.1.1
  refine Calls.call_function_entry kind_sorted plain_sorted entry_sorted (args_sorted1 _) ?_
  unfold Builtin.«sorted»
  refine wpAny_bind (m := checkCount "sorted" 1 1 _) (wpAny_pure (wpAny_bind (collect_texts (A := A.in1) calm R fun s1 vs zs keep more gens os are perm => ?_)))
  have short : zs.length < 4000 := by
    rw [perm.length_eq]
    exact few
  refine wpAny_bind (wpAny_newList (wpAny_bind (wpAny_holding (order_texts are short fun h' out c ys old last y1 y2 y3 => ?_))) (by rw [sizeLine_eq, are.length]; omega))
  exact wpAny_pure ⟨_, rfl, q _ _ out c ys (fun b o g => old b o (keep b o g)) gens os more last y1 (y2.trans perm) y3⟩
end
def SetTx (P : Program) (w : World) (a : Addr) (xs : List Str) : HO := .ext fun h => TxSet P w h a xs
theorem setTx_ok {P : Program} {w : World} {H : Hp} {h : Heap} {a : Addr} {xs : List Str} (R : TxSet P w h a xs) : ObjOk P w H h a (SetTx P w a xs) :=
  ⟨R, let ⟨_, r⟩ := R; ⟨_, r.1⟩, fun _ _ r k => TxSet.at r k⟩
section
variable {X : Cx}
/-- set(a list of unlike texts) -/
theorem call_set (calm : X.calm = true) : CallR X (.type "set") (fun vs H Q => ∃ (l : Addr) (xs : List Str), vs = [.ref l] ∧ SqL X.K H l (xs.map V.str) ∧ xs.Nodup ∧ xs.length < 4000 ∧ ∀ a, H a = none → Q (.ref a) (upd H a (SetTx X.prog X.w a xs))) := by
  rintro pins s σ H vs us Q I r ⟨l, xs, rfl, hs, nd, few, q⟩
  rw [Vals.ref1 r]
  obtain ⟨its, rv, pl, _⟩ := I.list hs
  refine call_texts (P := X.prog) (w := X.w) (I.ok.hd calm) pl.isList (by simpa using rv.strs) nd few ?_
  rintro s' ⟨h', tk, rfl, set', keep⟩
  exact ⟨.ref s.heap.objs.size, _, I.laid (t' := tk) keep (Nat.le_refl _) (setTx_ok set'), rfl, q _ (I.hok.fresh (Nat.le_refl _))⟩
/-- sorted(a set of texts) -/
theorem call_sortedSet (calm : X.calm = true) : CallR X (.builtin "sorted") (fun vs H Q => ∃ (a : Addr) (xs : List Str), vs = [.ref a] ∧ H a = some (SetTx X.prog X.w a xs) ∧
    ∀ (ys : List Str) (p : Addr), ys.Perm xs → sortedS ys = true → ys.length < 4000 → H p = none → Q (.ref p) (upd H p (.lst (ys.map V.str)))) := by
  rintro pins s σ H vs us Q I r ⟨a, xs, rfl, ha, q⟩
  rw [Vals.ref1 r]
  have R : TxSet X.prog X.w s.heap a xs := (I.hok a _ ha).1
  have few : xs.length < 4000 := R.elim fun _ z => z.2.2.1.1
  refine sorted_texts (I.ok.hd calm) R fun s' p out c ys keep gens os more last are perm inOrder => ?_
  have short : ys.length < 4000 := by rw [perm.length_eq]; exact few
  have free := I.hok.fresh more
  have fits : (ys.map V.str).length ≤ sizeLine := by
    rw [List.length_map, sizeLine_eq]
    omega
  obtain ⟨h', g', d', tk', os'⟩ := s'
  obtain rfl : g' = s.gens := gens
  obtain rfl : os' = s.os := os
  have ok : ObjOk X.prog X.w (upd H p (.lst (ys.map V.str))) h' p (.lst (ys.map V.str)) := ⟨fits, out.toList, c, vals_of_strs are, last⟩
  exact ⟨.ref p, _, I.call (ch := []) (Un.laid keep more free) (I.hok.laid keep more ok) I.bare (fun _ z => nomatch z), rfl, q ys p perm inOrder short free⟩
end
end KX

namespace KX
open PySem PySem.Spec L2 PyProof.Rows
section
variable {base : Heap} {P : Program} {w : World} {K : PySem.W.Frag} {mg : Str → Option Value} {tk : Str → Tok} {TC ED : Addr}
abbrev s_tinit : Stmt := inClass (top 23) 0
abbrev N_tinit : List Str := ["self", "kind", "inner", "key", "fields"]
abbrev P_tinit : List Str := ["self", "kind", "inner", "key", "fields"]
theorem sc_tinit : FnScope N_tinit P_tinit (defScope s_tinit) := ⟨rfl, rfl, rfl, by decide +kernel, rfl, by decide +kernel, by decide +kernel⟩
def spTInit (TC ED : Addr) : Sp := fun vs H Q _ => ∃ (a dx : Addr) (t : Ty) (vi vf : V), vs = [.ref a, .str (kindW t), vi, (partsT t).2, vf] ∧ H a = some (.ins TC dx []) ∧ Given TC ED (hide a H) t vi vf ∧ (wr t).length ≤ 100000 ∧
  ∀ H', Keep a H H' → H' a = some (.ins TC dx (rowT (kindW t) vi (partsT t).2 vf (wr t))) → Q .non H'
theorem ok_tinit {f fw : Addr} {fd dw : FuncData} (F : FunD K "__init__" "Type.__init__" (defArgs s_tinit) (defBody s_tinit) (defScope s_tinit) [.non, .non, .ref ED] [] f fd) (C : TyC K TC) (D_writing_of : Def P w K mg base "_writing_of" 3 P_wof (spWof TC ED) fw dw) : FnOk P w K mg base CX0 4 f fd P_tinit (spTInit TC ED) := by
  refine F.ok sc_tinit (fun vs H Q E h => ?_) (fun cdv A outer s H vs Q E hr h => ?_)
  · obtain ⟨a, dx, t, vi, vf, rfl, _⟩ := h
    rfl
  obtain ⟨a, dx, t, vi, vf, rfl, at', g, len, q⟩ := h
  refine ⟨_, (pss_cons (ps_fld (pv 0) (pv 1) rfl)
    (pss_cons (ps_fld (pv 0) (pv 2) rfl)
    (pss_cons (ps_fld (pv 0) (pv 3) rfl)
    (pss_cons (ps_fld (pv 0) (pv 4) rfl)
    (pss_one (ps_fld (pv 0) (pe_call D_writing_of.ok (hr.mono (by first | decide | omega)) rfl D_writing_of.g D_writing_of.kp D_writing_of.b .nil pass0 (pa_cons (pv 1) (pa_cons (pv 2) (pa_cons (pv 3) (pa_cons (pv 4) pa_nil))))) rfl)))))), ?_⟩
  refine ⟨_, rfl, _, rfl, a, TC, dx, _, rfl, at', C.cl, C.kind, (by show 0 < 1000; decide), ?_⟩
  refine ⟨_, rfl, _, rfl, a, TC, dx, _, rfl, upd_same, C.cl, C.inner, (by show 1 < 1000; decide), ?_⟩
  refine ⟨_, rfl, _, rfl, a, TC, dx, _, rfl, upd_same, C.cl, C.key, (by show 2 < 1000; decide), ?_⟩
  refine ⟨_, rfl, _, rfl, a, TC, dx, _, rfl, upd_same, C.cl, C.fields, (by show 3 < 1000; decide), ?_⟩
  rw [upd_upd, upd_upd, upd_upd]
  refine ⟨_, rfl, _, rfl, _, rfl, _, rfl, t, vi, vf, rfl, g.same (Same.trans (Keep.hide Keep.self) (hide_sub _ _)), len, fun G kept => ?_⟩
  refine ⟨_, rfl, a, TC, dx, _, rfl, kept _ _ upd_same, C.cl, C.writing, (by show 4 < 1000; decide), ?_⟩
  refine q _ ((Keep.self.trans fun b o _ e => kept b o e).trans Keep.self) ?_
  rw [upd_same]
  rfl
/-- Type(..) makes the type -/
theorem ty_made {H : Hp} {t : Ty} {vi vf : V} {x dx : Addr} {R : Addr → Hp → Prop} (g : Given TC ED H t vi vf) (len : (wr t).length ≤ 100000) (nx : H x = none) (nd : H dx = none) (ne : dx ≠ x)
    (q : ∀ H', Same H H' → TyAt TC ED H' (.ref x) t → (∃ o, H' x = some o) → R x H') : spTInit TC ED [.ref x, .str (kindW t), vi, (partsT t).2, vf] (upd (upd H dx (.own x)) x (.ins TC dx [])) (fun v H2 => v = .non ∧ R x H2) E0 := by
  have s0 : Same H (hide x (upd (upd H dx (.own x)) x (.ins TC dx []))) := fun b o e => by
    rw [hide_ne (ne_of_none e nx), upd_ne (ne_of_none e nx), upd_ne (ne_of_none e nd)]
    exact e
  refine ⟨x, dx, t, vi, vf, rfl, upd_same, g.same s0, len, fun G kept row => ⟨rfl, ?_⟩⟩
  have s1 : Same H G := fun b o e => kept b o (ne_of_none e nx) (by
    rw [upd_ne (ne_of_none e nx), upd_ne (ne_of_none e nd)]
    exact e)
  exact q G s1 (TyAt.of (g.same s1) row) ⟨_, row⟩
/-- the same where a reader reads -/
theorem ty_read {H : Hp} {t : Ty} {vi vf : V} {r x dx : Addr} {R : Addr → Hp → Prop} (g : Given TC ED (hide r H) t vi vf) (has : ∃ o, H r = some o) (len : (wr t).length ≤ 100000) (nx : H x = none) (nd : H dx = none) (ne : dx ≠ x)
    (q : ∀ H', Same H H' → TyAt TC ED (hide r H') (.ref x) t → R x H') : spTInit TC ED [.ref x, .str (kindW t), vi, (partsT t).2, vf] (upd (upd H dx (.own x)) x (.ins TC dx [])) (fun v H2 => v = .non ∧ R x H2) E0 := by
  obtain ⟨o, has⟩ := has
  have s0 : Same H (hide x (upd (upd H dx (.own x)) x (.ins TC dx []))) := fun b o e => by
    rw [hide_ne (ne_of_none e nx), upd_ne (ne_of_none e nx), upd_ne (ne_of_none e nd)]
    exact e
  refine ⟨x, dx, t, vi, vf, rfl, upd_same, g.same ((hide_sub r H).trans s0), len, fun G kept row => ⟨rfl, ?_⟩⟩
  have s1 : Same H G := fun b o e => kept b o (ne_of_none e nx) (by
    rw [upd_ne (ne_of_none e nx), upd_ne (ne_of_none e nd)]
    exact e)
  have xr : x ≠ r := fun e => by
    rw [e, has] at nx
    cases nx
  exact q G s1 (TyAt.of (g.same (Keep.hide fun b o _ e => s1 b o e)) ((hide_ne xr).trans row))
end
end KX

namespace KX
open PySem PySem.Spec L2 PyProof.Rows
/-! ### reading -/
structure BlT (mg : Str → Option Value) : Prop extends Bl mg where
  any : mg "any" = none
  set : mg "set" = none
  enumerate : mg "enumerate" = none
def isOpt : Ty → Bool
  | .opt _ => true
  | _ => false
def keyT : Ty → Bool
  | .text => true
  | .number => true
  | _ => false
abbrev letters (n : Str) : Prop := ∀ c ∈ ql n, 97 ≤ c ∧ c ≤ 122
/-- the types that a text can tell within so many levels -/
inductive GoodT : Nat → Ty → Prop
  | plain {n : Nat} {t : Ty} : plainT t = true → GoodT n t
  | opt {n : Nat} {t : Ty} : GoodT n t → isOpt t = false → GoodT n (.opt t)
  | list {n : Nat} {t : Ty} : GoodT n t → GoodT (n + 1) (.list t)
  | keyed {n : Nat} {fs : List (Str × Ty)} {k : Str} {u : Ty} : GoodT n (.rcd fs) → (k, u) ∈ fs → keyT u = true → letters k → GoodT (n + 1) (.keyed (.rcd fs) k)
  | rcd {n : Nat} {fs : List (Str × Ty)} : fs ≠ [] → (fs.map (·.1)).Nodup → sortedS (fs.map (·.1)) = true → fs.length < 4000 → (∀ q ∈ fs, letters q.1 ∧ q.1.length ≤ 12 ∧ q.1.length ≠ 0) → (∀ q ∈ fs, GoodT n q.2) → GoodT (n + 1) (.rcd fs)
/-- no letter stands first -/
def noL : List Nat → Bool
  | [] => true
  | c :: _ => !decide (97 ≤ c ∧ c ≤ 122)
theorem run_word {n : List Nat} {rest : List Nat} (h : ∀ c ∈ n, 97 ≤ c ∧ c ≤ 122) (no : noL rest = true) : run (n ++ rest) = n.length := by
  unfold run
  induction n with
  | nil =>
    cases rest with
    | nil => rfl
    | cons c r =>
      rw [List.nil_append, List.takeWhile_cons]
      have z : decide (97 ≤ c ∧ c ≤ 122) = false := by
        cases e : decide (97 ≤ c ∧ c ≤ 122) with
        | false => rfl
        | true =>
          have y : (!decide (97 ≤ c ∧ c ≤ 122)) = true := no
          rw [e] at y
          cases y
      rw [z]
      rfl
  | cons c n ih =>
    rw [List.cons_append, List.takeWhile_cons, decide_eq_true (h c List.mem_cons_self), if_pos rfl, List.length_cons, ih fun d m => h d (List.mem_cons_of_mem _ m)]
    rfl
theorem pre_app (s r : List Nat) : pre s (s ++ r) = true := by
  unfold pre
  rw [List.take_left]
  exact beq_self_eq_true _
theorem pre_no {c d : Nat} {s r : List Nat} (h : c ≠ d) : pre (c :: s) (d :: r) = false := by
  unfold pre
  rw [List.length_cons, List.take_succ_cons]
  rw [beq_eq_false_iff_ne]
  intro e
  exact h (List.cons.inj e).1.symm
theorem pre_nil {c : Nat} {s : List Nat} : pre (c :: s) [] = false := rfl
theorem drop_more {z a b : List Nat} {i : Nat} (h : z.drop i = a ++ b) : z.drop (i + a.length) = b := by
  rw [← List.drop_drop, h, List.drop_left]
theorem drop_len {z a : List Nat} {i : Nat} (h : z.drop i = a) (l : i ≤ z.length) : i + a.length = z.length := by
  have := congrArg List.length h
  rw [List.length_drop] at this
  omega
/-- how the writings begin -/
theorem wr_plainL {t : Ty} (p : plainT t = true) : letters (kindW t) ∧ (kindW t = "text" ∨ kindW t = "number" ∨ kindW t = "flag") := by
  cases t with
  | text => exact ⟨by decide, .inl rfl⟩
  | number => exact ⟨by decide, .inr (.inl rfl)⟩
  | flag => exact ⟨by decide, .inr (.inr rfl)⟩
  | opt => cases p
  | list => cases p
  | keyed => cases p
  | rcd => cases p
section
variable {base : Heap} {P : Program} {w : World} {K : PySem.W.Frag} {mg : Str → Option Value} {tk : Str → Tok} {TC ED RC : Addr}
theorem pe_fldK {X : Cx} {e : Expr} {ta : TE} {fl : Str} {pos : Pos} (K : PySem.W.Frag) (h : X.K = K) (val : PE X e ta) (hb : attributeBase e fl X.env (eval e X.env) = eval e X.env) : PE X (.Attribute e fl pos) (tFld K ta fl) := by
  subst h
  exact pe_fld val hb
abbrev s_can : Stmt := top 32
abbrev N_can : List Str := ["inner", "key", "name", "part"]
abbrev P_can : List Str := ["inner", "key"]
theorem sc_can : FnScope N_can P_can (defScope s_can) := ⟨rfl, rfl, rfl, by decide +kernel, rfl, by decide +kernel, by decide +kernel⟩
def spCan (TC ED : Addr) : Sp := fun vs H Q _ => ∃ (a : Addr) (k : Str) (fs : List (Str × Ty)), vs = [.ref a, .str k] ∧ TyAt TC ED H (.ref a) (.rcd fs) ∧ fs.length < 4000 ∧ ∀ H', Same H H' → Q (.bl (fs.any fun q => decide (q.1 = k) && keyT q.2)) H'
theorem ok_can {f : Addr} {fd : FuncData} (F : Fun K "_can_be_key" "_can_be_key" s_can f fd) (T : BlT mg) (C : TyC K TC) : FnOk P w K mg base CX0 1 f fd P_can (spCan TC ED) := by
  refine F.ok sc_can (fun vs H Q E h => ?_) (fun cdv A outer s H vs Q E hr h => ?_)
  · obtain ⟨a, k, fs, rfl, _⟩ := h
    rfl
  obtain ⟨a, k, fs, rfl, at', few, q⟩ := h
  refine ⟨_, (pss_one (ps_ret (pe_callB (cr_any rfl) (by rfl) T.any (by decide +kernel) (pa_cons (pe_lc (own := [("name", 2), ("part", 3)]) (g := (gTup K 2 (gCons (gName 2) (gCons (gName 3) gNil)))) (tt := tYes) rfl sc_can.nd (pi_tup (pe_fld (pv 0) rfl)) (blkOk_by (own := [("name", 2), ("part", 3)]) (N := N_can) (sc := defScope s_can) (by decide +kernel)) (fun _ _ _ _ _ => (pg_tup rfl (pgs_cons (pg_name (i := 2) sc_can.nd rfl (Or.inl rfl)) (pgs_cons (pg_name (i := 3) sc_can.nd rfl (Or.inl rfl)) pgs_nil)))) (fun _ _ _ _ _ => pts_nil) (fun _ _ _ _ _ => (pe_and (pe_cmpR op_eq (pv 2) (pv 1) (nomark _)) (pe_one (pe_cmpR (op_inK K rfl) (pe_fldK K rfl (pv 3) rfl) (pe_tup (pa_cons pe_str (pa_cons pe_str pa_nil))) (by with_unfolding_all rfl)))))) pa_nil)))), ?_⟩
  obtain ⟨dx, b, rows, hx, hb, hr'⟩ : ∃ dx b rows, H a = some (.ins TC dx (rowT "record" .non .non (.ref b) (wr (.rcd fs)))) ∧ H b = some (.tup rows) ∧ TyRows TC ED H rows fs := by
    cases at' with
    | plain p _ => cases p
    | rcd h1 h2 h3 => exact ⟨_, _, _, h1, h2, h3⟩
  refine ⟨_, rfl, a, TC, dx, _, _, rfl, hx, C.cl, C.fields, rfl, b, rfl, ⟨_, SqT.of hb⟩, fun D new => ?_⟩
  refine lc_it (g := gTup K 2 (gCons (gName 2) (gCons (gName 3) gNil))) (tt := tYes) (vs := [2, 3]) (te := tAndV (tOp rEq (tVar 2) (tVar 1)) (tOp (rIn K false) (tFld K (tVar 3) "kind") (tTup (tCons (tC (V.str "text")) (tCons (tC (V.str "number")) tNil))))) (walk_tup (K := K) (a := b) (xs := rows))
    (fun i G => Same H G ∧ G D = some (.lst ((fs.take i).map fun q => .bl (decide (q.1 = k) && keyT q.2)))) ⟨same_new new _, upd_same⟩ (fun i G _ p => SqT.of (p.1 _ _ hb)) ?_ ?_
  · rintro i x G2 G hi ⟨kept, made⟩ ⟨rfl, hx'⟩
    obtain ⟨c, n, u, t, rfl, ef, hc, ht⟩ := hr'.get hx'
    obtain ⟨a2, dx2, vi', vf', rfl, at2, _⟩ := (TyAt.same kept t _ ht).obj
    refine ⟨c, _, rfl, SqT.of (kept _ _ hc), rfl, _, _, rfl, _, _, rfl, rfl, rfl, yesT ?_⟩
    have fin : ∀ G2, Same G G2 → ∀ v, v = V.bl (decide (n = k) && keyT t) → ∃ acc, G2 D = some (.lst acc) ∧ acc.length < sizeLine ∧ Same H (upd G2 D (.lst (acc ++ [v]))) ∧ upd G2 D (.lst (acc ++ [v])) D = some (.lst ((fs.take (i + 1)).map fun q => .bl (decide (q.1 = k) && keyT q.2))) := fun G2 s2 v ev => by
      refine ⟨_, s2 _ _ made, ?_, Same.updNew (kept.trans s2) new, ?_⟩
      · rw [List.length_map, List.length_take, sizeLine_eq]
        omega
      · have e : fs.take (i + 1) = fs.take i ++ [(n, t)] := by
          rw [List.take_succ, ef]
          rfl
        rw [upd_same, e, List.map_append, ev]
        rfl
    refine ⟨_, rfl, _, rfl, rfl, decide (V.str n = V.str k), rfl, ?_⟩
    by_cases nk : n = k
    · rw [decide_eq_true (by rw [nk] : V.str n = V.str k)]
      refine if_tt rfl ⟨_, rfl, a2, TC, dx2, _, _, rfl, at2, C.cl, C.kind, rfl, (by decide +kernel), fun p np => ⟨p, _, rfl, .inr (SqT.of upd_same), rfl, rfl, fin _ (same_new np _) _ ?_⟩⟩
      rw [decide_eq_true nk, Bool.true_and]
      cases t <;> rfl
    · rw [decide_eq_false (fun e => nk (V.str.inj e))]
      refine if_ff rfl (fin _ (Same.refl G) _ ?_)
      rw [decide_eq_false nk, Bool.false_and]
  · rintro G ⟨kept, made⟩
    rw [hr'.length, List.take_length] at made
    refine ⟨D, fs.map fun q => decide (q.1 = k) && keyT q.2, rfl, SqL.of (by rw [made, List.map_map]; rfl), ?_⟩
    have e : (fs.map fun q => decide (q.1 = k) && keyT q.2).any id = fs.any fun q => decide (q.1 = k) && keyT q.2 := by
      rw [List.any_map]
      rfl
    rw [e]
    exact q G kept
end
end KX

namespace KX
open PySem PySem.Spec L2 PyProof.Rows
section
variable {base : Heap} {P : Program} {w : World} {K : PySem.W.Frag} {mg : Str → Option Value} {tk : Str → Tok} {TC ED RC : Addr}
/-- the class of types can be called -/
structure TyD (P : Program) (w : World) (K : PySem.W.Frag) (mg : Str → Option Value) (base : Heap) (TC ED fi : Addr) (di : FuncData) : Prop where
  g : mg "Type" = some (.ref TC)
  how : Mk K TC fi
  ok : FnOk P w K mg base CX0 4 fi di P_tinit (spTInit TC ED)
  b0 : ∃ ds, Binds K di P_tinit ds ∧ Vals [V.non, V.non, V.ref ED] ds
  bI : ∃ g : List Value → List Value → List Value, KBn K di P_tinit 2 ["inner"] g fun vs zs => vs ++ zs ++ [.non, .ref ED]
  bK : ∃ g : List Value → List Value → List Value, KBn K di P_tinit 2 ["inner", "key"] g fun vs zs => vs ++ zs ++ [.ref ED]
  bF : ∃ g : List Value → List Value → List Value, KBn K di P_tinit 2 ["fields"] g fun vs zs => vs ++ [.non, .non] ++ zs
abbrev s_part : Stmt := top 29
abbrev N_part : List Str := ["reader", "levels", "found"]
abbrev P_part : List Str := ["reader", "levels"]
theorem sc_part : FnScope N_part P_part (defScope s_part) := ⟨rfl, rfl, rfl, by decide +kernel, rfl, by decide +kernel, by decide +kernel⟩
/-- a type is read, within less than L levels -/
def spPart (RC TC ED : Addr) (L : Nat) : Sp := fun vs H Q _ => ∃ (r : Addr) (M i : Nat) (z : Str) (t : Ty) (rest : List Nat), vs = [.ref r, .int (M : Int)] ∧ M < L ∧ Rd RC H r z i ∧ i ≤ z.length ∧ z.length ≤ 100000 ∧ GoodT M t ∧ (ql z).drop i = ql (wr t) ++ rest ∧ noL rest = true ∧ (isOpt t = false → rest.head? ≠ some 63) ∧
  ∀ (x : Addr) (H' : Hp), Keep r H H' → Rd RC H' r z (i + (wr t).length) → TyAt TC ED (hide r H') (.ref x) t → Q (.ref x) H'
/-- up to the question mark -/
def spReq (RC TC ED : Addr) (L : Nat) : Sp := fun vs H Q _ => ∃ (r : Addr) (M i : Nat) (z : Str) (t : Ty) (rest : List Nat), vs = [.ref r, .int (M : Int)] ∧ M < L ∧ Rd RC H r z i ∧ i ≤ z.length ∧ z.length ≤ 100000 ∧ GoodT M t ∧ (ql z).drop i = ql (wr t) ++ rest ∧ noL rest = true ∧ isOpt t = false ∧
  ∀ (x : Addr) (H' : Hp), Keep r H H' → Rd RC H' r z (i + (wr t).length) → TyAt TC ED (hide r H') (.ref x) t → Q (.ref x) H'
/-- behind the first sign of a list's or a record's writing -/
def spRest (c : Nat) (RC TC ED : Addr) (L : Nat) : Sp := fun vs H Q _ => ∃ (r : Addr) (M i : Nat) (z : Str) (t : Ty) (body rest : List Nat), vs = [.ref r, .int (M : Int)] ∧ M < L ∧ Rd RC H r z i ∧ 1 ≤ i ∧ i ≤ z.length ∧ z.length ≤ 100000 ∧ GoodT (M + 1) t ∧ ql (wr t) = c :: body ∧ isOpt t = false ∧ plainT t = false ∧ (ql z).drop i = body ++ rest ∧
  ∀ (x : Addr) (H' : Hp), Keep r H H' → Rd RC H' r z (i + body.length) → TyAt TC ED (hide r H') (.ref x) t → Q (.ref x) H'
theorem ok_part {f fq fi fs : Addr} {fd dq di ds : FuncData} {L n : Nat} (F : Fun K "_read_part" "_read_part" s_part f fd) (TD : TyD P w K mg base TC ED fi di) (M_skips : MtD P w K mg base RC "skips" 1 P_skips (spSkips RC) fs ds) (D_read_required : Def P w K mg base "_read_required" (n + 5) ["reader", "levels"] (spReq RC TC ED L) fq dq) : FnOk P w K mg base CX0 (n + 6) f fd P_part (spPart RC TC ED L) := by
  obtain ⟨gI, b_inner⟩ := TD.bI
  refine F.ok sc_part (fun vs H Q E h => ?_) (fun cdv A outer s H vs Q E hr h => ?_)
  · obtain ⟨r, M, i, z, t, rest, rfl, _⟩ := h
    rfl
  obtain ⟨r, M, i, z, t, rest, rfl, lt, rd, il, zl, good, here, no, noq, q⟩ := h
  refine ⟨_, (pss_cons (ps_set (i := 2) sc_part.nd rfl (Or.inl rfl) (pe_call D_read_required.ok (hr.mono (by first | decide | omega)) rfl D_read_required.g D_read_required.kp D_read_required.b .nil pass0 (pa_cons (pv 0) (pa_cons (pv 1) pa_nil))))
    (pss_cons (ps_if (pt_val (pe_meth (pv 0) M_skips.cl M_skips.me M_skips.ok (hr.mono (by first | decide | omega)) M_skips.b .nil pass0 (pa_cons pe_str pa_nil)))
      (pss_one (ps_ret (pe_makeN TD.how TD.ok (hr.mono (by first | decide | omega)) rfl TD.g b_inner pass0 (pa_cons pe_str pa_nil) (pk_cons (pv 2) pk_nil))))
      pss_nil)
    (pss_one (ps_ret (pv 2))))), ?_⟩
  have few : (wr t).length ≤ 100000 := by
    have z1 := congrArg List.length here
    rw [List.length_drop, List.length_append, ← ql_len, ← ql_len] at z1
    omega
  cases hopt : isOpt t with
  | true =>
    obtain ⟨u, rfl⟩ : ∃ u, t = .opt u := by
      cases t with
      | opt u => exact ⟨u, rfl⟩
      | _ => cases hopt
    obtain ⟨gu, nopt⟩ : GoodT M u ∧ isOpt u = false := by
      cases good with
      | plain p => cases p
      | opt a b => exact ⟨a, b⟩
    have w1 : ql (wr (.opt u)) = ql (wr u) ++ [63] := by
      simp only [wr]
      exact ql_app _ _
    have l1 : (wr (.opt u)).length = (wr u).length + 1 := by
      rw [ql_len, w1, List.length_append, ← ql_len]
      rfl
    rw [w1, List.append_assoc] at here
    refine ⟨_, rfl, _, rfl, r, M, i, z, u, 63 :: rest, rfl, lt, rd, il, zl, gu, here, rfl, nopt, fun x G kept rd2 at2 => ?_⟩
    have next := drop_more here
    rw [← ql_len] at next
    have il2 := drop_len next (by
      have z1 := drop_len here (by rw [← ql_len]; exact il)
      rw [List.length_append, ← ql_len, ← ql_len] at z1
      rw [← ql_len]
      omega)
    rw [← ql_len] at il2
    have il3 : i + (wr u).length + 1 ≤ z.length := by
      rw [← il2]
      show _ ≤ _ + (List.length rest + 1)
      omega
    obtain ⟨dx2, e2⟩ := rd2
    refine ⟨_, rfl, r, dx2, _, rfl, e2, rfl, r, z, "?", i + (wr u).length, rfl, ⟨dx2, e2⟩, by omega, by decide, fun G2 goes rd3 => ?_⟩
    have yes : pre (ql "?") ((ql z).drop (i + (wr u).length)) = true := by
      rw [next]
      exact pre_app [63] rest
    rw [if_pos yes] at rd3
    rw [yes]
    refine ⟨_, rfl, if_tt rfl ⟨_, rfl, rfl, rfl, fun y dy ny nd ne => ?_⟩⟩
    show spTInit TC ED [.ref y, .str (kindW (.opt u)), .ref x, (partsT (.opt u)).2, .ref ED] _ (fun v H3 => v = .non ∧ (fun a G => Q (.ref a) G) y H3) E0
    refine ty_read (R := fun a G => Q (.ref a) G) (t := .opt u) (r := r) ⟨fun v e => ?_, fun e => (nomatch e), fun fs e => (nomatch e), fun _ => rfl⟩ rd3.has few ny nd ne fun H' s12 at' => ?_
    · obtain rfl : u = v := Option.some.inj e
      exact TyAt.same (Keep.hide goes.keep) _ _ at2
    · refine q y H' (kept.trans (goes.keep.trans fun b o _ e => s12 b o e)) ?_ at'
      rw [l1, ← Nat.add_assoc]
      exact rd3.same s12
  | false =>
    refine ⟨_, rfl, _, rfl, r, M, i, z, t, rest, rfl, lt, rd, il, zl, good, here, no, hopt, fun x G kept rd2 at2 => ?_⟩
    have next := drop_more here
    rw [← ql_len] at next
    obtain ⟨dx2, e2⟩ := id rd2
    have il2 : i + (wr t).length ≤ z.length := by
      have z1 := drop_len here (by rw [← ql_len]; exact il)
      rw [List.length_append, ← ql_len, ← ql_len] at z1
      omega
    refine ⟨_, rfl, r, dx2, _, rfl, e2, rfl, r, z, "?", i + (wr t).length, rfl, ⟨dx2, e2⟩, il2, by decide, fun G2 goes rd3 => ?_⟩
    have nope : pre (ql "?") ((ql z).drop (i + (wr t).length)) = false := by
      rw [next]
      cases rest with
      | nil => rfl
      | cons c rest' => exact pre_no fun e => noq hopt (by rw [← e]; rfl)
    rw [nope, if_neg Bool.false_ne_true] at rd3
    rw [nope]
    exact ⟨_, rfl, if_ff rfl ⟨_, rfl, q x G2 (kept.trans goes.keep) rd3 (TyAt.same (Keep.hide goes.keep) _ _ at2)⟩⟩
end
end KX

namespace KX
open PySem PySem.Spec L2 PyProof.Rows
section
variable {base : Heap} {P : Program} {w : World} {K : PySem.W.Frag} {mg : Str → Option Value} {tk : Str → Tok} {TC ED RC : Addr}
abbrev s_req : Stmt := top 30
abbrev N_req : List Str := ["reader", "levels", "word"]
abbrev P_req : List Str := ["reader", "levels"]
theorem sc_req : FnScope N_req P_req (defScope s_req) := ⟨rfl, rfl, rfl, by decide +kernel, rfl, by decide +kernel, by decide +kernel⟩
/-- levels > 0 and reader.skips(w) -/
def tAsk (RC : Addr) (w : Str) : TT := tAnd (tTest (tOp (rI0 fun i j => V.bl (decide (j < i))) (tVar 1) (tC (V.int 0)))) (tB (tMeth RC "skips" (spSkips RC) [] E0 (tVar 0) (tCons (tC (V.str w)) tNil)))
theorem ask_no {RC r : Addr} {w z : Str} {i M : Nat} {σ : List (Option V)} {H : Hp} {Qb : Bool → Hp → Prop} (s0 : σ[0]? = some (some (.ref r))) (s1 : σ[1]? = some (some (.int (M : Int)))) (rd : Rd RC H r z i) (il : i ≤ z.length) (wl : w.length ≤ 1000) (no : pre (ql w) ((ql z).drop i) = false)
    (q : ∀ H', Goes r H H' → Rd RC H' r z i → Qb false H') : tAsk RC w σ H Qb := by
  refine ⟨_, s1, _, _, rfl, rfl, _, rfl, ?_⟩
  by_cases m : (0 : Int) < (M : Int)
  · refine if_tt (decide_eq_true m) ?_
    obtain ⟨dx, e⟩ := id rd
    refine ⟨_, s0, r, dx, _, rfl, e, rfl, r, z, w, i, rfl, rd, il, wl, fun G goes rd2 => ⟨_, rfl, ?_⟩⟩
    rw [no, if_neg Bool.false_ne_true] at rd2
    rw [no]
    exact q G goes rd2
  · refine if_ff (decide_eq_false m) ?_
    exact q H (Goes.refl _ _) rd
theorem ask_yes {RC r : Addr} {w z : Str} {i M : Nat} {σ : List (Option V)} {H : Hp} {Qb : Bool → Hp → Prop} (s0 : σ[0]? = some (some (.ref r))) (s1 : σ[1]? = some (some (.int ((M + 1 : Nat) : Int)))) (rd : Rd RC H r z i) (il : i ≤ z.length) (wl : w.length ≤ 1000) (yes : pre (ql w) ((ql z).drop i) = true)
    (q : ∀ H', Goes r H H' → Rd RC H' r z (i + w.length) → Qb true H') : tAsk RC w σ H Qb := by
  refine ⟨_, s1, _, _, rfl, rfl, _, rfl, ?_⟩
  refine if_tt (decide_eq_true (by omega : (0 : Int) < ((M + 1 : Nat) : Int))) ?_
  obtain ⟨dx, e⟩ := id rd
  refine ⟨_, s0, r, dx, _, rfl, e, rfl, r, z, w, i, rfl, rd, il, wl, fun G goes rd2 => ⟨_, rfl, ?_⟩⟩
  rw [if_pos yes] at rd2
  rw [yes]
  exact q G goes rd2
theorem down (r : Addr) (m : Nat) : [V.ref r, V.int (((m + 1 : Nat) : Int) - 1)] = [V.ref r, V.int (m : Int)] := by
  rw [show (((m + 1 : Nat) : Int) - 1) = (m : Int) from by omega]
theorem wr_list (u : Ty) : ql (wr (.list u)) = 91 :: (ql (wr u) ++ [93]) := by
  simp only [wr]
  rw [ql_app, ql_app]
  rfl
theorem wr_keyed (u : Ty) (k : Str) : ql (wr (.keyed u k)) = 91 :: (ql (wr u) ++ (ql " by " ++ (ql k ++ [93]))) := by
  simp only [wr]
  rw [ql_app, ql_app, ql_app, ql_app, List.append_assoc, List.append_assoc, List.append_assoc]
  rfl
theorem wr_rcd (fs : List (Str × Ty)) : ql (wr (.rcd fs)) = 123 :: (ql (Txt.join ", " (wrFs fs)) ++ [125]) := by
  simp only [wr]
  rw [ql_app, ql_app]
  rfl
theorem ok_req {f fl fr fi fs ft : Addr} {fd dl dr di ds dt : FuncData} {L n : Nat} (F : Fun K "_read_required" "_read_required" s_req f fd) (TD : TyD P w K mg base TC ED fi di) (M_skips : MtD P w K mg base RC "skips" 1 P_skips (spSkips RC) fs ds) (M_letters : MtD P w K mg base RC "letters" 3 P_letters (spLetters RC) ft dt)
    (D_read_list : Def P w K mg base "_read_list" (n + 6) ["reader", "levels"] (spRest 91 RC TC ED L) fl dl) (D_read_record : Def P w K mg base "_read_record" (n + 6) ["reader", "levels"] (spRest 123 RC TC ED L) fr dr) : FnOk P w K mg base CX0 (n + 7) f fd P_req (spReq RC TC ED (L + 1)) := by
  obtain ⟨d0, b_0, v_0⟩ := TD.b0
  refine F.ok sc_req (fun vs H Q E h => ?_) (fun cdv A outer s H vs Q E hr h => ?_)
  · obtain ⟨r, M, i, z, t, rest, rfl, _⟩ := h
    rfl
  obtain ⟨r, M, i, z, t, rest, rfl, lt, rd, il, zl, good, here, no, nopt, q⟩ := h
  refine ⟨_, (pss_cons (ps_if (PW.pt (pw_and (pt_cmpR op_gt (pv 1) pe_int (nomark _)) (pw_and1 (pt_val (pe_meth (pv 0) M_skips.cl M_skips.me M_skips.ok (hr.mono (by first | decide | omega)) M_skips.b .nil pass0 (pa_cons pe_str pa_nil))))))
      (pss_one (ps_ret (pe_call D_read_list.ok (hr.mono (by first | decide | omega)) rfl D_read_list.g D_read_list.kp D_read_list.b .nil pass0 (pa_cons (pv 0) (pa_cons (pe_op op_sub (pv 1) pe_int) pa_nil)))))
      pss_nil)
    (pss_cons (ps_if (PW.pt (pw_and (pt_cmpR op_gt (pv 1) pe_int (nomark _)) (pw_and1 (pt_val (pe_meth (pv 0) M_skips.cl M_skips.me M_skips.ok (hr.mono (by first | decide | omega)) M_skips.b .nil pass0 (pa_cons pe_str pa_nil))))))
      (pss_one (ps_ret (pe_call D_read_record.ok (hr.mono (by first | decide | omega)) rfl D_read_record.g D_read_record.kp D_read_record.b .nil pass0 (pa_cons (pv 0) (pa_cons (pe_op op_sub (pv 1) pe_int) pa_nil)))))
      pss_nil)
    (pss_cons (ps_set (i := 2) sc_req.nd rfl (Or.inl rfl) (pe_meth0 (pv 0) M_letters.cl M_letters.me M_letters.ok (hr.mono (by first | decide | omega)) M_letters.b .nil pass0))
    (pss_cons (ps_if (pt_cmpR (op_notInK K rfl) (pv 2) (pe_tup (pa_cons pe_str (pa_cons pe_str (pa_cons pe_str pa_nil)))) (by with_unfolding_all rfl))
      (pss_one ps_never)
      pss_nil)
    (pss_one (ps_ret (pe_make TD.how TD.ok (hr.mono (by first | decide | omega)) rfl TD.g b_0 v_0 pass0 (pa_cons (pv 2) pa_nil)))))))), ?_⟩
  have il2 : i + (wr t).length ≤ z.length := by
    have z1 := drop_len here (by rw [← ql_len]; exact il)
    rw [List.length_append, ← ql_len, ← ql_len] at z1
    omega
  have few : (wr t).length ≤ 100000 := by omega
  show tIfS (tAsk RC "[") _ _ _ _ _
  cases good with
  | opt _ _ => cases nopt
  | plain pl =>
    rw [wr_plain pl] at here il2 few q
    obtain ⟨lets, words⟩ := wr_plainL pl
    have first : ∃ c s, ql (kindW t) = c :: s := by
      rcases words with e | e | e <;> rw [e] <;> exact ⟨_, _, rfl⟩
    obtain ⟨c, s', first⟩ := first
    have low : 97 ≤ c ∧ c ≤ 122 := lets c (by rw [first]; exact List.mem_cons_self)
    refine ask_no rfl rfl rd il (by decide) (by rw [here, first]; exact pre_no (c := 91) (by omega)) fun G1 g1 rd1 => if_ff rfl ?_
    show tIfS (tAsk RC "{") _ _ _ _ _
    refine ask_no rfl rfl rd1 il (by decide) (by rw [here, first]; exact pre_no (c := 123) (by omega)) fun G2 g2 rd2 => if_ff rfl ?_
    obtain ⟨dx, e2⟩ := id rd2
    refine ⟨_, rfl, r, dx, _, rfl, e2, rfl, r, z, i, rfl, ⟨dx, e2⟩, il, big (by omega), fun G3 g3 rd3 => ?_⟩
    have cnt : run ((ql z).drop i) = (kindW t).length := by
      rw [here, run_word lets no, ← ql_len]
    have word : (⟨(((ql z).drop i).take (run ((ql z).drop i))).toArray⟩ : Str) = kindW t := by
      rw [cnt, here, ql_len, List.take_left]
    rw [cnt] at rd3
    rw [word]
    refine ⟨_, rfl, (by decide +kernel), fun p np => ⟨p, _, rfl, .inr (SqT.of upd_same), rfl, rfl, _, rfl, if_ff ?_ ?_⟩⟩
    · cases t <;> first | rfl | cases pl
    have s3 : Same G3 (upd G3 p (.tup [.str "text", .str "number", .str "flag"])) := same_new np _
    have np2 : (partsT t).1 = none ∧ (partsT t).2 = .non := by cases t <;> first | exact ⟨rfl, rfl⟩ | cases pl
    refine ⟨_, rfl, fun x dy nx nd ne => ?_⟩
    have key : ∀ u : V, u = .non → (partsT t).2 = u → spTInit TC ED [.ref x, .str (kindW t), .non, u, .ref ED] (upd (upd (upd G3 p (.tup [.str "text", .str "number", .str "flag"])) dy (.own x)) x (.ins TC dy [])) (fun v H3 => v = .non ∧ (fun a G => Q (.ref a) G) x H3) E0 := ?_
    · exact key .non rfl np2.2
    rintro _ un rfl
    refine ty_read (R := fun a G => Q (.ref a) G) (t := t) (r := r) ⟨fun v e => ?_, fun _ => rfl, fun fs e => ?_, fun _ => rfl⟩ (rd3.same s3).has (by rw [wr_plain pl]; exact few) nx nd ne fun H' s4 at' => ?_
    · rw [np2.1] at e
      cases e
    · rw [e] at pl
      cases pl
    · exact q x H' ((g1.keep.trans (g2.keep.trans g3.keep)).trans (Same.keep (s3.trans s4))) (rd3.same (s3.trans s4)) at'
  | @list m u gu =>
    rw [wr_list, List.cons_append] at here
    have next : (ql z).drop (i + 1) = (ql (wr u) ++ [93]) ++ rest := drop_more (a := [91]) here
    have l1 : (wr (.list u)).length = 1 + (ql (wr u) ++ [93]).length := by
      rw [ql_len, wr_list, List.length_cons, Nat.add_comm]
    refine ask_yes rfl rfl rd il (by decide) (by rw [here]; exact pre_app [91] _) fun G1 g1 rd1 => if_tt rfl ?_
    refine ⟨_, rfl, _, rfl, _, _, rfl, rfl, r, m, i + 1, z, .list u, _, rest, ?_, by omega, rd1, by omega, by omega, zl, .list gu, wr_list u, rfl, rfl, next, fun x H' kept rd2 at' => q x H' (g1.keep.trans kept) ?_ at'⟩
    · exact down r m
    · rw [l1, ← Nat.add_assoc]
      exact rd2
  | @keyed m fs k u gu mem kt lk =>
    rw [wr_keyed, List.cons_append] at here
    have next := drop_more (a := [91]) here
    have l1 : (wr (.keyed (.rcd fs) k)).length = 1 + (ql (wr (.rcd fs)) ++ (ql " by " ++ (ql k ++ [93]))).length := by
      rw [ql_len, wr_keyed, List.length_cons, Nat.add_comm]
    refine ask_yes rfl rfl rd il (by decide) (by rw [here]; exact pre_app [91] _) fun G1 g1 rd1 => if_tt rfl ?_
    refine ⟨_, rfl, _, rfl, _, _, rfl, rfl, r, m, i + 1, z, .keyed (.rcd fs) k, _, rest, ?_, by omega, rd1, by omega, by omega, zl, .keyed gu mem kt lk, wr_keyed _ k, rfl, rfl, next, fun x H' kept rd2 at' => q x H' (g1.keep.trans kept) ?_ at'⟩
    · exact down r m
    · rw [l1, ← Nat.add_assoc]
      exact rd2
  | @rcd m fs ne nd so lim ws gs =>
    rw [wr_rcd, List.cons_append] at here
    have next := drop_more (a := [123]) here
    have l1 : (wr (.rcd fs)).length = 1 + (ql (Txt.join ", " (wrFs fs)) ++ [125]).length := by
      rw [ql_len, wr_rcd, List.length_cons, Nat.add_comm]
    refine ask_no rfl rfl rd il (by decide) (by rw [here]; exact pre_no (c := 91) (by decide)) fun G0 g0 rd0 => if_ff rfl ?_
    show tIfS (tAsk RC "{") _ _ _ _ _
    refine ask_yes rfl rfl rd0 il (by decide) (by rw [here]; exact pre_app [123] _) fun G1 g1 rd1 => if_tt rfl ?_
    refine ⟨_, rfl, _, rfl, _, _, rfl, rfl, r, m, i + 1, z, .rcd fs, _, rest, ?_, by omega, rd1, by omega, by omega, zl, .rcd ne nd so lim ws gs, wr_rcd fs, rfl, rfl, next, fun x H' kept rd2 at' => q x H' (g0.keep.trans (g1.keep.trans kept)) ?_ at'⟩
    · exact down r m
    · rw [l1, ← Nat.add_assoc]
      exact rd2
end
end KX

namespace KX
open PySem PySem.Spec L2 PyProof.Rows
section
variable {base : Heap} {P : Program} {w : World} {K : PySem.W.Frag} {mg : Str → Option Value} {tk : Str → Tok} {TC ED RC : Addr}
abbrev s_rlist : Stmt := top 31
abbrev N_rlist : List Str := ["reader", "levels", "inner", "key"]
abbrev P_rlist : List Str := ["reader", "levels"]
theorem sc_rlist : FnScope N_rlist P_rlist (defScope s_rlist) := ⟨rfl, rfl, rfl, by decide +kernel, rfl, by decide +kernel, by decide +kernel⟩
theorem ok_rlist {f fp fc fi fs ft fn : Addr} {fd dp dc di ds dt dn : FuncData} {L n : Nat} (F : Fun K "_read_list" "_read_list" s_rlist f fd) (TD : TyD P w K mg base TC ED fi di) (M_skips : MtD P w K mg base RC "skips" 1 P_skips (spSkips RC) fs ds) (M_letters : MtD P w K mg base RC "letters" 3 P_letters (spLetters RC) ft dt) (M_needs : MtD P w K mg base RC "needs" 2 P_needs (spNeeds RC) fn dn)
    (D_read_part : Def P w K mg base "_read_part" (n + 4) P_part (spPart RC TC ED L) fp dp) (D_can_be_key : Def P w K mg base "_can_be_key" 1 P_can (spCan TC ED) fc dc) : FnOk P w K mg base CX0 (n + 6) f fd P_rlist (spRest 91 RC TC ED L) := by
  obtain ⟨gI, b_inner⟩ := TD.bI
  obtain ⟨gK, b_inner_key⟩ := TD.bK
  refine F.ok sc_rlist (fun vs H Q E h => ?_) (fun cdv A outer s H vs Q E hr h => ?_)
  · obtain ⟨r, M, i, z, t, body, rest, rfl, _⟩ := h
    rfl
  obtain ⟨r, M, i, z, t, body, rest, rfl, lt, rd, i1, il, zl, good, wt, nopt, npl, here, q⟩ := h
  refine ⟨_, (pss_cons (ps_set (i := 2) sc_rlist.nd rfl (Or.inl rfl) (pe_call D_read_part.ok (hr.mono (by first | decide | omega)) rfl D_read_part.g D_read_part.kp D_read_part.b .nil pass0 (pa_cons (pv 0) (pa_cons (pv 1) pa_nil))))
    (pss_cons (ps_if (pt_val (pe_meth (pv 0) M_skips.cl M_skips.me M_skips.ok (hr.mono (by first | decide | omega)) M_skips.b .nil pass0 (pa_cons pe_str pa_nil)))
      (pss_one (ps_ret (pe_makeN TD.how TD.ok (hr.mono (by first | decide | omega)) rfl TD.g b_inner pass0 (pa_cons pe_str pa_nil) (pk_cons (pv 2) pk_nil))))
      pss_nil)
    (pss_cons (ps_expr (pe_meth (pv 0) M_needs.cl M_needs.me M_needs.ok (hr.mono (by first | decide | omega)) M_needs.b .nil pass0 (pa_cons pe_str pa_nil)))
    (pss_cons (ps_set (i := 3) sc_rlist.nd rfl (Or.inl rfl) (pe_meth0 (pv 0) M_letters.cl M_letters.me M_letters.ok (hr.mono (by first | decide | omega)) M_letters.b .nil pass0))
    (pss_cons (ps_expr (pe_meth (pv 0) M_needs.cl M_needs.me M_needs.ok (hr.mono (by first | decide | omega)) M_needs.b .nil pass0 (pa_cons pe_str pa_nil)))
    (pss_cons (ps_if (pt_not (pt_val (pe_call D_can_be_key.ok (hr.mono (by first | decide | omega)) rfl D_can_be_key.g D_can_be_key.kp D_can_be_key.b .nil pass0 (pa_cons (pv 2) (pa_cons (pv 3) pa_nil)))))
      (pss_one ps_never)
      pss_nil)
    (pss_one (ps_ret (pe_makeN TD.how TD.ok (hr.mono (by first | decide | omega)) rfl TD.g b_inner_key pass0 (pa_cons pe_str pa_nil) (pk_cons (pv 2) (pk_cons (pv 3) pk_nil))))))))))), ?_⟩
  have few : (wr t).length ≤ 100000 := by
    have z1 := congrArg List.length here
    have z2 := congrArg List.length wt
    rw [List.length_drop, List.length_append, ← ql_len] at z1
    rw [← ql_len, List.length_cons] at z2
    omega
  have ends := drop_len here (by rw [← ql_len]; exact il)
  rw [List.length_append, ← ql_len] at ends
  cases good with
  | plain p => rw [p] at npl; cases npl
  | opt _ _ => cases nopt
  | rcd _ _ _ _ _ _ =>
    rw [wr_rcd] at wt
    cases wt
  | @list _ u gu =>
    rw [wr_list] at wt
    obtain rfl : ql (wr u) ++ [93] = body := (List.cons.inj wt).2
    rw [List.append_assoc] at here
    rw [List.length_append, ← ql_len] at ends q
    refine ⟨_, rfl, _, rfl, r, M, i, z, u, 93 :: rest, rfl, lt, rd, il, zl, gu, here, rfl, fun _ => by simp, fun x G kept rd2 at2 => ?_⟩
    have next := drop_more here
    rw [← ql_len] at next
    obtain ⟨dx2, e2⟩ := id rd2
    have il2 : i + (wr u).length ≤ z.length := by omega
    refine ⟨_, rfl, r, dx2, _, rfl, e2, rfl, r, z, "]", i + (wr u).length, rfl, ⟨dx2, e2⟩, il2, by decide, fun G2 goes rd3 => ?_⟩
    have yes : pre (ql "]") ((ql z).drop (i + (wr u).length)) = true := by
      rw [next]
      exact pre_app [93] rest
    rw [if_pos yes] at rd3
    rw [yes]
    refine ⟨_, rfl, if_tt rfl ⟨_, rfl, rfl, rfl, fun y dy ny nd ne => ?_⟩⟩
    show spTInit TC ED [.ref y, .str (kindW (.list u)), .ref x, (partsT (.list u)).2, .ref ED] _ (fun v H3 => v = .non ∧ (fun a G => Q (.ref a) G) y H3) E0
    refine ty_read (R := fun a G => Q (.ref a) G) (t := .list u) (r := r) ⟨fun v e => ?_, fun e => (nomatch e), fun fs e => (nomatch e), fun _ => rfl⟩ rd3.has few ny nd ne fun H' s12 at' => ?_
    · obtain rfl : u = v := Option.some.inj e
      exact TyAt.same (Keep.hide goes.keep) _ _ at2
    · exact q y H' (kept.trans (goes.keep.trans (Same.keep s12))) (rd3.same s12) at'
  | @keyed _ fs k u gu mem kt lk =>
    rw [wr_keyed] at wt
    obtain rfl := (List.cons.inj wt).2
    have lim : fs.length < 4000 := by
      cases gu with
      | plain p => cases p
      | rcd _ _ _ l _ _ => exact l
    have four : (ql " by ").length = 4 := rfl
    have kl := ql_len k
    rw [List.append_assoc, List.append_assoc, List.append_assoc] at here
    have one : ([93] : List Nat).length = 1 := rfl
    rw [List.length_append, List.length_append, List.length_append, four, one, ← kl, ← ql_len] at ends q
    refine ⟨_, rfl, _, rfl, r, M, i, z, .rcd fs, _, rfl, lt, rd, il, zl, gu, here, rfl, fun _ => (show (some 32 : Option Nat) ≠ some 63 by decide), fun x G kept rd2 at2 => ?_⟩
    have next := drop_more here
    rw [← ql_len] at next
    obtain ⟨dx2, e2⟩ := id rd2
    refine ⟨_, rfl, r, dx2, _, rfl, e2, rfl, r, z, "]", i + (wr (.rcd fs)).length, rfl, ⟨dx2, e2⟩, by omega, by decide, fun G2 goes rd3 => ?_⟩
    have nope : pre (ql "]") ((ql z).drop (i + (wr (.rcd fs)).length)) = false := by
      rw [next]
      exact pre_no (c := 93) (d := 32) (by decide)
    rw [nope, if_neg Bool.false_ne_true] at rd3
    rw [nope]
    refine ⟨_, rfl, if_ff rfl ?_⟩
    obtain ⟨dx3, e3⟩ := id rd3
    refine ⟨_, rfl, r, dx3, _, rfl, e3, rfl, r, z, " by ", i + (wr (.rcd fs)).length, rfl, rd3, by omega, by decide, by rw [next]; exact pre_app _ _, fun G3 goes3 rd4 => ?_⟩
    have next2 := drop_more next
    rw [four] at next2
    have rd4' : Rd RC G3 r z (i + (wr (.rcd fs)).length + 4) := rd4
    obtain ⟨dx4, e4⟩ := id rd4'
    refine ⟨_, rfl, r, dx4, _, rfl, e4, rfl, r, z, _, rfl, rd4', by omega, big (by omega), fun G4 goes4 rd5 => ?_⟩
    have cnt : run ((ql z).drop (i + (wr (.rcd fs)).length + 4)) = k.length := by
      rw [next2, run_word lk rfl, ← ql_len]
    have word : (⟨(((ql z).drop (i + (wr (.rcd fs)).length + 4)).take (run ((ql z).drop (i + (wr (.rcd fs)).length + 4)))).toArray⟩ : Str) = k := by
      rw [cnt, next2, ql_len, List.take_left]
    rw [cnt] at rd5
    rw [word]
    have next3 := drop_more next2
    rw [← ql_len] at next3
    obtain ⟨dx5, e5⟩ := id rd5
    refine ⟨_, rfl, r, dx5, _, rfl, e5, rfl, r, z, "]", _, rfl, rd5, by omega, by decide, by rw [next3]; exact pre_app [93] rest, fun G5 goes5 rd6 => ?_⟩
    have all5 : Goes r G G5 := goes.trans (goes3.trans (goes4.trans goes5))
    have at5 : TyAt TC ED (hide r G5) (.ref x) (.rcd fs) := TyAt.same (Keep.hide all5.keep) _ _ at2
    refine ⟨_, rfl, _, rfl, x, k, fs, rfl, TyAt.same (hide_sub _ _) _ _ at5, lim, fun G6 s6 => ⟨_, rfl, ?_⟩⟩
    have found : (fs.any fun q => decide (q.1 = k) && keyT q.2) = true := List.any_eq_true.mpr ⟨(k, u), mem, by rw [decide_eq_true rfl, kt]; rfl⟩
    rw [found]
    refine if_ff rfl ?_
    have rd7 := rd6.same s6
    refine ⟨_, rfl, _, rfl, rfl, rfl, fun y dy ny nd ne => ?_⟩
    show spTInit TC ED [.ref y, .str (kindW (.keyed (.rcd fs) k)), .ref x, (partsT (.keyed (.rcd fs) k)).2, .ref ED] _ (fun v H3 => v = .non ∧ (fun a G => Q (.ref a) G) y H3) E0
    refine ty_read (R := fun a G => Q (.ref a) G) (t := .keyed (.rcd fs) k) (r := r) ⟨fun v e => ?_, fun e => (nomatch e), fun fs e => (nomatch e), fun _ => rfl⟩ rd7.has few ny nd ne fun H' s12 at' => ?_
    · obtain rfl : Ty.rcd fs = v := Option.some.inj e
      exact TyAt.same (Keep.hide (Same.keep s6)) _ _ at5
    · refine q y H' (kept.trans (all5.keep.trans (Same.keep (s6.trans s12)))) ?_ at'
      have e : i + (wr (.rcd fs)).length + 4 + k.length + 1 = i + ((wr (.rcd fs)).length + (4 + (k.length + 1))) := by omega
      rw [← e]
      exact rd7.same s12
end
end KX

namespace KX
open PySem PySem.Spec L2 PyProof.Rows
section
variable {TC E : Addr} {H : Hp} {a : Addr} {xs : List V}
theorem not_here {b : Addr} {o : HO} (l : H a = some (.lst xs)) (h : H b = some o) (n : ∀ ys, o ≠ .lst ys) : hide a H b = some o := by
  rw [hide_ne]
  · exact h
  · intro e
    rw [e, l] at h
    exact n xs (Option.some.inj h).symm
mutual
theorem TyAt.avoid (l : H a = some (.lst xs)) : ∀ (t : Ty) (v : V), TyAt TC E H v t → TyAt TC E (hide a H) v t
  | .text, _, .plain p h => .plain p (not_here l h fun _ e => nomatch e)
  | .number, _, .plain p h => .plain p (not_here l h fun _ e => nomatch e)
  | .flag, _, .plain p h => .plain p (not_here l h fun _ e => nomatch e)
  | .opt t, _, .opt h i => .opt (not_here l h fun _ e => nomatch e) (TyAt.avoid l t _ i)
  | .opt _, _, .plain p _ => nomatch p
  | .list t, _, .list h i => .list (not_here l h fun _ e => nomatch e) (TyAt.avoid l t _ i)
  | .list _, _, .plain p _ => nomatch p
  | .keyed t _, _, .keyed h i => .keyed (not_here l h fun _ e => nomatch e) (TyAt.avoid l t _ i)
  | .keyed _ _, _, .plain p _ => nomatch p
  | .rcd fs, _, .rcd h1 h2 r => .rcd (not_here l h1 fun _ e => nomatch e) (not_here l h2 fun _ e => nomatch e) (TyRows.avoid l fs _ r)
  | .rcd _, _, .plain p _ => nomatch p
theorem TyRows.avoid (l : H a = some (.lst xs)) : ∀ (fs : List (Str × Ty)) (rows : List V), TyRows TC E H rows fs → TyRows TC E (hide a H) rows fs
  | [], _, .nil => .nil
  | (_, t) :: fs, _, .cons h i r => .cons (not_here l h fun _ e => nomatch e) (TyAt.avoid l t _ i) (TyRows.avoid l fs _ r)
end
theorem TyRows.snoc {c : Addr} {v : V} {n : Str} {t : Ty} : ∀ {rows : List V} {fs : List (Str × Ty)}, TyRows TC E H rows fs → H c = some (.tup [.str n, v]) → TyAt TC E H v t → TyRows TC E H (rows ++ [.ref c]) (fs ++ [(n, t)])
  | _, _, .nil, h, i => .cons h i .nil
  | _, _, .cons h0 i0 r, h, i => .cons h0 i0 (TyRows.snoc r h i)
end
/-- what follows a record's first field -/
def tailL : List (Str × Ty) → List Nat
  | [] => [125]
  | (n, u) :: fs => ql ", " ++ (ql n ++ (ql ": " ++ (ql (wr u) ++ tailL fs)))
theorem join_tail : ∀ (n : Str) (u : Ty) (fs : List (Str × Ty)), ql (Txt.join ", " (wrFs ((n, u) :: fs))) ++ [125] = ql n ++ (ql ": " ++ (ql (wr u) ++ tailL fs))
  | n, u, [] => by
    rw [ql_join]
    simp only [wrFs, List.map, tailL, TL.joinL]
    rw [ql_app, ql_app, List.append_assoc, List.append_assoc]
  | n, u, (m, t) :: fs => by
    have ih := join_tail m t fs
    rw [ql_join] at ih ⊢
    simp only [wrFs, List.map] at ih ⊢
    show (ql (n ++ ": " ++ wr u) ++ ([44, 32] ++ TL.joinL [44, 32] (ql (m ++ ": " ++ wr t) :: (wrFs fs).map ql))) ++ [125] = _
    rw [List.append_assoc, List.append_assoc, ih, ql_app, ql_app, List.append_assoc, List.append_assoc]
    simp only [tailL]
    rfl
section
variable {base : Heap} {P : Program} {w : World} {K : PySem.W.Frag} {mg : Str → Option Value} {tk : Str → Tok} {TC ED RC : Addr}
abbrev s_field : Stmt := top 34
abbrev N_field : List Str := ["reader", "levels", "name"]
abbrev P_field : List Str := ["reader", "levels"]
theorem sc_field : FnScope N_field P_field (defScope s_field) := ⟨rfl, rfl, rfl, by decide +kernel, rfl, by decide +kernel, by decide +kernel⟩
def spField (RC TC ED : Addr) (L : Nat) : Sp := fun vs H Q _ => ∃ (r : Addr) (M i : Nat) (z n : Str) (u : Ty) (rest : List Nat), vs = [.ref r, .int (M : Int)] ∧ M < L ∧ Rd RC H r z i ∧ i ≤ z.length ∧ z.length ≤ 100000 ∧ (letters n ∧ n.length ≤ 12 ∧ n.length ≠ 0) ∧ GoodT M u ∧ (ql z).drop i = ql n ++ (ql ": " ++ (ql (wr u) ++ rest)) ∧ noL rest = true ∧ rest.head? ≠ some 63 ∧
  ∀ (c : Addr) (v : V) (H' : Hp), Keep r H H' → Rd RC H' r z (i + (n.length + (2 + (wr u).length))) → c ≠ r → H' c = some (.tup [.str n, v]) → TyAt TC ED (hide r H') v u → Q (.ref c) H'
theorem ok_field {f fp fi ft fn : Addr} {fd dp di dt dn : FuncData} {L n : Nat} (F : Fun K "_read_field" "_read_field" s_field f fd) (M_letters : MtD P w K mg base RC "letters" 3 P_letters (spLetters RC) ft dt) (M_needs : MtD P w K mg base RC "needs" 2 P_needs (spNeeds RC) fn dn)
    (D_read_part : Def P w K mg base "_read_part" (n + 4) P_part (spPart RC TC ED L) fp dp) (D_is_name : Def P w K mg base "is_name" 2 P_is_name spIsName fi di) : FnOk P w K mg base CX0 (n + 5) f fd P_field (spField RC TC ED L) := by
  refine F.ok sc_field (fun vs H Q E h => ?_) (fun cdv A outer s H vs Q E hr h => ?_)
  · obtain ⟨r, M, i, z, m, u, rest, rfl, _⟩ := h
    rfl
  obtain ⟨r, M, i, z, m, u, rest, rfl, lt, rd, il, zl, ⟨lm, l12, l0⟩, good, here, no, noq, q⟩ := h
  refine ⟨_, (pss_cons (ps_set (i := 2) sc_field.nd rfl (Or.inl rfl) (pe_meth0 (pv 0) M_letters.cl M_letters.me M_letters.ok (hr.mono (by first | decide | omega)) M_letters.b .nil pass0))
    (pss_cons (ps_if (pt_not (pt_val (pe_call D_is_name.ok (hr.mono (by first | decide | omega)) rfl D_is_name.g D_is_name.kp D_is_name.b .nil pass0 (pa_cons (pv 2) pa_nil))))
      (pss_one ps_never)
      pss_nil)
    (pss_cons (ps_expr (pe_meth (pv 0) M_needs.cl M_needs.me M_needs.ok (hr.mono (by first | decide | omega)) M_needs.b .nil pass0 (pa_cons pe_str pa_nil)))
    (pss_one (ps_ret (pe_tup (pa_cons (pv 2) (pa_cons (pe_call D_read_part.ok (hr.mono (by first | decide | omega)) rfl D_read_part.g D_read_part.kp D_read_part.b .nil pass0 (pa_cons (pv 0) (pa_cons (pv 1) pa_nil))) pa_nil)))))))), ?_⟩
  have two : (ql ": ").length = 2 := rfl
  have ml := ql_len m
  have ends := drop_len here (by rw [← ql_len]; exact il)
  rw [List.length_append, List.length_append, List.length_append, two, ← ml, ← ql_len (wr u), ← ql_len z] at ends
  obtain ⟨dx, e1⟩ := id rd
  refine ⟨_, rfl, r, dx, _, rfl, e1, rfl, r, z, i, rfl, rd, il, big (by omega), fun G1 g1 rd1 => ?_⟩
  have cnt : run ((ql z).drop i) = m.length := by rw [here, run_word lm rfl, ← ql_len]
  have word : (⟨(((ql z).drop i).take (run ((ql z).drop i))).toArray⟩ : Str) = m := by rw [cnt, here, ql_len, List.take_left]
  rw [cnt] at rd1
  rw [word]
  refine ⟨_, rfl, m, rfl, ⟨by omega, l12, lm⟩, fun G2 s2 => ⟨_, rfl, if_ff rfl ?_⟩⟩
  have rd2 := rd1.same s2
  have next := drop_more here
  rw [← ml] at next
  obtain ⟨dx2, e2⟩ := id rd2
  refine ⟨_, rfl, r, dx2, _, rfl, e2, rfl, r, z, ": ", i + m.length, rfl, rd2, by omega, by decide, by rw [next]; exact pre_app _ _, fun G3 g3 rd3 => ?_⟩
  have next2 := drop_more next
  rw [two] at next2
  have rd3' : Rd RC G3 r z (i + m.length + 2) := rd3
  refine ⟨_, rfl, _, rfl, _, rfl, r, M, _, z, u, rest, rfl, lt, rd3', by omega, zl, good, next2, no, fun _ => noq, fun x G4 kept rd4 at4 => ?_⟩
  refine ⟨by show 2 ≤ sizeLine; decide +kernel, fun c nc => ?_⟩
  have k4 : Keep r H G4 := g1.keep.trans ((Same.keep s2).trans (g3.keep.trans kept))
  have new : Same G4 (upd G4 c (.tup [.str m, .ref x])) := same_new nc _
  have cr : c ≠ r := fun e => by
    obtain ⟨o, has⟩ := rd4.has
    rw [e, has] at nc
    cases nc
  refine q c (.ref x) _ (k4.trans (Same.keep new)) ?_ cr upd_same (TyAt.same (Keep.hide (Same.keep new)) _ _ at4)
  have e : i + m.length + 2 + (wr u).length = i + (m.length + (2 + (wr u).length)) := by omega
  rw [← e]
  exact rd4.same new
end
end KX

namespace KX
open PySem PySem.Spec L2 PyProof.Rows
section
variable {base : Heap} {P : Program} {w : World} {K : PySem.W.Frag} {mg : Str → Option Value} {tk : Str → Tok} {TC ED RC : Addr}
theorem tail_first (fs : List (Str × Ty)) (rest : List Nat) : noL (tailL fs ++ rest) = true ∧ (tailL fs ++ rest).head? ≠ some 63 := by
  cases fs with
  | nil => exact ⟨rfl, (show (some 125 : Option Nat) ≠ some 63 by decide)⟩
  | cons q fs => exact ⟨rfl, (show (some 44 : Option Nat) ≠ some 63 by decide)⟩
/-- where the reader stands -/
def atOf (r : Addr) (G : Hp) : Nat := match G r with
  | some (.ins _ _ [_, (_, .int k)]) => k.toNat
  | _ => 0
theorem atOf_rd {RC r : Addr} {G : Hp} {z : Str} {i : Nat} (h : Rd RC G r z i) : atOf r G = i := by
  obtain ⟨dx, e⟩ := h
  unfold atOf
  rw [e]
  rfl
theorem Rd.ne {RC r l : Addr} {G : Hp} {z : Str} {i : Nat} {xs : List V} (h : Rd RC G r z i) (e : G l = some (.lst xs)) : l ≠ r := fun z => by
  obtain ⟨dx, g⟩ := h
  rw [z, g] at e
  cases e
theorem Rd.upd {RC r l : Addr} {G : Hp} {z : Str} {i : Nat} {o : HO} (h : Rd RC G r z i) (n : l ≠ r) : Rd RC (upd G l o) r z i := h.imp fun _ e => (upd_ne (Ne.symm n)).trans e
theorem hide_upd {r l : Addr} {G : Hp} {o : HO} : Same (hide l (hide r G)) (hide r (upd G l o)) := fun b u e => by
  by_cases x : b = l
  · rw [x, show hide l (hide r G) l = none from if_pos rfl] at e
    cases e
  · rw [hide_ne x] at e
    by_cases y : b = r
    · rw [y, show hide r G r = none from if_pos rfl] at e
      cases e
    · rw [hide_ne y] at e ⊢
      rw [upd_ne x]
      exact e
abbrev s_rrec : Stmt := top 33
abbrev N_rrec : List Str := ["reader", "levels", "fields", "names", "name", "part"]
abbrev P_rrec : List Str := ["reader", "levels"]
theorem sc_rrec : FnScope N_rrec P_rrec (defScope s_rrec) := ⟨rfl, rfl, rfl, by decide +kernel, rfl, by decide +kernel, by decide +kernel⟩
theorem ok_rrec {f fg fi fs fn : Addr} {fd dg di ds dn : FuncData} {L n : Nat} (F : Fun K "_read_record" "_read_record" s_rrec f fd) (T : BlT mg) (TD : TyD P w K mg base TC ED fi di) (M_skips : MtD P w K mg base RC "skips" 1 P_skips (spSkips RC) fs ds) (M_needs : MtD P w K mg base RC "needs" 2 P_needs (spNeeds RC) fn dn)
    (D_read_field : Def P w K mg base "_read_field" (n + 5) P_field (spField RC TC ED L) fg dg) : FnOk P w K mg base CX0 (n + 6) f fd P_rrec (spRest 123 RC TC ED L) := by
  obtain ⟨gF, b_fields⟩ := TD.bF
  refine F.ok sc_rrec (fun vs H Q E h => ?_) (fun cdv A outer s H vs Q E hr h => ?_)
  · obtain ⟨r, M, i, z, t, body, rest, rfl, _⟩ := h
    rfl
  obtain ⟨r, M, i, z, t, body, rest, rfl, lt, rd, i1, il, zl, good, wt, nopt, npl, here, q⟩ := h
  refine ⟨_, (pss_cons (ps_set (i := 2) sc_rrec.nd rfl (Or.inl rfl) (pe_lst (pa_cons (pe_call D_read_field.ok (hr.mono (by first | decide | omega)) rfl D_read_field.g D_read_field.kp D_read_field.b .nil pass0 (pa_cons (pv 0) (pa_cons (pv 1) pa_nil))) pa_nil)))
    (pss_cons (ps_while PassesOwn.never (pt_not (pt_val (pe_meth (pv 0) M_skips.cl M_skips.me M_skips.ok (hr.mono (by first | decide | omega)) M_skips.b .nil pass0 (pa_cons pe_str pa_nil))))
      (pss_cons (ps_expr (pe_meth (pv 0) M_needs.cl M_needs.me M_needs.ok (hr.mono (by first | decide | omega)) M_needs.b .nil pass0 (pa_cons pe_str pa_nil)))
    (pss_one (ps_expr (pe_bm PySem.F.plainAttrs_list PySem.F.slot_list_append PySem.F.type_list_append mt_append (pv 2) (pa_cons (pe_call D_read_field.ok (hr.mono (by first | decide | omega)) rfl D_read_field.g D_read_field.kp D_read_field.b .nil pass0 (pa_cons (pv 0) (pa_cons (pv 1) pa_nil))) pa_nil))))))
    (pss_cons (ps_setLc (i := 3) (own := [("name", 4), ("part", 5)]) (g := (gTup K 2 (gCons (gName 4) (gCons (gName 5) gNil)))) (tt := tYes) rfl sc_rrec.nd rfl rfl (sw_true rfl rfl rfl (by decide +kernel)) (pi_list (pv 2)) (blkOk_by (own := [("name", 4), ("part", 5)]) (N := N_rrec) (sc := defScope s_rrec) (by decide +kernel)) (fun _ _ _ _ _ => (pg_tup rfl (pgs_cons (pg_name (i := 4) sc_rrec.nd rfl (Or.inl rfl)) (pgs_cons (pg_name (i := 5) sc_rrec.nd rfl (Or.inl rfl)) pgs_nil)))) (fun _ _ _ _ _ => pts_nil) (fun _ _ _ _ _ => (pv 4)))
    (pss_cons (ps_if (pt_cmpR (op_neK K rfl hr.units) (pv 3) (pe_callB (call_sortedSet rfl) (by rfl) T.sorted (by decide +kernel) (pa_cons (pe_callTy (call_set rfl) (by rfl) T.set (by decide +kernel) (pa_cons (pv 3) pa_nil)) pa_nil)) (nomark _))
      (pss_one ps_never)
      pss_nil)
    (pss_one (ps_ret (pe_makeN TD.how TD.ok (hr.mono (by first | decide | omega)) rfl TD.g b_fields pass0 (pa_cons pe_str pa_nil) (pk_cons (pe_callTy call_tuple_of (by rfl) T.tuple (by decide +kernel) (pa_cons (pv 2) pa_nil)) pk_nil)))))))), ?_⟩
  have few : (wr t).length ≤ 100000 := by
    have z1 := congrArg List.length here
    have z2 := congrArg List.length wt
    rw [List.length_drop, List.length_append, ← ql_len] at z1
    rw [← ql_len, List.length_cons] at z2
    omega
  have ends := drop_len here (by rw [← ql_len]; exact il)
  rw [List.length_append, ← ql_len] at ends
  cases good with
  | plain p => rw [p] at npl; cases npl
  | opt _ _ => cases nopt
  | list _ =>
    rw [wr_list] at wt
    cases wt
  | keyed _ _ _ _ =>
    rw [wr_keyed] at wt
    cases wt
  | @rcd _ fs ne nd so lim ws gs =>
    rw [wr_rcd] at wt
    have wb := (List.cons.inj wt).2
    cases fs with
    | nil => exact absurd rfl ne
    | cons q0 fs0 =>
    obtain ⟨n0, u0⟩ := q0
    rw [join_tail] at wb
    subst wb
    rw [List.append_assoc, List.append_assoc, List.append_assoc] at here
    obtain ⟨t1, t2⟩ := tail_first fs0 rest
    have stop := gs (n0, u0) List.mem_cons_self
    refine ⟨_, rfl, _, rfl, r, M, i, z, n0, u0, _, rfl, lt, rd, il, zl, ws (n0, u0) List.mem_cons_self, stop, here, t1, t2, fun c v H1 kept1 rd1 cr hc at1 => ⟨by show 1 ≤ sizeLine; decide +kernel, fun l nl => ?_⟩⟩
    have lr : l ≠ r := fun e => by
      obtain ⟨o, has⟩ := rd1.has
      rw [e, has] at nl
      cases nl
    have hl : H l = none := by
      cases e : H l with
      | none => rfl
      | some o =>
        rw [kept1 _ _ lr e] at nl
        cases nl
    have next := drop_more (drop_more (drop_more here))
    rw [show (ql ": ").length = 2 from rfl, ← ql_len, ← ql_len, Nat.add_assoc, Nat.add_assoc] at next
    have s0 : Same H1 (upd H1 l (.lst [.ref c])) := same_new nl _
    refine while_by (fun σ G => ∃ done todo rows p, σ = [some (.ref r), some (.int (M : Int)), some (.ref l), none, none, none] ∧ (n0, u0) :: fs0 = done ++ todo ∧ G l = some (.lst rows) ∧ Keep r H G ∧ Rd RC G r z p ∧ p ≤ z.length ∧ (ql z).drop p = tailL todo ++ rest ∧ TyRows TC ED (hide r G) rows done) (fun _ G => z.length - atOf r G)
      ⟨[(n0, u0)], fs0, [.ref c], _, rfl, rfl, upd_same, kept1.trans (Same.keep s0), rd1.same s0, ?_, next, .cons ?_ (TyAt.same (Keep.hide (Same.keep s0)) _ _ at1) .nil⟩ ?_ ?_
    · have z1 := ql_len n0
      have z2 := ql_len (wr u0)
      rw [List.length_append, List.length_append, List.length_append, ← z1, ← z2, show (ql ": ").length = 2 from rfl] at ends
      omega
    · rw [hide_ne cr]
      exact s0 _ _ hc
    · rintro σ G ⟨done, todo, rows, p, rfl, split, gl, kept, rd2, pl, drp, tys⟩
      obtain ⟨dx, e⟩ := id rd2
      refine ⟨_, rfl, r, dx, _, rfl, e, rfl, r, z, "}", p, rfl, rd2, pl, by decide, fun G2 goes rd3 => ⟨_, rfl, ?_⟩⟩
      have gl2 : G2 l = some (.lst rows) := goes.keep _ _ lr gl
      have tys2 : TyRows TC ED (hide r G2) rows done := TyRows.same (Keep.hide goes.keep) _ _ tys
      have kept2 : Keep r H G2 := kept.trans goes.keep
      cases todo with
      | nil =>
        rw [List.append_nil] at split
        subst split
        have yes : pre (ql "}") ((ql z).drop p) = true := by
          rw [drp]
          exact pre_app [125] rest
        rw [if_pos yes] at rd3
        rw [yes]
        refine if_ff rfl ?_
        have at' : p + 1 = i + (ql n0 ++ (ql ": " ++ (ql (wr u0) ++ tailL fs0))).length := by
          have z1 := drop_len drp (by rw [← ql_len]; exact pl)
          have z2 : (tailL [] ++ rest).length = 1 + rest.length := by
            rw [List.length_append]
            rfl
          rw [z2, ← ql_len] at z1
          omega
        have rd3' : Rd RC G2 r z (i + (ql n0 ++ (ql ": " ++ (ql (wr u0) ++ tailL fs0))).length) := at' ▸ rd3
        refine ⟨_, rfl, l, rfl, ⟨_, SqL.of gl2⟩, fun D new => ?_⟩
        refine lc_it (g := gTup K 2 (gCons (gName 4) (gCons (gName 5) gNil))) (tt := tYes) (vs := [4, 5]) (te := tVar 4) (walk_list (K := K) (a := l) (xs := rows))
          (fun i G => Same G2 G ∧ G D = some (.lst ((((n0, u0) :: fs0).take i).map fun q => .str q.1))) ⟨same_new new _, upd_same⟩ (fun i G _ p => SqL.of (p.1 _ _ gl2)) ?_ ?_
        · rintro j x G3 G hj ⟨keptD, made⟩ ⟨rfl, hx⟩
          obtain ⟨c, n, u, t, rfl, ef, hc, ht⟩ := tys2.get hx
          have hc' := hide_sub r G2 _ _ hc
          refine ⟨c, _, rfl, SqT.of (keptD _ _ hc'), rfl, _, _, rfl, _, _, rfl, rfl, rfl, yesT ?_⟩
          refine ⟨_, rfl, _, made, ?_, Same.updNew keptD new, ?_⟩
          · rw [List.length_map, List.length_take, sizeLine_eq]
            omega
          · have e : (((n0, u0) :: fs0).take (j + 1)) = ((n0, u0) :: fs0).take j ++ [(n, t)] := by
              rw [List.take_succ, ef]
              rfl
            rw [upd_same, e, List.map_append]
            rfl
        · rintro G ⟨keptD, made⟩
          rw [tys2.length, List.take_length] at made
          have made2 : G D = some (.lst ((((n0, u0) :: fs0).map (·.1)).map V.str)) := by
            rw [made, List.map_map]
            rfl
          refine ⟨_, rfl, _, rfl, D, _, rfl, SqL.of made2, nd, by rw [List.length_map]; exact lim, fun a na => ⟨a, _, rfl, upd_same, fun ys p perm so' _ np => ?_⟩⟩
          have s1 : Same G (upd G a (SetTx P w a (((n0, u0) :: fs0).map (·.1)))) := same_new na _
          have s2 := same_new np (.lst (ys.map V.str))
          obtain rfl := sorted_one perm so' so
          have nm : ∀ y ∈ ((n0, u0) :: fs0).map (·.1), IsNm y := fun y hy => by
            obtain ⟨q, hq, rfl⟩ := List.mem_map.mp hy
            obtain ⟨a1, a2, a3⟩ := ws q hq
            exact ⟨by omega, a2, a1⟩
          have made3 := (s1.trans s2) _ _ made2
          refine ⟨_, _, .lst (SqL.of made3) (strs_dp _), .lst (SqL.of upd_same) (strs_dp _), strs_shaped nm, strs_shaped nm, _, rfl, if_ff (by rw [strs_eqv]; rfl) ?_⟩
          have s3 := keptD.trans (s1.trans s2)
          refine ⟨_, rfl, l, rows, rfl, .inl ⟨SqL.of (s3 _ _ gl2), fun b nb => ⟨rfl, rfl, fun x dy nx ndx nex => ?_⟩⟩⟩
          have s4 := s3.trans (same_new nb (.tup rows))
          show spTInit TC ED [.ref x, .str (kindW (.rcd ((n0, u0) :: fs0))), .non, (partsT (.rcd ((n0, u0) :: fs0))).2, .ref b] _ (fun v H3 => v = .non ∧ (fun a G => Q (.ref a) G) x H3) E0
          have br : b ≠ r := fun e => by
            obtain ⟨o, has⟩ := (rd3'.same s3).has
            rw [e, has] at nb
            cases nb
          refine ty_read (R := fun a G => Q (.ref a) G) (t := .rcd ((n0, u0) :: fs0)) (r := r) ⟨fun v e => (nomatch e), fun _ => rfl, fun gs e => ?_, fun no => absurd rfl (no _)⟩ (rd3'.same s4).has few nx ndx nex fun H' s5 at2 => ?_
          · obtain rfl : (n0, u0) :: fs0 = gs := Ty.rcd.inj e
            exact ⟨b, rows, rfl, (hide_ne br).trans upd_same, TyRows.same (Keep.hide (Same.keep s4)) _ _ tys2⟩
          · exact q x H' (kept2.trans (Same.keep (s4.trans s5))) (rd3'.same (s4.trans s5)) at2
      | cons m todo =>
        obtain ⟨n, u⟩ := m
        have mem : (n, u) ∈ (n0, u0) :: fs0 := by
          rw [split]
          exact List.mem_append_right _ List.mem_cons_self
        have nope : pre (ql "}") ((ql z).drop p) = false := by
          rw [drp]
          exact pre_no (c := 125) (d := 44) (by decide)
        rw [nope, if_neg Bool.false_ne_true] at rd3
        rw [nope]
        refine if_tt rfl ?_
        simp only [tailL] at drp
        rw [List.append_assoc, List.append_assoc, List.append_assoc, List.append_assoc] at drp
        have long := drop_len drp (by rw [← ql_len]; exact pl)
        rw [List.length_append, List.length_append, List.length_append, List.length_append, show (ql ", ").length = 2 from rfl, show (ql ": ").length = 2 from rfl, ← ql_len, ← ql_len, ← ql_len] at long
        obtain ⟨dx3, e3⟩ := id rd3
        refine ⟨_, rfl, r, dx3, _, rfl, e3, rfl, r, z, ", ", p, rfl, rd3, pl, by decide, by rw [drp]; exact pre_app _ _, fun G3 g3 rd4 => ?_⟩
        have rd4' : Rd RC G3 r z (p + 2) := rd4
        have gl3 : G3 l = some (.lst rows) := g3.keep _ _ lr gl2
        have next1 := drop_more drp
        rw [show (ql ", ").length = 2 from rfl] at next1
        obtain ⟨t3, t4⟩ := tail_first todo rest
        refine ⟨_, rfl, .inl ⟨rfl, rows, SqL.of gl3⟩, _, rfl, _, rfl, r, M, p + 2, z, n, u, _, rfl, lt, rd4', by omega, zl, ws _ mem, gs _ mem, next1, t3, t4, fun c' v' G4 kept4 rd5 cr' hc' at' => ?_⟩
        have gl4 : G4 l = some (.lst rows) := kept4 _ _ lr gl3
        have cnt : rows.length < sizeLine := by
          rw [tys2.length, sizeLine_eq]
          have := congrArg List.length split
          rw [List.length_append] at this
          omega
        refine ⟨l, rows, .ref c', rfl, rfl, gl4, cnt, ⟨done ++ [(n, u)], todo, rows ++ [.ref c'], _, rfl, by rw [split, List.append_assoc]; rfl, upd_same, ?_, rd5.upd lr, by omega, ?_, ?_⟩, ?_⟩
        · intro b o nb eb
          have bl : b ≠ l := fun x => by
            rw [x, hl] at eb
            cases eb
          rw [upd_ne bl]
          exact kept4 _ _ nb (g3.keep _ _ nb (kept2 _ _ nb eb))
        · have next2 := drop_more (drop_more (drop_more next1))
          rw [show (ql ": ").length = 2 from rfl, ← ql_len, ← ql_len, Nat.add_assoc, Nat.add_assoc] at next2
          exact next2
        · have hid : hide r G4 l = some (.lst rows) := (hide_ne lr).trans gl4
          have t5 : TyRows TC ED (hide r G4) rows done := TyRows.same (Keep.hide (g3.keep.trans kept4)) _ _ tys2
          have cl : c' ≠ l := fun x => by
            rw [x, gl4] at hc'
            cases hc'
          refine TyRows.snoc (TyRows.same hide_upd _ _ (TyRows.avoid hid _ _ t5)) ?_ (TyAt.same hide_upd _ _ (TyAt.avoid hid _ _ at'))
          rw [hide_ne cr', upd_ne cl]
          exact hc'
        · show z.length - atOf r _ < z.length - atOf r G
          rw [atOf_rd (rd5.upd lr), atOf_rd rd2]
          omega
    · rintro σ G Q1 Q2 imp ⟨v, e0, a, dy, fs, x1, x2, x3, r1, z1, w1, i1, x4, x5, x6, x7, k⟩
      exact ⟨v, e0, a, dy, fs, x1, x2, x3, r1, z1, w1, i1, x4, x5, x6, x7, fun H' g rd => let ⟨c, ec, q1⟩ := k H' g rd; ⟨c, ec, imp _ _ q1⟩⟩
end
end KX

namespace KX
open PySem PySem.Spec L2 PyProof.Rows
section
variable {base : Heap} {P : Program} {w : World} {K : PySem.W.Frag} {mg : Str → Option Value} {tk : Str → Tok} {TC ED RC : Addr}
/-- a def of the program: its name, how it binds -/
structure At (K : PySem.W.Frag) (mg : Str → Option Value) (x : Str) (st : Stmt) (ps : List Str) (f : Addr) (fd : FuncData) : Prop where
  g : mg x = some (.ref f)
  kp : PySem.W.keepIn K (.ref f) = true
  b : L2.Binds K fd ps []
  F : Fun K x x st f fd
theorem At.def {x : Str} {st : Stmt} {ps : List Str} {f : Addr} {fd : FuncData} {n : Nat} {sp : Sp} (A : At K mg x st ps f fd) (h : FnOk P w K mg base CX0 n f fd ps sp) : Def P w K mg base x n ps sp f fd := ⟨A.g, A.kp, A.b, h⟩
/-- what the reading of types is made of -/
structure Reads (P : Program) (w : World) (K : PySem.W.Frag) (mg : Str → Option Value) (base : Heap) (TC ED RC fp fq fl fr fg fc fi fs ft fn fm : Addr) (dp dq dl dr dg dc di ds dt dn dm : FuncData) : Prop where
  part : At K mg "_read_part" s_part P_part fp dp
  req : At K mg "_read_required" s_req P_req fq dq
  list : At K mg "_read_list" s_rlist P_rlist fl dl
  rec' : At K mg "_read_record" s_rrec P_rrec fr dr
  field : At K mg "_read_field" s_field P_field fg dg
  can : Def P w K mg base "_can_be_key" 1 P_can (spCan TC ED) fc dc
  TD : TyD P w K mg base TC ED fi di
  skips : MtD P w K mg base RC "skips" 1 P_skips (spSkips RC) fs ds
  letters : MtD P w K mg base RC "letters" 3 P_letters (spLetters RC) ft dt
  needs : MtD P w K mg base RC "needs" 2 P_needs (spNeeds RC) fn dn
  name : Def P w K mg base "is_name" 2 P_is_name spIsName fm dm
  T : BlT mg
section
variable {fp fq fl fr fg fc fi fs ft fn fm : Addr} {dp dq dl dr dg dc di ds dt dn dm : FuncData}
theorem Reads.all (R : Reads P w K mg base TC ED RC fp fq fl fr fg fc fi fs ft fn fm dp dq dl dr dg dc di ds dt dn dm) : ∀ L, Def P w K mg base "_read_part" (4 + 4 * L) P_part (spPart RC TC ED L) fp dp
  | 0 => R.part.def (R.part.F.ok sc_part (fun vs H Q E h => by
      obtain ⟨r, M, i, z, t, rest, rfl, lt, _⟩ := h
      rfl) fun cdv A outer s H vs Q E hr h => by
      obtain ⟨r, M, i, z, t, rest, _, lt, _⟩ := h
      exact absurd lt (Nat.not_lt_zero _))
  | L + 1 => by
    have D := R.all L
    rw [Nat.add_comm] at D
    have Df := R.field.def (ok_field (n := 4 * L) R.field.F R.letters R.needs D R.name)
    have Dr := R.rec'.def (ok_rrec (n := 4 * L) R.rec'.F R.T R.TD R.skips R.needs Df)
    have Dl := R.list.def (ok_rlist (n := 4 * L) R.list.F R.TD R.skips R.letters R.needs D R.can)
    have Dq := R.req.def (ok_req (n := 4 * L) R.req.F R.TD R.skips R.letters Dl Dr)
    have Dp := R.part.def (ok_part (n := 4 * L + 2) R.part.F R.TD R.skips Dq)
    rw [show 4 + 4 * (L + 1) = 4 * L + 2 + 6 from by omega]
    exact Dp
/-- the class of readers can be called -/
structure RdD (P : Program) (w : World) (K : PySem.W.Frag) (mg : Str → Option Value) (base : Heap) (RC fj : Addr) (dj : FuncData) : Prop where
  g : mg "Reader" = some (.ref RC)
  how : Mk K RC fj
  b : L2.Binds K dj P_rinit []
  ok : FnOk P w K mg base CX0 1 fj dj P_rinit (spRInit RC)
abbrev s_whole : Stmt := top 28
abbrev N_whole : List Str := ["text", "reader", "found"]
abbrev P_whole : List Str := ["text"]
theorem sc_whole : FnScope N_whole P_whole (defScope s_whole) := ⟨rfl, rfl, rfl, by decide +kernel, rfl, by decide +kernel, by decide +kernel⟩
def spWhole (TC ED : Addr) : Sp := fun vs H Q _ => ∃ (t : Ty), vs = [.str (wr t)] ∧ GoodT 6 t ∧ (wr t).length ≤ 100000 ∧ ∀ (x : Addr) (H' : Hp), Same H H' → TyAt TC ED H' (.ref x) t → Q (.ref x) H'
theorem ok_whole {f fj fp fe : Addr} {fd dj dp de : FuncData} (F : Fun K "_read_whole" "_read_whole" s_whole f fd) (T : BlT mg) (L : Lm mg tk) (RDd : RdD P w K mg base RC fj dj) (M_ended : MtD P w K mg base RC "ended" 1 P_ended (spEnded RC) fe de) (D_read_part : Def P w K mg base "_read_part" 32 P_part (spPart RC TC ED 7) fp dp) : FnOk P w K mg base CX0 33 f fd P_whole (spWhole TC ED) := by
  refine F.ok sc_whole (fun vs H Q E h => ?_) (fun cdv A outer s H vs Q E hr h => ?_)
  · obtain ⟨t, rfl, _⟩ := h
    rfl
  obtain ⟨t, rfl, good, few, q⟩ := h
  refine ⟨_, (pss_cons (ps_if (pt_not (pt_val (pe_callB call_isi (by rfl) T.isinstance (by decide +kernel) (pa_cons (pv 0) (pa_cons (pe_bltn (v := .ty "str") (by rfl) T.str (by decide +kernel) rfl) pa_nil)))))
      (pss_one ps_never)
      pss_nil)
    (pss_cons (ps_set (i := 1) sc_whole.nd rfl (Or.inl rfl) (pe_make RDd.how RDd.ok (hr.mono (by first | decide | omega)) rfl RDd.g RDd.b .nil pass0 (pa_cons (pv 0) pa_nil)))
    (pss_cons (ps_set (i := 2) sc_whole.nd rfl (Or.inl rfl) (pe_call D_read_part.ok (hr.mono (by first | decide | omega)) rfl D_read_part.g D_read_part.kp D_read_part.b .nil pass0 (pa_cons (pv 1) (pa_cons (pe_glob (v := .int 6) rfl L.MAX_LEVELS ⟨_, rfl⟩) pa_nil))))
    (pss_cons (ps_if (pt_not (pt_val (pe_meth0 (pv 1) M_ended.cl M_ended.me M_ended.ok (hr.mono (by first | decide | omega)) M_ended.b .nil pass0)))
      (pss_one ps_never)
      pss_nil)
    (pss_one (ps_ret (pv 2))))))), ?_⟩
  refine ⟨_, rfl, _, _, _, _, true, rfl, .ty _, .base (.str _), kit_ty (by decide +kernel), _, rfl, if_ff rfl ?_⟩
  refine ⟨_, rfl, fun r dx nr nd ne => ?_⟩
  have s0 : Same H (hide r (upd (upd H dx (.own r)) r (.ins RC dx []))) := fun b o e => by
    rw [hide_ne (ne_of_none e nr), upd_ne (ne_of_none e nr), upd_ne (ne_of_none e nd)]
    exact e
  refine ⟨r, dx, wr t, rfl, upd_same, rfl, ?_⟩
  rw [upd_upd]
  have rd : Rd RC (upd (upd H dx (.own r)) r (.ins RC dx [("written", .str (wr t)), ("at", .int 0)])) r (wr t) 0 := ⟨dx, upd_same⟩
  have k0 : Keep r H (upd (upd H dx (.own r)) r (.ins RC dx [("written", .str (wr t)), ("at", .int 0)])) := fun b o nb e => by
    rw [upd_ne nb, upd_ne (ne_of_none e nd)]
    exact e
  refine ⟨_, rfl, r, 6, 0, wr t, t, [], rfl, by decide, rd, Nat.zero_le _, few, good, by rw [List.drop_zero, List.append_nil], rfl, fun _ => (by intro e; cases e), fun x G kept rd2 at2 => ?_⟩
  rw [Nat.zero_add] at rd2
  obtain ⟨dx2, e2⟩ := id rd2
  refine ⟨_, rfl, r, dx2, _, rfl, e2, rfl, r, wr t, _, rfl, rd2, big (by omega), _, rfl, ?_⟩
  rw [decide_eq_true rfl]
  refine if_ff rfl ⟨_, rfl, q x G (fun b o e => ?_) (TyAt.same (hide_sub _ _) _ _ at2)⟩
  exact (k0.trans kept) _ _ (ne_of_none e nr) e
abbrev s_tread : Stmt := inClass (top 23) 1
abbrev N_tread : List Str := ["cls", "text"]
abbrev P_tread : List Str := ["cls", "text"]
theorem sc_tread : FnScope N_tread P_tread (defScope s_tread) := ⟨rfl, rfl, rfl, by decide +kernel, rfl, by decide +kernel, by decide +kernel⟩
def spTread (TC ED : Addr) : Sp := fun vs H Q E => ∃ y, vs = [.ref TC, y] ∧ spWhole TC ED [y] H Q E
theorem ok_tread {f fw : Addr} {fd dw : FuncData} (F : Fun K "read" "Type.read" s_tread f fd) (D_read_whole : Def P w K mg base "_read_whole" 33 P_whole (spWhole TC ED) fw dw) : FnOk P w K mg base CX0 34 f fd P_tread (spTread TC ED) := by
  refine F.ok sc_tread (fun vs H Q E h => ?_) (fun cdv A outer s H vs Q E hr h => ?_)
  · obtain ⟨y, rfl, _⟩ := h
    rfl
  obtain ⟨y, rfl, t, ey, good, few, q⟩ := h
  refine ⟨_, (pss_one (ps_ret (pe_call D_read_whole.ok (hr.mono (by first | decide | omega)) rfl D_read_whole.g D_read_whole.kp D_read_whole.b .nil pass0 (pa_cons (pv 1) pa_nil)))), ?_⟩
  exact ⟨_, rfl, t, ey, good, few, q⟩
abbrev s_teq : Stmt := inClass (top 23) 4
abbrev N_teq : List Str := ["self", "other"]
abbrev P_teq : List Str := ["self", "other"]
theorem sc_teq : FnScope N_teq P_teq (defScope s_teq) := ⟨rfl, rfl, rfl, by decide +kernel, rfl, by decide +kernel, by decide +kernel⟩
/-- one == other -/
def spTeq (K : PySem.W.Frag) (TC : Addr) : Sp := fun vs H Q _ => ∃ (a dx : Addr) (fs : List (Str × V)) (z : Str) (y : V), vs = [.ref a, y] ∧ H a = some (.ins TC dx fs) ∧ fs.lookup ("_writing" : Str) = some (.str z) ∧
  ((∃ (b dy : Addr) (gs : List (Str × V)) (z' : Str), y = .ref b ∧ H b = some (.ins TC dy gs) ∧ gs.lookup ("_writing" : Str) = some (.str z') ∧ Q (.bl (decide (z = z'))) H) ∨ (∃ u, TyX K H y u ∧ PySem.W.kitOne K u (.ref TC) = some false ∧ Q (.bl false) H))
/-- what an instance's class is told as -/
def IsOwn (K : PySem.W.Frag) (TC : Addr) : Prop := ∀ (H : Hp) (a dx : Addr) (fs : List (Str × V)), H a = some (.ins TC dx fs) → TyOf K H (.ref a) (.ref TC)
theorem ok_teq {f : Addr} {fd : FuncData} (F : Fun K "__eq__" "Type.__eq__" s_teq f fd) (T : BlT mg) (gT : mg "Type" = some (.ref TC)) (C : TyC K TC) (I : IsOwn K TC) : FnOk P w K mg base CX0 1 f fd P_teq (spTeq K TC) := by
  refine F.ok sc_teq (fun vs H Q E h => ?_) (fun cdv A outer s H vs Q E hr h => ?_)
  · obtain ⟨a, dx, fs, z, y, rfl, _⟩ := h
    rfl
  obtain ⟨a, dx, fs, z, y, rfl, at', has, way⟩ := h
  refine ⟨_, (pss_one (ps_ret (pe_and (pe_callB call_isi (by rfl) T.isinstance (by decide +kernel) (pa_cons (pv 1) (pa_cons (pe_glob (v := .ref TC) rfl gT rfl) pa_nil))) (pe_one (pe_cmpR op_eq (pe_fld (pv 0) rfl) (pe_fld (pv 1) rfl) (nomark _)))))), ?_⟩
  rcases way with ⟨b, dy, gs, z', rfl, bt, hasb, q⟩ | ⟨u, ty, no, q⟩
  · refine ⟨_, rfl, _, _, _, _, true, rfl, .own _, .base (I H b dy gs bt), if_pos (beq_self_eq_true _), _, rfl, if_tt rfl ?_⟩
    refine ⟨_, rfl, a, TC, dx, _, _, rfl, at', C.cl, C.writing, has, _, rfl, b, TC, dy, _, _, rfl, bt, C.cl, C.writing, hasb, rfl, ?_⟩
    have e : decide (V.str z = V.str z') = decide (z = z') := by
      rw [decide_eq_decide]
      exact ⟨V.str.inj, fun e => by rw [e]⟩
    rw [e]
    exact q
  · exact ⟨_, rfl, _, _, _, _, false, rfl, .own _, ty, no, _, rfl, if_ff rfl q⟩
end
end
end KX

namespace KX
open PySem PySem.Spec L2 PyProof.Rows
/-! ### types as tuples -/
mutual
def encT : Ty → PyData
  | .text => .tuple [.str "text"]
  | .number => .tuple [.str "number"]
  | .flag => .tuple [.str "flag"]
  | .opt t => .tuple [.str "optional", encT t]
  | .list t => .tuple [.str "list", encT t]
  | .keyed t k => .tuple [.str "keyed", encT t, .str k]
  | .rcd fs => .tuple [.str "record", .tuple (encTs fs)]
def encTs : List (Str × Ty) → List PyData
  | [] => []
  | (n, t) :: r => .tuple [.str n, encT t] :: encTs r
end
inductive DeepT : Nat → Ty → Prop
  | plain {n : Nat} {t : Ty} : plainT t = true → DeepT n t
  | opt {n : Nat} {t : Ty} : DeepT n t → DeepT (n + 1) (.opt t)
  | list {n : Nat} {t : Ty} : DeepT n t → DeepT (n + 1) (.list t)
  | keyed {n : Nat} {t : Ty} {k : Str} : (∃ fs u, t = .rcd fs ∧ (k, u) ∈ fs ∧ keyT u = true) → DeepT n t → DeepT (n + 1) (.keyed t k)
  | rcd {n : Nat} {fs : List (Str × Ty)} : fs.length < 4000 → (∀ q ∈ fs, DeepT n q.2) → DeepT (n + 1) (.rcd fs)
theorem encTs_at : ∀ {fs : List (Str × Ty)} {i : Nat} {q : Str × Ty}, fs[i]? = some q → (encTs fs)[i]? = some (.tuple [.str q.1, encT q.2])
  | [], _, _, e => by simp at e
  | (n, t) :: r, 0, q, e => by
    obtain rfl : (n, t) = q := by simpa using e
    simp [encTs]
  | (n, t) :: r, i + 1, q, e => by
    have z := encTs_at (fs := r) (i := i) (q := q) (by simpa using e)
    simpa [encTs] using z
theorem encTs_len : ∀ fs : List (Str × Ty), (encTs fs).length = fs.length
  | [] => rfl
  | _ :: r => by
    simp only [encTs, List.length_cons]
    rw [encTs_len r]
def moreT : Ty → List PyData
  | .opt t => [encT t]
  | .list t => [encT t]
  | .keyed t k => [encT t, .str k]
  | .rcd fs => [.tuple (encTs fs)]
  | _ => []
theorem headT (t : Ty) : encT t = .tuple (.str (kindW t) :: moreT t) := by
  cases t <;> simp [encT, kindW, moreT]
theorem all_one {K : PySem.W.Frag} {H : Hp} {ys : List V} {d : PyData} (h : DqAll K H ys [d]) : ∃ y, ys = [y] ∧ Dq K H y d := by
  cases h with
  | cons a r =>
    cases r
    exact ⟨_, rfl, a⟩
theorem all_two {K : PySem.W.Frag} {H : Hp} {ys : List V} {d : PyData} {k : Str} (h : DqAll K H ys [d, .str k]) : ∃ y, ys = [y, .str k] ∧ Dq K H y d := by
  cases h with
  | cons a r =>
    obtain ⟨z, rfl, b⟩ := all_one r
    cases b
    exact ⟨_, rfl, a⟩
theorem tup_head {K : PySem.W.Frag} {H : Hp} {v : V} {z : Str} {ds : List PyData} (d : Dq K H v (.tuple (.str z :: ds))) : ∃ a ys, v = .ref a ∧ H a = some (.tup (.str z :: ys)) ∧ DqAll K H ys ds := by
  cases d with
  | tup h all =>
    cases all with
    | cons d0 r =>
      cases d0
      exact ⟨_, _, rfl, h, r⟩
section
variable {base : Heap} {P : Program} {w : World} {K : PySem.W.Frag} {mg : Str → Option Value} {tk : Str → Tok}
abbrev s_ftext : Stmt := top 45
abbrev N_ftext : List Str := ["_law_form_here", "_law_word", "_law_inner"]
abbrev P_ftext : List Str := ["_law_form_here"]
theorem sc_ftext : FnScope N_ftext P_ftext (defScope s_ftext) := ⟨rfl, rfl, rfl, by decide +kernel, rfl, by decide +kernel, by decide +kernel⟩
def spFText (K : PySem.W.Frag) (L : Nat) : Sp := fun vs H Q _ => ∃ (v : V) (t : Ty) (n : Nat), vs = [v] ∧ n < L ∧ Dq K H v (encT t) ∧ DeepT n t ∧ (wr t).length ≤ 100000 ∧ ∀ H', Same H H' → Q (.str (wr t)) H'
def rCat : R2 := fun x y H Q => ∃ i j, x = .str i ∧ y = .str j ∧ i.length + j.length ≤ sizeLine ∧ Q (.str (i ++ j)) H
theorem ok_ftextS {f : Addr} {fd : FuncData} {L : Nat} (F : Fun K "_law_form_text" "_law_form_text" s_ftext f fd) (T : Bl mg) (D_form_text : Def P w K mg base "_law_form_text" (L + 1) P_ftext (spFText K L) f fd) : FnOk P w K mg base CX0 (L + 2) f fd P_ftext (spFText K (L + 1)) := by
  refine F.ok sc_ftext (fun vs H Q E h => ?_) (fun cdv A outer s H vs Q E hr h => ?_)
  · obtain ⟨v, t, n, rfl, _⟩ := h
    rfl
  obtain ⟨v, t, n, rfl, lt, dv, deep, few, q⟩ := h
  refine ⟨_, (pss_cons (ps_if (pt_cmpR (op_inK K rfl) (pe_ix (ix_tupK K rfl) (pv 0) pe_int (fun _ _ => rfl)) (pe_lst (pa_cons pe_str (pa_cons pe_str (pa_cons pe_str pa_nil)))) (by with_unfolding_all rfl))
      (pss_one (ps_ret (pe_ix (ix_tupK K rfl) (pv 0) pe_int (fun _ _ => rfl))))
      pss_nil)
    (pss_cons (ps_if (pt_cmpR op_eq (pe_ix (ix_tupK K rfl) (pv 0) pe_int (fun _ _ => rfl)) pe_str (nomark _))
      (pss_one (ps_ret (pe_op op_add_str (pe_call D_form_text.ok (hr.mono (by first | decide | omega)) rfl D_form_text.g D_form_text.kp D_form_text.b .nil pass0 (pa_cons (pe_ix (ix_tupK K rfl) (pv 0) pe_int (fun _ _ => rfl)) pa_nil)) pe_str)))
      pss_nil)
    (pss_cons (ps_if (pt_cmpR op_eq (pe_ix (ix_tupK K rfl) (pv 0) pe_int (fun _ _ => rfl)) pe_str (nomark _))
      (pss_one (ps_ret (pe_op op_add_str (pe_op op_add_str pe_str (pe_call D_form_text.ok (hr.mono (by first | decide | omega)) rfl D_form_text.g D_form_text.kp D_form_text.b .nil pass0 (pa_cons (pe_ix (ix_tupK K rfl) (pv 0) pe_int (fun _ _ => rfl)) pa_nil))) pe_str)))
      pss_nil)
    (pss_cons (ps_if (pt_cmpR op_eq (pe_ix (ix_tupK K rfl) (pv 0) pe_int (fun _ _ => rfl)) pe_str (nomark _))
      (pss_one (ps_ret (pe_op op_add_str (pe_op op_add_str (pe_op op_add_str (pe_op op_add_str pe_str (pe_call D_form_text.ok (hr.mono (by first | decide | omega)) rfl D_form_text.g D_form_text.kp D_form_text.b .nil pass0 (pa_cons (pe_ix (ix_tupK K rfl) (pv 0) pe_int (fun _ _ => rfl)) pa_nil))) pe_str) (pe_ix (ix_tupK K rfl) (pv 0) pe_int (fun _ _ => rfl))) pe_str)))
      pss_nil)
    (pss_one (ps_ret (pe_op op_add_str (pe_op op_add_str pe_str (pe_join pe_str (pe_lc (own := [("_law_word", 1), ("_law_inner", 2)]) (g := (gTup K 2 (gCons (gName 1) (gCons (gName 2) gNil)))) (tt := tYes) rfl sc_ftext.nd (pi_tup (pe_ix (ix_tupK K rfl) (pv 0) pe_int (fun _ _ => rfl))) (blkOk_by (own := [("_law_word", 1), ("_law_inner", 2)]) (N := N_ftext) (sc := defScope s_ftext) (by decide +kernel)) (fun _ _ _ _ _ => (pg_tup rfl (pgs_cons (pg_name (i := 1) sc_ftext.nd rfl (Or.inl rfl)) (pgs_cons (pg_name (i := 2) sc_ftext.nd rfl (Or.inl rfl)) pgs_nil)))) (fun _ _ _ _ _ => pts_nil) (fun _ _ _ _ _ => (pe_op op_add_str (pe_op op_add_str (pv 1) pe_str) (pe_call D_form_text.ok (hr.mono (by first | decide | omega)) rfl D_form_text.g D_form_text.kp D_form_text.b .nil pass0 (pa_cons (pv 2) pa_nil))))))) pe_str))))))), ?_⟩
  rw [headT t] at dv
  obtain ⟨a, ys, rfl, ea, all⟩ := tup_head dv
  have at0 : atI (.str (kindW t) :: ys) 0 = some (.str (kindW t)) := at_of (j := 0) rfl rfl
  refine ⟨_, rfl, a, _, 0, .str _, rfl, rfl, SqT.of ea, at0, (by decide +kernel), fun p np => ?_⟩
  have s1 : Same H (upd H p (.lst [.str "text", .str "number", .str "flag"])) := same_new np _
  have ea1 := s1 _ _ ea
  cases deep with
  | plain pl =>
    refine ⟨p, _, rfl, .inl (SqL.of upd_same), rfl, rfl, _, rfl, if_tt ?_ ?_⟩
    · cases t <;> first | rfl | cases pl
    · refine ⟨_, rfl, a, _, 0, .str _, rfl, rfl, SqT.of ea1, at0, ?_⟩
      rw [← wr_plain pl]
      exact q _ s1
  | @opt n u du =>
    obtain ⟨y, rfl, dy⟩ := all_one all
    have lens : (wr u).length + 1 = (wr (.opt u)).length := by
      simp only [wr]
      rw [len_app]
      rfl
    refine ⟨p, _, rfl, .inl (SqL.of upd_same), rfl, rfl, _, rfl, if_ff rfl ?_⟩
    refine ⟨_, rfl, a, _, 0, .str _, rfl, rfl, SqT.of ea1, at0, rfl, _, rfl, if_tt (by simp only [kindW]; decide) ?_⟩
    refine ⟨_, rfl, a, _, 1, y, rfl, rfl, SqT.of ea1, at_of (j := 1) rfl rfl, y, u, n, rfl, by omega, Dq.same s1 _ _ dy, du, by omega, fun G s2 => ⟨_, _, rfl, rfl, ?_, ?_⟩⟩
    · rw [sizeLine_eq]
      show (wr u).length + 1 ≤ _
      omega
    · have z := q G (s1.trans s2)
      simp only [wr] at z
      exact z
  | @list n u du =>
    obtain ⟨y, rfl, dy⟩ := all_one all
    have lens : 1 + (wr u).length + 1 = (wr (.list u)).length := by
      simp only [wr]
      rw [len_app, len_app]
      rfl
    refine ⟨p, _, rfl, .inl (SqL.of upd_same), rfl, rfl, _, rfl, if_ff rfl ?_⟩
    refine ⟨_, rfl, a, _, 0, .str _, rfl, rfl, SqT.of ea1, at0, rfl, _, rfl, if_ff (decide_eq_false fun e => absurd (V.str.inj e) (by simp only [kindW]; decide)) ?_⟩
    refine ⟨_, rfl, a, _, 0, .str _, rfl, rfl, SqT.of ea1, at0, rfl, _, rfl, if_tt (by simp only [kindW]; decide) ?_⟩
    refine ⟨_, rfl, a, _, 1, y, rfl, rfl, SqT.of ea1, at_of (j := 1) rfl rfl, y, u, n, rfl, by omega, Dq.same s1 _ _ dy, du, by omega, fun G s2 => ⟨_, _, rfl, rfl, ?_, _, _, rfl, rfl, ?_, ?_⟩⟩
    · rw [sizeLine_eq]
      show 1 + (wr u).length ≤ _
      omega
    · rw [sizeLine_eq, len_app]
      show 1 + (wr u).length + 1 ≤ _
      omega
    · have z := q G (s1.trans s2)
      simp only [wr] at z
      exact z
  | @keyed n u k _ du =>
    obtain ⟨y, rfl, dy⟩ := all_two all
    have lens : 1 + (wr u).length + 4 + k.length + 1 = (wr (.keyed u k)).length := by
      simp only [wr]
      rw [len_app, len_app, len_app, len_app]
      rfl
    refine ⟨p, _, rfl, .inl (SqL.of upd_same), rfl, rfl, _, rfl, if_ff rfl ?_⟩
    refine ⟨_, rfl, a, _, 0, .str _, rfl, rfl, SqT.of ea1, at0, rfl, _, rfl, if_ff (decide_eq_false fun e => absurd (V.str.inj e) (by simp only [kindW]; decide)) ?_⟩
    refine ⟨_, rfl, a, _, 0, .str _, rfl, rfl, SqT.of ea1, at0, rfl, _, rfl, if_ff (decide_eq_false fun e => absurd (V.str.inj e) (by simp only [kindW]; decide)) ?_⟩
    refine ⟨_, rfl, a, _, 0, .str _, rfl, rfl, SqT.of ea1, at0, rfl, _, rfl, if_tt (by simp only [kindW]; decide) ?_⟩
    refine ⟨_, rfl, a, _, 1, y, rfl, rfl, SqT.of ea1, at_of (j := 1) rfl rfl, y, u, n, rfl, by omega, Dq.same s1 _ _ dy, du, by omega, fun G s2 => ⟨_, _, rfl, rfl, ?_, _, _, rfl, rfl, ?_, ?_⟩⟩
    · rw [sizeLine_eq]
      show 1 + (wr u).length ≤ _
      omega
    · rw [sizeLine_eq, len_app]
      show 1 + (wr u).length + 4 ≤ _
      omega
    · refine ⟨_, rfl, a, _, 2, .str k, rfl, rfl, SqT.of (s2 _ _ ea1), at_of (j := 2) rfl rfl, _, _, rfl, rfl, ?_, _, _, rfl, rfl, ?_, ?_⟩
      · rw [sizeLine_eq, len_app, len_app]
        show 1 + (wr u).length + 4 + k.length ≤ _
        omega
      · rw [sizeLine_eq, len_app, len_app, len_app]
        show 1 + (wr u).length + 4 + k.length + 1 ≤ _
        omega
      · have z := q G (s1.trans s2)
        simp only [wr] at z
        exact z
  | @rcd n fs _ df =>
    obtain ⟨y, rfl, dy⟩ := all_one all
    obtain ⟨b, rows, rfl, hb, hall⟩ : ∃ b rows, y = .ref b ∧ H b = some (.tup rows) ∧ DqAll K H rows (encTs fs) := by
      cases dy with
      | tup h r => exact ⟨_, _, rfl, h, r⟩
    have hb1 := s1 _ _ hb
    simp only [wr] at few
    rw [len_app, len_app] at few
    have jl := join_len (wrFs fs)
    have wl : (wrFs fs).length = fs.length := by rw [wrFs_map, List.length_map]
    have rl : rows.length = fs.length := by rw [hall.length, encTs_len]
    rw [wl] at jl
    refine ⟨p, _, rfl, .inl (SqL.of upd_same), rfl, rfl, _, rfl, if_ff rfl ?_⟩
    refine ⟨_, rfl, a, _, 0, .str _, rfl, rfl, SqT.of ea1, at0, rfl, _, rfl, if_ff (decide_eq_false fun e => absurd (V.str.inj e) (by simp only [kindW]; decide)) ?_⟩
    refine ⟨_, rfl, a, _, 0, .str _, rfl, rfl, SqT.of ea1, at0, rfl, _, rfl, if_ff (decide_eq_false fun e => absurd (V.str.inj e) (by simp only [kindW]; decide)) ?_⟩
    refine ⟨_, rfl, a, _, 0, .str _, rfl, rfl, SqT.of ea1, at0, rfl, _, rfl, if_ff (decide_eq_false fun e => absurd (V.str.inj e) (by simp only [kindW]; decide)) ?_⟩
    refine ⟨⟨_, rfl⟩, _, rfl, a, _, 1, .ref b, rfl, rfl, SqT.of ea1, at_of (j := 1) rfl rfl, b, rfl, ⟨_, SqT.of hb1⟩, fun D new => ?_⟩
    have free : H D = none := by
      cases e : H D with
      | none => rfl
      | some o =>
        rw [s1 _ _ e] at new
        cases new
    refine lc_it (g := gTup K 2 (gCons (gName 1) (gCons (gName 2) gNil))) (tt := tYes) (vs := [1, 2]) (te := tOp rCat (tOp rCat (tVar 1) (tC (V.str ": "))) (tCall (spFText K L) [] E0 (tCons (tVar 2) tNil))) (walk_tup (K := K) (a := b) (xs := rows))
      (fun i G => Same H G ∧ G D = some (.lst ((fs.take i).map fun q => .str (q.1 ++ ": " ++ wr q.2)))) ⟨s1.trans (same_new new _), upd_same⟩ (fun i G _ p => SqT.of (p.1 _ _ hb)) ?_ ?_
    · rintro i x G2 G hi ⟨kept, made⟩ ⟨rfl, hx⟩
      have hf : fs[i]? = some fs[i] := List.getElem?_eq_getElem (by omega)
      generalize fs[i] = q at hf
      obtain ⟨d, ed, dx⟩ := hall.get hx
      rw [encTs_at hf] at ed
      obtain rfl := Option.some.inj ed
      obtain ⟨c, zs, rfl, hc, hz⟩ := tup_head dx
      obtain ⟨u, rfl, du⟩ := all_one hz
      have mem := List.mem_of_getElem? hf
      have one : (q.1 ++ ": " ++ wr q.2).length ≤ (Txt.join ", " (wrFs fs)).length + 2 := by
        have m := mem_sum (List.mem_map.mpr ⟨_, List.mem_map.mpr ⟨q, mem, rfl⟩, rfl⟩ : (q.1 ++ ": " ++ wr q.2).length ∈ ((fs.map fun q => q.1 ++ ": " ++ wr q.2).map (·.length)))
        rw [← wrFs_map] at m
        omega
      rw [len_app, len_app] at one
      have two : (": " : Str).length = 2 := rfl
      refine ⟨c, _, rfl, SqT.of (kept _ _ hc), rfl, _, _, rfl, _, _, rfl, rfl, rfl, yesT ?_⟩
      refine ⟨_, rfl, _, _, rfl, rfl, big (by omega), _, rfl, u, q.2, n, rfl, by omega, Dq.same kept _ _ du, df q mem, by omega, fun G3 s3 => ⟨_, _, rfl, rfl, big (by rw [len_app]; omega), ?_⟩⟩
      refine ⟨_, s3 _ _ made, ?_, Same.updNew (kept.trans s3) free, ?_⟩
      · rw [List.length_map, List.length_take, sizeLine_eq]
        omega
      · have e : fs.take (i + 1) = fs.take i ++ [q] := by
          rw [List.take_succ, hf]
          rfl
        rw [upd_same, e, List.map_append]
        rfl
    · rintro G ⟨kept, made⟩
      rw [rl, List.take_length] at made
      have made2 : G D = some (.lst ((wrFs fs).map V.str)) := by
        rw [made, wrFs_map, List.map_map]
        rfl
      have z := q G kept
      simp only [wr] at z
      refine ⟨", ", D, wrFs fs, rfl, rfl, .inl (SqL.of made2), ?_, "{", _, rfl, rfl, big ?_, _, _, rfl, rfl, big ?_, z⟩
      · rw [wl]
        show _ + fs.length * 2 ≤ _
        omega
      · omega
      · rw [len_app]
        omega
end
end KX

namespace KX
open PySem PySem.Spec L2 PyProof.Rows
/-! ### the types that are drawn -/
def kty : Bool → Ty
  | true => .number
  | false => .text
mutual
def tyOf : Fm → Ty
  | .text => .text
  | .number => .number
  | .flag => .flag
  | .list f => .list (tyOf f)
  | .opt f => .opt (tyOf f)
  | .rcd fs => .rcd (tyOfs fs)
  | .keyed k num w f => .keyed (.rcd [(k, kty num), (w, tyOf f)]) k
def tyOfs : List (Str × Fm) → List (Str × Ty)
  | [] => []
  | (n, f) :: r => (n, tyOf f) :: tyOfs r
end
mutual
theorem enc_ty : ∀ f : Fm, enc f = encT (tyOf f)
  | .text => by simp only [enc, tyOf, encT]
  | .number => by simp only [enc, tyOf, encT]
  | .flag => by simp only [enc, tyOf, encT]
  | .list f => by simp only [enc, tyOf, encT, enc_ty f]
  | .opt f => by simp only [enc, tyOf, encT, enc_ty f]
  | .rcd fs => by simp only [enc, tyOf, encT, enc_tys fs]
  | .keyed k num w f => by
    simp only [enc, tyOf, encT, encTs, enc_ty f]
    cases num <;> simp only [kty, kword, encT]
theorem enc_tys : ∀ fs : List (Str × Fm), encFs fs = encTs (tyOfs fs)
  | [] => by simp only [encFs, tyOfs, encTs]
  | (n, f) :: r => by simp only [encFs, tyOfs, encTs, enc_ty f, enc_tys r]
end
theorem tyOfs_map : ∀ fs : List (Str × Fm), tyOfs fs = fs.map fun q => (q.1, tyOf q.2)
  | [] => by simp only [tyOfs, List.map]
  | (n, f) :: r => by simp only [tyOfs, List.map, tyOfs_map r]
theorem tyOf_opt (f : Fm) : isOpt (tyOf f) = f.isOpt := by
  cases f <;> simp only [tyOf, isOpt, Fm.isOpt]
theorem GoodT.up {n : Nat} {t : Ty} (h : GoodT n t) : GoodT (n + 1) t := by
  induction h with
  | plain p => exact .plain p
  | opt _ a b => exact .opt b a
  | list _ b => exact .list b
  | keyed _ m k l b => exact .keyed b m k l
  | rcd a b c d e _ g => exact .rcd a b c d e g
theorem DeepT.up {n : Nat} {t : Ty} (h : DeepT n t) : DeepT (n + 1) t := by
  induction h with
  | plain p => exact .plain p
  | opt _ b => exact .opt b
  | list _ b => exact .list b
  | keyed l _ b => exact .keyed l b
  | rcd l _ b => exact .rcd l b
/-- a form of n levels tells a type of at most twice as many -/
theorem good_of : ∀ (n : Nat) (f : Fm), okF n f → GoodT (2 * n) (tyOf f) ∧ DeepT (2 * n) (tyOf f)
  | _, .text, _ => by
    simp only [tyOf]
    exact ⟨.plain rfl, .plain rfl⟩
  | _, .number, _ => by
    simp only [tyOf]
    exact ⟨.plain rfl, .plain rfl⟩
  | _, .flag, _ => by
    simp only [tyOf]
    exact ⟨.plain rfl, .plain rfl⟩
  | 0, .list _, h => by simp [okF] at h
  | 0, .opt _, h => by simp [okF] at h
  | 0, .rcd _, h => by simp [okF] at h
  | 0, .keyed _ _ _ _, h => by simp [okF] at h
  | n + 1, .list f, h => by
    obtain ⟨a, b⟩ := good_of n f (by simpa only [okF] using h)
    simp only [tyOf]
    exact ⟨.list a.up, .list b.up⟩
  | n + 1, .opt f, h => by
    have h' : okF n f ∧ f.isOpt = false := by simpa only [okF] using h
    obtain ⟨a, b⟩ := good_of n f h'.1
    simp only [tyOf]
    exact ⟨.opt a.up.up (by rw [tyOf_opt]; exact h'.2), .opt b.up⟩
  | n + 1, .rcd fs, h => by
    have h' : Names (fs.map (·.1)) ∧ sortedS (fs.map (·.1)) = true ∧ 1 ≤ fs.length ∧ fs.length ≤ 3 ∧ ∀ q ∈ fs, okF n q.2 := by simpa only [okF] using h
    obtain ⟨⟨nd, nm⟩, so, one, three, each⟩ := h'
    have names : (tyOfs fs).map (·.1) = fs.map (·.1) := by
      rw [tyOfs_map, List.map_map]
      rfl
    have mem : ∀ q ∈ tyOfs fs, ∃ p ∈ fs, q = (p.1, tyOf p.2) := fun q hq => by
      rw [tyOfs_map] at hq
      obtain ⟨p, hp, rfl⟩ := List.mem_map.mp hq
      exact ⟨p, hp, rfl⟩
    simp only [tyOf]
    refine ⟨.rcd ?_ (by rw [names]; exact nd) (by rw [names]; exact so) (by rw [tyOfs_map, List.length_map]; omega) (fun q hq => ?_) (fun q hq => ?_), .rcd (by rw [tyOfs_map, List.length_map]; omega) fun q hq => ?_⟩
    · rw [tyOfs_map]
      intro e
      have := congrArg List.length e
      rw [List.length_map] at this
      simp at this
      rw [this] at one
      simp at one
    · obtain ⟨p, hp, rfl⟩ := mem q hq
      obtain ⟨a, b, c⟩ := nm p.1 (List.mem_map.mpr ⟨p, hp, rfl⟩)
      exact ⟨c, b, by show p.1.length ≠ 0; omega⟩
    · obtain ⟨p, hp, rfl⟩ := mem q hq
      exact (good_of n p.2 (each p hp)).1.up
    · obtain ⟨p, hp, rfl⟩ := mem q hq
      exact (good_of n p.2 (each p hp)).2.up
  | n + 1, .keyed k num w f, h => by
    have h' : Names [k, w] ∧ sortedS [k, w] = true ∧ okF n f := by simpa only [okF] using h
    obtain ⟨⟨nd, nm⟩, so, fine⟩ := h'
    obtain ⟨a, b⟩ := good_of n f fine
    have plain : plainT (kty num) = true := by cases num <;> rfl
    have key : keyT (kty num) = true := by cases num <;> rfl
    have inner : GoodT (2 * n + 1) (.rcd [(k, kty num), (w, tyOf f)]) := by
      refine .rcd (by simp) nd so (by show 2 < 4000; decide) (fun q hq => ?_) (fun q hq => ?_)
      · rcases List.mem_cons.mp hq with rfl | hq
        · obtain ⟨x, y, z⟩ := nm k List.mem_cons_self
          exact ⟨z, y, by show k.length ≠ 0; omega⟩
        · rw [List.mem_singleton.mp hq]
          obtain ⟨x, y, z⟩ := nm w (List.mem_cons_of_mem _ List.mem_cons_self)
          exact ⟨z, y, by show w.length ≠ 0; omega⟩
      · rcases List.mem_cons.mp hq with rfl | hq
        · exact .plain plain
        · rw [List.mem_singleton.mp hq]
          exact a
    simp only [tyOf]
    refine ⟨.keyed inner List.mem_cons_self key (nm k List.mem_cons_self).2.2, .keyed ⟨_, _, rfl, List.mem_cons_self, key⟩ (.rcd (by show 2 < 4000; decide) fun q hq => ?_)⟩
    rcases List.mem_cons.mp hq with rfl | hq
    · exact .plain plain
    · rw [List.mem_singleton.mp hq]
      exact b
/-- how long a form's writing can be -/
def lim : Nat → Nat
  | 0 => 6
  | n + 1 => 56 + 3 * lim n
theorem joinL_up (m : Nat) : ∀ zs : List (List Nat), (∀ z ∈ zs, z.length ≤ m) → (TL.joinL [44, 32] zs).length ≤ zs.length * (m + 2)
  | [], _ => Nat.zero_le _
  | [z], h => by
    have := h z List.mem_cons_self
    show z.length ≤ (0 + 1) * (m + 2)
    omega
  | z :: y :: r, h => by
    have a := h z List.mem_cons_self
    have b := joinL_up m (y :: r) fun x hx => h x (List.mem_cons_of_mem _ hx)
    show (z ++ ([44, 32] ++ TL.joinL [44, 32] (y :: r))).length ≤ _
    rw [List.length_append, List.length_append]
    show _ + (2 + _) ≤ (r.length + 1 + 1) * (m + 2)
    rw [List.length_cons] at b
    rw [Nat.succ_mul (r.length + 1)]
    omega
theorem lim_ge : ∀ n, 6 ≤ lim n
  | 0 => Nat.le_refl _
  | n + 1 => by
    have := lim_ge n
    show 6 ≤ 56 + 3 * lim n
    omega
theorem len_of : ∀ (n : Nat) (f : Fm), okF n f → (wr (tyOf f)).length ≤ lim n
  | n, .text, _ => by
    simp only [tyOf, wr]
    exact Nat.le_trans (by decide) (lim_ge n)
  | n, .number, _ => by
    simp only [tyOf, wr]
    exact Nat.le_trans (by decide) (lim_ge n)
  | n, .flag, _ => by
    simp only [tyOf, wr]
    exact Nat.le_trans (by decide) (lim_ge n)
  | 0, .list _, h => by simp [okF] at h
  | 0, .opt _, h => by simp [okF] at h
  | 0, .rcd _, h => by simp [okF] at h
  | 0, .keyed _ _ _ _, h => by simp [okF] at h
  | n + 1, .list f, h => by
    have a := len_of n f (by simpa only [okF] using h)
    simp only [tyOf, wr]
    rw [len_app, len_app]
    show 1 + _ + 1 ≤ 56 + 3 * lim n
    omega
  | n + 1, .opt f, h => by
    have h' : okF n f ∧ f.isOpt = false := by simpa only [okF] using h
    have a := len_of n f h'.1
    simp only [tyOf, wr]
    rw [len_app]
    show _ + 1 ≤ 56 + 3 * lim n
    omega
  | n + 1, .rcd fs, h => by
    have h' : Names (fs.map (·.1)) ∧ sortedS (fs.map (·.1)) = true ∧ 1 ≤ fs.length ∧ fs.length ≤ 3 ∧ ∀ q ∈ fs, okF n q.2 := by simpa only [okF] using h
    obtain ⟨⟨nd, nm⟩, so, one, three, each⟩ := h'
    simp only [tyOf, wr]
    rw [len_app, len_app, ql_len (Txt.join ", " (wrFs (tyOfs fs))), ql_join]
    have up := joinL_up (14 + lim n) ((wrFs (tyOfs fs)).map ql) fun z hz => by
      rw [wrFs_map, tyOfs_map, List.map_map, List.map_map] at hz
      obtain ⟨p, hp, rfl⟩ := List.mem_map.mp hz
      show (ql (p.1 ++ ": " ++ wr (tyOf p.2))).length ≤ _
      rw [← ql_len, len_app, len_app]
      have a := len_of n p.2 (each p hp)
      have b := (nm p.1 (List.mem_map.mpr ⟨p, hp, rfl⟩)).2.1
      show _ + 2 + _ ≤ _
      omega
    have cnt : ((wrFs (tyOfs fs)).map ql).length ≤ 3 := by
      rw [wrFs_map, tyOfs_map, List.length_map, List.length_map, List.length_map]
      exact three
    have all := Nat.le_trans up (Nat.mul_le_mul_right (14 + lim n + 2) cnt)
    show 1 + _ + 1 ≤ 56 + 3 * lim n
    omega
  | n + 1, .keyed k num w f, h => by
    have h' : Names [k, w] ∧ sortedS [k, w] = true ∧ okF n f := by simpa only [okF] using h
    obtain ⟨⟨nd, nm⟩, so, fine⟩ := h'
    have a := len_of n f fine
    have kl := (nm k List.mem_cons_self).2.1
    have wl := (nm w (List.mem_cons_of_mem _ List.mem_cons_self)).2.1
    have small : (wr (kty num)).length ≤ 6 := by
      cases num <;> simp only [kty, wr] <;> decide
    simp only [tyOf, wr, wrFs]
    rw [len_app, len_app, len_app, len_app, len_app, len_app, ql_len (Txt.join ", " _), ql_join]
    show 1 + (1 + (ql (k ++ ": " ++ wr (kty num)) ++ ([44, 32] ++ ql (w ++ ": " ++ wr (tyOf f)))).length + 1) + 4 + _ + 1 ≤ 56 + 3 * lim n
    rw [List.length_append, List.length_append, ← ql_len, ← ql_len, len_app, len_app, len_app, len_app]
    show 1 + (1 + (_ + 2 + _ + (2 + (_ + 2 + _))) + 1) + 4 + _ + 1 ≤ 56 + 3 * lim n
    omega
end KX

namespace KX
open PySem PySem.Spec L2 PyProof.Rows
section
variable {base : Heap} {P : Program} {w : World} {K : PySem.W.Frag} {mg : Str → Option Value} {tk : Str → Tok} {TC ED RC : Addr}
abbrev s_repr : Stmt := inClass (top 23) 6
abbrev N_repr : List Str := ["self"]
abbrev P_repr : List Str := ["self"]
theorem sc_repr : FnScope N_repr P_repr (defScope s_repr) := ⟨rfl, rfl, rfl, by decide +kernel, rfl, by decide +kernel, by decide +kernel⟩
theorem ok_repr {f : Addr} {fd : FuncData} (F : Fun K "__repr__" "Type.__repr__" s_repr f fd) (C : TyC K TC) : FnOk P w K mg base CX0 1 f fd P_repr (fun vs H Q _ => ∃ (a dx : Addr) (fs : List (Str × V)) (z : Str), vs = [.ref a] ∧ H a = some (.ins TC dx fs) ∧ fs.lookup ("_writing" : Str) = some (.str z) ∧ z.length ≤ 100000 ∧ Q (.str ("Type('" ++ z ++ "')")) H) := by
  refine F.ok sc_repr (fun vs H Q E h => ?_) (fun cdv A outer s H vs Q E hr h => ?_)
  · obtain ⟨a, dx, fs, z, rfl, _⟩ := h
    rfl
  obtain ⟨a, dx, fs, z, rfl, at', has, few, q⟩ := h
  refine ⟨_, (pss_one (ps_ret (pe_joined (PJ.cons pe_str (PJ.cons (pe_fmt (pe_fld (pv 0) rfl)) (PJ.cons pe_str PJ.nil)))))), ?_⟩
  refine ⟨"Type('", rfl, big (by decide), _, rfl, a, TC, dx, _, _, rfl, at', C.cl, C.writing, has, .inl ⟨z, rfl, big (by omega), _, rfl, big ?_, _, rfl, big ?_, q⟩⟩
  · rw [len_app]
    show 6 + _ ≤ _
    omega
  · rw [len_app, len_app]
    show 6 + _ + 2 ≤ _
    omega
/-- the text of a form, at any depth -/
theorem ok_ftext {f : Addr} {fd : FuncData} (F : Fun K "_law_form_text" "_law_form_text" s_ftext f fd) (T : Bl mg) (g : mg "_law_form_text" = some (.ref f)) (b : L2.Binds K fd P_ftext []) : ∀ L : Nat, FnOk P w K mg base CX0 (L + 1) f fd P_ftext (spFText K L)
  | 0 => F.ok sc_ftext (fun vs H Q E h => by
      obtain ⟨v, t, n, rfl, _⟩ := h
      rfl) fun cdv A outer s H vs Q E hr h => by
      obtain ⟨v, t, n, _, lt, _⟩ := h
      exact absurd lt (Nat.not_lt_zero _)
  | L + 1 => ok_ftextS F T ⟨g, F.kp, b, ok_ftext F T g b L⟩
/-- of a drawn form -/
theorem ftext_of {H : Hp} {v : V} {fm : Fm} {n : Nat} {Q : VK} {E : XK} (d : Dq K H v (enc fm)) (o : okF n fm) (small : n ≤ 3) (q : ∀ H', Same H H' → Q (.str (wr (tyOf fm))) H') : spFText K 7 [v] H Q E := by
  obtain ⟨_, deep⟩ := good_of n fm o
  have len := len_of n fm o
  refine ⟨v, tyOf fm, 2 * n, rfl, by omega, by rw [← enc_ty]; exact d, deep, Nat.le_trans len ?_, q⟩
  rcases (by omega : n = 0 ∨ n = 1 ∨ n = 2 ∨ n = 3) with rfl | rfl | rfl | rfl <;> decide
end
end KX

namespace KX
open PySem PySem.Spec L2 PyProof.Rows
/-! ### trouble -/
/-- the rows of a list, one behind the other -/
def rowsT (f : PyData → List PyData → Option (List PyData)) (key : Option Str) : List PyData → Nat → List PyData → List PyData → Option (List PyData)
  | [], _, _, _ => none
  | d :: ds, i, ks, p => match f d (p ++ [.int (i : Int)]) with
    | some e => some e
    | none => match key with
      | none => rowsT f key ds (i + 1) ks p
      | some k => match d with
        | .dict kvs => match keyIn kvs k with
          | some x => if ks.any (fun y => PyData.eqv x y) then some (p ++ [.int (i : Int)]) else rowsT f key ds (i + 1) (ks ++ [x]) p
          | none => none
        | _ => none
mutual
def tr : Ty → PyData → List PyData → Option (List PyData)
  | .text, d, p => if kindS d = "text" then none else some p
  | .number, d, p => if kindS d = "number" then none else some p
  | .flag, d, p => if kindS d = "flag" then none else some p
  | .opt t, d, p => match d with
    | .none => none
    | d => tr t d p
  | .list t, d, p => match d with
    | .tuple ds => if ds.length ≤ 60 then rowsT (fun x q => tr t x q) none ds 0 [] p else some p
    | _ => some p
  | .keyed t k, d, p => match d with
    | .tuple ds => if ds.length ≤ 60 then rowsT (fun x q => tr t x q) (some k) ds 0 [] p else some p
    | _ => some p
  | .rcd fs, d, p => match d with
    | .dict kvs => if kvs.all (fun kv => fs.any fun q => isKey kv.1 q.1) then trF fs kvs p else some p
    | _ => some p
def trF : List (Str × Ty) → List (PyData × PyData) → List PyData → Option (List PyData)
  | [], _, _ => none
  | (n, t) :: r, kvs, p => match keyIn kvs n with
    | none => some (p ++ [.str n])
    | some d => match tr t d (p ++ [.str n]) with
      | some e => some e
      | none => trF r kvs p
end
theorem tr_plain {t : Ty} (pl : plainT t = true) (d : PyData) (ps : List PyData) : tr t d ps = if kindS d = kindW t then none else some ps := by
  cases t with
  | text =>
    simp only [tr]
    by_cases h : kindS d = "text"
    · rw [if_pos h]
      exact (if_pos h).symm
    · rw [if_neg h]
      exact (if_neg h).symm
  | number =>
    simp only [tr]
    by_cases h : kindS d = "number"
    · rw [if_pos h]
      exact (if_pos h).symm
    · rw [if_neg h]
      exact (if_neg h).symm
  | flag =>
    simp only [tr]
    by_cases h : kindS d = "flag"
    · rw [if_pos h]
      exact (if_pos h).symm
    · rw [if_neg h]
      exact (if_neg h).symm
  | opt => cases pl
  | list => cases pl
  | keyed => cases pl
  | rcd => cases pl
theorem kindV_scal (d : PyData) (z : Str) : scal (kindV d) (.str z) = true := by
  cases d with
  | dict kvs =>
    show scal (if (kvs.all fun kv => nameK kv.1) = true then V.str "record" else V.non) (.str z) = true
    by_cases all : (kvs.all fun kv => nameK kv.1) = true
    · rw [if_pos all]
      rfl
    · rw [if_neg all]
      rfl
  | tuple ds =>
    show scal (if ds.length ≤ 60 then V.str "list" else V.non) (.str z) = true
    by_cases le : ds.length ≤ 60
    · rw [if_pos le]
      rfl
    · rw [if_neg le]
      rfl
  | _ => rfl
theorem kindV_tup {ds : List PyData} (h : ds.length ≤ 60) : kindV (.tuple ds) = .str "list" := if_pos h
theorem kindV_long {ds : List PyData} (h : ¬ ds.length ≤ 60) : kindV (.tuple ds) = .non := if_neg h
theorem kindV_rec {kvs : List (PyData × PyData)} (h : (kvs.all fun kv => nameK kv.1) = true) : kindV (.dict kvs) = .str "record" := if_pos h
theorem kindV_odd {kvs : List (PyData × PyData)} (h : ¬ (kvs.all fun kv => nameK kv.1) = true) : kindV (.dict kvs) = .non := if_neg h
theorem kindV_dict {kvs : List (PyData × PyData)} {z : Str} (ne : ("record" : Str) ≠ z) : decide (kindV (.dict kvs) = .str z) = false := by
  by_cases h : (kvs.all fun kv => nameK kv.1) = true
  · rw [kindV_rec h]
    exact decide_eq_false fun e => ne (V.str.inj e)
  · rw [kindV_odd h]
    exact decide_eq_false fun e => nomatch e
/-- a key that is no name is not wanted -/
theorem odd_keys {kvs : List (PyData × PyData)} {fs : List (Str × Ty)} (h : ¬ (kvs.all fun kv => nameK kv.1) = true) : ¬ (kvs.all fun kv => fs.any fun q => isKey kv.1 q.1) = true := fun all => h (by
  rw [List.all_eq_true] at all ⊢
  intro kv mk
  obtain ⟨q, _, e⟩ := List.any_eq_true.mp (all kv mk)
  cases hk : kv.1 with
  | str z => rfl
  | _ => rw [hk] at e; cases e)
/-- what is told of trouble -/
inductive Told' (K : PySem.W.Frag) (H : Hp) : Option (List PyData) → V → Prop
  | none : Told' K H none .non
  | some {v : V} {e : List PyData} : Dq K H v (.tuple e) → Told' K H (some e) v
section
variable {base : Heap} {P : Program} {w : World} {K : PySem.W.Frag} {mg : Str → Option Value} {tk : Str → Tok} {TC ED RC : Addr}
abbrev s_first : Stmt := top 35
abbrev N_first : List Str := ["wanted", "value", "path", "form"]
abbrev P_first : List Str := ["wanted", "value", "path"]
theorem sc_first : FnScope N_first P_first (defScope s_first) := ⟨rfl, rfl, rfl, by decide +kernel, rfl, by decide +kernel, by decide +kernel⟩
def spFirst (K : PySem.W.Frag) (TC ED : Addr) (L : Nat) : Sp := fun vs H Q _ => ∃ (a : Addr) (t : Ty) (v pw : V) (d : PyData) (ps : List PyData) (n m : Nat), vs = [.ref a, v, pw] ∧ n < L ∧ DeepT n t ∧ TyAt TC ED H (.ref a) t ∧ Dq K H v d ∧ Vd m d ∧ Dq K H pw (.tuple ps) ∧ ps.length + n ≤ 500 ∧
  ∀ (H' : Hp) (y : V), Same H H' → Told' K H' (tr t d ps) y → Q y H'
def spInList (K : PySem.W.Frag) (TC ED : Addr) (L : Nat) : Sp := fun vs H Q _ => ∃ (a : Addr) (t : Ty) (v pw : V) (ds ps : List PyData) (n m : Nat), vs = [.ref a, v, pw] ∧ n < L ∧ DeepT n t ∧ (kindW t = "list" ∨ kindW t = "keyed") ∧ TyAt TC ED H (.ref a) t ∧ Dq K H v (.tuple ds) ∧ Vd m (.tuple ds) ∧ ds.length ≤ 60 ∧ Dq K H pw (.tuple ps) ∧ ps.length + n ≤ 500 ∧
  ∀ (H' : Hp) (y : V), Same H H' → Told' K H' (tr t (.tuple ds) ps) y → Q y H'
def spInRec (K : PySem.W.Frag) (TC ED : Addr) (L : Nat) : Sp := fun vs H Q _ => ∃ (b : Addr) (rows : List V) (fs : List (Str × Ty)) (v pw : V) (kvs : List (PyData × PyData)) (ps : List PyData) (n m : Nat), vs = [.ref b, v, pw] ∧ n < L ∧ DeepT n (.rcd fs) ∧ H b = some (.tup rows) ∧ TyRows TC ED H rows fs ∧ Dq K H v (.dict kvs) ∧ Vd m (.dict kvs) ∧ Dq K H pw (.tuple ps) ∧ ps.length + n ≤ 500 ∧
  ∀ (H' : Hp) (y : V), Same H H' → Told' K H' (tr (.rcd fs) (.dict kvs) ps) y → Q y H'
theorem ok_first {f fk fl fr : Addr} {fd dk dl dr : FuncData} {L n : Nat} (F : Fun K "_first_trouble" "_first_trouble" s_first f fd) (C : TyC K TC) (D_kind_of : Def P w K mg base "kind_of" 3 P_kind_of (spKind K) fk dk) (D_first_trouble : Def P w K mg base "_first_trouble" (n + 4) P_first (spFirst K TC ED L) f fd)
    (D_trouble_in_list : Def P w K mg base "_trouble_in_list" (n + 5) ["wanted", "rows", "path"] (spInList K TC ED (L + 1)) fl dl) (D_trouble_in_record : Def P w K mg base "_trouble_in_record" (n + 5) ["fields", "record", "path"] (spInRec K TC ED (L + 1)) fr dr) : FnOk P w K mg base CX0 (n + 6) f fd P_first (spFirst K TC ED (L + 1)) := by
  refine F.ok sc_first (fun vs H Q E h => ?_) (fun cdv A outer s H vs Q E hr h => ?_)
  · obtain ⟨a, t, v, pw, d, ps, n, m, rfl, _⟩ := h
    rfl
  obtain ⟨a, t, v, pw, d, ps, n', m, rfl, lt, deep, at', dv, vd, dp, room, q⟩ := h
  refine ⟨_, (pss_cons (ps_if (pt_cmpR op_eq (pe_fld (pv 0) rfl) pe_str (nomark _))
      (pss_one (ps_ret (pe_ifExp (pt_cmpR op_isN (pv 1) pe_non (nomark _)) pe_non (pe_call D_first_trouble.ok (hr.mono (by first | decide | omega)) rfl D_first_trouble.g D_first_trouble.kp D_first_trouble.b .nil pass0 (pa_cons (pe_fld (pv 0) rfl) (pa_cons (pv 1) (pa_cons (pv 2) pa_nil)))))))
      pss_nil)
    (pss_cons (ps_set (i := 3) sc_first.nd rfl (Or.inl rfl) (pe_ifExp (pt_cmpR op_eq (pe_fld (pv 0) rfl) pe_str (nomark _)) pe_str (pe_fld (pv 0) rfl)))
    (pss_cons (ps_if (pt_cmpR op_ne (pe_call D_kind_of.ok (hr.mono (by first | decide | omega)) rfl D_kind_of.g D_kind_of.kp D_kind_of.b .nil pass0 (pa_cons (pv 1) pa_nil)) (pv 3) (nomark _))
      (pss_one (ps_ret (pv 2)))
      pss_nil)
    (pss_cons (ps_if (pt_cmpR op_eq (pv 3) pe_str (nomark _))
      (pss_one (ps_ret (pe_call D_trouble_in_list.ok (hr.mono (by first | decide | omega)) rfl D_trouble_in_list.g D_trouble_in_list.kp D_trouble_in_list.b .nil pass0 (pa_cons (pv 0) (pa_cons (pv 1) (pa_cons (pv 2) pa_nil))))))
      pss_nil)
    (pss_cons (ps_if (pt_cmpR op_eq (pv 3) pe_str (nomark _))
      (pss_one (ps_ret (pe_call D_trouble_in_record.ok (hr.mono (by first | decide | omega)) rfl D_trouble_in_record.g D_trouble_in_record.kp D_trouble_in_record.b .nil pass0 (pa_cons (pe_fld (pv 0) rfl) (pa_cons (pv 1) (pa_cons (pv 2) pa_nil))))))
      pss_nil)
    (pss_one (ps_ret pe_non))))))), ?_⟩
  obtain ⟨_, dx, vi, vf, rfl, hrow, inner, _, frows⟩ : ∃ (a0 dx : Addr) (vi vf : V), a = a0 ∧ H a = some (.ins TC dx (rowT (kindW t) vi (partsT t).2 vf (wr t))) ∧ (∀ u, (partsT t).1 = some u → TyAt TC ED H vi u) ∧ True ∧ (∀ fs, t = .rcd fs → ∃ b rows, vf = .ref b ∧ H b = some (.tup rows) ∧ TyRows TC ED H rows fs) := by
    obtain ⟨a0, dx, vi, vf, e, h1, h2, _, h4⟩ := at'.obj
    obtain rfl := V.ref.inj e
    refine ⟨a, dx, vi, vf, rfl, h1, h2, trivial, fun fs e => ?_⟩
    rcases h4 with ⟨gs, b, rows, e2, e3, e4, e5⟩ | ⟨no, _⟩
    · obtain rfl := Ty.rcd.inj (e.symm.trans e2)
      exact ⟨b, rows, e3, e4, e5⟩
    · exact absurd e (no fs)
  refine ⟨_, rfl, a, TC, dx, _, _, rfl, hrow, C.cl, C.kind, rfl, rfl, _, rfl, ?_⟩
  have ask : ∀ {x y : Str} {A B : Prop}, x ≠ y → B → if decide (V.str x = V.str y) = true then A else B := fun ne h => word_ne ne h
  cases deep with
  | plain pl =>
    have w3 : kindW t = "text" ∨ kindW t = "number" ∨ kindW t = "flag" := (wr_plainL pl).2
    have n1 : kindW t ≠ "optional" := by rcases w3 with e | e | e <;> rw [e] <;> decide
    have n2 : kindW t ≠ "keyed" := by rcases w3 with e | e | e <;> rw [e] <;> decide
    have n3 : kindW t ≠ "list" := by rcases w3 with e | e | e <;> rw [e] <;> decide
    have n4 : kindW t ≠ "record" := by rcases w3 with e | e | e <;> rw [e] <;> decide
    refine ask n1 ⟨_, rfl, a, TC, dx, _, _, rfl, hrow, C.cl, C.kind, rfl, rfl, _, rfl, ask n2 ?_⟩
    refine ⟨_, rfl, a, TC, dx, _, _, rfl, hrow, C.cl, C.kind, rfl, ?_⟩
    refine ⟨_, rfl, v, d, rfl, dv, vd.vk, fun H1 s1 => ⟨_, rfl, kindV_scal _ _, _, rfl, ?_⟩⟩
    have nq : kindW t ≠ "?" := by rcases w3 with e | e | e <;> rw [e] <;> decide
    by_cases e : kindS d = kindW t
    · refine if_ff (by rw [decide_eq_true ((kindV_is nq).mpr e)]; rfl) ⟨_, rfl, rfl, _, rfl, ask n3 ⟨_, rfl, rfl, _, rfl, ask n4 ?_⟩⟩
      exact q H1 .non s1 (by rw [tr_plain pl, if_pos e]; exact .none)
    · refine if_tt (by rw [decide_eq_false fun z => e ((kindV_is nq).mp z)]; rfl) ⟨_, rfl, q H1 pw s1 ?_⟩
      rw [tr_plain pl, if_neg e]
      exact .some (Dq.same s1 _ _ dp)
  | @opt n0 u du =>
    refine if_tt (by simp only [kindW]; decide) ⟨_, rfl, rfl, _, rfl, ?_⟩
    by_cases e : v = .non
    · subst e
      cases dv
      refine if_tt rfl (q H .non (Same.refl H) ?_)
      simp only [tr]
      exact .none
    · refine if_ff (decide_eq_false e) ?_
      obtain ⟨a2, dx2, vi2, vf2, rfl, _⟩ := (inner u rfl).obj
      refine ⟨_, rfl, a, TC, dx, _, _, rfl, hrow, C.cl, C.inner, rfl, _, rfl, _, rfl, a2, u, v, pw, d, ps, n0, m, rfl, by omega, du, inner u rfl, dv, vd, dp, by omega, fun H' y s' told => q H' y s' ?_⟩
      have same : tr (.opt u) d ps = tr u d ps := by
        cases dv with
        | non => exact absurd rfl e
        | bl => simp only [tr]
        | int => simp only [tr]
        | str => simp only [tr]
        | lst => simp only [tr]
        | tup => simp only [tr]
        | dct => simp only [tr]
      rw [same]
      exact told
  | @list n0 u du =>
    refine ask (by simp only [kindW]; decide) ⟨_, rfl, a, TC, dx, _, _, rfl, hrow, C.cl, C.kind, rfl, rfl, _, rfl, ask (by simp only [kindW]; decide) ?_⟩
    refine ⟨_, rfl, a, TC, dx, _, _, rfl, hrow, C.cl, C.kind, rfl, ?_⟩
    refine ⟨_, rfl, v, d, rfl, dv, vd.vk, fun H1 s1 => ⟨_, rfl, kindV_scal _ _, _, rfl, ?_⟩⟩
    cases dv with
    | @tup va xs ds hs ha =>
      by_cases le : ds.length ≤ 60
      · refine if_ff (by rw [kindV_tup le]; rfl) ⟨_, rfl, rfl, _, rfl, if_tt (by simp only [kindW]; decide) ?_⟩
        exact ⟨_, rfl, _, rfl, _, rfl, a, .list u, _, pw, _, ps, n0 + 1, m, rfl, lt, .list du, .inl rfl, TyAt.same s1 _ _ at', Dq.same s1 _ _ (.tup hs ha), vd, le, Dq.same s1 _ _ dp, room, fun H' y s' told => q H' y (s1.trans s') told⟩
      · refine if_tt (by rw [kindV_long le]; rfl) ⟨_, rfl, q H1 pw s1 ?_⟩
        simp only [tr]
        rw [if_neg le]
        exact .some (Dq.same s1 _ _ dp)
    | lst => exact if_tt (by rfl) ⟨_, rfl, q H1 pw s1 (by simp only [tr]; exact .some (Dq.same s1 _ _ dp))⟩
    | non => exact if_tt (by rfl) ⟨_, rfl, q H1 pw s1 (by simp only [tr]; exact .some (Dq.same s1 _ _ dp))⟩
    | bl => exact if_tt (by rfl) ⟨_, rfl, q H1 pw s1 (by simp only [tr]; exact .some (Dq.same s1 _ _ dp))⟩
    | int => exact if_tt (by rfl) ⟨_, rfl, q H1 pw s1 (by simp only [tr]; exact .some (Dq.same s1 _ _ dp))⟩
    | str => exact if_tt (by rfl) ⟨_, rfl, q H1 pw s1 (by simp only [tr]; exact .some (Dq.same s1 _ _ dp))⟩
    | dct => exact if_tt (by rw [kindV_dict (by first | decide | (simp only [kindW]; decide))]; rfl) ⟨_, rfl, q H1 pw s1 (by simp only [tr]; exact .some (Dq.same s1 _ _ dp))⟩
  | @keyed n0 u k kd du =>
    refine ask (by simp only [kindW]; decide) ⟨_, rfl, a, TC, dx, _, _, rfl, hrow, C.cl, C.kind, rfl, rfl, _, rfl, if_tt (by simp only [kindW]; decide) ?_⟩
    refine ⟨_, rfl, v, d, rfl, dv, vd.vk, fun H1 s1 => ⟨_, rfl, kindV_scal _ _, _, rfl, ?_⟩⟩
    cases dv with
    | @tup va xs ds hs ha =>
      by_cases le : ds.length ≤ 60
      · refine if_ff (by rw [kindV_tup le]; rfl) ⟨_, rfl, rfl, _, rfl, if_tt rfl ?_⟩
        exact ⟨_, rfl, _, rfl, _, rfl, a, .keyed u k, _, pw, _, ps, n0 + 1, m, rfl, lt, .keyed kd du, .inr rfl, TyAt.same s1 _ _ at', Dq.same s1 _ _ (.tup hs ha), vd, le, Dq.same s1 _ _ dp, room, fun H' y s' told => q H' y (s1.trans s') told⟩
      · refine if_tt (by rw [kindV_long le]; rfl) ⟨_, rfl, q H1 pw s1 ?_⟩
        simp only [tr]
        rw [if_neg le]
        exact .some (Dq.same s1 _ _ dp)
    | lst => exact if_tt (by rfl) ⟨_, rfl, q H1 pw s1 (by simp only [tr]; exact .some (Dq.same s1 _ _ dp))⟩
    | non => exact if_tt (by rfl) ⟨_, rfl, q H1 pw s1 (by simp only [tr]; exact .some (Dq.same s1 _ _ dp))⟩
    | bl => exact if_tt (by rfl) ⟨_, rfl, q H1 pw s1 (by simp only [tr]; exact .some (Dq.same s1 _ _ dp))⟩
    | int => exact if_tt (by rfl) ⟨_, rfl, q H1 pw s1 (by simp only [tr]; exact .some (Dq.same s1 _ _ dp))⟩
    | str => exact if_tt (by rfl) ⟨_, rfl, q H1 pw s1 (by simp only [tr]; exact .some (Dq.same s1 _ _ dp))⟩
    | dct => exact if_tt (by rw [kindV_dict (by first | decide | (simp only [kindW]; decide))]; rfl) ⟨_, rfl, q H1 pw s1 (by simp only [tr]; exact .some (Dq.same s1 _ _ dp))⟩
  | @rcd n0 fs fl df =>
    obtain ⟨b, rows, rfl, hb, hrs⟩ := frows fs rfl
    refine ask (by simp only [kindW]; decide) ⟨_, rfl, a, TC, dx, _, _, rfl, hrow, C.cl, C.kind, rfl, rfl, _, rfl, ask (by simp only [kindW]; decide) ?_⟩
    refine ⟨_, rfl, a, TC, dx, _, _, rfl, hrow, C.cl, C.kind, rfl, ?_⟩
    refine ⟨_, rfl, v, d, rfl, dv, vd.vk, fun H1 s1 => ⟨_, rfl, kindV_scal _ _, _, rfl, ?_⟩⟩
    cases dv with
    | @dct _ _ ds hs ha =>
      by_cases named : (ds.all fun kv => nameK kv.1) = true
      rotate_left
      · refine if_tt (by rw [kindV_odd named]; rfl) ⟨_, rfl, q H1 pw s1 ?_⟩
        simp only [tr]
        rw [if_neg (odd_keys named)]
        exact .some (Dq.same s1 _ _ dp)
      refine if_ff (by rw [kindV_rec named]; rfl) ⟨_, rfl, rfl, _, rfl, ask (by simp only [kindW]; decide) ⟨_, rfl, rfl, _, rfl, if_tt (by simp only [kindW]; decide) ?_⟩⟩
      exact ⟨_, rfl, a, TC, dx, _, _, rfl, s1 _ _ hrow, C.cl, C.fields, rfl, _, rfl, _, rfl, b, rows, fs, _, pw, _, ps, n0 + 1, m, rfl, lt, .rcd fl df, s1 _ _ hb, TyRows.same s1 _ _ hrs, Dq.same s1 _ _ (.dct hs ha), vd, Dq.same s1 _ _ dp, room, fun H' y s' told => q H' y (s1.trans s') told⟩
    | lst => exact if_tt (by rfl) ⟨_, rfl, q H1 pw s1 (by simp only [tr]; exact .some (Dq.same s1 _ _ dp))⟩
    | non => exact if_tt (by rfl) ⟨_, rfl, q H1 pw s1 (by simp only [tr]; exact .some (Dq.same s1 _ _ dp))⟩
    | bl => exact if_tt (by rfl) ⟨_, rfl, q H1 pw s1 (by simp only [tr]; exact .some (Dq.same s1 _ _ dp))⟩
    | int => exact if_tt (by rfl) ⟨_, rfl, q H1 pw s1 (by simp only [tr]; exact .some (Dq.same s1 _ _ dp))⟩
    | str => exact if_tt (by rfl) ⟨_, rfl, q H1 pw s1 (by simp only [tr]; exact .some (Dq.same s1 _ _ dp))⟩
    | @tup va xs ds hs ha =>
      refine if_tt ?_ ⟨_, rfl, q H1 pw s1 (by simp only [tr]; exact .some (Dq.same s1 _ _ dp))⟩
      by_cases le : ds.length ≤ 60
      · rw [kindV_tup le]
        rfl
      · rw [kindV_long le]
        rfl
end
end KX

namespace KX
open PySem PySem.Spec L2 PyProof.Rows
section
variable {base : Heap} {P : Program} {w : World} {K : PySem.W.Frag} {mg : Str → Option Value} {tk : Str → Tok} {TC ED RC : Addr}
/-- path + (x,) -/
theorem path_more {H : Hp} {pw x : V} {ps : List PyData} {d : PyData} {Q : VK} (p : Dq K H pw (.tuple ps)) (hx : ∀ H', Same H H' → Dq K H' x d) (few : ps.length ≤ 1000) (q : ∀ (H' : Hp) (y : V), Same H H' → Dq K H' y (.tuple (ps ++ [d])) → Q y H') {b : Addr} (nb : H b = none) :
    rCatA K pw (.ref b) (upd H b (.tup [x])) Q := by
  cases p with
  | @tup a xs _ ha all =>
  have s1 : Same H (upd H b (.tup [x])) := same_new nb _
  have len := all.length
  refine ⟨a, b, xs, [x], rfl, rfl, SqT.of (s1 _ _ ha), SqT.of upd_same, ?_, fun e => ?_, fun _ e => (nomatch e), fun ne _ p np => ?_⟩
  · rw [sizeLine_eq]
    show xs.length + 1 ≤ _
    omega
  · subst e
    cases all
    exact q _ _ s1 (.tup upd_same (.cons (hx _ s1) .nil))
  · have s2 := s1.trans (same_new np (.tup (xs ++ [x])))
    exact q _ _ s2 (.tup upd_same (DqAll.snoc (hx _ s2) (DqAll.same s2 _ _ all)))
abbrev s_inrec : Stmt := top 37
abbrev N_inrec : List Str := ["fields", "record", "path", "wanted_names", "field", "wanted", "found", "name", "part"]
abbrev P_inrec : List Str := ["fields", "record", "path"]
theorem sc_inrec : FnScope N_inrec P_inrec (defScope s_inrec) := ⟨rfl, rfl, rfl, by decide +kernel, rfl, by decide +kernel, by decide +kernel⟩
theorem ok_inrec {f ff : Addr} {fd df : FuncData} {L n : Nat} (F : Fun K "_trouble_in_record" "_trouble_in_record" s_inrec f fd) (T : BlT mg) (D_first_trouble : Def P w K mg base "_first_trouble" (n + 4) P_first (spFirst K TC ED L) ff df) : FnOk P w K mg base CX0 (n + 5) f fd P_inrec (spInRec K TC ED (L + 1)) := by
  refine F.ok sc_inrec (fun vs H Q E h => ?_) (fun cdv A outer s H vs Q E hr h => ?_)
  · obtain ⟨b, rows, fs, v, pw, kvs, ps, n, m, rfl, _⟩ := h
    rfl
  obtain ⟨b, rows, fs, v, pw, kvs, ps, n', m, rfl, lt, deep, hb, tys, dv, vd, dp, room, q⟩ := h
  refine ⟨_, (pss_cons (ps_set (i := 3) sc_inrec.nd rfl (Or.inr rfl) (pe_lc (own := [("name", 7), ("part", 8)]) (g := (gTup K 2 (gCons (gName 7) (gCons (gName 8) gNil)))) (tt := tYes) rfl sc_inrec.nd (pi_tup (pv 0)) (blkOk_by (own := [("name", 7), ("part", 8)]) (N := N_inrec) (sc := defScope s_inrec) (by decide +kernel)) (fun _ _ _ _ _ => (pg_tup rfl (pgs_cons (pg_name (i := 7) sc_inrec.nd rfl (Or.inl rfl)) (pgs_cons (pg_name (i := 8) sc_inrec.nd rfl (Or.inl rfl)) pgs_nil)))) (fun _ _ _ _ _ => pts_nil) (fun _ _ _ _ _ => (pv 7))))
    (pss_cons (ps_if (pt_val (pe_callB (cr_any rfl) (by rfl) T.any (by decide +kernel) (pa_cons (pe_lock (pe_lc (own := [("name", 7)]) (g := (gName 7)) (tt := tYes) rfl sc_inrec.nd (pi_keys (pv 1)) (blkOk_by (own := [("name", 7)]) (N := N_inrec) (sc := defScope s_inrec) (by decide +kernel)) (fun _ _ _ _ _ => (pg_name (i := 7) sc_inrec.nd rfl (Or.inl rfl))) (fun _ _ _ _ _ => pts_nil) (fun _ _ _ _ _ => (pe_cmpR (op_notInK K rfl) (pv 7) (pv 3) (by with_unfolding_all rfl))))) pa_nil)))
      (pss_one (ps_ret (pv 2)))
      pss_nil)
    (pss_cons (ps_for PassesOwn.never rfl (pi_tup (pv 0)) (pg_tup rfl (pgs_cons (pg_name (i := 4) sc_inrec.nd rfl (Or.inl rfl)) (pgs_cons (pg_name (i := 5) sc_inrec.nd rfl (Or.inl rfl)) pgs_nil)))
      (pss_cons (ps_if (pt_cmp (pc_dnotin (hu_of hr) (pv 4) (pv 1)))
      (pss_one (ps_ret (pe_op op_catA (pv 2) (pe_tup (pa_cons (pv 4) pa_nil)))))
      pss_nil)
    (pss_cons (ps_set (i := 6) sc_inrec.nd rfl (Or.inl rfl) (pe_call D_first_trouble.ok (hr.mono (by first | decide | omega)) rfl D_first_trouble.g D_first_trouble.kp D_first_trouble.b .nil pass0 (pa_cons (pv 5) (pa_cons (pe_dget (hu_of hr) (pv 1) (pv 4) (fun _ _ => rfl)) (pa_cons (pe_op op_catA (pv 2) (pe_tup (pa_cons (pv 4) pa_nil))) pa_nil)))))
    (pss_one (ps_if (pt_cmpR op_notN (pv 6) pe_non (nomark _))
      (pss_one (ps_ret (pv 6)))
      pss_nil)))))
    (pss_one (ps_ret pe_non))))), ?_⟩
  have fl : fs.length < 4000 := by
    cases deep with
    | plain p => cases p
    | rcd l _ => exact l
  have rl := tys.length
  obtain ⟨n0, ln, dfs⟩ : ∃ n0, n0 + 1 = n' ∧ ∀ q ∈ fs, DeepT n0 q.2 := by
    cases deep with
    | plain p => cases p
    | rcd _ d => exact ⟨_, rfl, d⟩
  cases dv with
  | @dct e kvs0 _ he hkv =>
  obtain ⟨m, hv⟩ : ∃ m', (kvs.length ≤ 100 ∧ (kvs.map (·.1)).Nodup ∧ ∀ kv ∈ kvs, KeyOk kv.1) ∧ ∀ kv ∈ kvs, Vd m' kv.2 := by
    cases m with
    | zero => simp [Vd] at vd
    | succ m => exact ⟨m, by simpa only [Vd] using vd⟩
  refine ⟨_, rfl, b, rfl, ⟨_, SqT.of hb⟩, fun D new => ?_⟩
  refine lc_it (g := gTup K 2 (gCons (gName 7) (gCons (gName 8) gNil))) (tt := tYes) (vs := [7, 8]) (te := tVar 7) (walk_tup (K := K) (a := b) (xs := rows))
    (fun i G => Same H G ∧ G D = some (.lst ((fs.take i).map fun q => .str q.1))) ⟨same_new new _, upd_same⟩ (fun i G _ p => SqT.of (p.1 _ _ hb)) ?_ ?_
  · rintro j x G3 G hj ⟨keptD, made⟩ ⟨rfl, hx⟩
    obtain ⟨c, n, u, t, rfl, ef, hc, ht⟩ := tys.get hx
    refine ⟨c, _, rfl, SqT.of (keptD _ _ hc), rfl, _, _, rfl, _, _, rfl, rfl, rfl, yesT ?_⟩
    refine ⟨_, rfl, _, made, ?_, Same.updNew keptD new, ?_⟩
    · rw [List.length_map, List.length_take, sizeLine_eq]
      omega
    · have e : fs.take (j + 1) = fs.take j ++ [(n, t)] := by
        rw [List.take_succ, ef]
        rfl
      rw [upd_same, e, List.map_append]
      rfl
  · rintro G ⟨keptD, made⟩
    rw [tys.length, List.take_length] at made
    have he1 := keptD _ _ he
    have lenk := DqKv.length hkv
    refine ⟨e, _, he1, trivial, fun od => ⟨_, rfl, e, od, rfl, .inl ⟨kvs0, upd_same, fun D2 hD => ?_⟩⟩⟩
    have hDe : D2 ≠ e := fun z => by
      rw [z, upd_same] at hD
      cases hD
    have De : D ≠ e := fun z => by
      rw [z, he] at new
      cases new
    have madeU : upd G e (.frz od (.dK kvs0)) D = some (.lst (fs.map fun q => .str q.1)) := (upd_ne De).trans made
    refine lc_it (te := tOp (rIn K true) (tVar 7) (tVar 3)) walk_keys (fun i G2 => Same (upd G e (.frz od (.dK kvs0))) G2 ∧ G2 D2 = some (.lst ((kvs.take i).map fun kv => .bl (!fs.any fun q => isKey kv.1 q.1)))) ⟨same_new hD _, upd_same⟩ (fun i G _ p => p.1 _ _ upd_same) ?_ ?_
    · rintro i x G2 G3 hi ⟨kept, made2⟩ ⟨rfl, k, v, hkv', rfl⟩
      obtain ⟨d, e1, e2⟩ := DqKv.get hkv hkv'
      refine ⟨rfl, yesT ?_⟩
      have flat : (fs.map fun q => V.str q.1).all flatV = true := by
        rw [List.all_map]
        exact List.all_eq_true.mpr fun _ _ => rfl
      have same : inV (kV k) (fs.map fun q => V.str q.1) = fs.any fun q => isKey (keyD k) q.1 := by
        unfold inV
        rw [List.any_map]
        congr 1
        funext q
        cases k with
        | inl j =>
          show eqV (.str q.1) (.int j) = false
          unfold eqV
          rfl
        | inr z =>
          show eqV (.str q.1) (.str z) = decide (z = q.1)
          unfold eqV
          rw [Bool.eq_iff_iff, decide_eq_true_eq]
          simp
          exact eq_comm
      have flatk : flatV (kV k) = true := by cases k <;> rfl
      refine ⟨_, rfl, _, rfl, D, _, rfl, .inl (SqL.of (kept _ _ madeU)), flatk, flat, _, made2, ?_, Same.updNew kept hD, ?_⟩
      · rw [List.length_map, List.length_take, sizeLine_eq]
        omega
      · have e : kvs.take (i + 1) = kvs.take i ++ [(keyD k, d)] := by
          rw [List.take_succ, e1]
          rfl
        rw [upd_same, e, List.map_append]
        show some (HO.lst (_ ++ [V.bl (!inV (kV k) (fs.map fun q => V.str q.1))])) = _
        rw [same]
        rfl
    · rintro G2 ⟨kept, made2⟩
      rw [lenk, List.take_length] at made2
      refine ⟨kept _ _ upd_same, D2, kvs.map fun kv => !fs.any fun q => isKey kv.1 q.1, rfl, SqL.of (by rw [upd_ne hDe, made2, List.map_map]; rfl), ?_⟩
      have sG : Same G (upd G2 e (.dK kvs0)) := Same.unlock kept he1
      have any' : ((kvs.map fun kv => !fs.any fun q => isKey kv.1 q.1).any id) = !kvs.all fun kv => fs.any fun q => isKey kv.1 q.1 := by
        rw [List.any_map, List.not_all_eq_any_not]
        rfl
      rw [any']
      generalize hG3 : upd G2 e (.dK kvs0) = G3 at sG
      clear hG3 kept made2
      cases all : kvs.all fun kv => fs.any fun q => isKey kv.1 q.1 with
      | false =>
        refine ⟨_, rfl, if_tt rfl ⟨_, rfl, q G3 pw (keptD.trans sG) ?_⟩⟩
        simp only [tr]
        rw [all]
        exact .some (Dq.same (keptD.trans sG) _ _ dp)
      | true =>
        refine ⟨_, rfl, if_ff rfl ?_⟩
        have goal : tr (.rcd fs) (.dict kvs) ps = trF fs kvs ps := by
          simp only [tr]
          rw [all]
          rfl
        rw [goal] at q
        have k3 := keptD.trans sG
        refine ⟨_, rfl, b, rfl, ⟨_, SqT.of (k3 _ _ hb)⟩, ?_⟩
        refine for_it (walk_tup (K := K) (a := b) (xs := rows)) (fun i σ G4 => (∃ o4 o5 o6, σ = [some (.ref b), some (.ref e), some pw, some (.ref D), o4, o5, o6, none, none]) ∧ Same G3 G4 ∧ trF fs kvs ps = trF (fs.drop i) kvs ps) ⟨⟨none, none, none, rfl⟩, Same.refl _, rfl⟩ (fun i σ G4 _ p => SqT.of (p.2.1 _ _ (k3 _ _ hb))) ?_ ?_
        · rintro i x σ G4 G5 hi ⟨⟨o4, o5, o6, rfl⟩, s4, sameT⟩ ⟨rfl, hx⟩
          obtain ⟨c, n, u, t, rfl, ef, hc, ht⟩ := tys.get hx
          have k4 := k3.trans s4
          obtain ⟨a2, dx2, vi2, vf2, rfl, _⟩ := ht.obj
          have split : fs.drop i = (n, t) :: fs.drop (i + 1) := List.drop_eq_getElem_cons (by omega : i < fs.length) ▸ by
            rw [List.getElem?_eq_getElem (by omega : i < fs.length)] at ef
            rw [Option.some.inj ef]
          refine ⟨c, _, rfl, SqT.of (k4 _ _ hc), rfl, _, _, rfl, _, _, rfl, rfl, ?_⟩
          have he4 := k4 _ _ he
          refine ⟨_, rfl, _, rfl, e, _, rfl, DGet.k (k := .inr n) he4, _, rfl, ?_⟩
          rcases find_kv n hkv with ⟨v0, k0⟩ | ⟨v, d, v0, k0, dv, kd, km⟩
          · rw [v0]
            refine if_tt rfl ⟨_, rfl, _, rfl, (by show 1 ≤ sizeLine; decide +kernel), fun b' nb => ?_⟩
            refine path_more (Dq.same k4 _ _ dp) (fun _ _ => .str n) (by omega) (fun G6 y s6 dq => q G6 y (k4.trans s6) ?_) nb
            rw [sameT, split]
            simp only [trF]
            rw [k0]
            exact .some dq
          · rw [v0]
            refine if_ff rfl ?_
            have mem := List.mem_of_getElem? ef
            refine ⟨_, rfl, _, rfl, _, rfl, e, v, rfl, .inl ⟨kvs0, .inr n, .inl he4, rfl, v0.symm⟩, _, rfl, _, rfl, (by show 1 ≤ sizeLine; decide +kernel), fun b' nb => ?_⟩
            refine path_more (Dq.same k4 _ _ dp) (fun _ _ => .str n) (by omega) (fun G6 pw' s6 dq' => ?_) nb
            refine ⟨a2, t, v, pw', d, _, n0, m, rfl, by omega, dfs _ mem, TyAt.same (k4.trans s6) _ _ ht, Dq.same (k4.trans s6) _ _ dv, hv.2 _ km, dq', by rw [List.length_append]; show ps.length + 1 + n0 ≤ 500; omega, fun G7 y s7 told => ?_⟩
            refine ⟨_, rfl, rfl, _, rfl, ?_⟩
            have step : trF (fs.drop i) kvs ps = match tr t d (ps ++ [.str n]) with | some e => some e | none => trF (fs.drop (i + 1)) kvs ps := by
              rw [split]
              simp only [trF]
              rw [k0]
              all_goals (dsimp only; generalize tr t d (ps ++ [.str n]) = o; cases o <;> rfl)
            have s47 : Same G3 G7 := s4.trans (s6.trans s7)
            cases h : tr t d (ps ++ [.str n]) with
            | none =>
              rw [h] at told step
              cases told
              refine if_ff rfl ⟨⟨_, _, _, rfl⟩, s47, sameT.trans step⟩
            | some e' =>
              rw [h] at told step
              cases told with
              | some dqe =>
                cases dqe with
                | tup hh hall =>
                  refine if_tt rfl ⟨_, rfl, q G7 _ (k3.trans s47) ?_⟩
                  rw [sameT.trans step]
                  exact .some (.tup hh hall)
        · rintro σ G4 ⟨_, s4, sameT⟩
          refine q G4 .non (k3.trans s4) ?_
          rw [sameT, rl, List.drop_length]
          simp only [trF]
          exact .none
end
end KX

namespace KX
open PySem PySem.Spec L2 PyProof.Rows
/-! ### the parts of a tuple, each with its index -/
abbrev Gives (xs : List V) (i : Nat) (H : Hp) (v : V) (G : Hp) : Prop := ∃ c x, xs[i]? = some x ∧ v = .ref c ∧ H c = none ∧ G = upd H c (.tup [.int (i : Nat), x])
def Numbered (K : PySem.W.Frag) (a : Addr) (xs : List V) : It :=
  ⟨fun i H => SqT K H a xs ∧ i < xs.length, Gives xs, fun i H => SqT K H a xs ∧ i = xs.length⟩
theorem walk_numbered {K : PySem.W.Frag} {a : Addr} {xs : List V} : Walk (Numbered K a xs) xs.length (fun H => SqT K H a xs) (Gives xs) where
  goes _ _ few h := ⟨h, few⟩
  stops _ h := ⟨h, rfl⟩
  yields _ _ _ _ _ _ y := y
theorem turn_numbered {P : Program} {w : World} {K : PySem.W.Frag} {elts : List Expr} {kk : Nat} {tpos : Pos} {a e it : Addr} (xs : List V) (apart : e ≠ it) (far : a ≠ it) (off : e ≠ a) :
    Turn P w K (.Tuple elts kk tpos) (Numbered K a xs) [e, it] e fun i h => (∃ old, IsEnum h e it ((i : Nat) : Int) old) ∧ h.IsTupleIter it a i := by
  have out : e ∉ [it, a] := by simp [apart, off]
  refine ⟨by simp, fun i h st b hb => ?_, fun i h h' st k => ?_, ?_, ?_, ?_⟩
  · obtain ⟨⟨_, laid⟩, o, there, _, what⟩ := st
    rcases List.mem_cons.mp hb with rfl | hb
    · exact ⟨_, laid, fun _ z => (nomatch z)⟩
    · rw [List.mem_singleton.mp hb]
      exact ⟨o, there, fun _ z => by rw [what] at z; cases z⟩
  · exact ⟨st.1.imp fun _ laid => k e (by simp) _ laid, st.2.at fun o z => k it (by simp) o z⟩
  · intro X eP ew eK calm i pins s σ H E I free st go
    subst eP ew eK
    obtain ⟨its, rv, isT, _⟩ := I.tuple go.1
    have len := rv.length
    have W := WalksT.enumerateD (Draws.tuple (prog := X.prog) (w := X.w) (A := X.A.in1) (I.ok.hd calm) it a far its.toArray) e apart out (by simp)
    refine W.item i s _ _ (by have := go.2; simp; omega) ⟨st.1, st.2, isT⟩ fun c vals h' tk what new isC mid keep => ⟨_, rfl, W.go _ _ _ i c _ _ _ mid fun h2 st2 keep2 => ?_⟩
    obtain ⟨t, x, at', rfl⟩ := what
    have hy := List.getElem?_eq_getElem go.2
    obtain ⟨u, hu, ru⟩ := rv.get hy
    have eu : u = x := by
      have : its.toArray[i]? = its[i]? := by simp
      rw [this, hu] at at'
      exact Option.some.inj at'
    subst eu
    have nc := W.apart i c _ mid
    have stays : ∀ b o, b ∉ [e, it] → s.heap.get? b = some o → h2.get? b = some o := fun b o n z => keep2 b o n (keep b o n z)
    have isC2 : h2.IsTuple c #[.int i t, u] := isC.at fun o z => keep2 c o nc z
    have I1 : Inv X pins σ (upd H c (.tup [.int (i : Nat), xs[i]'go.2])) { s with heap := h2, toks := tk } :=
      I.turnedNew stays free new ⟨by show 2 ≤ sizeLine; decide +kernel, [.int i t, u], .cons ⟨_, rfl⟩ (.cons ru .nil), isC2⟩
    refine ⟨.ref c, _, I1, rfl, ⟨c, _, hy, rfl, I.hok.fresh new, rfl⟩, ⟨st2.1, st2.2.1⟩, fun b hb => ?_⟩
    rw [upd_ne (fun z : b = c => nc (by rw [← z]; exact hb))]
    exact (free b hb).1
  · intro X eP ew eK calm i pins s σ H E I free st stop
    subst eP ew eK
    obtain ⟨its, rv, isT, _⟩ := I.tuple stop.1
    have len := rv.length
    have W := WalksT.enumerateD (Draws.tuple (prog := X.prog) (w := X.w) (A := X.A.in1) (I.ok.hd calm) it a far its.toArray) e apart out (by simp)
    have all : its.toArray.size = i := by have := stop.2; simp; omega
    refine W.done s _ _ (by rw [all]; exact ⟨st.1, st.2, isT⟩) fun h' tk keep => ⟨rfl, I.turnedL keep free⟩
  · rintro A i s Q E ⟨⟨_, laid⟩, _⟩ q
    exact wpAny_pyIter_enum laid q
def iNumbered (K : PySem.W.Frag) (ta : TA) : TI := fun σ H R => ta σ H fun vs G => ∃ a xs, vs = [.ref a] ∧ SqT K G a xs ∧ R (Numbered K a xs) G
/-- what enumerate lays for a tuple -/
abbrev tupIt (a : Addr) : Obj := { cls := .type "tuple_iterator", data := .fields #[.ref a, .int 0 0] }
abbrev enumIt (it : Addr) : Obj := { cls := .type "enumerate", data := .fields #[.none, .bool false, .ref it, rawInt 0, .none, .none] }
theorem meets_enumT (a : Addr) (items : Array Value) : Meets (Builtin.«enumerate.__new__» ⟨[.type "enumerate", .ref a], []⟩)
    (fun _ R s => s.heap.IsTuple a items ∧ R (.ok (.ret (.ref (s.heap.push (tupIt a)).objs.size))) { s with heap := (s.heap.push (tupIt a)).push (enumIt s.heap.objs.size) }) := by
  refine .of_wp fun prog w A R s h => ?_
  obtain ⟨isT, q⟩ := h
  have begins : ∀ {A' : Around} {E Q : Value → Shared → Prop}, Q (.ref s.heap.objs.size) { s with heap := s.heap.push (tupIt a) } → wpAny (model prog w) A' (pyIter (.ref a)) Q E s :=
    fun q' => (begins_tuple a items).iter prog w _ _ s _ isT q'
  obtain ⟨hp, gs, dr, tk, os⟩ := s
  have known := sub_enumerate
  wp_walk using begins
  refine wpAny_stack_any fun st => wpAny_pure ?_
  split
  · generalize (_ == Value.type "enumerate") = short
    cases short <;> (wp_walk using begins; exact ⟨_, rfl, q⟩)
  · wp_walk using begins
    exact ⟨_, rfl, q⟩
theorem pi_numbered {X : Cx} {e : Expr} {ta : TA} {p pos tpos : Pos} {elts : List Expr} {kk : Nat} (named : Gl X "enumerate") (free : X.mg "enumerate" = none) (arg : PA X [e] ta) (plain : starEach [e] X.env = [(false, eval e X.env)] := by rfl) :
    PI X (.Tuple elts kk tpos) (.Call (.Name "enumerate" p) [e] [] pos) (iNumbered X.K ta) := by
  refine ⟨fun pins s σ H R I h => Call_ (ld_blt I named free boot_enumerate (PyProof.Rows.callWith_type1 (thn (arg.run pos pins s σ H _ I h) fun us s1 got => ?_) plain rfl))⟩
  obtain ⟨_, G, I1, same, a, xs, rfl, tup, q⟩ := got
  obtain ⟨its, rv, isT, _⟩ := I1.tuple tup
  cases same with
  | cons one more =>
    cases more
    cases one
    refine callType_new F.called_enumerate (by decide) (F.typeCall_enumerate_1 _) (F.newCall_enumerate_1 _) (fun obj => F.args_object_init_2 obj _) F.entry_enumerate_new (meets_enumT a its.toArray) ⟨isT, ?_⟩
    generalize hk : s1.heap.objs.size = k
    have up : (s1.heap.push (tupIt a)).objs.size = k + 1 := by rw [Heap.size_push, hk]
    have one : (s1.heap.push (tupIt a)).get? k = some (tupIt a) := by rw [← hk]; exact Heap.get?_push_size _ rfl
    have two : ((s1.heap.push (tupIt a)).push (enumIt k)).get? (k + 1) = some (enumIt k) := by rw [← up]; exact Heap.get?_push_size _ rfl
    have keep : ∀ b o, s1.heap.get? b = some o → ((s1.heap.push (tupIt a)).push (enumIt k)).get? b = some o := fun b o there => Heap.get?_push_of_some _ (Heap.get?_push_of_some _ there)
    show _ ∧ _
    rw [up]
    have below : a < k := by rw [← hk]; exact Heap.lt_size (Classical.choose_spec isT).1
    refine ⟨⟨_, two, rfl⟩, wpAny_pyIter_enum two ⟨k + 1, [k + 1, k], _, _, G, rfl, I1.kept (t' := s1.toks) keep, turn_numbered xs (Nat.succ_ne_self k) (Nat.ne_of_lt below) (Nat.ne_of_gt (Nat.lt_succ_of_lt below)), ⟨⟨_, two⟩, _, Heap.get?_push_of_some _ one, rfl, rfl⟩, fun b hb => ?_, q⟩⟩
    have new : s1.heap.objs.size ≤ b := by
      rw [hk]
      rcases List.mem_cons.mp hb with rfl | hb
      · exact Nat.le_succ k
      · rw [List.mem_singleton.mp hb]
        exact Nat.le_refl k
    exact I1.fpOk new (I1.hok.fresh new)
end KX

namespace KX
open PySem PySem.Spec L2 PyProof.Rows
/-- a key as data and as a value -/
inductive IsKey : PyData → V → Prop
  | str (z : Str) : IsKey (.str z) (.str z)
  | int (i : Int) : IsKey (.int i) (.int i)
theorem IsKey.flat {x : PyData} {v : V} (h : IsKey x v) : flatV v = true := by cases h <;> rfl
theorem IsKey.eqv {x y : PyData} {v u : V} (h : IsKey x v) (g : IsKey y u) : eqV u v = PyData.eqv x y := by
  cases h with
  | str a => cases g with
    | str b =>
      unfold eqV PyData.eqv
      exact Bool.eq_iff_iff.mpr ⟨fun e => by rw [beq_iff_eq] at e ⊢; exact e.symm, fun e => by rw [beq_iff_eq] at e ⊢; exact e.symm⟩
    | int b =>
      unfold eqV PyData.eqv
      rfl
  | int a => cases g with
    | str b =>
      unfold eqV PyData.eqv
      rfl
    | int b =>
      unfold eqV PyData.eqv
      exact Bool.eq_iff_iff.mpr ⟨fun e => by rw [beq_iff_eq] at e ⊢; exact e.symm, fun e => by rw [beq_iff_eq] at e ⊢; exact e.symm⟩
inductive AllKeys : List PyData → List V → Prop
  | nil : AllKeys [] []
  | cons {x : PyData} {v : V} {xs : List PyData} {vs : List V} : IsKey x v → AllKeys xs vs → AllKeys (x :: xs) (v :: vs)
theorem AllKeys.snoc {x : PyData} {v : V} (h : IsKey x v) : ∀ {xs : List PyData} {vs : List V}, AllKeys xs vs → AllKeys (xs ++ [x]) (vs ++ [v])
  | _, _, .nil => .cons h .nil
  | _, _, .cons a t => .cons a (t.snoc h)
theorem AllKeys.flat : ∀ {xs : List PyData} {vs : List V}, AllKeys xs vs → vs.all flatV = true
  | _, _, .nil => rfl
  | _, _, .cons a t => by rw [List.all_cons, a.flat, t.flat]; rfl
theorem AllKeys.any {x : PyData} {v : V} (h : IsKey x v) : ∀ {xs : List PyData} {vs : List V}, AllKeys xs vs → inV v vs = xs.any fun y => PyData.eqv x y
  | _, _, .nil => rfl
  | _, _, .cons a t => by
    have more := t.any h
    unfold inV at more ⊢
    rw [List.any_cons, List.any_cons, h.eqv a, more]
/-- the keys of the rows ahead -/
def KeyRows (H : Hp) (k : Str) (rows : List V) (xs : List PyData) (vs : List V) : Prop :=
  AllKeys xs vs ∧ ∀ (j : Nat) (v : V), vs[j]? = some v → ∃ (a : Addr) (kvs : List (Key × V)), rows[j]? = some (V.ref a) ∧ H a = some (.dK kvs) ∧ valV kvs (.inr k) = some v
theorem KeyRows.same {H H' : Hp} {k : Str} {rows : List V} {xs : List PyData} {vs : List V} (h : KeyRows H k rows xs vs) (s : Same H H') : KeyRows H' k rows xs vs :=
  ⟨h.1, fun j v e => (h.2 j v e).imp fun a r => r.imp fun kvs r => ⟨r.1, s _ _ r.2.1, r.2.2⟩⟩
theorem cutV_upTo {xs : List V} {i : Nat} (h : i ≤ xs.length) : cutV xs none (some (i : Int)) = xs.take i := by
  unfold cutV
  rw [HT.sIx_none, HT.sIx_nat, List.drop_zero, Nat.sub_zero, Nat.min_eq_left h]
theorem key_there {n : Str} {u : Ty} {kvs : List (PyData × PyData)} {p : List PyData} : ∀ {fs : List (Str × Ty)}, trF fs kvs p = none → (n, u) ∈ fs → ∃ x q, keyIn kvs n = some x ∧ tr u x q = none
  | [], _, h => nomatch h
  | (m, t) :: r, e, h => by
    simp only [trF] at e
    rcases List.mem_cons.mp h with z | z
    · cases z
      cases k : keyIn kvs n with
      | none => rw [k] at e; cases e
      | some d =>
        rw [k] at e
        dsimp only at e
        cases g : tr u d (p ++ [.str n]) with
        | none => exact ⟨d, _, rfl, g⟩
        | some y => rw [g] at e; cases e
    · cases k : keyIn kvs m with
      | none => rw [k] at e; cases e
      | some d =>
        rw [k] at e
        dsimp only at e
        cases g : tr t d (p ++ [.str m]) with
        | none => rw [g] at e; exact key_there e z
        | some y => rw [g] at e; cases e
theorem key_kind {u : Ty} (k : keyT u = true) {x : PyData} {q : List PyData} (h : tr u x q = none) : (∃ z, x = .str z) ∨ ∃ i, x = .int i := by
  cases u with
  | text =>
    simp only [tr] at h
    cases x with
    | str z => exact .inl ⟨z, rfl⟩
    | tuple ds =>
      rw [if_neg (by
        simp only [kindS]
        by_cases le : ds.length ≤ 60
        · rw [if_pos le]
          decide
        · rw [if_neg le]
          decide)] at h
      cases h
    | dict kvs =>
      rw [if_neg (by
        simp only [kindS]
        by_cases le : (kvs.all fun kv => nameK kv.1) = true
        · rw [if_pos le]
          decide
        · rw [if_neg le]
          decide)] at h
      cases h
    | _ => rw [if_neg (by simp only [kindS]; decide)] at h; cases h
  | number =>
    simp only [tr] at h
    cases x with
    | int i => exact .inr ⟨i, rfl⟩
    | tuple ds =>
      rw [if_neg (by
        simp only [kindS]
        by_cases le : ds.length ≤ 60
        · rw [if_pos le]
          decide
        · rw [if_neg le]
          decide)] at h
      cases h
    | dict kvs =>
      rw [if_neg (by
        simp only [kindS]
        by_cases le : (kvs.all fun kv => nameK kv.1) = true
        · rw [if_pos le]
          decide
        · rw [if_neg le]
          decide)] at h
      cases h
    | _ => rw [if_neg (by simp only [kindS]; decide)] at h; cases h
  | _ => cases k
section
variable {base : Heap} {P : Program} {w : World} {K : PySem.W.Frag} {mg : Str → Option Value} {tk : Str → Tok} {TC ED RC : Addr}
theorem sl_tupAK {X : Cx} (K : PySem.W.Frag) (h : X.K = K) : SlR X (rSlA K) := by
  subst h
  exact sl_tupA
def keyV : Option Str → V
  | none => .non
  | some k => .str k
abbrev s_inlist : Stmt := top 36
abbrev N_inlist : List Str := ["wanted", "rows", "path", "index", "row", "found", "earlier"]
abbrev P_inlist : List Str := ["wanted", "rows", "path"]
theorem sc_inlist : FnScope N_inlist P_inlist (defScope s_inlist) := ⟨rfl, rfl, rfl, by decide +kernel, rfl, by decide +kernel, by decide +kernel⟩
theorem ok_inlist {f ff : Addr} {fd df : FuncData} {L n : Nat} (F : Fun K "_trouble_in_list" "_trouble_in_list" s_inlist f fd) (T : BlT mg) (C : TyC K TC) (D_first_trouble : Def P w K mg base "_first_trouble" (n + 4) P_first (spFirst K TC ED L) ff df) : FnOk P w K mg base CX0 (n + 5) f fd P_inlist (spInList K TC ED (L + 1)) := by
  refine F.ok sc_inlist (fun vs H Q E h => ?_) (fun cdv A outer s H vs Q E hr h => ?_)
  · obtain ⟨a, t, v, pw, ds, ps, n', m, rfl, _⟩ := h
    rfl
  obtain ⟨a, t, v, pw, ds, ps, n', m, rfl, lt, deep, kind, at', dv, vd, le, dp, room, q⟩ := h
  refine ⟨_, (pss_cons (ps_for PassesOwn.never rfl (pi_numbered (by rfl) T.enumerate (pa_cons (pv 1) pa_nil)) (pg_tup rfl (pgs_cons (pg_name (i := 3) sc_inlist.nd rfl (Or.inl rfl)) (pgs_cons (pg_name (i := 4) sc_inlist.nd rfl (Or.inl rfl)) pgs_nil)))
      (pss_cons (ps_set (i := 5) sc_inlist.nd rfl (Or.inl rfl) (pe_call D_first_trouble.ok (hr.mono (by first | decide | omega)) rfl D_first_trouble.g D_first_trouble.kp D_first_trouble.b .nil pass0 (pa_cons (pe_fld (pv 0) rfl) (pa_cons (pv 4) (pa_cons (pe_op op_catA (pv 2) (pe_tup (pa_cons (pv 3) pa_nil))) pa_nil)))))
    (pss_cons (ps_if (pt_cmpR op_notN (pv 5) pe_non (nomark _))
      (pss_one (ps_ret (pv 5)))
      pss_nil)
    (pss_one (ps_if (PW.pt (pw_and (pt_cmpR op_notN (pe_fld (pv 0) rfl) pe_non (nomark _)) (pw_and1 (pt_cmpR (op_inK K rfl) (pe_dget (hu_of hr) (pv 4) (pe_fld (pv 0) rfl) (fun _ _ => rfl)) (pe_lc (own := [("earlier", 6)]) (g := (gName 6)) (tt := tYes) rfl sc_inlist.nd (pi_tup (pe_slice (sl_tupAK K rfl) (pv 1) po_none (po_some (pv 3)))) (blkOk_by (own := [("earlier", 6)]) (N := N_inlist) (sc := defScope s_inlist) (by decide +kernel)) (fun _ _ _ _ _ => (pg_name (i := 6) sc_inlist.nd rfl (Or.inl rfl))) (fun _ _ _ _ _ => pts_nil) (fun _ _ _ _ _ => (pe_dget (hu_of hr) (pv 6) (pe_fldK K rfl (pv 0) rfl) (fun _ _ => rfl)))) (by with_unfolding_all rfl)))))
      (pss_one (ps_ret (pe_op op_catA (pv 2) (pe_tup (pa_cons (pv 3) pa_nil)))))
      pss_nil)))))
    (pss_one (ps_ret pe_non))), ?_⟩
  obtain ⟨u, key, n0, ln, du, goal, part, keyv, keyed⟩ : ∃ (u : Ty) (key : Option Str) (n0 : Nat), n0 + 1 = n' ∧ DeepT n0 u ∧ tr t (.tuple ds) ps = rowsT (fun x q => tr u x q) key ds 0 [] ps ∧ (partsT t).1 = some u ∧ (partsT t).2 = keyV key ∧ ∀ k, key = some k → ∃ fs x, u = .rcd fs ∧ (k, x) ∈ fs ∧ keyT x = true := by
    cases deep with
    | plain p => cases t <;> first | exact absurd kind (by simp only [kindW]; decide) | cases p
    | opt d => exact absurd kind (by simp only [kindW]; decide)
    | list d => exact ⟨_, none, _, rfl, d, by simp only [tr]; exact if_pos le, rfl, rfl, fun k e => nomatch e⟩
    | keyed h d => exact ⟨_, some _, _, rfl, d, by simp only [tr]; exact if_pos le, rfl, rfl, fun k e => by cases e; exact h⟩
    | rcd _ d => exact absurd kind (by simp only [kindW]; decide)
  rw [goal] at q
  obtain ⟨a0, dx, vi, vf, e0, hrow, inner, _, _⟩ := at'.obj
  obtain rfl := V.ref.inj e0
  have ht := inner u part
  rw [keyv] at hrow
  obtain ⟨a2, dx2, vi2, vf2, rfl, _⟩ := ht.obj
  cases dv with
  | @tup va rows _ hb all =>
  have rl := all.length
  obtain ⟨m0, em, vd'⟩ : ∃ m0, ds.length ≤ 100 ∧ ∀ x ∈ ds, Vd m0 x := by
    cases m with
    | zero => simp [Vd] at vd
    | succ m => exact ⟨m, by simpa only [Vd] using vd⟩
  refine ⟨_, rfl, va, rows, rfl, SqT.of hb, ?_⟩
  refine for_it (walk_numbered (K := K) (a := va) (xs := rows)) (fun i σ G => (∃ o3 o4 o5, σ = [some (.ref a), some (.ref va), some pw, o3, o4, o5, none]) ∧ Same H G ∧ ∃ xs vs, (∀ k, key = some k → vs.length = i ∧ KeyRows G k rows xs vs) ∧ rowsT (fun x q => tr u x q) key ds 0 [] ps = rowsT (fun x q => tr u x q) key (ds.drop i) i xs ps) ⟨⟨none, none, none, rfl⟩, Same.refl _, [], [], fun k _ => ⟨rfl, .nil, fun j v h => by simp at h⟩, rfl⟩ (fun i σ G4 _ p => SqT.of (p.2.1 _ _ hb)) ?_ ?_
  · rintro i x σ G G2 hi ⟨⟨o3, o4, o5, rfl⟩, s1, xs, vs, kr, sameT⟩ ⟨c, y, hx, rfl, nc, rfl⟩
    have s2 := s1.trans (same_new nc (.tup [.int (i : Nat), y]))
    obtain ⟨d, ed, dy⟩ := all.get hx
    refine ⟨c, _, rfl, SqT.of upd_same, rfl, _, _, rfl, _, _, rfl, rfl, ?_⟩
    have sG : Same G (upd G c (.tup [.int (i : Nat), y])) := same_new nc _
    generalize upd G c (.tup [.int (i : Nat), y]) = G2 at s2 sG
    have split : ds.drop i = d :: ds.drop (i + 1) := List.drop_eq_getElem_cons (by omega : i < ds.length) ▸ by
      rw [List.getElem?_eq_getElem (by omega : i < ds.length)] at ed
      rw [Option.some.inj ed]
    refine ⟨_, rfl, a, TC, dx, _, _, rfl, s2 _ _ hrow, C.cl, C.inner, rfl, _, rfl, _, rfl, _, rfl, (by show 1 ≤ sizeLine; decide +kernel), fun b' nb => ?_⟩
    refine path_more (Dq.same s2 _ _ dp) (fun _ _ => .int (i : Nat)) (by omega) (fun G3 pw' s3 dq' => ?_) nb
    have s23 := s2.trans s3
    refine ⟨a2, u, y, pw', d, _, n0, m0, rfl, by omega, du, TyAt.same s23 _ _ ht, Dq.same s23 _ _ dy, vd' _ (List.mem_of_getElem? ed), dq', by rw [List.length_append]; show ps.length + 1 + n0 ≤ 500; omega, fun G4 z s4 told => ?_⟩
    have s24 := s23.trans s4
    refine ⟨_, rfl, rfl, _, rfl, ?_⟩
    rw [split] at sameT
    simp only [rowsT] at sameT
    cases h : tr u d (ps ++ [.int (i : Nat)]) with
    | some e' =>
      rw [h] at told sameT
      cases told with
      | some dqe =>
        cases dqe with
        | tup hh hall =>
          refine if_tt rfl ⟨_, rfl, q G4 _ s24 ?_⟩
          rw [sameT]
          exact .some (.tup hh hall)
    | none =>
      rw [h] at told sameT
      cases told
      refine if_ff rfl ?_
      have row4 := s24 _ _ hrow
      refine ⟨_, rfl, a, TC, dx, _, _, rfl, row4, C.cl, C.key, rfl, rfl, _, rfl, ?_⟩
      cases key with
      | none => exact if_ff rfl ⟨⟨_, _, _, rfl⟩, s24, xs, vs, (fun k e => nomatch e), sameT⟩
      | some k =>
        refine if_tt rfl ?_
        obtain ⟨fs, x0, rfl, mem, kt⟩ := keyed k rfl
        obtain ⟨len, kr⟩ := kr k rfl
        dsimp only at sameT
        cases dy with
        | @dct e kvs kds he hk =>
        simp only [tr] at h
        by_cases all' : (kds.all fun kv => fs.any fun q => isKey kv.1 q.1) = true
        · rw [if_pos all'] at h
          obtain ⟨x, q', kx, tx⟩ := key_there h mem
          rcases find_kv k hk with ⟨_, no⟩ | ⟨v, x1, v0, k1, dv, _, _⟩
          · rw [no] at kx
            cases kx
          obtain rfl : x1 = x := Option.some.inj (k1.symm.trans kx)
          have ik : IsKey x1 v := by
            rcases key_kind kt tx with ⟨z, rfl⟩ | ⟨i, rfl⟩
            · cases dv
              exact .str z
            · cases dv
              exact .int i
          refine ⟨_, rfl, _, rfl, a, TC, dx, _, _, rfl, row4, C.cl, C.key, rfl, e, v, rfl, .inl ⟨kvs, .inr k, .inl (s24 _ _ he), rfl, v0.symm⟩, ?_⟩
          refine ⟨_, rfl, _, rfl, _, rfl, va, rows, rfl, SqT.of (s24 _ _ hb), fun whole => ?_, fun _ p np => ?_⟩
          · rw [HT.sIx_nat] at whole
            omega
          rw [cutV_upTo (by omega)]
          have s5 := s24.trans (same_new np (.tup (rows.take i)))
          have lent : (rows.take i).length = i := by
            rw [List.length_take]
            omega
          refine ⟨p, rfl, ⟨_, SqT.of upd_same⟩, fun D new => ?_⟩
          have kr5 := kr.same (sG.trans (s3.trans (s4.trans (same_new np (.tup (rows.take i))))))
          generalize hG5 : upd G4 p (.tup (rows.take i)) = G5 at s5 kr5 new
          have hp5 : G5 p = some (.tup (rows.take i)) := by rw [← hG5]; exact upd_same
          have sG5 : Same G4 G5 := by rw [← hG5]; exact same_new np _
          refine lc_it (walk_tup (K := K) (a := p) (xs := rows.take i)) (fun j G6 => Same G5 G6 ∧ G6 D = some (.lst (vs.take j))) ⟨same_new new _, upd_same⟩ (fun j G6 _ h => SqT.of (h.1 _ _ hp5)) ?_ ?_
          · rintro j r G6 G7 hj ⟨s6, made⟩ ⟨rfl, hr'⟩
            have lj : j < vs.length := by omega
            obtain ⟨ar, kvr, e1, e2, e3⟩ := kr5.2 j _ (List.getElem?_eq_getElem lj)
            rw [List.getElem?_take, if_pos (by omega), e1] at hr'
            obtain rfl := Option.some.inj hr'
            refine ⟨rfl, yesT ?_⟩
            refine ⟨_, rfl, _, rfl, a, TC, dx, _, _, rfl, s6 _ _ (s5 _ _ hrow), C.cl, C.key, rfl, ar, _, rfl, .inl ⟨kvr, .inr k, .inl (s6 _ _ e2), rfl, e3.symm⟩, _, made, ?_, Same.updNew s6 new, ?_⟩
            · rw [List.length_take]
              exact less_line (by omega)
            · rw [upd_same, List.take_succ, List.getElem?_eq_getElem lj]
              rfl
          · rintro G6 ⟨s6, made⟩
            rw [lent, List.take_of_length_le (by omega)] at made
            refine ⟨D, _, rfl, .inl (SqL.of made), ik.flat, kr.1.flat, ?_⟩
            rw [kr.1.any ik]
            dsimp only at sameT
            rw [kx] at sameT
            dsimp only at sameT
            have s26 := s5.trans s6
            cases hit : xs.any fun y => PyData.eqv x1 y with
            | true =>
              rw [hit, if_pos rfl] at sameT
              refine ⟨_, rfl, if_tt rfl ?_⟩
              refine ⟨_, rfl, _, rfl, (by show 1 ≤ sizeLine; decide +kernel), fun b'' nb' => ?_⟩
              refine path_more (Dq.same s26 _ _ dp) (fun _ _ => .int (i : Nat)) (by omega) (fun G8 y s8 dq => q G8 y (s26.trans s8) ?_) nb'
              rw [sameT]
              exact .some dq
            | false =>
              rw [hit, if_neg (by decide)] at sameT
              refine ⟨_, rfl, if_ff rfl ⟨⟨_, _, _, rfl⟩, s26, xs ++ [x1], vs ++ [v], fun k' e => ?_, sameT⟩⟩
              cases e
              have kr6 := kr5.same s6
              refine ⟨by rw [List.length_append, len]; rfl, kr6.1.snoc ik, fun j v' e => ?_⟩
              by_cases lj : j < vs.length
              · rw [List.getElem?_append_left lj] at e
                exact kr6.2 j v' e
              · rw [List.getElem?_append_right (by omega)] at e
                have ej : j = vs.length := by
                  cases hz : j - vs.length with
                  | zero => omega
                  | succ z => rw [hz] at e; simp at e
                subst ej
                rw [Nat.sub_self] at e
                obtain rfl := Option.some.inj e
                exact ⟨_, kvs, by rw [len]; exact hx, s6 _ _ (sG5 _ _ (s24 _ _ he)), v0⟩
        · rw [if_neg all'] at h
          cases h
        | _ =>
          simp only [tr] at h
          cases h
  · rintro σ G4 ⟨_, s4, xs, vs, _, sameT⟩
    refine q G4 .non s4 ?_
    rw [sameT, rl, List.drop_length]
    simp only [rowsT]
    exact .none
end
end KX

namespace KX
open PySem PySem.Spec L2 PyProof.Rows
section
variable {base : Heap} {P : Program} {w : World} {K : PySem.W.Frag} {mg : Str → Option Value} {tk : Str → Tok} {TC ED RC : Addr}
/-- what trouble is told with -/
structure Troubles (P : Program) (w : World) (K : PySem.W.Frag) (mg : Str → Option Value) (base : Heap) (TC f1 f2 f3 f4 : Addr) (d1 d2 d3 d4 : FuncData) : Prop where
  first : At K mg "_first_trouble" s_first P_first f1 d1
  list : At K mg "_trouble_in_list" s_inlist P_inlist f2 d2
  rec' : At K mg "_trouble_in_record" s_inrec P_inrec f3 d3
  kind : Def P w K mg base "kind_of" 3 P_kind_of (spKind K) f4 d4
  C : TyC K TC
  T : BlT mg
theorem Troubles.all {f1 f2 f3 f4 : Addr} {d1 d2 d3 d4 : FuncData} (R : Troubles P w K mg base TC f1 f2 f3 f4 d1 d2 d3 d4) : ∀ L, Def P w K mg base "_first_trouble" (2 * L + 4) P_first (spFirst K TC ED L) f1 d1
  | 0 => R.first.def (R.first.F.ok sc_first (fun vs H Q E h => by
      obtain ⟨a, t, v, pw, d, ps, n, m, rfl, _⟩ := h
      rfl) fun cdv A outer s H vs Q E hr h => by
      obtain ⟨a, t, v, pw, d, ps, n, m, _, lt, _⟩ := h
      exact absurd lt (Nat.not_lt_zero _))
  | L + 1 => by
    have D := R.all L
    exact R.first.def (ok_first (n := 2 * L) R.first.F R.C R.kind D (R.list.def (ok_inlist (n := 2 * L) R.list.F R.T R.C D)) (R.rec'.def (ok_inrec (n := 2 * L) R.rec'.F R.T D)))
abbrev s_trouble : Stmt := inClass (top 23) 2
abbrev N_trouble : List Str := ["self", "value"]
abbrev P_trouble : List Str := ["self", "value"]
theorem sc_trouble : FnScope N_trouble P_trouble (defScope s_trouble) := ⟨rfl, rfl, rfl, by decide +kernel, rfl, by decide +kernel, by decide +kernel⟩
def spTrouble (K : PySem.W.Frag) (TC ED : Addr) : Sp := fun vs H Q _ => ∃ (a : Addr) (t : Ty) (v : V) (d : PyData) (n m : Nat), vs = [.ref a, v] ∧ n < 8 ∧ DeepT n t ∧ TyAt TC ED H (.ref a) t ∧ Dq K H v d ∧ Vd m d ∧
  ∀ (H' : Hp) (y : V), Same H H' → Told' K H' (tr t d []) y → Q y H'
theorem ok_trouble {f g : Addr} {fd gd : FuncData} (F : Fun K "trouble" "Type.trouble" s_trouble f fd) (D_first_trouble : Def P w K mg base "_first_trouble" 20 P_first (spFirst K TC ED 8) g gd) : FnOk P w K mg base CX0 21 f fd P_trouble (spTrouble K TC ED) := by
  refine F.ok sc_trouble (fun vs H Q E h => ?_) (fun cdv A outer s H vs Q E hr h => ?_)
  · obtain ⟨a, t, v, d, n, m, rfl, _⟩ := h
    rfl
  obtain ⟨a, t, v, d, n, m, rfl, lt, deep, at', dv, vd, q⟩ := h
  refine ⟨_, (pss_one (ps_ret (pe_call D_first_trouble.ok (hr.mono (by first | decide | omega)) rfl D_first_trouble.g D_first_trouble.kp D_first_trouble.b .nil pass0 (pa_cons (pv 0) (pa_cons (pv 1) (pa_cons (pe_tup pa_nil) pa_nil)))))), ?_⟩
  refine ⟨_, rfl, _, rfl, (by show 0 ≤ sizeLine; decide +kernel), fun b new => ?_⟩
  have s1 : Same H (upd H b (.tup [])) := same_new new _
  exact ⟨a, t, v, _, d, [], n, m, rfl, lt, deep, TyAt.same s1 _ _ at', Dq.same s1 _ _ dv, vd, .tup upd_same .nil, by show 0 + n ≤ 500; omega, fun H' y s2 told => q H' y (s1.trans s2) told⟩
abbrev s_has : Stmt := inClass (top 23) 3
abbrev N_has : List Str := ["self", "x"]
abbrev P_has : List Str := ["self", "x"]
theorem sc_has : FnScope N_has P_has (defScope s_has) := ⟨rfl, rfl, rfl, by decide +kernel, rfl, by decide +kernel, by decide +kernel⟩
def spHas (K : PySem.W.Frag) (TC ED : Addr) : Sp := fun vs H Q _ => ∃ (a : Addr) (t : Ty) (v : V) (d : PyData) (n m : Nat), vs = [.ref a, v] ∧ n < 8 ∧ DeepT n t ∧ TyAt TC ED H (.ref a) t ∧ Dq K H v d ∧ Vd m d ∧
  ∀ H', Same H H' → Q (.bl (tr t d []).isNone) H'
theorem ok_has {f g : Addr} {fd gd : FuncData} (F : Fun K "__contains__" "Type.__contains__" s_has f fd) (D_first_trouble : Def P w K mg base "_first_trouble" 20 P_first (spFirst K TC ED 8) g gd) : FnOk P w K mg base CX0 21 f fd P_has (spHas K TC ED) := by
  refine F.ok sc_has (fun vs H Q E h => ?_) (fun cdv A outer s H vs Q E hr h => ?_)
  · obtain ⟨a, t, v, d, n, m, rfl, _⟩ := h
    rfl
  obtain ⟨a, t, v, d, n, m, rfl, lt, deep, at', dv, vd, q⟩ := h
  refine ⟨_, (pss_one (ps_ret (pe_cmpR op_isN (pe_call D_first_trouble.ok (hr.mono (by first | decide | omega)) rfl D_first_trouble.g D_first_trouble.kp D_first_trouble.b .nil pass0 (pa_cons (pv 0) (pa_cons (pv 1) (pa_cons (pe_tup pa_nil) pa_nil)))) pe_non (nomark _)))), ?_⟩
  refine ⟨_, rfl, _, rfl, (by show 0 ≤ sizeLine; decide +kernel), fun b new => ?_⟩
  have s1 : Same H (upd H b (.tup [])) := same_new new _
  refine ⟨a, t, v, _, d, [], n, m, rfl, lt, deep, TyAt.same s1 _ _ at', Dq.same s1 _ _ dv, vd, .tup upd_same .nil, by show 0 + n ≤ 500; omega, fun H' y s2 told => ?_⟩
  have q := q H' (s1.trans s2)
  revert told q
  generalize tr t d [] = o
  intro told q
  cases told with
  | none => exact ⟨rfl, by rw [decide_eq_true rfl]; exact q⟩
  | some dq =>
    cases dq with
    | tup _ _ => exact ⟨rfl, by rw [decide_eq_false (by intro z; cases z)]; exact q⟩
end
end KX

namespace KX
open PySem PySem.Spec L2 PyProof.Rows
/-! ### what fits a form has no trouble with its type -/
theorem rows_none {f : PyData → List PyData → Option (List PyData)} {p : List PyData} : ∀ {ds : List PyData} {i : Nat} {ks : List PyData}, (∀ d ∈ ds, ∀ q, f d q = none) → rowsT f none ds i ks p = none
  | [], _, _, _ => by simp only [rowsT]
  | d :: r, i, ks, h => by
    simp only [rowsT]
    rw [h d List.mem_cons_self]
    exact rows_none fun x m => h x (List.mem_cons_of_mem _ m)
/-- keys that differ -/
theorem rows_keyed {f : PyData → List PyData → Option (List PyData)} {k : Str} {p : List PyData} {key : PyData → PyData} : ∀ {ds : List PyData} {i : Nat} {ks : List PyData}, (∀ d ∈ ds, ∀ q, f d q = none) →
    (∀ d ∈ ds, ∃ kvs, d = .dict kvs ∧ keyIn kvs k = some (key d)) → (∀ d ∈ ds, ks.any (fun y => PyData.eqv (key d) y) = false) → ds.Pairwise (fun a b => PyData.eqv (key b) (key a) = false) → rowsT f (some k) ds i ks p = none
  | [], _, _, _, _, _, _ => by simp only [rowsT]
  | d :: r, i, ks, h, hk, out, pw => by
    obtain ⟨kvs, ed, ek⟩ := hk d List.mem_cons_self
    have apart := List.pairwise_cons.mp pw
    have o := out d List.mem_cons_self
    have more := rows_keyed (i := i + 1) (ks := ks ++ [key d]) (p := p) (fun x m => h x (List.mem_cons_of_mem _ m)) (fun x m => hk x (List.mem_cons_of_mem _ m)) (fun x m => by
      rw [List.any_append, out x (List.mem_cons_of_mem _ m), List.any_cons, apart.1 x m]
      rfl) apart.2
    simp only [rowsT]
    rw [h d List.mem_cons_self]
    subst ed
    dsimp only
    rw [ek]
    dsimp only
    rw [o]
    exact more
theorem trF_none {fs : List (Str × Ty)} {kvs : List (PyData × PyData)} {p : List PyData} (h : ∀ q ∈ fs, ∃ d, keyIn kvs q.1 = some d ∧ ∀ p, tr q.2 d p = none) : trF fs kvs p = none := by
  induction fs with
  | nil => simp only [trF]
  | cons q r ih =>
    obtain ⟨n, t⟩ := q
    obtain ⟨d, e, f⟩ := h _ List.mem_cons_self
    simp only [trF]
    rw [show keyIn kvs n = some d from e]
    dsimp only
    rw [f]
    exact ih fun q m => h q (List.mem_cons_of_mem _ m)
theorem all_named {fs : List (Str × Ty)} {kvs : List (PyData × PyData)} (h : ∀ kv ∈ kvs, ∃ q ∈ fs, kv.1 = .str q.1) : (kvs.all fun kv => fs.any fun q => isKey kv.1 q.1) = true := by
  rw [List.all_eq_true]
  intro kv m
  obtain ⟨q, mq, e⟩ := h kv m
  rw [List.any_eq_true]
  exact ⟨q, mq, by rw [e]; exact decide_eq_true rfl⟩
theorem eqv_int (i j : Int) : PyData.eqv (.int i) (.int j) = (i == j) := by
  unfold PyData.eqv
  rfl
theorem eqv_str (a b : Str) : PyData.eqv (.str a) (.str b) = (a == b) := by
  unfold PyData.eqv
  rfl
/-- the key of a later row is another one -/
theorem keyOf_apart {num : Bool} {i j : Nat} {x y : PyData} (lt : i < j) (hx : keyOf num i x) (hy : keyOf num j y) : PyData.eqv y x = false := by
  unfold keyOf at hx hy
  cases num with
  | true =>
    rw [if_pos rfl] at hx hy
    obtain ⟨a, rfl, _, a2⟩ := hx
    obtain ⟨b, rfl, b1, _⟩ := hy
    rw [eqv_int, beq_eq_false_iff_ne]
    omega
  | false =>
    rw [if_neg (by decide)] at hx hy
    rw [hx, hy, eqv_str, beq_eq_false_iff_ne]
    intro e
    have l := congrArg Str.length e
    rw [ql_len, ql_len, ql_rep, ql_rep] at l
    simp at l
    rw [show (Str.ofString "k").cps.size = 1 from by decide] at l
    omega
theorem pw_of {α : Type} {R : α → α → Prop} : ∀ {l : List α}, (∀ (i j : Nat) (a b : α), i < j → l[i]? = some a → l[j]? = some b → R a b) → l.Pairwise R
  | [], _ => .nil
  | a :: r, h => .cons (fun b mb => by
      obtain ⟨j, hj⟩ := List.getElem?_of_mem mb
      exact h 0 (j + 1) a b (Nat.succ_pos j) rfl hj) (pw_of fun i j x y lt hx hy => h (i + 1) (j + 1) x y (Nat.succ_lt_succ lt) hx hy)
theorem fit_none {f : Fm} {d : PyData} (fit : Fit f d) : ∀ (n : Nat), okF n f → ∀ p, tr (tyOf f) d p = none := by
  induction fit with
  | text h => intro n _ p; simp [tyOf, tr, kindS]
  | number h => intro n _ p; simp [tyOf, tr, kindS]
  | flag b => intro n _ p; simp [tyOf, tr, kindS]
  | optN f => intro n _ p; simp only [tyOf, tr]
  | @opt f d fit ih =>
    intro n o p
    cases n with
    | zero => simp [okF] at o
    | succ n =>
      have h := ih n (by simpa [okF] using o.1) p
      simp only [tyOf, tr]
      cases d with
      | none => rfl
      | _ => exact h
  | @list f ds few _ ih =>
    intro n o p
    cases n with
    | zero => simp [okF] at o
    | succ n =>
      simp only [tyOf, tr]
      rw [if_pos (by omega)]
      exact rows_none fun x m q => ih x m n (by simpa only [okF] using o) q
  | @rcd fs kvs names fits ih =>
    intro n o p
    cases n with
    | zero => simp [okF] at o
    | succ n =>
      have o' : Names (fs.map (·.1)) ∧ sortedS (fs.map (·.1)) = true ∧ 1 ≤ fs.length ∧ fs.length ≤ 3 ∧ ∀ q ∈ fs, okF n q.2 := by simpa only [okF] using o
      have len : kvs.length = fs.length := by
        have := congrArg List.length names
        simpa using this
      have nd : (kvs.map (·.1)).Nodup := by
        rw [names]
        have := o'.1.1
        rw [show (fs.map fun q => PyData.str q.1) = (fs.map (·.1)).map PyData.str from by rw [List.map_map]; rfl]
        exact List.Pairwise.map PyData.str (fun a b ne e => ne (by injection e)) this
      simp only [tyOf, tr]
      rw [if_pos]
      · refine trF_none fun q m => ?_
        rw [tyOfs_map] at m
        obtain ⟨q0, m0, rfl⟩ := List.mem_map.mp m
        obtain ⟨i, hi⟩ := List.getElem?_of_mem m0
        have lt := (List.getElem?_eq_some_iff.mp hi).1
        have hk := List.getElem?_eq_getElem (show i < kvs.length by omega)
        have same : (kvs[i]'(by omega)).1 = .str q0.1 := by
          have h1 := congrArg (fun l => l[i]?) names
          simp only [List.getElem?_map, hk, hi, Option.map_some] at h1
          exact Option.some.inj h1
        refine ⟨(kvs[i]'(by omega)).2, keyIn_mem nd ?_, fun p => ih i q0 _ hi hk n (o'.2.2.2.2 q0 m0) p⟩
        rw [← same]
        exact List.getElem_mem _
      · refine all_named fun kv m => ?_
        have h1 : kv.1 ∈ kvs.map (·.1) := List.mem_map.mpr ⟨kv, m, rfl⟩
        rw [names] at h1
        obtain ⟨q, mq, e⟩ := List.mem_map.mp h1
        exact ⟨(q.1, tyOf q.2), by rw [tyOfs_map]; exact List.mem_map.mpr ⟨q, mq, rfl⟩, e.symm⟩
  | @keyed k num w f rows few keys fits ih =>
    intro n o p
    cases n with
    | zero => simp [okF] at o
    | succ n =>
      have o' : Names [k, w] ∧ sortedS [k, w] = true ∧ okF n f := by simpa only [okF] using o
      have kw : k ≠ w := by
        have := o'.1.1
        simp at this
        exact this
      have find1 : ∀ r : PyData × PyData, keyIn [(.str k, r.1), (.str w, r.2)] k = some r.1 := fun r => by
        unfold keyIn
        rw [List.find?_cons]
        rw [show isKey (PyData.str k, r.1).1 k = true from decide_eq_true rfl]
        rfl
      have find2 : ∀ r : PyData × PyData, keyIn [(.str k, r.1), (.str w, r.2)] w = some r.2 := fun r => by
        unfold keyIn
        rw [List.find?_cons]
        rw [show isKey (PyData.str k, r.1).1 w = false from decide_eq_false kw, List.find?_cons]
        rw [show isKey (PyData.str w, r.2).1 w = true from decide_eq_true rfl]
        rfl
      let key : PyData → PyData := fun d => match d with
        | .dict ((_, x) :: _) => x
        | d => d
      simp only [tyOf, tr]
      rw [if_pos (by rw [List.length_map]; omega)]
      refine rows_keyed (key := key) (fun d m q => ?_) (fun d m => ?_) (fun d m => rfl) ?_
      · obtain ⟨r, mr, rfl⟩ := List.mem_map.mp m
        obtain ⟨i, hi⟩ := List.getElem?_of_mem mr
        simp only [tr]
        rw [if_pos]
        · refine trF_none fun q m => ?_
          rcases List.mem_cons.mp m with rfl | m
          · refine ⟨_, find1 r, fun p => ?_⟩
            have ko := keys i r hi
            unfold keyOf at ko
            cases num with
            | true =>
              rw [if_pos rfl] at ko
              obtain ⟨j, e, _⟩ := ko
              rw [e]
              simp [kty, tr, kindS]
            | false =>
              rw [if_neg (by decide)] at ko
              rw [ko]
              simp [kty, tr, kindS]
          · rw [List.mem_singleton.mp m]
            exact ⟨_, find2 r, fun p => ih r mr n o'.2.2 p⟩
        · refine all_named fun kv m => ?_
          rcases List.mem_cons.mp m with rfl | m
          · exact ⟨_, List.mem_cons_self, rfl⟩
          · rw [List.mem_singleton.mp m]
            exact ⟨_, List.mem_cons_of_mem _ List.mem_cons_self, rfl⟩
      · obtain ⟨r, mr, rfl⟩ := List.mem_map.mp m
        exact ⟨_, rfl, find1 r⟩
      · refine pw_of fun i j a b lt ha hb => ?_
        rw [List.getElem?_map] at ha hb
        obtain ⟨r, hr, rfl⟩ := Option.map_eq_some_iff.mp ha
        obtain ⟨r', hr', rfl⟩ := Option.map_eq_some_iff.mp hb
        exact keyOf_apart lt (keys i r hr) (keys j r' hr')
end KX

namespace KX
open PySem PySem.Spec L2 PyProof.Rows
/-! ### the law's own reading of what is wrong first -/
theorem call_isiK {X : Cx} (K : PySem.W.Frag) (h : X.K = K) : CallR X (.builtin "isinstance") (rIsi K) := by
  subst h
  exact call_isi
/-- a list beside an empty one -/
def rNeNilL (K : PySem.W.Frag) : R2 := fun x y H Q => ∃ a b xs, x = .ref a ∧ y = .ref b ∧ SqL K H a xs ∧ SqL K H b [] ∧ Q (.bl (!xs.isEmpty)) H
theorem op_neNilL {X : Cx} (K : PySem.W.Frag) (same : X.K = K) (hu : X.A.units + 64 < cLine) : OpR X (compareOp .NotEq) (rNeNilL K) := by
  subst same
  intro pins s σ H x y v u Q I rx ry want
  obtain ⟨a, b, xs, rfl, rfl, ha, hb, q⟩ := want
  obtain rfl : v = Value.ref a := rx
  obtain rfl : u = Value.ref b := ry
  have lists : ∀ {c : Addr} {zs : List V}, SqL X.K H c zs → ∃ its : List Value, Vals zs its ∧ s.heap.IsList c its.toArray := by
    intro c zs h
    obtain ⟨its, r, ⟨o, n, e, cls, data, _⟩, _⟩ := I.list h
    exact ⟨its, r, o, e, cls, n, by assumption⟩
  obtain ⟨ia, r1, l1⟩ := lists ha
  obtain ⟨ib, r2, l2⟩ := lists hb
  cases r2
  cases r1 with
  | nil =>
    have no := SeqAt.RcNeAt.lists (A := X.A) (e := fun _ => true) l1 l2 rfl (by omega) (fun j h _ => absurd h (Nat.not_lt_zero j))
    exact no X.prog X.w _ _ ⟨.bl false, H, I, rfl, q⟩
  | cons r rs =>
    have no := SeqAt.RcNeAt.lists_lengths (A := X.A) l1 l2 (by simp) (by omega)
    exact no X.prog X.w _ _ ⟨.bl true, H, I, rfl, q⟩
/-- how deep a form is looked into -/
def lev (n : Nat) : Fm → Nat
  | .keyed _ _ _ _ => 2 * n + 1
  | _ => 2 * n
theorem lev_le (n : Nat) (f : Fm) : lev n f ≤ 2 * n + 1 := by cases f <;> simp only [lev] <;> omega
section
variable {base : Heap} {P : Program} {w : World} {K : PySem.W.Frag} {mg : Str → Option Value} {tk : Str → Tok}
theorem Dq.tup1 {H : Hp} {v : V} {ds : List PyData} (h : Dq K H v (.tuple ds)) : ∃ a xs, v = .ref a ∧ H a = some (.tup xs) ∧ DqAll K H xs ds := by
  cases h with
  | tup hs ha => exact ⟨_, _, rfl, hs, ha⟩
theorem DqAll.two {H : Hp} {xs : List V} {d e : PyData} (h : DqAll K H xs [d, e]) : ∃ x y, xs = [x, y] ∧ Dq K H x d ∧ Dq K H y e := by
  cases h with
  | cons h1 h2 =>
    cases h2 with
    | cons h3 h4 =>
      cases h4
      exact ⟨_, _, rfl, h1, h3⟩
theorem encFs_at {d : PyData} : ∀ {fs : List (Str × Fm)} {i : Nat}, (encFs fs)[i]? = some d → ∃ m f, fs[i]? = some (m, f) ∧ d = .tuple [.str m, enc f]
  | [], i, h => by simp [encFs] at h
  | (w, f) :: r, 0, h => ⟨w, f, rfl, by simpa [encFs] using h.symm⟩
  | (w, f) :: r, i + 1, h => by
    obtain ⟨m, g, h1, h2⟩ := encFs_at (fs := r) (i := i) (by simpa [encFs] using h)
    exact ⟨m, g, by simpa using h1, h2⟩
def isDict : PyData → Bool
  | .dict _ => true
  | _ => false
def isTup : PyData → Bool
  | .tuple _ => true
  | _ => false
theorem typ_of {S H : Hp} {v : V} {o : PyData} (low : Same S H) (h : Dq K S v o) : ∃ T : Value, TyX K H v T ∧ PySem.W.kitOne K T (.type "dict") = some (isDict o) ∧ PySem.W.kitOne K T (.type "tuple") = some (isTup o) := by
  cases h with
  | non => exact ⟨_, .base (.non), kit_ty (show kitB "NoneType" "dict" = some false by decide +kernel), kit_ty (show kitB "NoneType" "tuple" = some false by decide +kernel)⟩
  | bl b => exact ⟨_, .base (.bl b), kit_ty (show kitB "bool" "dict" = some false by decide +kernel), kit_ty (show kitB "bool" "tuple" = some false by decide +kernel)⟩
  | int i => exact ⟨_, .base (.int i), kit_ty (show kitB "int" "dict" = some false by decide +kernel), kit_ty (show kitB "int" "tuple" = some false by decide +kernel)⟩
  | str z => exact ⟨_, .base (.str z), kit_ty (show kitB "str" "dict" = some false by decide +kernel), kit_ty (show kitB "str" "tuple" = some false by decide +kernel)⟩
  | lst hs _ => exact ⟨_, .base (.lst (low _ _ hs)), kit_ty (show kitB "list" "dict" = some false by decide +kernel), kit_ty (show kitB "list" "tuple" = some false by decide +kernel)⟩
  | tup hs _ => exact ⟨_, .base (.tup (low _ _ hs)), kit_ty (show kitB "tuple" "dict" = some false by decide +kernel), kit_ty (show kitB "tuple" "tuple" = some true by decide +kernel)⟩
  | dct hs _ => exact ⟨_, .base (.dK (low _ _ hs)), kit_ty (show kitB "dict" "dict" = some true by decide +kernel), kit_ty (show kitB "dict" "tuple" = some false by decide +kernel)⟩
end
def rowF (k : Str) (num : Bool) (w : Str) (f : Fm) : Fm := .rcd [(k, if num then .number else .text), (w, f)]
theorem tyOf_row (k : Str) (num : Bool) (w : Str) (f : Fm) : tyOf (rowF k num w f) = .rcd [(k, kty num), (w, tyOf f)] := by
  cases num <;> simp [rowF, tyOf, tyOfs, kty]
theorem enc_row (k : Str) (num : Bool) (w : Str) (f : Fm) : enc (rowF k num w f) = .tuple [.str "record", .tuple [.tuple [.str k, .tuple [.str (kword num)]], .tuple [.str w, enc f]]] := by
  cases num <;> simp [rowF, enc, encFs, kword]
theorem okF_row {n : Nat} {k : Str} {num : Bool} {w : Str} {f : Fm} (o : okF (n + 1) (.keyed k num w f)) : okF (n + 1) (rowF k num w f) := by
  have o' : Names [k, w] ∧ sortedS [k, w] = true ∧ okF n f := by simpa only [okF] using o
  unfold rowF
  simp only [okF]
  refine ⟨o'.1, o'.2.1, by simp, by simp, fun q m => ?_⟩
  rcases List.mem_cons.mp m with rfl | m
  · cases num <;> simp [okF]
  · rw [List.mem_singleton.mp m]
    exact o'.2.2
def isStr : PyData → Bool
  | .str _ => true
  | _ => false
def isBl : PyData → Bool
  | .bool _ => true
  | _ => false
def isIn : PyData → Bool
  | .bool _ => true
  | .int _ => true
  | _ => false
theorem kindS_tup (ds : List PyData) (z : Str) (a : ("list" : Str) ≠ z) (b : ("?" : Str) ≠ z) : kindS (.tuple ds) ≠ z := by
  simp only [kindS]
  by_cases le : ds.length ≤ 60
  · rw [if_pos le]
    exact a
  · rw [if_neg le]
    exact b
theorem kindS_dict (kvs : List (PyData × PyData)) (z : Str) (a : ("record" : Str) ≠ z) (b : ("?" : Str) ≠ z) : kindS (.dict kvs) ≠ z := by
  simp only [kindS]
  by_cases le : (kvs.all fun kv => nameK kv.1) = true
  · rw [if_pos le]
    exact a
  · rw [if_neg le]
    exact b
theorem not_text {d : PyData} (h : ¬ isStr d = true) : kindS d ≠ "text" := by
  cases d with
  | str => exact absurd rfl h
  | tuple ds => exact kindS_tup _ _ (by decide) (by decide)
  | dict kvs => exact kindS_dict _ _ (by decide) (by decide)
  | _ => simp only [kindS]; decide
theorem is_number (d : PyData) : decide (kindS d = "number") = (isIn d && !isBl d) := by
  cases d with
  | tuple ds => exact decide_eq_false (kindS_tup _ _ (by decide) (by decide))
  | dict kvs => exact decide_eq_false (kindS_dict _ _ (by decide) (by decide))
  | _ => rfl
theorem is_flag (d : PyData) : decide (kindS d = "flag") = (isIn d && isBl d) := by
  cases d with
  | tuple ds => exact decide_eq_false (kindS_tup _ _ (by decide) (by decide))
  | dict kvs => exact decide_eq_false (kindS_dict _ _ (by decide) (by decide))
  | bool b => rfl
  | _ => rfl
section
variable {base : Heap} {P : Program} {w : World} {K : PySem.W.Frag} {mg : Str → Option Value} {tk : Str → Tok}
theorem typ_all {S H : Hp} {v : V} {o : PyData} (low : Same S H) (h : Dq K S v o) : ∃ T : Value, TyX K H v T ∧ PySem.W.kitOne K T (.type "str") = some (isStr o) ∧ PySem.W.kitOne K T (.type "int") = some (isIn o) ∧ PySem.W.kitOne K T (.type "bool") = some (isBl o) ∧ PySem.W.kitOne K T (.type "tuple") = some (isTup o) := by
  cases h with
  | non => exact ⟨_, .base (.non), kit_ty (show kitB "NoneType" "str" = some false by decide +kernel), kit_ty (show kitB "NoneType" "int" = some false by decide +kernel), kit_ty (show kitB "NoneType" "bool" = some false by decide +kernel), kit_ty (show kitB "NoneType" "tuple" = some false by decide +kernel)⟩
  | bl b => exact ⟨_, .base (.bl b), kit_ty (show kitB "bool" "str" = some false by decide +kernel), kit_ty (show kitB "bool" "int" = some true by decide +kernel), kit_ty (show kitB "bool" "bool" = some true by decide +kernel), kit_ty (show kitB "bool" "tuple" = some false by decide +kernel)⟩
  | int i => exact ⟨_, .base (.int i), kit_ty (show kitB "int" "str" = some false by decide +kernel), kit_ty (show kitB "int" "int" = some true by decide +kernel), kit_ty (show kitB "int" "bool" = some false by decide +kernel), kit_ty (show kitB "int" "tuple" = some false by decide +kernel)⟩
  | str z => exact ⟨_, .base (.str z), kit_ty (show kitB "str" "str" = some true by decide +kernel), kit_ty (show kitB "str" "int" = some false by decide +kernel), kit_ty (show kitB "str" "bool" = some false by decide +kernel), kit_ty (show kitB "str" "tuple" = some false by decide +kernel)⟩
  | lst hs _ => exact ⟨_, .base (.lst (low _ _ hs)), kit_ty (show kitB "list" "str" = some false by decide +kernel), kit_ty (show kitB "list" "int" = some false by decide +kernel), kit_ty (show kitB "list" "bool" = some false by decide +kernel), kit_ty (show kitB "list" "tuple" = some false by decide +kernel)⟩
  | tup hs _ => exact ⟨_, .base (.tup (low _ _ hs)), kit_ty (show kitB "tuple" "str" = some false by decide +kernel), kit_ty (show kitB "tuple" "int" = some false by decide +kernel), kit_ty (show kitB "tuple" "bool" = some false by decide +kernel), kit_ty (show kitB "tuple" "tuple" = some true by decide +kernel)⟩
  | dct hs _ => exact ⟨_, .base (.dK (low _ _ hs)), kit_ty (show kitB "dict" "str" = some false by decide +kernel), kit_ty (show kitB "dict" "int" = some false by decide +kernel), kit_ty (show kitB "dict" "bool" = some false by decide +kernel), kit_ty (show kitB "dict" "tuple" = some false by decide +kernel)⟩
/-- t[:i] and t[i:] of a tuple, whatever is left of it -/
theorem slice_any {H : Hp} {a : Addr} {xs : List V} {lo hi : Option Int} {Q : VK} (h : H a = some (.tup xs)) (q : ∀ c G, Same H G → G c = some (.tup (cutV xs lo hi)) → Q (.ref c) G) : rSlA K (.ref a) lo hi H Q := by
  refine ⟨a, xs, rfl, SqT.of h, fun w => q a H (Same.refl H) ?_, fun _ p np => q p _ (same_new np _) upd_same⟩
  unfold cutV
  rw [w.1, w.2, List.drop_zero, Nat.sub_zero, List.take_length]
  exact h
end
end KX

namespace KX
open PySem PySem.Spec L2 PyProof.Rows
/-! ### whether a thing fits a type, apart from the place of what is wrong -/
theorem rows_path {f : PyData → List PyData → Option (List PyData)} {key : Option Str} (hf : ∀ x p q, (f x p).isNone = (f x q).isNone) : ∀ (ds : List PyData) (i j : Nat) (ks p q : List PyData), (rowsT f key ds i ks p).isNone = (rowsT f key ds j ks q).isNone
  | [], _, _, _, _, _ => by simp only [rowsT]
  | d :: r, i, j, ks, p, q => by
    have h := hf d (p ++ [.int (i : Int)]) (q ++ [.int (j : Int)])
    have more := fun ks' => rows_path (key := key) hf r (i + 1) (j + 1) ks' p q
    simp only [rowsT]
    cases h1 : f d (p ++ [.int (i : Int)]) with
    | some e =>
      cases h2 : f d (q ++ [.int (j : Int)]) with
      | some e' => rfl
      | none => rw [h1, h2] at h; cases h
    | none =>
      cases h2 : f d (q ++ [.int (j : Int)]) with
      | some e' => rw [h1, h2] at h; cases h
      | none =>
        dsimp only
        cases key with
        | none => exact more ks
        | some k =>
          dsimp only
          cases d with
          | dict kvs =>
            dsimp only
            cases keyIn kvs k with
            | none => rfl
            | some x =>
              dsimp only
              by_cases c : (ks.any fun y => PyData.eqv x y) = true
              · rw [if_pos c, if_pos c]
                rfl
              · rw [if_neg c, if_neg c]
                exact more _
          | _ => rfl
mutual
theorem tr_path : ∀ (t : Ty) (d : PyData) (p q : List PyData), (tr t d p).isNone = (tr t d q).isNone
  | .text, d, p, q => by
    simp only [tr]
    by_cases c : kindS d = "text"
    · rw [if_pos c, if_pos c]
    · rw [if_neg c, if_neg c]; rfl
  | .number, d, p, q => by
    simp only [tr]
    by_cases c : kindS d = "number"
    · rw [if_pos c, if_pos c]
    · rw [if_neg c, if_neg c]; rfl
  | .flag, d, p, q => by
    simp only [tr]
    by_cases c : kindS d = "flag"
    · rw [if_pos c, if_pos c]
    · rw [if_neg c, if_neg c]; rfl
  | .opt t, d, p, q => by
    have h := tr_path t d p q
    simp only [tr]
    cases d with
    | none => rfl
    | _ => exact h
  | .list t, d, p, q => by
    simp only [tr]
    cases d with
    | tuple ds =>
      dsimp only
      by_cases c : ds.length ≤ 60
      · rw [if_pos c, if_pos c]
        exact rows_path (fun x p q => tr_path t x p q) ds 0 0 [] p q
      · rw [if_neg c, if_neg c]; rfl
    | _ => rfl
  | .keyed t k, d, p, q => by
    simp only [tr]
    cases d with
    | tuple ds =>
      dsimp only
      by_cases c : ds.length ≤ 60
      · rw [if_pos c, if_pos c]
        exact rows_path (fun x p q => tr_path t x p q) ds 0 0 [] p q
      · rw [if_neg c, if_neg c]; rfl
    | _ => rfl
  | .rcd fs, d, p, q => by
    simp only [tr]
    cases d with
    | dict kvs =>
      dsimp only
      by_cases c : (kvs.all fun kv => fs.any fun q => isKey kv.1 q.1) = true
      · rw [if_pos c, if_pos c]
        exact trF_path fs kvs p q
      · rw [if_neg c, if_neg c]; rfl
    | _ => rfl
theorem trF_path : ∀ (fs : List (Str × Ty)) (kvs : List (PyData × PyData)) (p q : List PyData), (trF fs kvs p).isNone = (trF fs kvs q).isNone
  | [], _, _, _ => by simp only [trF]
  | (n, t) :: r, kvs, p, q => by
    have more := trF_path r kvs p q
    simp only [trF]
    cases keyIn kvs n with
    | none => rfl
    | some d =>
      dsimp only
      have h := tr_path t d (p ++ [.str n]) (q ++ [.str n])
      cases h1 : tr t d (p ++ [.str n]) with
      | some e =>
        cases h2 : tr t d (q ++ [.str n]) with
        | some e' => rfl
        | none => rw [h1, h2] at h; cases h
      | none =>
        cases h2 : tr t d (q ++ [.str n]) with
        | some e' => rw [h1, h2] at h; cases h
        | none => exact more
end
/-- whether it fits -/
def fitsT (t : Ty) (d : PyData) : Bool := (tr t d []).isNone
theorem fits_at (t : Ty) (d : PyData) (p : List PyData) : (tr t d p).isNone = fitsT t d := tr_path t d p []
theorem fits_none {t : Ty} {d : PyData} : fitsT t d = true ↔ ∀ p, tr t d p = none := by
  constructor
  · intro h p
    have := fits_at t d p
    rw [h] at this
    exact Option.isNone_iff_eq_none.mp this
  · intro h
    unfold fitsT
    rw [h]
    rfl
/-- rows that need no key -/
theorem rows_list {f : PyData → List PyData → Option (List PyData)} {ok : PyData → Bool} (hf : ∀ x p, (f x p).isNone = ok x) : ∀ (ds : List PyData) (i : Nat) (ks p : List PyData), (rowsT f none ds i ks p).isNone = ds.all ok
  | [], _, _, _ => by simp only [rowsT]; rfl
  | d :: r, i, ks, p => by
    have h := hf d (p ++ [.int (i : Int)])
    simp only [rowsT]
    rw [List.all_cons, ← h]
    cases f d (p ++ [.int (i : Int)]) with
    | some e => rfl
    | none => exact (rows_list hf r (i + 1) ks p)
/-- every key once -/
def apart : List PyData → List PyData → Bool
  | _, [] => true
  | ks, x :: r => !(ks.any fun y => PyData.eqv x y) && apart (ks ++ [x]) r
/-- rows that don't all fit -/
theorem rows_bad {f : PyData → List PyData → Option (List PyData)} {key : Option Str} {ok : PyData → Bool} (hf : ∀ x p, (f x p).isNone = ok x) (hk : ∀ k, key = some k → ∀ x, ok x = true → ∃ kvs y, x = .dict kvs ∧ keyIn kvs k = some y) :
    ∀ (ds : List PyData) (i : Nat) (ks p : List PyData), ds.all ok = false → (rowsT f key ds i ks p).isNone = false
  | [], _, _, _, h => by cases h
  | d :: r, i, ks, p, h => by
    have hd := hf d (p ++ [.int (i : Int)])
    simp only [rowsT]
    cases e : f d (p ++ [.int (i : Int)]) with
    | some e => rfl
    | none =>
      rw [e] at hd
      have yes : ok d = true := hd.symm
      rw [List.all_cons, yes, Bool.true_and] at h
      dsimp only
      cases key with
      | none => exact rows_bad hf hk r (i + 1) ks p h
      | some k =>
        obtain ⟨kvs, y, rfl, ky⟩ := hk k rfl d yes
        dsimp only
        rw [ky]
        dsimp only
        by_cases c : (ks.any fun z => PyData.eqv y z) = true
        · rw [if_pos c]; rfl
        · rw [if_neg c]
          exact rows_bad hf hk r (i + 1) _ p h
/-- rows that all fit -/
theorem rows_good {f : PyData → List PyData → Option (List PyData)} {k : Str} : ∀ (ds xs : List PyData) (i : Nat) (ks p : List PyData), (∀ d ∈ ds, ∀ p, f d p = none) → (ds.map fun d => match d with | .dict kvs => keyIn kvs k | _ => none) = xs.map some → (rowsT f (some k) ds i ks p).isNone = apart ks xs
  | [], [], _, _, _, _, _ => by simp only [rowsT, apart]; rfl
  | [], _ :: _, _, _, _, _, e => by cases e
  | _ :: _, [], _, _, _, _, e => by cases e
  | d :: r, x :: xs, i, ks, p, h, e => by
    rw [List.map_cons, List.map_cons, List.cons.injEq] at e
    obtain ⟨e1, e2⟩ := e
    simp only [rowsT, apart]
    rw [h d List.mem_cons_self]
    dsimp only
    cases d with
    | dict kvs =>
      dsimp only at e1 ⊢
      rw [e1]
      dsimp only
      by_cases c : (ks.any fun z => PyData.eqv x z) = true
      · rw [if_pos c, c]; rfl
      · rw [if_neg c, Bool.eq_false_iff.mpr c]
        exact rows_good r xs (i + 1) _ p (fun d m => h d (List.mem_cons_of_mem _ m)) e2
    | _ => cases e1
end KX

namespace KX
open PySem PySem.Spec L2 PyProof.Rows
/-! ### records and keys -/
theorem sub_len {α : Type} : ∀ {A B : List α}, A.Nodup → (∀ x ∈ A, x ∈ B) → A.length ≤ B.length
  | [], _, _, _ => Nat.zero_le _
  | x :: A, B, nd, h => by
    obtain ⟨out, nd'⟩ := List.nodup_cons.mp nd
    obtain ⟨s, t, rfl⟩ := List.append_of_mem (h x List.mem_cons_self)
    have := sub_len (B := s ++ t) nd' fun y m => by
      have hy := h y (List.mem_cons_of_mem _ m)
      have ne : y ≠ x := fun e => out (e ▸ m)
      rcases List.mem_append.mp hy with hy | hy
      · exact List.mem_append_left _ hy
      · rcases List.mem_cons.mp hy with e | hy
        · exact absurd e ne
        · exact List.mem_append_right _ hy
    simp only [List.length_append, List.length_cons] at this ⊢
    omega
theorem isKey_iff {k : PyData} {n : Str} : isKey k n = true ↔ k = .str n := by
  cases k <;> simp [isKey]
theorem keyIn_some {kvs : List (PyData × PyData)} {n : Str} {d : PyData} (h : keyIn kvs n = some d) : PyData.str n ∈ kvs.map (·.1) := by
  unfold keyIn at h
  cases e : kvs.find? fun kv => isKey kv.1 n with
  | none => rw [e] at h; cases h
  | some kv =>
    have m := List.mem_of_find?_eq_some e
    have i := List.find?_some e
    exact List.mem_map.mpr ⟨kv, m, isKey_iff.mp i⟩
theorem keyIn_there {kvs : List (PyData × PyData)} {n : Str} (h : keyIn kvs n = none) : PyData.str n ∉ kvs.map (·.1) := fun m => by
  obtain ⟨kv, mk, e⟩ := List.mem_map.mp m
  unfold keyIn at h
  have z := List.find?_eq_none.mp (Option.map_eq_none_iff.mp h) kv mk
  exact z (isKey_iff.mpr e)
/-- what each field asks -/
def fieldOk (kvs : List (PyData × PyData)) (q : Str × Ty) : Bool := match keyIn kvs q.1 with
  | some d => fitsT q.2 d
  | none => false
theorem trF_all : ∀ (fs : List (Str × Ty)) (kvs : List (PyData × PyData)) (p : List PyData), (trF fs kvs p).isNone = fs.all (fieldOk kvs)
  | [], _, _ => by simp only [trF]; rfl
  | (n, t) :: r, kvs, p => by
    have more := trF_all r kvs p
    simp only [trF]
    rw [List.all_cons, ← more]
    unfold fieldOk
    dsimp only
    cases keyIn kvs n with
    | none => rfl
    | some d =>
      dsimp only
      rw [← fits_at t d (p ++ [.str n])]
      cases tr t d (p ++ [.str n]) with
      | some e => rfl
      | none => rfl
theorem fits_rcd (fs : List (Str × Ty)) (kvs : List (PyData × PyData)) : fitsT (.rcd fs) (.dict kvs) = ((kvs.all fun kv => fs.any fun q => isKey kv.1 q.1) && fs.all (fieldOk kvs)) := by
  unfold fitsT
  simp only [tr]
  by_cases c : (kvs.all fun kv => fs.any fun q => isKey kv.1 q.1) = true
  · rw [if_pos c, c, trF_all]
    rfl
  · rw [if_neg c, Bool.eq_false_iff.mpr c]
    rfl
theorem rcd_miss {fs : List (Str × Ty)} {kvs : List (PyData × PyData)} {q : Str × Ty} (m : q ∈ fs) (h : keyIn kvs q.1 = none) : fitsT (.rcd fs) (.dict kvs) = false := by
  rw [fits_rcd]
  have : fs.all (fieldOk kvs) = false := by
    rw [Bool.eq_false_iff]
    intro all
    have := List.all_eq_true.mp all q m
    unfold fieldOk at this
    rw [h] at this
    cases this
  rw [this, Bool.and_false]
section
variable {fs : List (Str × Ty)} {kvs : List (PyData × PyData)}
theorem names_apart (nf : (fs.map (·.1)).Nodup) : (fs.map fun q => PyData.str q.1).Nodup := by
  rw [show (fs.map fun q => PyData.str q.1) = (fs.map (·.1)).map PyData.str from by rw [List.map_map]; rfl]
  exact List.Pairwise.map PyData.str (fun a b ne e => ne (by injection e)) nf
theorem rcd_keys (nk : (kvs.map (·.1)).Nodup) (nf : (fs.map (·.1)).Nodup) (there : ∀ q ∈ fs, ∃ d, keyIn kvs q.1 = some d) : (kvs.all fun kv => fs.any fun q => isKey kv.1 q.1) = decide (kvs.length = fs.length) := by
  have sub : ∀ x ∈ fs.map (fun q => PyData.str q.1), x ∈ kvs.map (·.1) := fun x m => by
    obtain ⟨q, mq, rfl⟩ := List.mem_map.mp m
    obtain ⟨d, e⟩ := there q mq
    exact keyIn_some e
  have nf' := names_apart nf
  have le := sub_len nf' sub
  rw [List.length_map, List.length_map] at le
  rw [Bool.eq_iff_iff, decide_eq_true_eq]
  constructor
  · intro h
    have sub2 : ∀ x ∈ kvs.map (·.1), x ∈ fs.map (fun q => PyData.str q.1) := fun x m => by
      obtain ⟨kv, mk, rfl⟩ := List.mem_map.mp m
      obtain ⟨q, mq, e⟩ := List.any_eq_true.mp (List.all_eq_true.mp h kv mk)
      exact List.mem_map.mpr ⟨q, mq, (isKey_iff.mp e).symm⟩
    have := sub_len nk sub2
    rw [List.length_map, List.length_map] at this
    omega
  · intro e
    refine List.all_eq_true.mpr fun kv mk => ?_
    by_cases c : kv.1 ∈ fs.map (fun q => PyData.str q.1)
    · obtain ⟨q, mq, e⟩ := List.mem_map.mp c
      exact List.any_eq_true.mpr ⟨q, mq, isKey_iff.mpr e.symm⟩
    · have := sub_len (A := kv.1 :: fs.map (fun q => PyData.str q.1)) (B := kvs.map (·.1)) (List.nodup_cons.mpr ⟨c, nf'⟩) fun x m => by
        rcases List.mem_cons.mp m with rfl | m
        · exact List.mem_map.mpr ⟨kv, mk, rfl⟩
        · exact sub x m
      rw [List.length_cons, List.length_map, List.length_map] at this
      omega
theorem rcd_len (nk : (kvs.map (·.1)).Nodup) (nf : (fs.map (·.1)).Nodup) (ne : kvs.length ≠ fs.length) : fitsT (.rcd fs) (.dict kvs) = false := by
  by_cases there : ∀ q ∈ fs, ∃ d, keyIn kvs q.1 = some d
  · rw [fits_rcd, rcd_keys nk nf there, decide_eq_false ne]
    rfl
  · obtain ⟨q, h⟩ := Classical.not_forall.mp there
    obtain ⟨m, h⟩ := Classical.not_imp.mp h
    refine rcd_miss m ?_
    cases e : keyIn kvs q.1 with
    | none => rfl
    | some d => exact absurd ⟨d, e⟩ h
theorem rcd_all (nk : (kvs.map (·.1)).Nodup) (nf : (fs.map (·.1)).Nodup) (there : ∀ q ∈ fs, ∃ d, keyIn kvs q.1 = some d) (len : kvs.length = fs.length) : fitsT (.rcd fs) (.dict kvs) = fs.all (fieldOk kvs) := by
  rw [fits_rcd, rcd_keys nk nf there, decide_eq_true len]
  rfl
end
/-- neighbours that are equal -/
def adj {α : Type} [DecidableEq α] : List α → List Bool
  | a :: b :: r => decide (a = b) :: adj (b :: r)
  | _ => []
section
variable {α β : Type} [DecidableEq α] [DecidableEq β]
theorem adj_len : ∀ l : List α, (adj l).length = l.length - 1
  | [] => rfl
  | [_] => rfl
  | a :: b :: r => by
    simp only [adj, List.length_cons]
    rw [adj_len (b :: r), List.length_cons]
    omega
theorem adj_at : ∀ {l : List α} {i : Nat} {a b : α}, l[i]? = some a → l[i + 1]? = some b → (adj l)[i]? = some (decide (a = b))
  | [], i, a, b, h, _ => by cases h
  | [_], i, a, b, _, h => by cases h
  | x :: y :: r, 0, a, b, h1, h2 => by
    obtain rfl := Option.some.inj h1
    obtain rfl := Option.some.inj h2
    rfl
  | x :: y :: r, i + 1, a, b, h1, h2 => by
    simp only [adj, List.getElem?_cons_succ]
    exact adj_at (by simpa using h1) (by simpa using h2)
theorem adj_more {l : List α} {i : Nat} {a b : α} (h1 : l[i]? = some a) (h2 : l[i + 1]? = some b) : (adj l).take (i + 1) = (adj l).take i ++ [decide (a = b)] := by
  rw [List.take_succ, adj_at h1 h2]
  rfl
theorem adj_map {f : α → β} (inj : ∀ a b, f a = f b → a = b) : ∀ l : List α, adj (l.map f) = adj l
  | [] => rfl
  | [_] => rfl
  | a :: b :: r => by
    have more := adj_map inj (b :: r)
    rw [List.map_cons] at more
    simp only [List.map_cons, adj]
    rw [more]
    congr 1
    by_cases c : a = b
    · rw [c]
      simp
    · rw [decide_eq_false c, decide_eq_false fun e => c (inj a b e)]
theorem adj_any {le : α → α → Prop} (anti : ∀ a b, le a b → le b a → a = b) : ∀ l : List α, l.Pairwise le → (adj l).any id = !decide l.Nodup
  | [], _ => rfl
  | [a], _ => by simp [adj]
  | a :: b :: r, pw => by
    obtain ⟨h1, h2⟩ := List.pairwise_cons.mp pw
    have more := adj_any anti (b :: r) h2
    simp only [adj, List.any_cons, id]
    rw [more]
    by_cases c : a = b
    · subst c
      have : ¬ (a :: a :: r).Nodup := fun nd => (List.nodup_cons.mp nd).1 List.mem_cons_self
      rw [decide_eq_true rfl, decide_eq_false this]
      rfl
    · have out : a ∉ b :: r := fun m => by
        rcases List.mem_cons.mp m with e | m
        · exact c e
        · exact c (anti a b (h1 b List.mem_cons_self) ((List.pairwise_cons.mp h2).1 a m))
      rw [decide_eq_false c, Bool.false_or]
      by_cases nd : (b :: r).Nodup
      · rw [decide_eq_true nd, decide_eq_true (List.nodup_cons.mpr ⟨out, nd⟩)]
      · rw [decide_eq_false nd, decide_eq_false fun z => nd (List.nodup_cons.mp z).2]
end
theorem apart_of {α : Type} [DecidableEq α] {f : α → PyData} (hf : ∀ a b, PyData.eqv (f a) (f b) = decide (a = b)) : ∀ (xs ks : List α), apart (ks.map f) (xs.map f) = decide ((∀ x ∈ xs, x ∉ ks) ∧ xs.Nodup)
  | [], ks => by simp [apart]
  | x :: r, ks => by
    have hit : ((ks.map f).any fun y => PyData.eqv (f x) y) = decide (x ∈ ks) := by
      rw [Bool.eq_iff_iff, decide_eq_true_eq, List.any_eq_true]
      constructor
      · rintro ⟨y, m, e⟩
        obtain ⟨k, mk, rfl⟩ := List.mem_map.mp m
        rw [hf] at e
        exact (of_decide_eq_true e) ▸ mk
      · intro m
        exact ⟨f x, List.mem_map.mpr ⟨x, m, rfl⟩, by rw [hf]; exact decide_eq_true rfl⟩
    have more := apart_of hf r (ks ++ [x])
    rw [List.map_append] at more
    simp only [List.map_cons, apart]
    rw [hit, show [f x] = List.map f [x] from rfl, more, Bool.eq_iff_iff]
    simp only [Bool.and_eq_true, Bool.not_eq_true', decide_eq_false_iff_not, decide_eq_true_eq, List.mem_append, List.mem_cons, List.not_mem_nil, or_false, List.nodup_cons, not_or]
    constructor
    · rintro ⟨h1, h2, h3⟩
      refine ⟨fun y m => ?_, fun m => (h2 x m).2 rfl, h3⟩
      rcases m with rfl | m
      · exact h1
      · exact (h2 y m).1
    · rintro ⟨h1, h2, h3⟩
      exact ⟨h1 x (.inl rfl), fun y m => ⟨h1 y (.inr m), fun e => h2 (e ▸ m)⟩, h3⟩
theorem apart_ints {ns zs : List Int} (p : zs.Perm ns) (s : zs.Pairwise (· ≤ ·)) : apart [] (ns.map PyData.int) = !((adj (zs.map V.int)).any id) := by
  have h := apart_of (f := PyData.int) (fun a b => by rw [eqv_int]; rfl) ns []
  rw [List.map_nil] at h
  rw [h, adj_map (fun a b e => V.int.inj e), adj_any (le := (· ≤ ·)) (fun a b x y => Int.le_antisymm x y) zs s, Bool.not_not]
  rw [Bool.eq_iff_iff, decide_eq_true_eq, decide_eq_true_eq, p.nodup_iff]
  exact ⟨fun h => h.2, fun h => ⟨fun _ _ m => (by cases m), h⟩⟩
theorem apart_strs {ns zs : List Str} (p : zs.Perm ns) (s : sortedS zs = true) : apart [] (ns.map PyData.str) = !((adj (zs.map V.str)).any id) := by
  have h := apart_of (f := PyData.str) (fun a b => by rw [eqv_str, Bool.eq_iff_iff, decide_eq_true_eq, beq_iff_eq]) ns []
  rw [List.map_nil] at h
  rw [h, adj_map (fun a b e => V.str.inj e), adj_any (le := fun a b => a.cps.toList ≤ b.cps.toList) (fun a b x y => by
    have e := List.le_antisymm x y
    cases a; cases b
    dsimp only at e
    congr 1
    exact Array.toList_inj.mp e) zs (sorted_pw s), Bool.not_not]
  rw [Bool.eq_iff_iff, decide_eq_true_eq, decide_eq_true_eq, p.nodup_iff]
  exact ⟨fun h => h.2, fun h => ⟨fun _ _ m => (by cases m), h⟩⟩
end KX

namespace KX
open PySem PySem.Spec L2 PyProof.Rows
theorem pe_either {X : Cx} {e : Expr} {ta tb : TE} (a : PE X e ta) (b : PE X e tb) : PE X e (fun σ H Q => ta σ H Q ∨ tb σ H Q) :=
  ⟨fun pins s σ H Q I h => h.elim (a.run pins s σ H Q I) (b.run pins s σ H Q I)⟩
section
variable {base : Heap} {P : Program} {w : World} {K : PySem.W.Frag} {mg : Str → Option Value} {tk : Str → Tok}
def keyAt (k : Str) : PyData → Option PyData := fun d => match d with
  | .dict kvs => keyIn kvs k
  | _ => none
/-- the keys of rows -/
def Kz {α : Type} (H : Hp) (k : Str) (rows : List V) (g : α → V) (ns : List α) : Prop := ns.length = rows.length ∧ ∀ (i : Nat) (a : α), ns[i]? = some a → ∃ e kvs, rows[i]? = some (.ref e) ∧ H e = some (.dK kvs) ∧ valV kvs (.inr k) = some (g a)
theorem keys_row {α : Type} {f : α → PyData} {g : α → V} {k : Str} {H : Hp} : ∀ {rows : List V} {ds : List PyData}, DqAll K H rows ds → (∀ d ∈ ds, ∀ v, Dq K H v d → ∃ a e kvs, v = .ref e ∧ H e = some (.dK kvs) ∧ valV kvs (.inr k) = some (g a) ∧ keyAt k d = some (f a)) →
    ∃ ns : List α, Kz H k rows g ns ∧ ds.map (keyAt k) = (ns.map f).map some
  | [], [], _, _ => ⟨[], ⟨rfl, fun i a h => by cases h⟩, rfl⟩
  | [], _ :: _, h, _ => by cases h
  | _ :: _, [], h, _ => by cases h
  | v :: rows, d :: ds, h, each => by
    cases h with
    | cons h1 h2 =>
      obtain ⟨ns, ⟨len, kz⟩, e⟩ := keys_row h2 fun d m => each d (List.mem_cons_of_mem _ m)
      obtain ⟨a, ad, kvs, rfl, at', v0, k0⟩ := each d List.mem_cons_self v h1
      refine ⟨a :: ns, ⟨by rw [List.length_cons, List.length_cons, len], fun i b hb => ?_⟩, by rw [List.map_cons, List.map_cons, List.map_cons, k0, e]⟩
      cases i with
      | zero =>
        obtain rfl := Option.some.inj hb
        exact ⟨ad, kvs, rfl, at', v0⟩
      | succ i => exact kz i b hb
theorem lc_keys {α : Type} {g : α → V} {k : Str} {fa va : Addr} {fxs rows : List V} {ns : List α} {x2 x3 x4 x5 x6 x7 : Option V} {H : Hp} {R : VK} (hfa : H fa = some (.tup fxs)) (at2 : atI fxs 2 = some (.str k)) (hva : H va = some (.tup rows)) (few : rows.length ≤ 60) (kz : Kz H k rows g ns)
    (q : ∀ D G, Same H G → G D = some (.lst (ns.map g)) → R (.ref D) G) : tLc (iTup K (tVar 1)) (gName 6) tYes (tDGet (tVar 6) (tOp (rIxT K) (tVar 0) (tC (.int 2)))) [6] [some (.ref fa), some (.ref va), x2, x3, x4, x5, x6, x7] H R := by
  obtain ⟨len, kz⟩ := kz
  refine ⟨_, rfl, va, rfl, ⟨_, SqT.of hva⟩, fun D new => ?_⟩
  refine lc_it (walk_tup (K := K) (a := va) (xs := rows)) (fun i Z => Same H Z ∧ Z D = some (.lst ((ns.take i).map g))) ⟨same_new new _, upd_same⟩ (fun i Z _ z => SqT.of (z.1 _ _ hva)) ?_ ?_
  · rintro i x Z Z' hi ⟨kept, made⟩ ⟨rfl, at'⟩
    have hn := List.getElem?_eq_getElem (show i < ns.length by omega)
    obtain ⟨e, kvs, r1, he, v0⟩ := kz i _ hn
    obtain rfl : V.ref e = x := Option.some.inj (r1.symm.trans at')
    refine ⟨rfl, yesT ⟨_, rfl, _, rfl, fa, _, 2, .str k, rfl, rfl, SqT.of (kept _ _ hfa), at2, e, _, rfl, .inl ⟨kvs, .inr k, .inl (kept _ _ he), rfl, v0.symm⟩, _, made, ?_, Same.updNew kept new, ?_⟩⟩
    · rw [List.length_map, List.length_take]
      exact less_line (by omega)
    · rw [upd_same, List.take_succ, hn, List.map_append]
      rfl
  · rintro Z ⟨kept, made⟩
    rw [← len, List.take_length] at made
    exact q D Z kept made
theorem sorted_run {k : Str} {fa va : Addr} {fxs rows : List V} {xs : List PyData} {x2 x3 x4 x5 x6 x7 : Option V} {H : Hp} {Q : VK} (hfa : H fa = some (.tup fxs)) (at2 : atI fxs 2 = some (.str k)) (hva : H va = some (.tup rows)) (few : rows.length ≤ 60)
    (h : (∃ ns : List Int, xs = ns.map PyData.int ∧ Kz H k rows V.int ns) ∨ ∃ ns : List Str, xs = ns.map PyData.str ∧ Kz H k rows V.str ns)
    (q : ∀ p G zs, Same H G → G p = some (.lst zs) → zs.length ≤ 60 → (∀ a ∈ zs, ∀ b ∈ zs, scal a b = true) → apart [] xs = !((adj zs).any id) → Q (.ref p) G) :
    tCB (rSorted K) (tCons (tLc (iTup K (tVar 1)) (gName 6) tYes (tDGet (tVar 6) (tOp (rIxT K) (tVar 0) (tC (.int 2)))) [6]) tNil) [some (.ref fa), some (.ref va), x2, x3, x4, x5, x6, x7] H Q ∨
    tCB (rSortedS K) (tCons (tLc (iTup K (tVar 1)) (gName 6) tYes (tDGet (tVar 6) (tOp (rIxT K) (tVar 0) (tC (.int 2)))) [6]) tNil) [some (.ref fa), some (.ref va), x2, x3, x4, x5, x6, x7] H Q := by
  rcases h with ⟨ns, rfl, kz⟩ | ⟨ns, rfl, kz⟩
  · have len := kz.1
    refine .inl ?_
    dsimp only [tCB, tCons, tNil]
    refine lc_keys (K := K) hfa at2 hva few kz fun D G s at' => ⟨D, ns, rfl, SqL.of at', by omega, fun ns' p perm pw hp => ?_⟩
    refine q p _ _ (s.trans (same_new hp _)) upd_same (by rw [List.length_map, perm.length_eq]; omega) (fun a ma b mb => ?_) (apart_ints perm pw)
    obtain ⟨i, _, rfl⟩ := List.mem_map.mp ma
    obtain ⟨j, _, rfl⟩ := List.mem_map.mp mb
    rfl
  · have len := kz.1
    refine .inr ?_
    dsimp only [tCB, tCons, tNil]
    refine lc_keys (K := K) hfa at2 hva few kz fun D G s at' => ⟨D, ns, rfl, SqL.of at', by omega, fun ns' p perm pw hp => ?_⟩
    refine q p _ _ (s.trans (same_new hp _)) upd_same (by rw [List.length_map, perm.length_eq]; omega) (fun a ma b mb => ?_) (apart_strs perm pw)
    obtain ⟨i, _, rfl⟩ := List.mem_map.mp ma
    obtain ⟨j, _, rfl⟩ := List.mem_map.mp mb
    rfl
abbrev s_fits : Stmt := top 47
abbrev N_fits : List Str := ["_law_form_here", "_law_matter", "_law_words_here", "_law_keys", "_law_word", "_law_inner", "_law_each", "_law_k"]
abbrev P_fits : List Str := ["_law_form_here", "_law_matter"]
theorem sc_fits : FnScope N_fits P_fits (defScope s_fits) := ⟨rfl, rfl, rfl, by decide +kernel, rfl, by decide +kernel, by decide +kernel⟩
def spFits (K : PySem.W.Frag) (L : Nat) : Sp := fun vs H Q _ => ∃ (fv mv : V) (fm : Fm) (d : PyData) (n m : Nat), vs = [fv, mv] ∧ lev n fm < L ∧ L ≤ 8 ∧ okF n fm ∧ Dq K H fv (enc fm) ∧ Dq K H mv d ∧ Vd m d ∧
  ∀ H' : Hp, Same H H' → Q (.bl (fitsT (tyOf fm) d)) H'
theorem ok_fitsS {L k : Nat} {f : Addr} {fd : FuncData} (F : Fun K "_law_fits" "_law_fits" s_fits f fd) (T : BlT mg) (D_fits : Def P w K mg base "_law_fits" (k + 1) P_fits (spFits K L) f fd) : FnOk P w K mg base CX0 (k + 2) f fd P_fits (spFits K (L + 1)) := by
  refine F.ok sc_fits (fun vs H Q E h => ?_) (fun cdv A outer s H vs Q E hr h => ?_)
  · obtain ⟨fv, mv, fm, d, n, m, rfl, _⟩ := h
    rfl
  obtain ⟨fv, mv, fm, d, n, m, rfl, lt, l8, ok, df, dm, vd, q⟩ := h
  refine ⟨_, (pss_cons (ps_if (pt_cmpR op_eq (pe_ix (ix_tupK K rfl) (pv 0) pe_int (fun _ _ => rfl)) pe_str (nomark _))
      (pss_one (ps_ret (pe_callB (call_isiK K rfl) (by rfl) T.isinstance (by decide +kernel) (pa_cons (pv 1) (pa_cons (pe_bltn (v := .ty "str") (by rfl) T.str (by decide +kernel) rfl) pa_nil)))))
      pss_nil)
    (pss_cons (ps_if (pt_cmpR (op_inK K rfl) (pe_ix (ix_tupK K rfl) (pv 0) pe_int (fun _ _ => rfl)) (pe_lst (pa_cons pe_str (pa_cons pe_str pa_nil))) (by with_unfolding_all rfl))
      (pss_one (ps_ret (pe_and (pe_callB (call_isiK K rfl) (by rfl) T.isinstance (by decide +kernel) (pa_cons (pv 1) (pa_cons (pe_bltn (v := .ty "int") (by rfl) T.int (by decide +kernel) rfl) pa_nil))) (pe_one (pe_cmpR op_eq (pe_callB (call_isiK K rfl) (by rfl) T.isinstance (by decide +kernel) (pa_cons (pv 1) (pa_cons (pe_bltn (v := .ty "bool") (by rfl) T.bool (by decide +kernel) rfl) pa_nil))) (pe_cmpR op_eq (pe_ix (ix_tupK K rfl) (pv 0) pe_int (fun _ _ => rfl)) pe_str (nomark _)) (nomark _))))))
      pss_nil)
    (pss_cons (ps_if (pt_cmpR op_eq (pe_ix (ix_tupK K rfl) (pv 0) pe_int (fun _ _ => rfl)) pe_str (nomark _))
      (pss_one (ps_ret (pe_or (pe_cmpR op_isN (pv 1) pe_non (nomark _)) (pe_one (pe_call D_fits.ok (hr.mono (by first | decide | omega)) rfl D_fits.g D_fits.kp D_fits.b .nil pass0 (pa_cons (pe_ix (ix_tupK K rfl) (pv 0) pe_int (fun _ _ => rfl)) (pa_cons (pv 1) pa_nil)))))))
      pss_nil)
    (pss_cons (ps_if (pt_cmpR op_eq (pe_ix (ix_tupK K rfl) (pv 0) pe_int (fun _ _ => rfl)) pe_str (nomark _))
      (pss_cons (ps_setLc (i := 2) (own := [("_law_word", 4), ("_law_inner", 5)]) (g := (gTup K 2 (gCons (gName 4) (gCons (gName 5) gNil)))) (tt := tYes) rfl sc_fits.nd rfl rfl (sw_true rfl rfl rfl (by decide +kernel)) (pi_tup (pe_ix (ix_tupK K rfl) (pv 0) pe_int (fun _ _ => rfl))) (blkOk_by (own := [("_law_word", 4), ("_law_inner", 5)]) (N := N_fits) (sc := defScope s_fits) (by decide +kernel)) (fun _ _ _ _ _ => (pg_tup rfl (pgs_cons (pg_name (i := 4) sc_fits.nd rfl (Or.inl rfl)) (pgs_cons (pg_name (i := 5) sc_fits.nd rfl (Or.inl rfl)) pgs_nil)))) (fun _ _ _ _ _ => pts_nil) (fun _ _ _ _ _ => (pv 4)))
    (pss_cons (ps_if (PW.pt (pw_or (pt_not (pt_val (pe_callB (call_isiK K rfl) (by rfl) T.isinstance (by decide +kernel) (pa_cons (pv 1) (pa_cons (pe_bltn (v := .ty "dict") (by rfl) T.dict (by decide +kernel) rfl) pa_nil))))) (pw_or (pt_cmpR op_ne (pe_either (pe_callB (call_lenK K rfl) (by rfl) T.len PySem.boot_len (pa_cons (pv 1) pa_nil)) (pe_callB call_lenD (by rfl) T.len PySem.boot_len (pa_cons (pv 1) pa_nil))) (pe_callB (call_lenK K rfl) (by rfl) T.len PySem.boot_len (pa_cons (pv 2) pa_nil)) (nomark _)) (pw_or1 (pt_not (pt_val (pe_callB (cr_all rfl) (by rfl) T.all (by decide +kernel) (pa_cons (pe_lc (own := [("_law_word", 4)]) (g := (gName 4)) (tt := tYes) rfl sc_fits.nd (pi_list (pv 2)) (blkOk_by (own := [("_law_word", 4)]) (N := N_fits) (sc := defScope s_fits) (by decide +kernel)) (fun _ _ _ _ _ => (pg_name (i := 4) sc_fits.nd rfl (Or.inl rfl))) (fun _ _ _ _ _ => pts_nil) (fun _ _ _ _ _ => (pe_cmp (pc_din (hu_of hr) (pv 4) (pv 1))))) pa_nil))))))))
      (pss_one (ps_ret pe_bl))
      pss_nil)
    (pss_one (ps_ret (pe_callB (cr_all rfl) (by rfl) T.all (by decide +kernel) (pa_cons (pe_lc (own := [("_law_word", 4), ("_law_inner", 5)]) (g := (gTup K 2 (gCons (gName 4) (gCons (gName 5) gNil)))) (tt := tYes) rfl sc_fits.nd (pi_tup (pe_ix (ix_tupK K rfl) (pv 0) pe_int (fun _ _ => rfl))) (blkOk_by (own := [("_law_word", 4), ("_law_inner", 5)]) (N := N_fits) (sc := defScope s_fits) (by decide +kernel)) (fun _ _ _ _ _ => (pg_tup rfl (pgs_cons (pg_name (i := 4) sc_fits.nd rfl (Or.inl rfl)) (pgs_cons (pg_name (i := 5) sc_fits.nd rfl (Or.inl rfl)) pgs_nil)))) (fun _ _ _ _ _ => pts_nil) (fun _ _ _ _ _ => (pe_call D_fits.ok (hr.mono (by first | decide | omega)) rfl D_fits.g D_fits.kp D_fits.b .nil pass0 (pa_cons (pv 5) (pa_cons (pe_dget (hu_of hr) (pv 1) (pv 4) (fun _ _ => rfl)) pa_nil))))) pa_nil))))))
      pss_nil)
    (pss_cons (ps_if (PW.pt (pw_or (pt_not (pt_val (pe_callB (call_isiK K rfl) (by rfl) T.isinstance (by decide +kernel) (pa_cons (pv 1) (pa_cons (pe_bltn (v := .ty "tuple") (by rfl) T.tuple (by decide +kernel) rfl) pa_nil))))) (pw_or (pt_cmpR op_gt (pe_either (pe_callB (call_lenK K rfl) (by rfl) T.len PySem.boot_len (pa_cons (pv 1) pa_nil)) (pe_callB call_lenD (by rfl) T.len PySem.boot_len (pa_cons (pv 1) pa_nil))) pe_int (nomark _)) (pw_or1 (pt_not (pt_val (pe_callB (cr_all rfl) (by rfl) T.all (by decide +kernel) (pa_cons (pe_lc (own := [("_law_each", 6)]) (g := (gName 6)) (tt := tYes) rfl sc_fits.nd (pi_tup (pv 1)) (blkOk_by (own := [("_law_each", 6)]) (N := N_fits) (sc := defScope s_fits) (by decide +kernel)) (fun _ _ _ _ _ => (pg_name (i := 6) sc_fits.nd rfl (Or.inl rfl))) (fun _ _ _ _ _ => pts_nil) (fun _ _ _ _ _ => (pe_call D_fits.ok (hr.mono (by first | decide | omega)) rfl D_fits.g D_fits.kp D_fits.b .nil pass0 (pa_cons (pe_ix (ix_tupK K rfl) (pv 0) pe_int (fun _ _ => rfl)) (pa_cons (pv 6) pa_nil))))) pa_nil))))))))
      (pss_one (ps_ret pe_bl))
      pss_nil)
    (pss_cons (ps_if (pt_cmpR op_eq (pe_ix (ix_tupK K rfl) (pv 0) pe_int (fun _ _ => rfl)) pe_str (nomark _))
      (pss_cons (ps_set (i := 3) sc_fits.nd rfl (Or.inr rfl) (pe_either (pe_callB cr_sorted (by rfl) T.sorted (by decide +kernel) (pa_cons (pe_lc (own := [("_law_each", 6)]) (g := (gName 6)) (tt := tYes) rfl sc_fits.nd (pi_tup (pv 1)) (blkOk_by (own := [("_law_each", 6)]) (N := N_fits) (sc := defScope s_fits) (by decide +kernel)) (fun _ _ _ _ _ => (pg_name (i := 6) sc_fits.nd rfl (Or.inl rfl))) (fun _ _ _ _ _ => pts_nil) (fun _ _ _ _ _ => (pe_dget (hu_of hr) (pv 6) (pe_ix (ix_tupK K rfl) (pv 0) pe_int (fun _ _ => rfl)) (fun _ _ => rfl)))) pa_nil)) (pe_callB cr_sortedS (by rfl) T.sorted (by decide +kernel) (pa_cons (pe_lc (own := [("_law_each", 6)]) (g := (gName 6)) (tt := tYes) rfl sc_fits.nd (pi_tup (pv 1)) (blkOk_by (own := [("_law_each", 6)]) (N := N_fits) (sc := defScope s_fits) (by decide +kernel)) (fun _ _ _ _ _ => (pg_name (i := 6) sc_fits.nd rfl (Or.inl rfl))) (fun _ _ _ _ _ => pts_nil) (fun _ _ _ _ _ => (pe_dget (hu_of hr) (pv 6) (pe_ix (ix_tupK K rfl) (pv 0) pe_int (fun _ _ => rfl)) (fun _ _ => rfl)))) pa_nil))))
    (pss_one (ps_ret (pe_not (pe_callB (cr_any rfl) (by rfl) T.any (by decide +kernel) (pa_cons (pe_lc (own := [("_law_k", 7)]) (g := (gName 7)) (tt := tYes) rfl sc_fits.nd (pi_range1 rfl T.range (pa_cons (pe_op op_sub (pe_callB (call_lenK K rfl) (by rfl) T.len PySem.boot_len (pa_cons (pv 3) pa_nil)) pe_int) pa_nil)) (blkOk_by (own := [("_law_k", 7)]) (N := N_fits) (sc := defScope s_fits) (by decide +kernel)) (fun _ _ _ _ _ => (pg_name (i := 7) sc_fits.nd rfl (Or.inl rfl))) (fun _ _ _ _ _ => pts_nil) (fun _ _ _ _ _ => (pe_cmpR op_eq (pe_ix (ix_listK K rfl) (pv 3) (pv 7) (fun _ _ => rfl)) (pe_ix (ix_listK K rfl) (pv 3) (pe_op op_add (pv 7) pe_int) (fun _ _ => rfl)) (nomark _)))) pa_nil))))))
      pss_nil)
    (pss_one (ps_ret pe_bl)))))))), ?_⟩
  obtain ⟨fa, fxs, rfl, hfa, head⟩ := enc_head fm df
  have at0 : atI fxs 0 = some (.str fm.word) := at_of (j := 0) rfl head
  obtain ⟨T', ty, kstr, kint, kbool, ktup⟩ := typ_all (Same.refl H) dm
  have no : ∀ z : Str, fm.word ≠ z → decide (V.str fm.word = V.str z) = false := fun z ne => decide_eq_false fun e => ne (V.str.inj e)
  have yes : ∀ z : Str, fm.word = z → decide (V.str fm.word = V.str z) = true := fun z e => decide_eq_true (by rw [e])
  by_cases lists : ∃ (ga : V) (g : Fm) (n' : Nat) (key : Option Str) (zs : List V), fxs = .str fm.word :: ga :: zs ∧ Dq K H ga (enc g) ∧ lev n' g < L ∧ okF n' g ∧ ((fm.word = "list" ∧ key = none) ∨ (fm.word = "keyed" ∧ ∃ k r fs x, key = some k ∧ zs = .str k :: r ∧ tyOf g = .rcd fs ∧ (k, x) ∈ fs ∧ keyT x = true)) ∧
      (∀ ds, tr (tyOf fm) (.tuple ds) [] = if ds.length ≤ 60 then rowsT (fun x q => tr (tyOf g) x q) key ds 0 [] [] else some []) ∧ (∀ d, isTup d = false → tr (tyOf fm) d [] = some [])
  · obtain ⟨ga, g, n', key, zs, rfl, dga, ll, okg, word, many, none'⟩ := lists
    have hw : fm.word = "list" ∨ fm.word = "keyed" := word.imp And.left And.left
    have w1 : fm.word ≠ "optional" := by rcases hw with e | e <;> rw [e] <;> decide
    have w2 : fm.word ≠ "text" := by rcases hw with e | e <;> rw [e] <;> decide
    have w3 : inV (V.str fm.word) [V.str "number", V.str "flag"] = false := by rcases hw with e | e <;> rw [e] <;> rfl
    have w4 : fm.word ≠ "record" := by rcases hw with e | e <;> rw [e] <;> decide
    refine ⟨_, rfl, fa, _, 0, _, rfl, rfl, SqT.of hfa, at0, rfl, _, rfl, if_ff (no _ w2) ?_⟩
    refine ⟨_, rfl, fa, _, 0, _, rfl, rfl, SqT.of hfa, at0, big (by show 2 ≤ _; decide), fun l2 hl2 => ⟨l2, _, rfl, .inl (SqL.of upd_same), rfl, rfl, _, rfl, if_ff w3 ?_⟩⟩
    have s2 := same_new hl2 (.lst [.str "number", .str "flag"])
    generalize upd H l2 (.lst [.str "number", .str "flag"]) = G2 at s2 ⊢
    refine ⟨_, rfl, fa, _, 0, _, rfl, rfl, SqT.of (s2 _ _ hfa), at0, rfl, _, rfl, if_ff (no _ w1) ?_⟩
    refine ⟨_, rfl, fa, _, 0, _, rfl, rfl, SqT.of (s2 _ _ hfa), at0, rfl, _, rfl, if_ff (no _ w4) ?_⟩
    obtain ⟨T2, ty2, _, _, _, ktup2⟩ := typ_all s2 dm
    refine ⟨_, rfl, _, _, _, _, _, rfl, .ty _, ty2, ktup2, _, rfl, ?_⟩
    by_cases hT : isTup d = true
    rotate_left
    · have hT' : isTup d = false := Bool.eq_false_iff.mpr hT
      have z : fitsT (tyOf fm) d = false := by
        unfold fitsT
        rw [none' d hT']
        rfl
      have := q G2 s2
      rw [z] at this
      exact if_tt (by rw [hT']; rfl) (if_tt rfl this)
    obtain ⟨va, rows, ds, rfl, rfl, hb, all⟩ : ∃ va rows ds, mv = .ref va ∧ d = .tuple ds ∧ H va = some (.tup rows) ∧ DqAll K H rows ds := by
      clear q
      cases dm with
      | tup hs ha => exact ⟨_, _, _, rfl, rfl, hs, ha⟩
      | _ => cases hT
    have rl := all.length
    have told : fitsT (tyOf fm) (.tuple ds) = (if ds.length ≤ 60 then rowsT (fun x q => tr (tyOf g) x q) key ds 0 [] [] else some []).isNone := by
      unfold fitsT
      rw [many ds]
    rw [told] at q
    refine if_ff (by rfl) ?_
    refine .inl ⟨_, rfl, .ref va, rows.length, rfl, .inr ⟨rows, SqT.of (s2 _ _ hb), rfl⟩, _, _, rfl, rfl, _, rfl, ?_⟩
    by_cases le : ds.length ≤ 60
    rotate_left
    · rw [if_neg le] at q
      exact if_tt (decide_eq_true (by omega)) (if_tt rfl (q G2 s2))
    rw [if_pos le] at q
    refine if_ff (decide_eq_false (by omega)) ?_
    obtain ⟨m0, em, vd'⟩ : ∃ m0, ds.length ≤ 100 ∧ ∀ x ∈ ds, Vd m0 x := by
      cases m with
      | zero => simp [Vd] at vd
      | succ m => exact ⟨m, by simpa only [Vd] using vd⟩
    refine ⟨_, rfl, va, rfl, ⟨_, SqT.of (s2 _ _ hb)⟩, fun D new => ?_⟩
    refine lc_it (walk_tup (K := K) (a := va) (xs := rows)) (fun i Z => Same G2 Z ∧ Z D = some (.lst ((ds.take i).map fun x => V.bl (fitsT (tyOf g) x)))) ⟨same_new new _, upd_same⟩ (fun i Z _ z => SqT.of (z.1 _ _ (s2 _ _ hb))) ?_ ?_
    · rintro i x Z Z' hi ⟨kept, made⟩ ⟨rfl, at'⟩
      obtain ⟨z, ez, dz⟩ := all.get at'
      have sZ := s2.trans kept
      refine ⟨rfl, yesT ⟨_, rfl, fa, _, 1, ga, rfl, rfl, SqT.of (sZ _ _ hfa), at_of (j := 1) rfl rfl, _, rfl, ga, x, g, z, n', m0, rfl, ll, by omega, okg, Dq.same sZ _ _ dga, Dq.same sZ _ _ dz, vd' _ (List.mem_of_getElem? ez), fun Z3 s3 => ⟨_, s3 _ _ made, ?_, Same.updNew (kept.trans s3) new, ?_⟩⟩⟩
      · rw [List.length_map, List.length_take]
        exact less_line (by omega)
      · rw [upd_same, List.take_succ, ez, List.map_append]
        rfl
    rintro G3 ⟨s3, made⟩
    rw [rl, List.take_length] at made
    have s13 := s2.trans s3
    have bl1 : (ds.map fun x => V.bl (fitsT (tyOf g) x)) = (ds.map fun x => fitsT (tyOf g) x).map V.bl := by rw [List.map_map]; rfl
    rw [bl1] at made
    refine ⟨D, _, rfl, SqL.of made, _, rfl, ?_⟩
    have alls : (ds.map fun x => fitsT (tyOf g) x).all id = ds.all (fitsT (tyOf g)) := by rw [List.all_map]; rfl
    by_cases every : ds.all (fitsT (tyOf g)) = true
    rotate_left
    · have none0 : (rowsT (fun x q => tr (tyOf g) x q) key ds 0 [] []).isNone = false := by
        refine rows_bad (ok := fitsT (tyOf g)) (fun x p => fits_at _ _ _) (fun k ek x ox => ?_) ds 0 [] [] (Bool.eq_false_iff.mpr every)
        rcases word with ⟨_, rfl⟩ | ⟨_, k', r, fs, x0, rfl, _, ety, mem, kt⟩
        · cases ek
        · cases ek
          have h := fits_none.mp ox []
          rw [ety] at h
          simp only [tr] at h
          cases x with
          | dict kds =>
            dsimp only at h
            by_cases all' : (kds.all fun kv => fs.any fun q => isKey kv.1 q.1) = true
            · rw [if_pos all'] at h
              obtain ⟨y, q', ky, _⟩ := key_there h mem
              exact ⟨kds, y, rfl, ky⟩
            · rw [if_neg all'] at h
              cases h
          | _ => cases h
      have := q G3 s13
      rw [none0] at this
      exact if_tt (by rw [alls, Bool.eq_false_iff.mpr every]; rfl) this
    refine if_ff (by rw [alls, every]; rfl) ?_
    refine ⟨_, rfl, fa, _, 0, _, rfl, rfl, SqT.of (s13 _ _ hfa), at0, rfl, _, rfl, ?_⟩
    rcases word with ⟨ew, rfl⟩ | ⟨ew, k, r, fs, x0, rfl, rfl, ety, mem, kt⟩
    · refine if_ff (no _ (by rw [ew]; decide)) ?_
      have := q G3 s13
      rw [rows_list (ok := fitsT (tyOf g)) (fun x p => fits_at _ _ _) ds 0 [] [], every] at this
      exact this
    · refine if_tt (yes _ ew) ?_
      have row : ∀ d ∈ ds, ∀ v, Dq K G3 v d → ∃ e kvs kds v0 y p, v = .ref e ∧ d = .dict kds ∧ G3 e = some (.dK kvs) ∧ valV kvs (.inr k) = some v0 ∧ keyIn kds k = some y ∧ Dq K G3 v0 y ∧ tr x0 y p = none := fun d md v dv => by
        have h := fits_none.mp (List.all_eq_true.mp every d md) []
        rw [ety] at h
        cases dv with
        | @dct e kvs kds hs hk =>
          simp only [tr] at h
          by_cases all' : (kds.all fun kv => fs.any fun q => isKey kv.1 q.1) = true
          · rw [if_pos all'] at h
            obtain ⟨y, q', ky, ty⟩ := key_there h mem
            rcases find_kv k hk with ⟨_, no'⟩ | ⟨v0, y1, v1, k1, dv, _⟩
            · rw [no'] at ky
              cases ky
            obtain rfl : y1 = y := Option.some.inj (k1.symm.trans ky)
            exact ⟨_, _, _, v0, y1, q', rfl, rfl, hs, v1, k1, dv, ty⟩
          · rw [if_neg all'] at h
            cases h
        | _ => simp only [tr] at h; cases h
      have all3 := DqAll.same s13 _ _ all
      obtain ⟨xs, exs, hxs⟩ : ∃ xs : List PyData, ds.map (keyAt k) = xs.map some ∧ ((∃ ns : List Int, xs = ns.map PyData.int ∧ Kz G3 k rows V.int ns) ∨ ∃ ns : List Str, xs = ns.map PyData.str ∧ Kz G3 k rows V.str ns) := by
        cases x0 with
        | number =>
          obtain ⟨ns, kz, e⟩ := keys_row (f := PyData.int) (g := V.int) (k := k) all3 fun d md v dv => by
            obtain ⟨e, kvs, kds, v0, y, p, rfl, rfl, hs, v1, k1, dv0, ty⟩ := row d md v dv
            simp only [tr] at ty
            cases dv0 with
            | int i => exact ⟨i, e, kvs, rfl, hs, v1, k1⟩
            | tup _ _ => rw [if_neg (kindS_tup _ _ (by decide) (by decide))] at ty; cases ty
            | dct _ _ => rw [if_neg (kindS_dict _ _ (by decide) (by decide))] at ty; cases ty
            | _ => rw [if_neg (by simp only [kindS]; decide)] at ty; cases ty
          exact ⟨_, e, .inl ⟨ns, rfl, kz⟩⟩
        | text =>
          obtain ⟨ns, kz, e⟩ := keys_row (f := PyData.str) (g := V.str) (k := k) all3 fun d md v dv => by
            obtain ⟨e, kvs, kds, v0, y, p, rfl, rfl, hs, v1, k1, dv0, ty⟩ := row d md v dv
            simp only [tr] at ty
            cases dv0 with
            | str z => exact ⟨z, e, kvs, rfl, hs, v1, k1⟩
            | tup _ _ => rw [if_neg (kindS_tup _ _ (by decide) (by decide))] at ty; cases ty
            | dct _ _ => rw [if_neg (kindS_dict _ _ (by decide) (by decide))] at ty; cases ty
            | _ => rw [if_neg (by simp only [kindS]; decide)] at ty; cases ty
          exact ⟨_, e, .inr ⟨ns, rfl, kz⟩⟩
        | _ => cases kt
      have good : (rowsT (fun x q => tr (tyOf g) x q) (some k) ds 0 [] []).isNone = apart [] xs := rows_good ds xs 0 [] [] (fun d md p => fits_none.mp (List.all_eq_true.mp every d md) p) exs
      rw [good] at q
      refine sorted_run (K := K) (s13 _ _ hfa) (at_of (j := 2) rfl rfl) (s13 _ _ hb) (by omega) hxs fun p G4 zs s4 atp few flat ap => ?_
      rw [ap] at q
      have s14 := s13.trans s4
      refine ⟨_, rfl, .ref p, zs.length, rfl, .inl ⟨zs, SqL.of atp, rfl⟩, _, _, rfl, rfl, _, rfl, by omega, by omega, fun D5 new5 => ?_⟩
      rw [show ((zs.length : Int) - 1).toNat = zs.length - 1 from by omega]
      refine lc_range (lo := 0) (n := zs.length - 1) (fun i Z => Same G4 Z ∧ Z D5 = some (.lst (((adj zs).take i).map V.bl))) ⟨same_new new5 _, upd_same⟩ ?_ ?_
      · rintro i Z hi ⟨kept, made5⟩
        have h1 := List.getElem?_eq_getElem (show i < zs.length by omega)
        have h2 := List.getElem?_eq_getElem (show i + 1 < zs.length by omega)
        refine ⟨rfl, yesT ⟨_, rfl, _, rfl, p, zs, 0 + (i : Int), _, rfl, rfl, SqL.of (kept _ _ atp), at_of (j := i) (by omega) h1, _, rfl, _, rfl, _, _, rfl, rfl, p, zs, 0 + (i : Int) + 1, _, rfl, rfl, SqL.of (kept _ _ atp), at_of (j := i + 1) (by omega) h2, flat _ (List.getElem_mem _) _ (List.getElem_mem _), _, made5, ?_, Same.updNew kept new5, ?_⟩⟩
        · rw [List.length_map, List.length_take]
          exact less_line (by omega)
        · rw [upd_same, adj_more h1 h2, List.map_append]
          rfl
      · rintro Z ⟨kept, made5⟩
        rw [← adj_len, List.take_length] at made5
        exact ⟨D5, _, rfl, SqL.of made5, _, rfl, q Z (s14.trans kept)⟩
  cases fm with
  | opt g =>
    obtain ⟨n', rfl, ok'⟩ : ∃ n', n = n' + 1 ∧ okF n' g ∧ g.isOpt = false := by
      cases n with
      | zero => simp [okF] at ok
      | succ n => exact ⟨n, rfl, by simpa only [okF] using ok⟩
    obtain ⟨gv, rfl, dgv⟩ : ∃ gv, fxs = [.str "optional", gv] ∧ Dq K H gv (enc g) := by
      simp only [enc] at df
      cases df with
      | tup hs ha =>
        rw [hfa] at hs
        cases hs
        obtain ⟨x, y, rfl, hx, hy⟩ := DqAll.two ha
        cases hx
        exact ⟨y, rfl, hy⟩
    refine ⟨_, rfl, fa, _, 0, _, rfl, rfl, SqT.of hfa, at0, rfl, _, rfl, if_ff (no _ (by simp only [Fm.word]; decide)) ?_⟩
    refine ⟨_, rfl, fa, _, 0, _, rfl, rfl, SqT.of hfa, at0, big (by show 2 ≤ _; decide), fun l2 hl2 => ⟨l2, _, rfl, .inl (SqL.of upd_same), rfl, rfl, _, rfl, if_ff (by rfl) ?_⟩⟩
    have s2 := same_new hl2 (.lst [.str "number", .str "flag"])
    generalize upd H l2 (.lst [.str "number", .str "flag"]) = G2 at s2 ⊢
    refine ⟨_, rfl, fa, _, 0, _, rfl, rfl, SqT.of (s2 _ _ hfa), at0, rfl, _, rfl, if_tt (yes _ rfl) ?_⟩
    refine ⟨_, rfl, rfl, _, rfl, ?_⟩
    by_cases e : mv = .non
    · subst e
      cases dm
      refine if_tt rfl ?_
      have := q G2 s2
      have z : fitsT (tyOf (.opt g)) .none = true := by unfold fitsT; simp only [tyOf, tr]; rfl
      rw [z] at this
      exact this
    · refine if_ff (decide_eq_false e) ?_
      have same : fitsT (tyOf (.opt g)) d = fitsT (tyOf g) d := by
        unfold fitsT
        simp only [tyOf]
        cases dm with
        | non => exact absurd rfl e
        | _ => simp only [tr]
      rw [same] at q
      have ll : lev n' g < L := by
        have := lev_le n' g
        simp only [lev] at lt
        omega
      exact ⟨_, rfl, fa, _, 1, gv, rfl, rfl, SqT.of (s2 _ _ hfa), at_of (j := 1) rfl rfl, _, rfl, gv, mv, g, d, n', m, rfl, ll, by omega, ok'.1, Dq.same s2 _ _ dgv, Dq.same s2 _ _ dm, vd, fun H' s' => q H' (s2.trans s')⟩
  | text =>
    refine ⟨_, rfl, fa, _, 0, _, rfl, rfl, SqT.of hfa, at0, rfl, _, rfl, if_tt (yes _ rfl) ?_⟩
    refine ⟨_, rfl, _, _, _, _, _, rfl, .ty _, ty, kstr, ?_⟩
    have z : fitsT (tyOf .text) d = isStr d := by
      unfold fitsT
      simp only [tyOf, tr]
      by_cases hS : isStr d = true
      · rw [hS]
        cases d with
        | str z => rfl
        | _ => cases hS
      · rw [if_neg (not_text hS), Bool.eq_false_iff.mpr hS]
        rfl
    rw [← z]
    exact q H (Same.refl H)
  | number =>
    refine ⟨_, rfl, fa, _, 0, _, rfl, rfl, SqT.of hfa, at0, rfl, _, rfl, if_ff (no _ (by decide)) ?_⟩
    refine ⟨_, rfl, fa, _, 0, _, rfl, rfl, SqT.of hfa, at0, big (by show 2 ≤ _; decide), fun l2 hl2 => ⟨l2, _, rfl, .inl (SqL.of upd_same), rfl, rfl, _, rfl, if_tt (by rfl) ?_⟩⟩
    have s2 := same_new hl2 (.lst [.str "number", .str "flag"])
    generalize upd H l2 (.lst [.str "number", .str "flag"]) = G2 at s2 ⊢
    obtain ⟨T2, ty2, _, kint2, kbool2, _⟩ := typ_all s2 dm
    have z : fitsT (tyOf .number) d = (isIn d && !isBl d) := by
      rw [← is_number d]
      unfold fitsT
      simp only [tyOf, tr]
      by_cases k : kindS d = "number"
      · rw [if_pos k, decide_eq_true k]; rfl
      · rw [if_neg k, decide_eq_false k]; rfl
    have fin := q G2 s2
    rw [z] at fin
    refine ⟨_, rfl, _, _, _, _, _, rfl, .ty _, ty2, kint2, _, rfl, ?_⟩
    by_cases hI : isIn d = true
    · refine if_tt hI ⟨_, rfl, _, _, _, _, _, rfl, .ty _, ty2, kbool2, _, rfl, fa, _, 0, _, rfl, rfl, SqT.of (s2 _ _ hfa), at0, rfl, rfl, ?_⟩
      rw [hI] at fin
      by_cases hB : isBl d = true
      · rw [hB] at fin ⊢
        exact fin
      · rw [Bool.eq_false_iff.mpr hB] at fin ⊢
        exact fin
    · rw [Bool.eq_false_iff.mpr hI] at fin
      exact if_ff (Bool.eq_false_iff.mpr hI) fin
  | flag =>
    refine ⟨_, rfl, fa, _, 0, _, rfl, rfl, SqT.of hfa, at0, rfl, _, rfl, if_ff (no _ (by decide)) ?_⟩
    refine ⟨_, rfl, fa, _, 0, _, rfl, rfl, SqT.of hfa, at0, big (by show 2 ≤ _; decide), fun l2 hl2 => ⟨l2, _, rfl, .inl (SqL.of upd_same), rfl, rfl, _, rfl, if_tt (by rfl) ?_⟩⟩
    have s2 := same_new hl2 (.lst [.str "number", .str "flag"])
    generalize upd H l2 (.lst [.str "number", .str "flag"]) = G2 at s2 ⊢
    obtain ⟨T2, ty2, _, kint2, kbool2, _⟩ := typ_all s2 dm
    have z : fitsT (tyOf .flag) d = (isIn d && isBl d) := by
      rw [← is_flag d]
      unfold fitsT
      simp only [tyOf, tr]
      by_cases k : kindS d = "flag"
      · rw [if_pos k, decide_eq_true k]; rfl
      · rw [if_neg k, decide_eq_false k]; rfl
    have fin := q G2 s2
    rw [z] at fin
    refine ⟨_, rfl, _, _, _, _, _, rfl, .ty _, ty2, kint2, _, rfl, ?_⟩
    by_cases hI : isIn d = true
    · refine if_tt hI ⟨_, rfl, _, _, _, _, _, rfl, .ty _, ty2, kbool2, _, rfl, fa, _, 0, _, rfl, rfl, SqT.of (s2 _ _ hfa), at0, rfl, rfl, ?_⟩
      rw [hI] at fin
      by_cases hB : isBl d = true
      · rw [hB] at fin ⊢
        exact fin
      · rw [Bool.eq_false_iff.mpr hB] at fin ⊢
        exact fin
    · rw [Bool.eq_false_iff.mpr hI] at fin
      exact if_ff (Bool.eq_false_iff.mpr hI) fin
  | rcd fs =>
    obtain ⟨n', rfl, o'⟩ : ∃ n', n = n' + 1 ∧ (Names (fs.map (·.1)) ∧ sortedS (fs.map (·.1)) = true ∧ 1 ≤ fs.length ∧ fs.length ≤ 3 ∧ ∀ q ∈ fs, okF n' q.2) := by
      cases n with
      | zero => simp [okF] at ok
      | succ n => exact ⟨n, rfl, by simpa only [okF] using ok⟩
    obtain ⟨lv, rfl, dl⟩ : ∃ lv, fxs = [.str "record", lv] ∧ Dq K H lv (.tuple (encFs fs)) := by
      simp only [enc] at df
      cases df with
      | tup hs ha =>
        rw [hfa] at hs
        cases hs
        obtain ⟨x, y, rfl, hx, hy⟩ := DqAll.two ha
        cases hx
        exact ⟨y, rfl, hy⟩
    obtain ⟨la, ls, rfl, hla, lall⟩ := Dq.tup1 dl
    have lfs : ls.length = fs.length := by rw [DqAll.length lall, encFs_len]
    refine ⟨_, rfl, fa, _, 0, _, rfl, rfl, SqT.of hfa, at0, rfl, _, rfl, if_ff (no _ (by simp only [Fm.word]; decide)) ?_⟩
    refine ⟨_, rfl, fa, _, 0, _, rfl, rfl, SqT.of hfa, at0, big (by show 2 ≤ _; decide), fun l2 hl2 => ⟨l2, _, rfl, .inl (SqL.of upd_same), rfl, rfl, _, rfl, if_ff (by rfl) ?_⟩⟩
    have s2 := same_new hl2 (.lst [.str "number", .str "flag"])
    generalize upd H l2 (.lst [.str "number", .str "flag"]) = G2 at s2 ⊢
    refine ⟨_, rfl, fa, _, 0, _, rfl, rfl, SqT.of (s2 _ _ hfa), at0, rfl, _, rfl, if_ff (no _ (by simp only [Fm.word]; decide)) ?_⟩
    refine ⟨_, rfl, fa, _, 0, _, rfl, rfl, SqT.of (s2 _ _ hfa), at0, rfl, _, rfl, if_tt (yes _ rfl) ?_⟩
    refine ⟨_, rfl, fa, _, 1, .ref la, rfl, rfl, SqT.of (s2 _ _ hfa), at_of (j := 1) rfl rfl, la, rfl, ⟨_, SqT.of (s2 _ _ hla)⟩, fun D new => ?_⟩
    refine lc_it (g := gTup K 2 (gCons (gName 4) (gCons (gName 5) gNil))) (tt := tYes) (vs := [4, 5]) (te := tVar 4) (walk_tup (K := K) (a := la) (xs := ls)) (fun i G => Same G2 G ∧ G D = some (.lst ((fs.take i).map fun q => .str q.1))) ⟨same_new new _, upd_same⟩ (fun i G _ p => SqT.of (p.1 _ _ (s2 _ _ hla))) ?_ ?_
    · rintro j x G3 G hj ⟨kept, made⟩ ⟨rfl, hx⟩
      obtain ⟨d0, ed, dq0⟩ := lall.get hx
      obtain ⟨m1, f0, hf, rfl⟩ := encFs_at ed
      obtain ⟨c, cs, rfl, hc, call'⟩ := Dq.tup1 dq0
      obtain ⟨u0, fv, rfl, du, dfv⟩ := DqAll.two call'
      cases du
      refine ⟨c, _, rfl, SqT.of (kept _ _ (s2 _ _ hc)), rfl, _, _, rfl, _, _, rfl, rfl, rfl, yesT ?_⟩
      refine ⟨_, rfl, _, made, ?_, Same.updNew kept new, ?_⟩
      · rw [List.length_map, List.length_take, sizeLine_eq]
        omega
      · have e : fs.take (j + 1) = fs.take j ++ [(m1, f0)] := by
          rw [List.take_succ, hf]
          rfl
        rw [upd_same, e, List.map_append]
        rfl
    rintro G3 ⟨s3, made⟩
    rw [lfs, List.take_length] at made
    have s13 := s2.trans s3
    obtain ⟨T2, ty2, kd, _⟩ := typ_of s13 dm
    refine ⟨_, rfl, _, _, _, _, _, rfl, .ty _, ty2, kd, _, rfl, ?_⟩
    by_cases hD : isDict d = true
    rotate_left
    · have hD' : isDict d = false := Bool.eq_false_iff.mpr hD
      have z : fitsT (tyOf (.rcd fs)) d = false := by
        unfold fitsT
        simp only [tyOf, tr]
        cases d with
        | dict => cases hD'
        | _ => rfl
      have := q G3 s13
      rw [z] at this
      exact if_tt (by rw [hD']; rfl) (if_tt rfl this)
    obtain ⟨e, kvs0, kds, rfl, rfl, he, hkv⟩ : ∃ e kvs0 kds, mv = .ref e ∧ d = .dict kds ∧ H e = some (.dK kvs0) ∧ DqKv K H kvs0 kds := by
      clear q
      cases dm with
      | dct hs ha => exact ⟨_, _, _, rfl, rfl, hs, ha⟩
      | _ => cases hD
    obtain ⟨m', hv⟩ : ∃ m', (kds.length ≤ 100 ∧ (kds.map (·.1)).Nodup ∧ ∀ kv ∈ kds, KeyOk kv.1) ∧ ∀ kv ∈ kds, Vd m' kv.2 := by
      cases m with
      | zero => simp [Vd] at vd
      | succ m => exact ⟨m, by simpa only [Vd] using vd⟩
    have lenk := DqKv.length hkv
    have ntys : ((tyOfs fs).map (·.1)) = fs.map (·.1) := by rw [tyOfs_map, List.map_map]; rfl
    have ltys : (tyOfs fs).length = fs.length := by rw [tyOfs_map, List.length_map]
    have ndf : ((tyOfs fs).map (·.1)).Nodup := by rw [ntys]; exact o'.1.1
    simp only [tyOf] at q
    refine if_ff (by rfl) ?_
    refine .inr ⟨_, rfl, e, kvs0, rfl, s13 _ _ he, _, rfl, .ref D, _, rfl, .inl ⟨_, SqL.of made, rfl⟩, rfl, _, rfl, ?_⟩
    have words : (fs.map fun q => V.str q.1).length = fs.length := List.length_map ..
    by_cases same : kds.length = fs.length
    rotate_left
    · have z : fitsT (.rcd (tyOfs fs)) (.dict kds) = false := rcd_len hv.1.2.1 ndf (by rw [ltys]; exact same)
      have := q G3 s13
      rw [z] at this
      refine if_tt ?_ (if_tt rfl this)
      rw [decide_eq_false fun w => same ?_]
      · rfl
      · have := V.int.inj w
        omega
    refine if_ff ?_ ?_
    · rw [decide_eq_true]
      · rfl
      · rw [words, lenk, same]
    have known : ∀ n : Str, (valV kvs0 (.inr n)).isSome = (keyIn kds n).isSome := fun n => by
      rcases find_kv n hkv with ⟨v0, k0⟩ | ⟨v, d, v0, k0, _⟩
      · rw [v0, k0]; rfl
      · rw [v0, k0]; rfl
    refine ⟨_, rfl, D, rfl, ⟨_, SqL.of made⟩, fun D2 new2 => ?_⟩
    have takes : ∀ {i : Nat} {q : Str × Fm}, fs[i]? = some q → fs.take (i + 1) = fs.take i ++ [q] := fun h => by
      rw [List.take_succ, h]
      rfl
    refine lc_it (walk_list (K := K) (a := D) (xs := fs.map fun q => V.str q.1)) (fun i Z => Same G3 Z ∧ Z D2 = some (.lst ((fs.take i).map fun q => V.bl (keyIn kds q.1).isSome))) ⟨same_new new2 _, upd_same⟩ (fun i Z _ z => SqL.of (z.1 _ _ made)) ?_ ?_
    · rintro i x Z Z' hi ⟨kept, made2⟩ ⟨rfl, at'⟩
      obtain ⟨q0, hq, rfl⟩ : ∃ q0, fs[i]? = some q0 ∧ V.str q0.1 = x := by
        rw [List.getElem?_map] at at'
        cases z : fs[i]? with
        | none => rw [z] at at'; cases at'
        | some q0 => rw [z] at at'; exact ⟨q0, rfl, Option.some.inj at'⟩
      refine ⟨rfl, yesT ⟨_, rfl, _, rfl, e, _, rfl, DGet.k (k := .inr q0.1) (kept _ _ (s13 _ _ he)), _, made2, ?_, Same.updNew kept new2, ?_⟩⟩
      · rw [List.length_map, List.length_take]
        exact less_line (by omega)
      · rw [upd_same, takes hq, List.map_append, known]
        rfl
    rintro G4 ⟨s4, made2⟩
    rw [words, List.take_length] at made2
    have bl1 : (fs.map fun q => V.bl (keyIn kds q.1).isSome) = (fs.map fun q => (keyIn kds q.1).isSome).map V.bl := by rw [List.map_map]; rfl
    rw [bl1] at made2
    refine ⟨D2, _, rfl, SqL.of made2, _, rfl, ?_⟩
    have s14 := s13.trans s4
    by_cases all : ∀ q ∈ tyOfs fs, ∃ d, keyIn kds q.1 = some d
    rotate_left
    · obtain ⟨q0, h⟩ := Classical.not_forall.mp all
      obtain ⟨m0, h⟩ := Classical.not_imp.mp h
      have none0 : keyIn kds q0.1 = none := by
        cases z : keyIn kds q0.1 with
        | none => rfl
        | some d => exact absurd ⟨d, z⟩ h
      have z := rcd_miss m0 none0
      have := q G4 s14
      rw [z] at this
      refine if_tt ?_ this
      rw [tyOfs_map] at m0
      obtain ⟨q1, m1, rfl⟩ := List.mem_map.mp m0
      rw [Bool.not_eq_true', Bool.eq_false_iff]
      intro yes'
      have := List.all_eq_true.mp yes' _ (List.mem_map.mpr ⟨q1, m1, rfl⟩)
      dsimp only at none0
      rw [none0] at this
      cases this
    have z := rcd_all hv.1.2.1 ndf all (by rw [ltys]; exact same)
    rw [z] at q
    refine if_ff ?_ ?_
    · rw [Bool.not_eq_false', List.all_eq_true]
      intro b mb
      obtain ⟨q1, m1, rfl⟩ := List.mem_map.mp mb
      obtain ⟨d, e'⟩ := all (q1.1, tyOf q1.2) (by rw [tyOfs_map]; exact List.mem_map.mpr ⟨q1, m1, rfl⟩)
      dsimp only at e'
      rw [e']
      rfl
    refine ⟨_, rfl, fa, _, 1, .ref la, rfl, rfl, SqT.of (s14 _ _ hfa), at_of (j := 1) rfl rfl, la, rfl, ⟨_, SqT.of (s14 _ _ hla)⟩, fun D3 new3 => ?_⟩
    refine lc_it (walk_tup (K := K) (a := la) (xs := ls)) (fun i Z => Same G4 Z ∧ Z D3 = some (.lst ((fs.take i).map fun q => V.bl (fieldOk kds (q.1, tyOf q.2))))) ⟨same_new new3 _, upd_same⟩ (fun i Z _ z => SqT.of (z.1 _ _ (s14 _ _ hla))) ?_ ?_
    · rintro j x Z Z' hj ⟨kept, made3⟩ ⟨rfl, hx⟩
      obtain ⟨d0, ed, dq0⟩ := lall.get hx
      obtain ⟨m1, f0, hf, rfl⟩ := encFs_at ed
      obtain ⟨c, cs, rfl, hc, call'⟩ := Dq.tup1 dq0
      obtain ⟨u0, fv, rfl, du, dfv⟩ := DqAll.two call'
      cases du
      have sZ := s14.trans kept
      obtain ⟨d1, e1⟩ := all (m1, tyOf f0) (by rw [tyOfs_map]; exact List.mem_map.mpr ⟨(m1, f0), List.mem_of_getElem? hf, rfl⟩)
      dsimp only at e1
      rcases find_kv m1 hkv with ⟨_, k0⟩ | ⟨v, d2, v0, k0, dv, kd', km⟩
      · rw [k0] at e1
        cases e1
      obtain rfl : d2 = d1 := Option.some.inj (k0.symm.trans e1)
      have ll : lev n' f0 < L := by
        have := lev_le n' f0
        simp only [lev] at lt
        omega
      refine ⟨c, _, rfl, SqT.of (sZ _ _ hc), rfl, _, _, rfl, _, _, rfl, rfl, rfl, yesT ?_⟩
      refine ⟨_, rfl, _, rfl, _, rfl, e, v, rfl, .inl ⟨kvs0, .inr m1, .inl (sZ _ _ he), rfl, v0.symm⟩, ?_⟩
      refine ⟨fv, v, f0, d2, n', m', rfl, ll, by omega, o'.2.2.2.2 (m1, f0) (List.mem_of_getElem? hf), Dq.same sZ _ _ dfv, Dq.same sZ _ _ dv, hv.2 _ km, fun G8 s8 => ⟨_, s8 _ _ made3, ?_, Same.updNew (kept.trans s8) new3, ?_⟩⟩
      · rw [List.length_map, List.length_take]
        exact less_line (by omega)
      · rw [upd_same, takes hf, List.map_append]
        have : fieldOk kds (m1, tyOf f0) = fitsT (tyOf f0) d2 := by
          unfold fieldOk
          dsimp only
          rw [e1]
        rw [← this]
        rfl
    rintro G5 ⟨s5, made3⟩
    rw [lfs, List.take_length] at made3
    have bl2 : (fs.map fun q => V.bl (fieldOk kds (q.1, tyOf q.2))) = (fs.map fun q => fieldOk kds (q.1, tyOf q.2)).map V.bl := by rw [List.map_map]; rfl
    rw [bl2] at made3
    refine ⟨D3, _, rfl, SqL.of made3, ?_⟩
    have := q G5 (s14.trans s5)
    have e2 : (tyOfs fs).all (fieldOk kds) = (fs.map fun q => fieldOk kds (q.1, tyOf q.2)).all id := by
      rw [tyOfs_map, List.all_map, List.all_map]
      rfl
    rw [e2] at this
    exact this
  | list g =>
    refine absurd ?_ lists
    cases n with
    | zero => simp [okF] at ok
    | succ n =>
      have ok' : okF n g := by simpa only [okF] using ok
      simp only [enc] at df
      cases df with
      | tup hs ha =>
        rw [hfa] at hs
        cases hs
        obtain ⟨x, y, rfl, hx, hy⟩ := DqAll.two ha
        cases hx
        refine ⟨y, g, n, none, [], rfl, hy, ?_, ok', .inl ⟨rfl, rfl⟩, fun ds => by simp only [tyOf, tr], fun d h => ?_⟩
        · have := lev_le n g
          simp only [lev] at lt
          omega
        · simp only [tyOf, tr]
          cases d with
          | tuple => cases h
          | _ => rfl
  | keyed k num ww g =>
    refine absurd ?_ lists
    cases n with
    | zero => simp [okF] at ok
    | succ n =>
      have okr := okF_row ok
      simp only [enc] at df
      cases df with
      | tup hs ha =>
        rw [hfa] at hs
        cases hs
        cases ha with
        | cons h1 h2 =>
          cases h1
          cases h2 with
          | cons h3 h4 =>
            cases h4 with
            | cons h5 h6 =>
              cases h5
              refine ⟨_, rowF k num ww g, n + 1, some k, _, rfl, by rw [enc_row]; exact h3, ?_, okr, .inr ⟨rfl, k, _, _, kty num, rfl, rfl, tyOf_row k num ww g, List.mem_cons_self, by cases num <;> rfl⟩, fun ds => by rw [tyOf_row]; simp only [tyOf, tr], fun d h => ?_⟩
              · simp only [rowF, lev] at lt ⊢
                omega
              · simp only [tyOf, tr]
                cases d with
                | tuple => cases h
                | _ => rfl
theorem ok_fits {f : Addr} {fd : FuncData} (F : Fun K "_law_fits" "_law_fits" s_fits f fd) (g : mg "_law_fits" = some (.ref f)) (b : L2.Binds K fd P_fits []) (T : BlT mg) : ∀ L, FnOk P w K mg base CX0 (L + 1) f fd P_fits (spFits K L)
  | 0 => F.ok sc_fits (fun vs H Q E h => by
      obtain ⟨fv, mv, fm, d, n, m, rfl, _⟩ := h
      rfl) fun cdv A outer s H vs Q E hr h => by
      obtain ⟨fv, mv, fm, d, n, m, _, lt, _⟩ := h
      exact absurd lt (Nat.not_lt_zero _)
  | L + 1 => ok_fitsS (k := L) F T ⟨g, F.kp, b, ok_fits F g b T L⟩
end
end KX

namespace KX
open PySem PySem.Spec L2 PyProof.Rows
/-! ### what is bent, again and again -/
def Sm (b : Nat) : Nat → PyData → Prop
  | n + 1, .tuple ds => ds.length ≤ b ∧ ∀ x ∈ ds, Sm b n x
  | n + 1, .dict kvs => (kvs.length ≤ b ∧ (kvs.map (·.1)).Nodup ∧ ∀ kv ∈ kvs, ∃ z, kv.1 = .str z ∧ IsNm z) ∧ ∀ kv ∈ kvs, Sm b n kv.2
  | _, .none => True
  | _, .bool _ => True
  | _, .int i => i.natAbs ≤ 10 ^ 40
  | _, .str z => TxV z
  | _, .list _ => True
  | 0, .tuple _ => False
  | 0, .dict _ => False
theorem Sm.up {b c : Nat} (le : b ≤ c) : ∀ {n : Nat} {d : PyData}, Sm b n d → Sm c (n + 1) d
  | _, .none, _ => by simp [Sm]
  | _, .bool _, _ => by simp [Sm]
  | n, .int _, h => by cases n <;> simpa only [Sm] using h
  | n, .str z, h => by cases n <;> simpa only [Sm] using h
  | n + 1, .tuple ds, h => by
    have h' : ds.length ≤ b ∧ ∀ x ∈ ds, Sm b n x := by simpa only [Sm] using h
    show Sm c (n + 1 + 1) (.tuple ds)
    simp only [Sm]
    exact ⟨Nat.le_trans h'.1 le, fun x hx => (h'.2 x hx).up le⟩
  | n + 1, .dict kvs, h => by
    have h' : (kvs.length ≤ b ∧ (kvs.map (·.1)).Nodup ∧ ∀ kv ∈ kvs, ∃ z, kv.1 = .str z ∧ IsNm z) ∧ ∀ kv ∈ kvs, Sm b n kv.2 := by simpa only [Sm] using h
    show Sm c (n + 1 + 1) (.dict kvs)
    simp only [Sm]
    exact ⟨⟨Nat.le_trans h'.1.1 le, h'.1.2⟩, fun x hx => (h'.2 x hx).up le⟩
  | 0, .tuple _, h => by simp [Sm] at h
  | 0, .dict _, h => by simp [Sm] at h
  | _, .list _, _ => by simp [Sm]
theorem Sm.wide {b c : Nat} (le : b ≤ c) : ∀ {n : Nat} {d : PyData}, Sm b n d → Sm c n d
  | _, .none, _ => by simp [Sm]
  | _, .bool _, _ => by simp [Sm]
  | n, .int _, h => by cases n <;> simpa only [Sm] using h
  | n, .str z, h => by cases n <;> simpa only [Sm] using h
  | n + 1, .tuple ds, h => by
    have h' : ds.length ≤ b ∧ ∀ x ∈ ds, Sm b n x := by simpa only [Sm] using h
    simp only [Sm]
    exact ⟨Nat.le_trans h'.1 le, fun x hx => (h'.2 x hx).wide le⟩
  | n + 1, .dict kvs, h => by
    have h' : (kvs.length ≤ b ∧ (kvs.map (·.1)).Nodup ∧ ∀ kv ∈ kvs, ∃ z, kv.1 = .str z ∧ IsNm z) ∧ ∀ kv ∈ kvs, Sm b n kv.2 := by simpa only [Sm] using h
    simp only [Sm]
    exact ⟨⟨Nat.le_trans h'.1.1 le, h'.1.2⟩, fun x hx => (h'.2 x hx).wide le⟩
  | 0, .tuple _, h => by simp [Sm] at h
  | 0, .dict _, h => by simp [Sm] at h
  | _, .list _, _ => by simp [Sm]
theorem Sm.deep {b : Nat} {d : PyData} {n : Nat} (h : Sm b n d) : ∀ k, Sm b (n + k) d
  | 0 => h
  | k + 1 => (Sm.deep h k).up (Nat.le_refl b)
theorem Sm.vd {b : Nat} (le : b ≤ 8) : ∀ {n : Nat} {d : PyData}, Sm b n d → Vd n d
  | _, .none, _ => by simp [Vd]
  | _, .bool _, _ => by simp [Vd]
  | n, .int _, h => by cases n <;> simpa only [Vd] using (by simpa only [Sm] using h)
  | n, .str z, h => by cases n <;> simpa only [Vd] using (by simpa only [Sm] using h)
  | n + 1, .tuple ds, h => by
    have h' : ds.length ≤ b ∧ ∀ x ∈ ds, Sm b n x := by simpa only [Sm] using h
    simp only [Vd]
    exact ⟨by omega, fun x hx => (h'.2 x hx).vd le⟩
  | n + 1, .dict kvs, h => by
    have h' : (kvs.length ≤ b ∧ (kvs.map (·.1)).Nodup ∧ ∀ kv ∈ kvs, ∃ z, kv.1 = .str z ∧ IsNm z) ∧ ∀ kv ∈ kvs, Sm b n kv.2 := by simpa only [Sm] using h
    simp only [Vd]
    refine ⟨⟨by omega, h'.1.2.1, fun kv mk => ?_⟩, fun x hx => (h'.2 x hx).vd le⟩
    obtain ⟨z, e, nm⟩ := h'.1.2.2 kv mk
    rw [e]
    exact nm
  | 0, .tuple _, h => by simp [Sm] at h
  | 0, .dict _, h => by simp [Sm] at h
  | _, .list _, _ => by simp [Vd]
theorem tx_v {z : Str} (h : TxOk z) : TxV z := ⟨Nat.le_trans h.1 (by decide), h.2⟩
theorem rep_k (n : Nat) (h : n ≤ 60) : TxV (repS "k" n) := by
  have e : ql (repS "k" n) = List.replicate n 107 := by
    rw [ql_rep]
    show (List.replicate n [107]).flatten = _
    rw [List.flatten_replicate_singleton]
  refine ⟨?_, fun c hc => ?_⟩
  · rw [ql_len, e, List.length_replicate]
    omega
  · rw [e] at hc
    rw [List.eq_of_mem_replicate hc]
    decide
theorem fit_sm : ∀ (n : Nat) (f : Fm) (d : PyData), okF n f → Fit f d → Sm 3 (2 * n) d
  | n, .text, _, _, .text tx => by
    have h : TxV _ := tx_v tx
    cases n <;> simpa only [Sm] using h
  | n, .number, _, _, .number i => by
    have h : (_ : Int).natAbs ≤ 10 ^ 40 := Nat.le_trans i (by decide)
    cases n <;> simpa only [Sm] using h
  | n, .flag, _, _, .flag b => by cases n <;> simp [Sm]
  | 0, .list _, _, h, _ => by simp [okF] at h
  | 0, .opt _, _, h, _ => by simp [okF] at h
  | 0, .rcd _, _, h, _ => by simp [okF] at h
  | 0, .keyed _ _ _ _, _, h, _ => by simp [okF] at h
  | n + 1, .opt f, _, h, .optN _ => by simp [Sm]
  | n + 1, .opt f, d, h, .opt fd => by
    have h' : okF n f ∧ f.isOpt = false := by simpa only [okF] using h
    exact ((fit_sm n f d h'.1 fd).up (Nat.le_refl 3)).up (Nat.le_refl 3)
  | n + 1, .list f, _, h, .list (ds := ds) few each => by
    have h' : okF n f := by simpa only [okF] using h
    have : Sm 3 (2 * n + 1) (.tuple ds) := by
      simp only [Sm]
      exact ⟨by omega, fun x hx => fit_sm n f x h' (each x hx)⟩
    exact this.up (Nat.le_refl 3)
  | n + 1, .rcd fs, _, h, .rcd (kvs := kvs) keys each => by
    have h' : Names (fs.map (·.1)) ∧ sortedS (fs.map (·.1)) = true ∧ 1 ≤ fs.length ∧ fs.length ≤ 3 ∧ ∀ q ∈ fs, okF n q.2 := by simpa only [okF] using h
    have len : kvs.length = fs.length := by
      have := congrArg List.length keys
      rw [List.length_map, List.length_map] at this
      exact this
    have at' : ∀ kv ∈ kvs, ∃ q ∈ fs, kv.1 = .str q.1 ∧ Fit q.2 kv.2 := by
      intro kv hkv
      obtain ⟨i, hi, e⟩ := List.mem_iff_getElem.mp hkv
      have hi2 : i < fs.length := by omega
      refine ⟨fs[i], List.getElem_mem hi2, ?_, each i _ kv (List.getElem?_eq_getElem hi2) (by rw [List.getElem?_eq_getElem hi, e])⟩
      have := congrArg (fun l : List PyData => l[i]?) keys
      simp only [List.getElem?_map, List.getElem?_eq_getElem hi, List.getElem?_eq_getElem hi2, Option.map_some] at this
      rw [← e]
      exact Option.some.inj this
    have : Sm 3 (2 * n + 1) (.dict kvs) := by
      simp only [Sm]
      refine ⟨⟨by omega, ?_, fun kv hkv => ?_⟩, fun kv hkv => ?_⟩
      · rw [keys]
        have nd := h'.1.1
        unfold List.Nodup at nd ⊢
        rw [List.pairwise_map] at nd ⊢
        exact nd.imp fun ne e => ne (by simpa using e)
      · obtain ⟨q, hq, e, _⟩ := at' kv hkv
        exact ⟨q.1, e, h'.1.2 _ (List.mem_map.mpr ⟨q, hq, rfl⟩)⟩
      · obtain ⟨q, hq, _, ft⟩ := at' kv hkv
        exact fit_sm n q.2 kv.2 (h'.2.2.2.2 q hq) ft
    exact this.up (Nat.le_refl 3)
  | n + 1, .keyed k num w f, _, h, .keyed (rows := rows) few keys each => by
    have h' : Names [k, w] ∧ sortedS [k, w] = true ∧ okF n f := by simpa only [okF] using h
    have ne : k ≠ w := by
      have := h'.1.1
      simp at this
      exact this
    have row : ∀ x ∈ rows.map (fun r => PyData.dict [(.str k, r.1), (.str w, r.2)]), Sm 3 (2 * n + 1) x := by
      intro x hx
      obtain ⟨r, hr, rfl⟩ := List.mem_map.mp hx
      obtain ⟨i, hi, e⟩ := List.mem_iff_getElem.mp hr
      have ky := keys i r (by rw [List.getElem?_eq_getElem hi, e])
      have kv : Sm 3 (2 * n) r.1 := by
        unfold keyOf at ky
        split at ky
        · obtain ⟨j, e, b1, b2⟩ := ky
          rw [e]
          have : j.natAbs ≤ 10 ^ 40 := by
            have z : (100 : Nat) ≤ 10 ^ 40 := by decide
            omega
          cases n <;> simpa only [Sm] using this
        · rw [ky]
          have := rep_k (i + 1) (by omega)
          cases n <;> simpa only [Sm] using this
      simp only [Sm]
      refine ⟨⟨by simp, by simp [ne], fun q hq => ?_⟩, fun q hq => ?_⟩
      · rcases List.mem_cons.mp hq with rfl | hq
        · exact ⟨k, rfl, h'.1.2 k (by simp)⟩
        · rw [List.mem_singleton.mp hq]
          exact ⟨w, rfl, h'.1.2 w (by simp)⟩
      · rcases List.mem_cons.mp hq with rfl | hq
        · exact kv
        · rw [List.mem_singleton.mp hq]
          exact fit_sm n f r.2 h'.2.2 (each r hr)
    have : Sm 3 (2 * n + 2) (.tuple (rows.map fun r => PyData.dict [(.str k, r.1), (.str w, r.2)])) := by
      simp only [Sm]
      exact ⟨by rw [List.length_map]; omega, row⟩
    exact this
/-! ### dicts that are bent -/
theorem isKey_key (k : Key) (n : Str) : isKey (keyD k) n = decide (k = .inr n) := by
  cases k with
  | inl i =>
    rw [decide_eq_false (by intro z; cases z)]
    rfl
  | inr z =>
    show decide (z = n) = decide ((Sum.inr z : Key) = Sum.inr n)
    rw [decide_eq_decide]
    exact ⟨fun e => by rw [e], fun e => Sum.inr.inj e⟩
def lessD (ds : List (PyData × PyData)) (n : Str) : List (PyData × PyData) := ds.filter fun kv => !isKey kv.1 n
theorem less_of {n : Str} {ds : List (PyData × PyData)} : ∀ kv ∈ lessD ds n, kv ∈ ds := fun kv m => (List.mem_filter.mp m).1
def putDs (ds : List (PyData × PyData)) (n : Str) (d : PyData) : List (PyData × PyData) := if (ds.any fun kv => isKey kv.1 n) = true then ds.map (fun kv => if isKey kv.1 n then (kv.1, d) else kv) else ds ++ [(.str n, d)]
section
variable {K : PySem.W.Frag} {H : Hp}
theorem kv_drop {n : Str} : ∀ {vs : List (Key × V)} {ds : List (PyData × PyData)}, DqKv K H vs ds → DqKv K H (dropK vs (.inr n)) (lessD ds n)
  | _, _, .nil => .nil
  | _, _, @DqKv.cons _ _ k v r d ds h more => by
    have ih := kv_drop (n := n) more
    unfold dropK lessD at ih ⊢
    rw [List.filter_cons, List.filter_cons]
    by_cases e : k = .inr n
    · rw [if_neg (by simp [e]), if_neg (by dsimp only; rw [isKey_key, decide_eq_true e]; decide)]
      exact ih
    · rw [if_pos (by simp [e]), if_pos (by dsimp only; rw [isKey_key, decide_eq_false e]; rfl)]
      exact .cons h ih
theorem kv_snoc {k : Key} {v : V} {d : PyData} (h : Dq K H v d) : ∀ {vs : List (Key × V)} {ds : List (PyData × PyData)}, DqKv K H vs ds → DqKv K H (vs ++ [(k, v)]) (ds ++ [(keyD k, d)])
  | _, _, .nil => .cons h .nil
  | _, _, .cons g r => .cons g (kv_snoc h r)
theorem kv_any {n : Str} : ∀ {vs : List (Key × V)} {ds : List (PyData × PyData)}, DqKv K H vs ds → (vs.any fun kv => decide (kv.1 = (Sum.inr n : Key))) = ds.any fun kv => isKey kv.1 n
  | _, _, .nil => rfl
  | _, _, @DqKv.cons _ _ k v r d ds _ more => by
    rw [List.any_cons, List.any_cons, kv_any more]
    dsimp only
    rw [isKey_key]
theorem kv_map {n : Str} {v : V} {d : PyData} (dv : Dq K H v d) : ∀ {vs : List (Key × V)} {ds : List (PyData × PyData)}, DqKv K H vs ds → DqKv K H (vs.map fun kv => if kv.1 = .inr n then (kv.1, v) else kv) (ds.map fun kv => if isKey kv.1 n then (kv.1, d) else kv)
  | _, _, .nil => .nil
  | _, _, @DqKv.cons _ _ k u r e ds h more => by
    have ih := kv_map (n := n) dv more
    rw [List.map_cons, List.map_cons]
    dsimp only
    by_cases c : k = .inr n
    · rw [if_pos c, if_pos (by rw [isKey_key, decide_eq_true c])]
      exact .cons dv ih
    · rw [if_neg c, if_neg (by rw [isKey_key, decide_eq_false c]; exact Bool.false_ne_true)]
      exact .cons h ih
theorem kv_putAny {n : Str} {v : V} {d : PyData} (dv : Dq K H v d) {vs : List (Key × V)} {ds : List (PyData × PyData)} (h : DqKv K H vs ds) : DqKv K H (putK vs (Sum.inr n) v) (putDs ds n d) := by
  have e := kv_any (n := n) h
  unfold putK putDs
  by_cases c : (ds.any fun kv => isKey kv.1 n) = true
  · rw [if_pos c, if_pos (e.trans c)]
    exact kv_map dv h
  · rw [if_neg c, if_neg (by rw [e]; exact c)]
    exact kv_snoc (k := Sum.inr n) dv h
theorem val_there {kvs : List (Key × V)} {ks : List Str} {z : Str} (h : kvs.map (·.1) = ks.map Sum.inr) (m : z ∈ ks) : ∃ v, valV kvs (Sum.inr z : Key) = some v := by
  have m' : (Sum.inr z : Key) ∈ kvs.map (·.1) := by rw [h]; exact List.mem_map.mpr ⟨z, m, rfl⟩
  obtain ⟨kv, mk, e⟩ := List.mem_map.mp m'
  unfold valV
  cases f : kvs.find? (fun kv => decide (kv.1 = Sum.inr z)) with
  | some q => exact ⟨q.2, rfl⟩
  | none =>
    have := List.find?_eq_none.mp f kv mk
    rw [e] at this
    simp at this
/-- the keys are names -/
theorem key_texts : ∀ {kvs : List (Key × V)} {es : List (PyData × PyData)}, DqKv K H kvs es → (∀ kv ∈ es, ∃ z, kv.1 = .str z ∧ IsNm z) → ∃ ks : List Str, kvs.map (·.1) = ks.map Sum.inr ∧ ks.length = kvs.length ∧ ∀ z ∈ ks, IsNm z
  | _, _, .nil, _ => ⟨[], rfl, rfl, fun _ m => nomatch m⟩
  | _, _, @DqKv.cons _ _ k v r d ds _ more, h => by
    obtain ⟨ks, e, l, nm⟩ := key_texts more fun kv m => h kv (List.mem_cons_of_mem _ m)
    obtain ⟨z, ez, nz⟩ := h _ List.mem_cons_self
    refine ⟨z :: ks, ?_, by rw [List.length_cons, List.length_cons, l], fun y m => ?_⟩
    · rw [List.map_cons, List.map_cons, e]
      dsimp only
      rw [keyD_str ez]
    · rcases List.mem_cons.mp m with rfl | m
      · exact nz
      · exact nm y m
/-- sorted([each for each in d]) -/
theorem sorted_keys {X : Cx} (hK : X.K = K) {a : Addr} {kvs : List (Key × V)} {ks : List Str} {x0 x2 x3 x4 x5 x6 x7 : Option V} {H : Hp} {Q : VK} (ha : H a = some (.dK kvs)) (names : kvs.map (·.1) = ks.map Sum.inr) (few : ks.length < 64)
    (q : ∀ (ys : List Str) (t : Addr) (H' : Hp), Same H H' → ys.Perm ks → sortedS ys = true → H t = none → H' t = some (.lst (ys.map V.str)) → Q (.ref t) H') :
    tCB (rSortedS X.K) (tCons (tLockE (tLc (iKeys (tVar 1)) (gName 7) tYes (tVar 7) [7])) tNil) [x0, some (.ref a), x2, x3, x4, x5, x6, x7] H Q := by
  subst hK
  have lks : ks.length = kvs.length := by
    have := congrArg List.length names
    simpa using this.symm
  refine ⟨a, _, ha, trivial, fun od => ⟨_, rfl, a, od, rfl, .inl ⟨kvs, upd_same, fun D2 hD => ?_⟩⟩⟩
  have hDa : D2 ≠ a := fun e => by
    rw [e, upd_same] at hD
    cases hD
  have hD0 : H D2 = none := by rw [upd_ne hDa] at hD; exact hD
  refine lc_it walk_keys (fun i G => Same (upd H a (.frz od (.dK kvs))) G ∧ G D2 = some (.lst ((ks.take i).map V.str))) ⟨same_new hD _, upd_same⟩ (fun i G _ p => p.1 _ _ upd_same) ?_ ?_
  · rintro i x G0 G hi ⟨kept, made⟩ ⟨rfl, k, v, hkv, rfl⟩
    have hk : ks[i]? = some (ks[i]'(by omega)) := List.getElem?_eq_getElem (by omega)
    have ek : k = .inr (ks[i]'(by omega)) := by
      have h1 := congrArg (fun l => l[i]?) names
      simp only [List.getElem?_map, hkv, hk, Option.map_some] at h1
      exact Option.some.inj h1
    subst ek
    refine ⟨rfl, yesT ⟨_, rfl, _, made, ?_, Same.updNew kept hD, ?_⟩⟩
    · rw [List.length_map, List.length_take]
      exact less_line (by omega)
    · have tk : ks.take (i + 1) = ks.take i ++ [ks[i]'(by omega)] := by rw [List.take_succ, hk]; rfl
      rw [upd_same, tk, List.map_append]
      rfl
  · rintro G ⟨kept, made⟩
    rw [show kvs.length = ks.length from lks.symm, List.take_length] at made
    refine ⟨kept _ _ upd_same, D2, ks, rfl, SqL.of (by rw [upd_ne hDa]; exact made), by omega, fun ys t pm srt ht => ?_⟩
    have s2 : Same H (upd G a (.dK kvs)) := Same.unlock kept ha
    exact q ys t _ (s2.trans (same_new ht _)) pm srt (s2.free ht) upd_same
end
theorem sm_less {b m : Nat} {es : List (PyData × PyData)} {n : Str} (h : Sm b (m + 1) (.dict es)) : Sm b (m + 1) (.dict (lessD es n)) := by
  have h' : (es.length ≤ b ∧ (es.map (·.1)).Nodup ∧ ∀ kv ∈ es, ∃ z, kv.1 = .str z ∧ IsNm z) ∧ ∀ kv ∈ es, Sm b m kv.2 := by simpa only [Sm] using h
  simp only [Sm]
  have sub : (lessD es n).Sublist es := List.filter_sublist
  exact ⟨⟨Nat.le_trans sub.length_le h'.1.1, (sub.map _).nodup h'.1.2.1, fun kv mk => h'.1.2.2 kv (less_of kv mk)⟩, fun kv mk => h'.2 kv (less_of kv mk)⟩
theorem sm_put {b m : Nat} {es : List (PyData × PyData)} {n : Str} {d : PyData} (h : Sm b (m + 1) (.dict es)) (nm : IsNm n) (hd : Sm (b + 1) (m + 1) d) : Sm (b + 1) (m + 2) (.dict (putDs es n d)) := by
  have h' : (es.length ≤ b ∧ (es.map (·.1)).Nodup ∧ ∀ kv ∈ es, ∃ z, kv.1 = .str z ∧ IsNm z) ∧ ∀ kv ∈ es, Sm b m kv.2 := by simpa only [Sm] using h
  have up : ∀ kv ∈ es, Sm (b + 1) (m + 1) kv.2 := fun kv mk => (h'.2 kv mk).up (Nat.le_succ b)
  show Sm (b + 1) (m + 1 + 1) (.dict _)
  simp only [Sm]
  unfold putDs
  by_cases c : (es.any fun kv => isKey kv.1 n) = true
  · rw [if_pos c]
    have same : ∀ kv : PyData × PyData, (if isKey kv.1 n then (kv.1, d) else kv).1 = kv.1 := fun kv => by split <;> rfl
    refine ⟨⟨by rw [List.length_map]; omega, ?_, fun kv mk => ?_⟩, fun kv mk => ?_⟩
    · rw [List.map_map]
      rw [show ((fun x : PyData × PyData => x.1) ∘ fun kv => if isKey kv.1 n then (kv.1, d) else kv) = fun kv => kv.1 from funext same]
      exact h'.1.2.1
    · obtain ⟨kv0, m0, rfl⟩ := List.mem_map.mp mk
      rw [same]
      exact h'.1.2.2 kv0 m0
    · obtain ⟨kv0, m0, rfl⟩ := List.mem_map.mp mk
      split
      · exact hd
      · exact up kv0 m0
  · rw [if_neg c]
    refine ⟨⟨by rw [List.length_append]; show es.length + 1 ≤ b + 1; omega, ?_, fun kv mk => ?_⟩, fun kv mk => ?_⟩
    · rw [List.map_append, List.nodup_append]
      refine ⟨h'.1.2.1, by simp, fun x mx y my e => c ?_⟩
      obtain ⟨kv, mk, ekv⟩ := List.mem_map.mp mx
      have ey : y = .str n := by simpa using my
      refine List.any_eq_true.mpr ⟨kv, mk, ?_⟩
      rw [ekv, e, ey]
      exact decide_eq_true rfl
    · rcases List.mem_append.mp mk with mk | mk
      · exact h'.1.2.2 kv mk
      · rw [List.mem_singleton.mp mk]
        exact ⟨n, rfl, nm⟩
    · rcases List.mem_append.mp mk with mk | mk
      · exact up kv mk
      · rw [List.mem_singleton.mp mk]
        exact hd
/-! ### rules -/
theorem bothH {A : Prop} {B : Hp → Prop} (Ok : Hp → Prop) (h : (∀ G, Ok G → B G) → A) (hb : ∀ G, Ok G → B G) : A := h hb
def rNeNil (K : PySem.W.Frag) : R2 := fun x y H Q => ∃ a b xs, x = .ref a ∧ y = .ref b ∧ SqT K H a xs ∧ SqT K H b [] ∧ Q (.bl (!xs.isEmpty)) H
theorem op_neNilK {X : Cx} (K : PySem.W.Frag) (same : X.K = K) (hu : X.A.units + 64 < cLine) : OpR X (compareOp .NotEq) (rNeNil K) := by
  subst same
  intro pins s σ H x y v u Q I rx ry want
  obtain ⟨a, b, xs, rfl, rfl, ha, hb, q⟩ := want
  obtain rfl : v = Value.ref a := rx
  obtain rfl : u = Value.ref b := ry
  have tuples : ∀ {c : Addr} {zs : List V}, SqT X.K H c zs → ∃ its : List Value, Vals zs its ∧ s.heap.IsTuple c its.toArray := by
    intro c zs h
    obtain ⟨its, r, ⟨o, e, cls, n, data⟩, _⟩ := I.tuple h
    exact ⟨its, r, o, e, cls, n, data⟩
  obtain ⟨ia, r1, l1⟩ := tuples ha
  obtain ⟨ib, r2, l2⟩ := tuples hb
  cases r2
  have no := SeqAt.RcNeAt.tuples (A := X.A) (e := fun _ => true) l1 l2 (by omega) (fun j _ h2 => absurd h2 (Nat.not_lt_zero j))
  refine no X.prog X.w _ _ ?_
  cases r1 with
  | nil => exact ⟨.bl false, H, I, rfl, q⟩
  | cons r rs => exact ⟨.bl true, H, I, by simp; exact rfl, q⟩
/-- a dict beside an empty one -/
def rNeNilD : R2 := fun x y H Q => ∃ a b ks, x = .ref a ∧ y = .ref b ∧ H a = some (.dK ks) ∧ H b = some (.dK []) ∧ Q (.bl (!ks.isEmpty)) H
theorem op_neNilD {X : Cx} (hu : X.A.units + 64 < cLine) : OpR X (compareOp .NotEq) rNeNilD := by
  intro pins s σ H x y v u Q I rx ry want
  obtain ⟨a, b, ks, rfl, rfl, ha, hb, q⟩ := want
  obtain rfl : v = Value.ref a := rx
  obtain rfl : u = Value.ref b := ry
  obtain ⟨_, ya, va, ra, da⟩ := (show ObjOk X.prog X.w H s.heap a (.dK ks) from I.hok a _ ha)
  obtain ⟨_, yb, vb, rb, db⟩ := (show ObjOk X.prog X.w H s.heap b (.dK []) from I.hok b _ hb)
  cases rb
  cases ra with
  | nil => exact PySem.W.keq_ne (knd := mixKind X.prog X.w) (r := true) ya yb da db (by omega) (fun _ => .nil) ⟨.bl false, H, I, rfl, q⟩
  | cons r more => exact PySem.W.keq_ne (knd := mixKind X.prog X.w) (r := true) ya yb da db (by omega) (fun e => by simp at e) ⟨.bl true, H, I, rfl, q⟩
end KX

namespace KX
open PySem PySem.Spec L2 PyProof.Rows
def bnd : Nat → Nat
  | 0 => 200
  | n + 1 => 3 * bnd n + 600
theorem bnd_ge : ∀ n, 200 ≤ bnd n
  | 0 => Nat.le_refl _
  | n + 1 => by
    have := bnd_ge n
    simp only [bnd]
    omega
/-- a value of n levels whose text is short -/
structure Sd (n : Nat) (d : PyData) : Prop where
  sw : d.showable = true
  deep : d.depth ≤ n
  len : d.shown.length ≤ bnd n
theorem tx_len {z : Str} (h : TxOk z) : (reprText z).length ≤ 162 := by
  have := PySem.StrLaws.reprText_len z (fun c hc => by
    have := h.2 c hc
    unfold AllowC at this
    have e : (16 : Nat) ^ 8 = 4294967296 := by decide
    omega)
  have := h.1
  omega
theorem nm_len {z : Str} (h : IsNm z) : (reprText z).length ≤ 122 := by
  have := PySem.StrLaws.reprText_len z (fun c hc => by
    have := h.2.2 c hc
    have e : (16 : Nat) ^ 8 = 4294967296 := by decide
    omega)
  have := h.2.1
  omega
theorem sd_none (n : Nat) : Sd n .none := ⟨rfl, by simp [PyData.depth], by have := bnd_ge n; have e : (PyData.shown .none).length = 4 := rfl; omega⟩
theorem sd_bool (n : Nat) (b : Bool) : Sd n (.bool b) := ⟨rfl, by simp [PyData.depth], by have := bnd_ge n; have e : (PyData.shown (.bool b)).length ≤ 5 := (by cases b <;> decide); omega⟩
theorem sd_str (n : Nat) {z : Str} (h : TxOk z) : Sd n (.str z) := ⟨rfl, by simp [PyData.depth], by have := bnd_ge n; have := tx_len h; simp only [PyData.shown]; omega⟩
theorem sd_int (n : Nat) {i : Int} (h : i.natAbs ≤ 10 ^ 20) : Sd n (.int i) := by
  refine ⟨?_, by simp [PyData.depth], ?_⟩
  · simp only [PyData.showable, decide_eq_true_eq]
    by_cases z : i.natAbs = 0
    · rw [z]
      decide
    · have h2 : i.natAbs < 2 ^ 67 := Nat.lt_of_le_of_lt h (by decide)
      have := (Nat.log2_lt z).2 h2
      omega
  · have e := int_text_length_le10 (k := 21) (by decide) (Nat.lt_of_le_of_lt h (by decide))
    have := bnd_ge n
    show (Str.ofString (toString i)).length ≤ bnd n
    rw [PySem.ofString_length]
    omega
theorem sum_le {B : Nat} : ∀ {ls : List Nat}, (∀ l ∈ ls, l ≤ B) → ls.sum ≤ B * ls.length
  | [], _ => by simp
  | l :: r, h => by
    have h1 := h l List.mem_cons_self
    have h2 := sum_le (ls := r) fun x hx => h x (List.mem_cons_of_mem _ hx)
    rw [List.sum_cons, List.length_cons, Nat.mul_succ]
    omega
theorem showAll_of : ∀ {ds : List PyData}, (∀ x ∈ ds, x.showable = true) → PyData.showableAll ds = true
  | [], _ => rfl
  | x :: r, h => by
    show (x.showable && PyData.showableAll r) = true
    rw [h x List.mem_cons_self, showAll_of fun y hy => h y (List.mem_cons_of_mem _ hy)]
    rfl
theorem deepAll_of {n : Nat} : ∀ {ds : List PyData}, (∀ x ∈ ds, x.depth ≤ n) → PyData.depthAll ds ≤ n
  | [], _ => by simp [PyData.depthAll]
  | x :: r, h => by
    have h1 := h x List.mem_cons_self
    have h2 := deepAll_of (ds := r) fun y hy => h y (List.mem_cons_of_mem _ hy)
    simp only [PyData.depthAll]
    omega
theorem shownAll_mem {t : Str} : ∀ {ds : List PyData}, t ∈ PyData.shownAll ds → ∃ d ∈ ds, t = d.shown
  | [], h => by simp [PyData.shownAll] at h
  | x :: r, h => by
    simp only [PyData.shownAll, List.mem_cons] at h
    rcases h with rfl | h
    · exact ⟨x, List.mem_cons_self, rfl⟩
    · obtain ⟨d, h1, h2⟩ := shownAll_mem h
      exact ⟨d, List.mem_cons_of_mem _ h1, h2⟩
theorem sd_tuple {n : Nat} {ds : List PyData} (hl : ds.length ≤ 3) (h : ∀ x ∈ ds, Sd n x) : Sd (n + 1) (.tuple ds) := by
  refine ⟨?_, ?_, ?_⟩
  · exact showAll_of fun x hx => (h x hx).sw
  · have := deepAll_of fun x hx => (h x hx).deep
    simp only [PyData.depth]
    omega
  · have h1 := tupleText_len_le (PyData.shownAll ds)
    have h2 : ((PyData.shownAll ds).map (·.length)).sum ≤ bnd n * (PyData.shownAll ds).length := by
      have := sum_le (B := bnd n) (ls := (PyData.shownAll ds).map (·.length)) fun l hl => by
        obtain ⟨t, ht, rfl⟩ := List.mem_map.mp hl
        obtain ⟨d, hd, rfl⟩ := shownAll_mem ht
        exact (h d hd).len
      rw [List.length_map] at this
      exact this
    have h3 := PyData.shownAll_length ds
    have h4 : bnd n * (PyData.shownAll ds).length ≤ bnd n * 3 := Nat.mul_le_mul_left _ (by omega)
    simp only [PyData.shown, bnd]
    omega
theorem shownKv_mem {t : Str} : ∀ {ds : List (PyData × PyData)}, t ∈ PyData.shownKv ds → ∃ kv ∈ ds, t = kv.1.shown ++ ": " ++ kv.2.shown
  | [], h => by simp [PyData.shownKv] at h
  | (k, x) :: r, h => by
    simp only [PyData.shownKv, List.mem_cons] at h
    rcases h with rfl | h
    · exact ⟨(k, x), List.mem_cons_self, rfl⟩
    · obtain ⟨d, h1, h2⟩ := shownKv_mem h
      exact ⟨d, List.mem_cons_of_mem _ h1, h2⟩
end KX

namespace KX
open PySem PySem.Spec L2 PyProof.Rows
/-! ### how long a thing's text may be, before and after it is bent -/
structure Bk (n m : Nat) (d : PyData) : Prop where
  bulk : d.bulk ≤ m
  short : d.leavesShort 22 = true
  sw : d.showable = true
  deep : d.depth ≤ n
theorem Bk.up {n m n' m' : Nat} {d : PyData} (h : Bk n m d) (hn : n ≤ n') (hm : m ≤ m') : Bk n' m' d := ⟨Nat.le_trans h.bulk hm, h.short, h.sw, Nat.le_trans h.deep hn⟩
theorem bk_none (n m : Nat) : Bk n m .none := ⟨by simp [PyData.bulk], rfl, rfl, by simp [PyData.depth]⟩
theorem bk_bool (n m : Nat) (b : Bool) : Bk n m (.bool b) := ⟨by simp [PyData.bulk], rfl, rfl, by simp [PyData.depth]⟩
theorem bk_int (n m : Nat) {i : Int} (h : i.natAbs ≤ 10 ^ 20) : Bk n m (.int i) := by
  refine ⟨by simp [PyData.bulk], ?_, (sd_int n h).sw, by simp [PyData.depth]⟩
  have e := int_text_length_le10 (k := 21) (by decide) (Nat.lt_of_le_of_lt h (by decide))
  simp only [PyData.leavesShort, decide_eq_true_eq]
  show (Str.ofString (toString i)).length ≤ 22
  rw [PySem.ofString_length]
  omega
theorem bk_str (n : Nat) {m : Nat} {z : Str} (len : z.length ≤ m) (h : ∀ c ∈ ql z, AllowC c) : Bk n m (.str z) := by
  refine ⟨len, ?_, rfl, by simp [PyData.depth]⟩
  simp only [PyData.leavesShort, List.all_eq_true, decide_eq_true_eq]
  intro c hc
  have := h c hc
  unfold AllowC at this
  have e : (16 : Nat) ^ 8 = 4294967296 := by decide
  omega
theorem bk_nm (n : Nat) {z : Str} (h : IsNm z) : Bk n 12 (.str z) := bk_str n h.2.1 fun c hc => .inr (by have := h.2.2 c hc; omega)
theorem all_bk {n m : Nat} : ∀ {ds : List PyData}, (∀ x ∈ ds, Bk n m x) → PyData.bulkAll ds ≤ (m + 1) * ds.length ∧ PyData.leavesShortAll 22 ds = true ∧ PyData.showableAll ds = true ∧ PyData.depthAll ds ≤ n
  | [], _ => ⟨by simp [PyData.bulkAll], rfl, rfl, by simp [PyData.depthAll]⟩
  | x :: r, h => by
    have a := h x List.mem_cons_self
    obtain ⟨b1, b2, b3, b4⟩ := all_bk (ds := r) fun y my => h y (List.mem_cons_of_mem _ my)
    have := a.bulk
    have := a.deep
    refine ⟨?_, ?_, ?_, ?_⟩
    · simp only [PyData.bulkAll, List.length_cons, Nat.mul_succ]
      omega
    · simp only [PyData.leavesShortAll, a.short, b2]
      rfl
    · simp only [PyData.showableAll, a.sw, b3]
      rfl
    · simp only [PyData.depthAll]
      omega
theorem kv_bk {n m : Nat} : ∀ {ds : List (PyData × PyData)}, (∀ kv ∈ ds, (∃ z, kv.1 = .str z ∧ IsNm z) ∧ Bk n m kv.2) → PyData.bulkKv ds ≤ (m + 14) * ds.length ∧ PyData.leavesShortKv 22 ds = true ∧ PyData.showableKv ds = true ∧ PyData.depthKv ds ≤ n
  | [], _ => ⟨by simp [PyData.bulkKv], rfl, rfl, by simp [PyData.depthKv]⟩
  | (k, x) :: r, h => by
    obtain ⟨⟨z, e, nm⟩, a⟩ := h (k, x) List.mem_cons_self
    dsimp only at e a
    subst e
    have kz := bk_nm 0 nm
    obtain ⟨b1, b2, b3, b4⟩ := kv_bk (ds := r) fun y my => h y (List.mem_cons_of_mem _ my)
    have := a.bulk
    have := a.deep
    have := kz.bulk
    have := kz.deep
    refine ⟨?_, ?_, ?_, ?_⟩
    · simp only [PyData.bulkKv, List.length_cons, Nat.mul_succ]
      omega
    · simp only [PyData.leavesShortKv, a.short, kz.short, b2]
      rfl
    · simp only [PyData.showableKv, a.sw, kz.sw, b3]
      rfl
    · simp only [PyData.depthKv]
      omega
theorem bk_tuple {n m : Nat} {ds : List PyData} (few : ds.length ≤ 3) (h : ∀ x ∈ ds, Bk n m x) : Bk (n + 1) (3 * m + 3) (.tuple ds) := by
  obtain ⟨b1, b2, b3, b4⟩ := all_bk h
  have : (m + 1) * ds.length ≤ (m + 1) * 3 := Nat.mul_le_mul_left _ few
  exact ⟨by simp only [PyData.bulk]; omega, by simpa only [PyData.leavesShort] using b2, by simpa only [PyData.showable] using b3, by simp only [PyData.depth]; omega⟩
theorem bk_dict {n m : Nat} {ds : List (PyData × PyData)} (few : ds.length ≤ 3) (h : ∀ kv ∈ ds, (∃ z, kv.1 = .str z ∧ IsNm z) ∧ Bk n m kv.2) : Bk (n + 1) (3 * m + 42) (.dict ds) := by
  obtain ⟨b1, b2, b3, b4⟩ := kv_bk h
  have : (m + 14) * ds.length ≤ (m + 14) * 3 := Nat.mul_le_mul_left _ few
  exact ⟨by simp only [PyData.bulk]; omega, by simpa only [PyData.leavesShort] using b2, by simpa only [PyData.showable] using b3, by simp only [PyData.depth]; omega⟩
def bkB : Nat → Nat
  | 0 => 16
  | n + 1 => 3 * bkB n + 42
theorem bkB_up (n : Nat) : bkB n ≤ bkB (n + 1) := by
  show bkB n ≤ 3 * bkB n + 42
  omega
theorem bkB_16 : ∀ n, 16 ≤ bkB n
  | 0 => Nat.le_refl _
  | n + 1 => Nat.le_trans (bkB_16 n) (bkB_up n)
theorem fit_bk : ∀ (n : Nat) (f : Fm) (d : PyData), okF n f → Fit f d → Bk (2 * n) (bkB (2 * n)) d
  | n, .text, _, _, .text tx => bk_str _ (Nat.le_trans tx.1 (bkB_16 _)) tx.2
  | n, .number, _, _, .number i => bk_int _ _ i
  | n, .flag, _, _, .flag b => bk_bool _ _ b
  | 0, .list _, _, h, _ => by simp [okF] at h
  | 0, .opt _, _, h, _ => by simp [okF] at h
  | 0, .rcd _, _, h, _ => by simp [okF] at h
  | 0, .keyed _ _ _ _, _, h, _ => by simp [okF] at h
  | n + 1, .opt f, _, h, .optN _ => bk_none _ _
  | n + 1, .opt f, d, h, .opt fit => by
    have h' : okF n f ∧ f.isOpt = false := by simpa only [okF] using h
    exact (fit_bk n f d h'.1 fit).up (by omega) (Nat.le_trans (bkB_up _) (bkB_up _))
  | n + 1, .list f, _, h, .list few each => by
    have h' : okF n f := by simpa only [okF] using h
    refine (bk_tuple few fun x m => fit_bk n f x h' (each x m)).up (by omega) (Nat.le_trans ?_ (bkB_up _))
    show _ ≤ 3 * bkB (2 * n) + 42
    omega
  | n + 1, .rcd fs, _, h, .rcd names each => by
    have h' : Names (fs.map (·.1)) ∧ sortedS (fs.map (·.1)) = true ∧ 1 ≤ fs.length ∧ fs.length ≤ 3 ∧ ∀ q ∈ fs, okF n q.2 := by simpa only [okF] using h
    rename_i kvs
    have len : kvs.length = fs.length := by
      have := congrArg List.length names
      simpa using this
    refine (bk_dict (n := 2 * n) (m := bkB (2 * n)) (by omega) fun kv m => ?_).up (by omega) (bkB_up (2 * n + 1))
    obtain ⟨i, hi⟩ := List.getElem?_of_mem m
    have lt := (List.getElem?_eq_some_iff.mp hi).1
    have hf := List.getElem?_eq_getElem (show i < fs.length by omega)
    have mf := List.getElem_mem (show i < fs.length by omega)
    have e : kv.1 = .str (fs[i]'(by omega)).1 := by
      have h1 := congrArg (fun l => l[i]?) names
      simp only [List.getElem?_map, hi, hf, Option.map_some] at h1
      exact Option.some.inj h1
    exact ⟨⟨_, e, h'.1.2 _ (List.mem_map.mpr ⟨_, mf, rfl⟩)⟩, fit_bk n _ _ (h'.2.2.2.2 _ mf) (each i _ kv hf hi)⟩
  | n + 1, .keyed k num ww f, _, h, .keyed few keys each => by
    have h' : Names [k, ww] ∧ sortedS [k, ww] = true ∧ okF n f := by simpa only [okF] using h
    rename_i rows
    refine (bk_tuple (n := 2 * n + 1) (m := bkB (2 * n + 1)) (by rw [List.length_map]; exact few) fun x m => ?_).up (by omega) (by show _ ≤ 3 * bkB (2 * n + 1) + 42; omega)
    obtain ⟨r, mr, rfl⟩ := List.mem_map.mp m
    refine bk_dict (n := 2 * n) (m := bkB (2 * n)) (by simp) fun kv mk => ?_
    obtain ⟨i, hi⟩ := List.getElem?_of_mem mr
    have lt := (List.getElem?_eq_some_iff.mp hi).1
    have kk := keys i r hi
    have i3 : i < 3 := by omega
    rcases List.mem_cons.mp mk with rfl | mk
    · refine ⟨⟨k, rfl, h'.1.2 k List.mem_cons_self⟩, ?_⟩
      dsimp only
      unfold keyOf at kk
      cases num with
      | true =>
        rw [if_pos rfl] at kk
        obtain ⟨j, e, j1, j2⟩ := kk
        rw [e]
        refine bk_int _ _ ?_
        have : (100 : Nat) ≤ 10 ^ 20 := by decide
        omega
      | false =>
        rw [if_neg (by decide)] at kk
        rw [kk]
        refine bk_str _ ?_ ?_
        · have l : (repS "k" (i + 1)).length ≤ 3 := by
            rw [ql_len, ql_rep]
            simp
            rw [show (Str.ofString "k").cps.size = 1 from by decide]
            omega
          exact Nat.le_trans l (Nat.le_trans (by decide) (bkB_16 _))
        · exact (rep_k (i + 1) (by omega)).2
    · rw [List.mem_singleton.mp mk]
      exact ⟨⟨ww, rfl, h'.1.2 ww (by simp)⟩, fit_bk n f _ h'.2.2 (each r mr)⟩
end KX

namespace KX
open PySem PySem.Spec L2 PyProof.Rows
/-! ### what is bent is not much longer -/
def Mild (d e : PyData) : Prop := ∀ n m, Bk n m d → Bk (n + 2) (2 * m + 60) e
theorem bulkAll_app : ∀ a b : List PyData, PyData.bulkAll (a ++ b) = PyData.bulkAll a + PyData.bulkAll b
  | [], b => by simp [PyData.bulkAll]
  | x :: a, b => by
    simp only [List.cons_append, PyData.bulkAll, bulkAll_app a b]
    omega
theorem shortAll_app (B : Nat) : ∀ a b : List PyData, PyData.leavesShortAll B (a ++ b) = (PyData.leavesShortAll B a && PyData.leavesShortAll B b)
  | [], b => by simp [PyData.leavesShortAll]
  | x :: a, b => by simp only [List.cons_append, PyData.leavesShortAll, shortAll_app B a b, Bool.and_assoc]
theorem showAll_app : ∀ a b : List PyData, PyData.showableAll (a ++ b) = (PyData.showableAll a && PyData.showableAll b)
  | [], b => by simp [PyData.showableAll]
  | x :: a, b => by simp only [List.cons_append, PyData.showableAll, showAll_app a b, Bool.and_assoc]
theorem depthAll_app : ∀ a b : List PyData, PyData.depthAll (a ++ b) = max (PyData.depthAll a) (PyData.depthAll b)
  | [], b => by simp [PyData.depthAll]
  | x :: a, b => by simp only [List.cons_append, PyData.depthAll, depthAll_app a b, Nat.max_assoc]
theorem keyIn_pair {kvs : List (PyData × PyData)} {n : Str} {d : PyData} (h : keyIn kvs n = some d) : (PyData.str n, d) ∈ kvs := by
  unfold keyIn at h
  cases e : kvs.find? fun kv => isKey kv.1 n with
  | none => rw [e] at h; cases h
  | some kv =>
    rw [e] at h
    have m := List.mem_of_find?_eq_some e
    have i0 := List.find?_some e
    have i := isKey_iff.mp i0
    have i2 : kv.2 = d := Option.some.inj h
    rw [← i, ← i2]
    exact m
theorem mild_odd {d e : PyData} (h : Bk 2 60 e) : Mild d e := fun n m _ => h.up (by omega) (by omega)
theorem mild_twice {ds : List PyData} {z : PyData} (mz : z ∈ ds) : Mild (.tuple ds) (.tuple (ds ++ [z])) := fun n m h => by
  obtain ⟨s, t, rfl⟩ := List.append_of_mem mz
  obtain ⟨b1, b2, b3, b4⟩ := h
  simp only [PyData.bulk, PyData.leavesShort, PyData.showable, PyData.depth, bulkAll_app, shortAll_app, showAll_app, depthAll_app, PyData.bulkAll, PyData.leavesShortAll, PyData.showableAll, PyData.depthAll, Bool.and_eq_true] at b1 b2 b3 b4
  refine ⟨?_, ?_, ?_, ?_⟩
  · simp only [PyData.bulk, bulkAll_app, PyData.bulkAll]
    omega
  · simp only [PyData.leavesShort, shortAll_app, PyData.leavesShortAll, b2.1, b2.2.1, b2.2.2]
    rfl
  · simp only [PyData.showable, showAll_app, PyData.showableAll, b3.1, b3.2.1, b3.2.2]
    rfl
  · simp only [PyData.depth, depthAll_app, PyData.depthAll]
    omega
theorem mild_at {ds : List PyData} {z e : PyData} {i : Nat} (hz : ds[i]? = some z) (me : Mild z e) : Mild (.tuple ds) (.tuple (ds.take i ++ [e] ++ ds.drop (i + 1))) := fun n m h => by
  have lt := (List.getElem?_eq_some_iff.mp hz).1
  have split : ds = ds.take i ++ z :: ds.drop (i + 1) := by
    rw [← (List.getElem?_eq_some_iff.mp hz).2, ← List.drop_eq_getElem_cons lt, List.take_append_drop]
  generalize ds.take i = s at split ⊢
  generalize ds.drop (i + 1) = t at split ⊢
  subst split
  obtain ⟨b1, b2, b3, b4⟩ := h
  simp only [PyData.bulk, PyData.leavesShort, PyData.showable, PyData.depth, bulkAll_app, shortAll_app, showAll_app, depthAll_app, PyData.bulkAll, PyData.leavesShortAll, PyData.showableAll, PyData.depthAll, Bool.and_eq_true] at b1 b2 b3 b4
  obtain ⟨c1, c2, c3, c4⟩ := me z.depth z.bulk ⟨Nat.le_refl _, b2.2.1, b3.2.1, Nat.le_refl _⟩
  refine ⟨?_, ?_, ?_, ?_⟩
  · simp only [PyData.bulk, bulkAll_app, PyData.bulkAll]
    omega
  · simp only [PyData.leavesShort, shortAll_app, PyData.leavesShortAll, b2.1, b2.2.2, c2]
    rfl
  · simp only [PyData.showable, showAll_app, PyData.showableAll, b3.1, b3.2.2, c3]
    rfl
  · simp only [PyData.depth, depthAll_app, PyData.depthAll]
    omega
theorem mild_less {es : List (PyData × PyData)} {n : Str} : Mild (.dict es) (.dict (lessD es n)) := fun k m h => by
  have main : ∀ es : List (PyData × PyData), PyData.bulkKv (lessD es n) ≤ PyData.bulkKv es ∧ (PyData.leavesShortKv 22 es = true → PyData.leavesShortKv 22 (lessD es n) = true) ∧ (PyData.showableKv es = true → PyData.showableKv (lessD es n) = true) ∧ PyData.depthKv (lessD es n) ≤ PyData.depthKv es := by
    intro es
    induction es with
    | nil => exact ⟨Nat.le_refl _, id, id, Nat.le_refl _⟩
    | cons kv r ih =>
      obtain ⟨k, x⟩ := kv
      obtain ⟨i1, i2, i3, i4⟩ := ih
      unfold lessD at i1 i2 i3 i4 ⊢
      rw [List.filter_cons]
      by_cases c : (!isKey (k, x).1 n) = true
      · rw [if_pos c]
        refine ⟨?_, fun h => ?_, fun h => ?_, ?_⟩
        · simp only [PyData.bulkKv]; omega
        · simp only [PyData.leavesShortKv, Bool.and_eq_true] at h ⊢
          exact ⟨h.1, i2 h.2⟩
        · simp only [PyData.showableKv, Bool.and_eq_true] at h ⊢
          exact ⟨h.1, i3 h.2⟩
        · simp only [PyData.depthKv]; omega
      · rw [if_neg c]
        refine ⟨?_, fun h => ?_, fun h => ?_, ?_⟩
        · simp only [PyData.bulkKv]; omega
        · simp only [PyData.leavesShortKv, Bool.and_eq_true] at h
          exact i2 h.2
        · simp only [PyData.showableKv, Bool.and_eq_true] at h
          exact i3 h.2
        · simp only [PyData.depthKv]; omega
  obtain ⟨i1, i2, i3, i4⟩ := main es
  obtain ⟨b1, b2, b3, b4⟩ := h
  simp only [PyData.bulk, PyData.leavesShort, PyData.showable, PyData.depth] at b1 b2 b3 b4
  exact ⟨by simp only [PyData.bulk]; omega, i2 b2, i3 b3, by simp only [PyData.depth]; omega⟩
/-- the value of a key of the dict, put anew -/
theorem kv_put {es : List (PyData × PyData)} {n : Str} {e : PyData} (nd : (es.map (·.1)).Nodup) {z : PyData} (hz : (PyData.str n, z) ∈ es) :
    PyData.bulkKv (es.map fun kv => if isKey kv.1 n then (kv.1, e) else kv) + z.bulk = PyData.bulkKv es + e.bulk ∧ (PyData.leavesShortKv 22 es = true → e.leavesShort 22 = true → PyData.leavesShortKv 22 (es.map fun kv => if isKey kv.1 n then (kv.1, e) else kv) = true) ∧
      (PyData.showableKv es = true → e.showable = true → PyData.showableKv (es.map fun kv => if isKey kv.1 n then (kv.1, e) else kv) = true) ∧ PyData.depthKv (es.map fun kv => if isKey kv.1 n then (kv.1, e) else kv) ≤ max (PyData.depthKv es) e.depth ∧
      z.bulk ≤ PyData.bulkKv es ∧ (PyData.leavesShortKv 22 es = true → z.leavesShort 22 = true) ∧ (PyData.showableKv es = true → z.showable = true) ∧ z.depth ≤ PyData.depthKv es := by
  induction es with
  | nil => cases hz
  | cons kv r ih =>
    obtain ⟨k, x⟩ := kv
    rw [List.map_cons, List.nodup_cons] at nd
    by_cases c : isKey k n = true
    · have ek := isKey_iff.mp c
      subst ek
      have out : ∀ kv ∈ r, ¬ isKey kv.1 n = true := fun kv m h => nd.1 (List.mem_map.mpr ⟨kv, m, isKey_iff.mp h⟩)
      have same : (r.map fun kv => if isKey kv.1 n then (kv.1, e) else kv) = r := by
        conv => rhs; rw [← List.map_id r]
        refine List.map_congr_left fun kv m => ?_
        rw [if_neg (out kv m)]
        rfl
      obtain rfl : z = x := by
        rcases List.mem_cons.mp hz with h | h
        · injection h
        · exact absurd (isKey_iff.mpr rfl) (out _ h)
      rw [List.map_cons, same]
      rw [if_pos c]
      refine ⟨?_, fun h he => ?_, fun h he => ?_, ?_, ?_, fun h => ?_, fun h => ?_, ?_⟩
      · simp only [PyData.bulkKv]; omega
      · simp only [PyData.leavesShortKv, Bool.and_eq_true] at h ⊢
        exact ⟨⟨h.1.1, he⟩, h.2⟩
      · simp only [PyData.showableKv, Bool.and_eq_true] at h ⊢
        exact ⟨⟨h.1.1, he⟩, h.2⟩
      · simp only [PyData.depthKv]; omega
      · simp only [PyData.bulkKv]; omega
      · simp only [PyData.leavesShortKv, Bool.and_eq_true] at h
        exact h.1.2
      · simp only [PyData.showableKv, Bool.and_eq_true] at h
        exact h.1.2
      · simp only [PyData.depthKv]; omega
    · have m : (PyData.str n, z) ∈ r := by
        rcases List.mem_cons.mp hz with h | h
        · injection h with h1 h2
          exact absurd (isKey_iff.mpr h1.symm) c
        · exact h
      obtain ⟨i1, i2, i3, i4, i5, i6, i7, i8⟩ := ih nd.2 m
      rw [List.map_cons]
      rw [if_neg c]
      refine ⟨?_, fun h he => ?_, fun h he => ?_, ?_, ?_, fun h => ?_, fun h => ?_, ?_⟩
      · simp only [PyData.bulkKv]; omega
      · simp only [PyData.leavesShortKv, Bool.and_eq_true] at h ⊢
        exact ⟨h.1, i2 h.2 he⟩
      · simp only [PyData.showableKv, Bool.and_eq_true] at h ⊢
        exact ⟨h.1, i3 h.2 he⟩
      · simp only [PyData.depthKv]; omega
      · simp only [PyData.bulkKv]; omega
      · simp only [PyData.leavesShortKv, Bool.and_eq_true] at h
        exact i6 h.2
      · simp only [PyData.showableKv, Bool.and_eq_true] at h
        exact i7 h.2
      · simp only [PyData.depthKv]; omega
theorem mild_put {es : List (PyData × PyData)} {n : Str} {e z : PyData} (nd : (es.map (·.1)).Nodup) (hz : (PyData.str n, z) ∈ es) (me : Mild z e) : Mild (.dict es) (.dict (putDs es n e)) := fun k m h => by
  obtain ⟨b1, b2, b3, b4⟩ := h
  simp only [PyData.bulk, PyData.leavesShort, PyData.showable, PyData.depth] at b1 b2 b3 b4
  obtain ⟨i1, i2, i3, i4, i5, i6, i7, i8⟩ := kv_put (e := e) nd hz
  obtain ⟨c1, c2, c3, c4⟩ := me z.depth z.bulk ⟨Nat.le_refl _, i6 b2, i7 b3, Nat.le_refl _⟩
  unfold putDs
  rw [if_pos (List.any_eq_true.mpr ⟨_, hz, isKey_iff.mpr rfl⟩)]
  exact ⟨by simp only [PyData.bulk]; omega, i2 b2 c2, i3 b3 c3, by simp only [PyData.depth]; omega⟩
theorem kv_app : ∀ (es : List (PyData × PyData)) (k v : PyData), PyData.bulkKv (es ++ [(k, v)]) = PyData.bulkKv es + k.bulk + v.bulk + 2 ∧ PyData.leavesShortKv 22 (es ++ [(k, v)]) = (PyData.leavesShortKv 22 es && (k.leavesShort 22 && v.leavesShort 22)) ∧
    PyData.showableKv (es ++ [(k, v)]) = (PyData.showableKv es && (k.showable && v.showable)) ∧ PyData.depthKv (es ++ [(k, v)]) = max (PyData.depthKv es) (max k.depth v.depth)
  | [], k, v => by simp [PyData.bulkKv, PyData.leavesShortKv, PyData.showableKv, PyData.depthKv]
  | (a, b) :: r, k, v => by
    obtain ⟨i1, i2, i3, i4⟩ := kv_app r k v
    simp only [List.cons_append, PyData.bulkKv, PyData.leavesShortKv, PyData.showableKv, PyData.depthKv, i1, i2, i3, i4, Bool.and_assoc]
    refine ⟨by omega, trivial, trivial, by omega⟩
theorem mild_extra {es : List (PyData × PyData)} {n : Str} {e : PyData} (nd : (es.map (·.1)).Nodup) (nm : IsNm n) (he : Bk 2 20 e) : Mild (.dict es) (.dict (putDs es n e)) := by
  by_cases c : (es.any fun kv => isKey kv.1 n) = true
  · obtain ⟨⟨k, z⟩, m, ek⟩ := List.any_eq_true.mp c
    have e1 := isKey_iff.mp ek
    dsimp only at e1
    subst e1
    exact mild_put nd m (mild_odd (he.up (Nat.le_refl _) (by omega)))
  · intro k m h
    obtain ⟨b1, b2, b3, b4⟩ := h
    simp only [PyData.bulk, PyData.leavesShort, PyData.showable, PyData.depth] at b1 b2 b3 b4
    obtain ⟨i1, i2, i3, i4⟩ := kv_app es (.str n) e
    have kn := bk_nm 0 nm
    have := kn.bulk
    have := he.bulk
    have := kn.deep
    have := he.deep
    unfold putDs
    rw [if_neg c]
    refine ⟨?_, ?_, ?_, ?_⟩
    · simp only [PyData.bulk]; omega
    · show PyData.leavesShortKv 22 _ = true
      rw [i2, b2, kn.short, he.short]
      rfl
    · show PyData.showableKv _ = true
      rw [i3, b3, kn.sw, he.sw]
      rfl
    · simp only [PyData.depth]; omega
end KX

namespace KX
open PySem PySem.Spec L2 PyProof.Rows
section
variable {base : Heap} {P : Program} {w : World} {K : PySem.W.Frag} {mg : Str → Option Value} {tk : Str → Tok}
abbrev s_bent : Stmt := top 48
abbrev N_bent : List Str := ["_law_pool_here", "_law_matter", "_law_odd", "_law_way", "_law_at", "_law_found", "_law_words_here", "_law_word"]
abbrev P_bent : List Str := ["_law_pool_here", "_law_matter"]
theorem sc_bent : FnScope N_bent P_bent (defScope s_bent) := ⟨rfl, rfl, rfl, by decide +kernel, rfl, by decide +kernel, by decide +kernel⟩
theorem cut_from {xs : List V} {i : Nat} (h : i ≤ xs.length) : cutV xs (some (i : Int)) none = xs.drop i := by
  unfold cutV
  rw [HT.sIx_nat, HT.sIx_none, Nat.min_eq_left h]
  exact List.take_of_length_le (by rw [List.length_drop]; omega)
theorem cut_one {xs : List V} {i : Nat} {x : V} (h : xs[i]? = some x) : cutV xs (some (i : Int)) (some ((i : Int) + 1)) = [x] := by
  have lt := (List.getElem?_eq_some_iff.mp h).1
  unfold cutV
  rw [show (i : Int) + 1 = ((i + 1 : Nat) : Int) from rfl, HT.sIx_nat, HT.sIx_nat, Nat.min_eq_left (by omega), Nat.min_eq_left (by omega), show i + 1 - i = 1 from by omega, List.drop_eq_getElem_cons lt, (List.getElem?_eq_some_iff.mp h).2]
  rfl
/-- one tuple behind another, whatever stands in them -/
theorem cat_any {H : Hp} {a b : Addr} {xs ys : List V} {Q : VK} (ha : H a = some (.tup xs)) (hb : H b = some (.tup ys)) (size : xs.length + ys.length ≤ sizeLine) (q : ∀ c G, Same H G → G c = some (.tup (xs ++ ys)) → Q (.ref c) G) : rCatA K (.ref a) (.ref b) H Q := by
  refine ⟨a, b, xs, ys, rfl, rfl, SqT.of ha, SqT.of hb, size, fun e => q b H (Same.refl H) (by rw [e]; exact hb), fun _ e => q a H (Same.refl H) (by rw [e, List.append_nil]; exact ha), fun _ _ p np => q p _ (same_new np _) upd_same⟩
theorem DqAll.app {H : Hp} {ys : List V} {es : List PyData} (t : DqAll K H ys es) : ∀ {xs : List V} {ds : List PyData}, DqAll K H xs ds → DqAll K H (xs ++ ys) (ds ++ es)
  | _, _, .nil => t
  | _, _, .cons h r => .cons h (DqAll.app t r)
theorem all_take {H : Hp} : ∀ {xs : List V} {ds : List PyData}, DqAll K H xs ds → ∀ n, DqAll K H (xs.take n) (ds.take n)
  | _, _, .nil, n => by rw [List.take_nil, List.take_nil]; exact .nil
  | _, _, .cons _ _, 0 => .nil
  | _, _, .cons h r, n + 1 => .cons h (all_take r n)
theorem all_drop {H : Hp} : ∀ {xs : List V} {ds : List PyData}, DqAll K H xs ds → ∀ n, DqAll K H (xs.drop n) (ds.drop n)
  | _, _, .nil, n => by rw [List.drop_nil, List.drop_nil]; exact .nil
  | _, _, .cons h r, 0 => .cons h r
  | _, _, .cons _ r, n + 1 => all_drop r n
/-- what is not looked into: the pool, dicts that are being made -/
def Bars (H : Hp) (as : List Addr) : Prop := ∀ a ∈ as, (∃ xs, H a = some (.lst xs)) ∨ ∃ kvs, H a = some (.dK kvs)
theorem fresh_out {H : Hp} {as : List Addr} {c : Addr} (b : Bars H as) (h : H c = none) : c ∉ as := fun m => by
  rcases b c m with ⟨xs, e⟩ | ⟨kvs, e⟩ <;> rw [h] at e <;> cases e
theorem tup_out {H : Hp} {as : List Addr} {c : Addr} {xs : List V} (b : Bars H as) (h : H c = some (.tup xs)) : c ∉ as := fun m => by
  rcases b c m with ⟨xs, e⟩ | ⟨kvs, e⟩ <;> rw [h] at e <;> cases e
theorem Bars.keep {H H' : Hp} {as : List Addr} {p : Addr} (b : Bars H as) (k : Keep p H H') (hp : PoolAt H' p) : Bars H' as := fun a m => by
  by_cases e : a = p
  · subst e
    obtain ⟨_, _, _, h, _⟩ := hp
    exact .inl ⟨_, h⟩
  · rcases b a m with ⟨xs, h⟩ | ⟨kvs, h⟩
    · exact .inl ⟨xs, k _ _ e h⟩
    · exact .inr ⟨kvs, k _ _ e h⟩
theorem bar_same {H H' : Hp} {as : List Addr} {p : Addr} (m : p ∈ as) (k : Keep p H H') : Same (hideL as H) (hideL as H') := fun b o e => by
  obtain ⟨z, e⟩ := hideL_some e
  rw [hideL_ne z]
  exact k b o (fun h => z (h ▸ m)) e
theorem bar_low {H : Hp} (as : List Addr) : Same (hideL as H) H := fun b o e => (hideL_some e).2
def oddV (t1 d1 t2 d2 l1 d3 : Addr) : List V := [.non, .int 0, .int 1, .bl true, .bl false, .str "", .str "a", .ref t1, .ref d1, .ref t2, .ref d2, .ref l1, .ref d3, .int (-1)]
theorem odd_all {as : List Addr} {A t1 d1 t2 d2 l1 d3 : Addr} {G : Hp} (_ : G A = some (.lst (oddV t1 d1 t2 d2 l1 d3))) (f1 : G t1 = some (.tup [])) (f2 : G d1 = some (.dK [])) (f3 : G t2 = some (.tup [.int 1])) (f4 : G d2 = some (.dK [(Sum.inr "a", .int 1)])) (f5 : G l1 = some (.lst [.int 1])) (f6 : G d3 = some (.dK [(Sum.inr "id", .int 0)]))
    (o1 : t1 ∉ as) (o2 : d1 ∉ as) (o3 : t2 ∉ as) (o4 : d2 ∉ as) (o5 : l1 ∉ as) (o6 : d3 ∉ as) : ∀ y ∈ oddV t1 d1 t2 d2 l1 d3, ∃ new, Dq K (hideL as G) y new ∧ Sm 2 1 new ∧ Bk 2 60 new := by
  have up : ∀ {c : Addr} {o : HO}, c ∉ as → G c = some o → hideL as G c = some o := fun n e => by rw [hideL_ne n]; exact e
  intro y my
  unfold oddV at my
  simp only [List.mem_cons, List.not_mem_nil, or_false] at my
  rcases my with rfl | rfl | rfl | rfl | rfl | rfl | rfl | rfl | rfl | rfl | rfl | rfl | rfl | rfl
  · exact ⟨.none, .non, by simp [Sm], bk_none _ _⟩
  · exact ⟨.int 0, .int 0, by simp only [Sm]; decide, bk_int _ _ (by decide)⟩
  · exact ⟨.int 1, .int 1, by simp only [Sm]; decide, bk_int _ _ (by decide)⟩
  · exact ⟨.bool true, .bl true, by simp [Sm], bk_bool _ _ _⟩
  · exact ⟨.bool false, .bl false, by simp [Sm], bk_bool _ _ _⟩
  · exact ⟨.str "", .str "", by simp only [Sm]; exact tx_v (txB_of (n := 16) (by decide +kernel)), bk_str _ (by decide) (txB_of (n := 16) (by decide +kernel)).2⟩
  · exact ⟨.str "a", .str "a", by simp only [Sm]; exact tx_v (txB_of (n := 16) (by decide +kernel)), bk_str _ (by decide) (txB_of (n := 16) (by decide +kernel)).2⟩
  · exact ⟨.tuple [], .tup (up o1 f1) .nil, by simp [Sm], (bk_tuple (n := 1) (m := 0) (by decide) (fun x m => by cases m)).up (by decide) (by decide)⟩
  · exact ⟨.dict [], .dct (up o2 f2) .nil, by simp [Sm], (bk_dict (n := 1) (m := 0) (by decide) (fun x m => by cases m)).up (by decide) (by decide)⟩
  · exact ⟨.tuple [.int 1], .tup (up o3 f3) (.cons (.int 1) .nil), by simp only [Sm]; exact ⟨by decide, fun x m => by rw [List.mem_singleton.mp m]; simp only [Sm]; decide⟩, (bk_tuple (n := 1) (m := 0) (by decide) (fun x m => by rw [List.mem_singleton.mp m]; exact bk_int _ _ (by decide))).up (by decide) (by decide)⟩
  · exact ⟨.dict [(.str "a", .int 1)], .dct (up o4 f4) (DqKv.cons (k := Sum.inr "a") (.int 1) .nil), by simp only [Sm]; exact ⟨⟨by decide, by simp, fun kv m => by rw [List.mem_singleton.mp m]; exact ⟨"a", rfl, isNm_of (by decide +kernel)⟩⟩, fun kv m => by rw [List.mem_singleton.mp m]; simp only [Sm]; decide⟩, (bk_dict (n := 1) (m := 0) (by decide) (fun kv m => by rw [List.mem_singleton.mp m]; exact ⟨⟨"a", rfl, isNm_of (by decide +kernel)⟩, bk_int _ _ (by decide)⟩)).up (by decide) (by decide)⟩
  · exact ⟨.list [.int 1], .lst (up o5 f5) (.cons (.int 1) .nil), by simp [Sm], (let w := all_bk (n := 1) (m := 0) (ds := [PyData.int 1]) (fun x m => by rw [List.mem_singleton.mp m]; exact bk_int _ _ (by decide)); ⟨by have := w.1; simp only [PyData.bulk]; simp at this; omega, by simpa only [PyData.leavesShort] using w.2.1, by simpa only [PyData.showable] using w.2.2.1, by have := w.2.2.2; simp only [PyData.depth]; omega⟩)⟩
  · exact ⟨.dict [(.str "id", .int 0)], .dct (up o6 f6) (DqKv.cons (k := Sum.inr "id") (.int 0) .nil), by simp only [Sm]; exact ⟨⟨by decide, by simp, fun kv m => by rw [List.mem_singleton.mp m]; exact ⟨"id", rfl, isNm_of (by decide +kernel)⟩⟩, fun kv m => by rw [List.mem_singleton.mp m]; simp only [Sm]; decide⟩, (bk_dict (n := 1) (m := 0) (by decide) (fun kv m => by rw [List.mem_singleton.mp m]; exact ⟨⟨"id", rfl, isNm_of (by decide +kernel)⟩, bk_int _ _ (by decide)⟩)).up (by decide) (by decide)⟩
  · exact ⟨.int (-1), .int (-1), by simp only [Sm]; decide, bk_int _ _ (by decide)⟩
def spBent (K : PySem.W.Frag) (N : Nat) : Sp := fun vs H Q _ => ∃ (p : Addr) (mv : V) (d : PyData) (b n : Nat) (as : List Addr), vs = [.ref p, mv] ∧ PoolAt H p ∧ p ∈ as ∧ Bars H as ∧ n < N ∧ b ≤ 50 ∧ 2 ≤ b ∧ Sm b n d ∧ Dq K (hideL as H) mv d ∧ ∀ (H' : Hp) (y : V) (e : PyData), Keep p H H' → PoolAt H' p → Dq K (hideL as H') y e → Sm (b + 1) (n + 1) e → Mild d e → Q y H'
theorem ok_bentS {N : Nat} {f f1 : Addr} {fd d1 : FuncData} (F : Fun K "_law_bent" "_law_bent" s_bent f fd) (T : Bl mg) (D_draw : Def P w K mg base "_law_draw" 1 P_draw spDraw f1 d1) (D_bent : Def P w K mg base "_law_bent" (N + 1) P_bent (spBent K N) f fd) : FnOk P w K mg base CX0 (N + 2) f fd P_bent (spBent K (N + 1)) := by
  refine F.ok sc_bent (fun vs H Q E h => ?_) (fun cdv A outer s H vs Q E hr h => ?_)
  · obtain ⟨p, mv, d, b, n, as, rfl, _⟩ := h
    rfl
  obtain ⟨p, mv, d, b, n, as, rfl, hp, pas, bars, lt, b50, b2, sm, dm, q⟩ := h
  refine ⟨_, (pss_cons (ps_set (i := 2) sc_bent.nd rfl (Or.inl rfl) (pe_lst (pa_cons pe_non (pa_cons pe_int (pa_cons pe_int (pa_cons pe_bl (pa_cons pe_bl (pa_cons pe_str (pa_cons pe_str (pa_cons (pe_tup pa_nil) (pa_cons pe_dnewK (pa_cons (pe_tup (pa_cons pe_int pa_nil)) (pa_cons (pe_disp (pps_cons pe_str pe_int pps_nil) (by rfl) (by rfl) (fun z => by cases z) (by decide)) (pa_cons (pe_lst (pa_cons pe_int pa_nil)) (pa_cons (pe_disp (pps_cons pe_str pe_int pps_nil) (by rfl) (by rfl) (fun z => by cases z) (by decide)) (pa_cons (pe_un un_neg pe_int) pa_nil))))))))))))))))
    (pss_cons (ps_set (i := 3) sc_bent.nd rfl (Or.inl rfl) (pe_call D_draw.ok (hr.mono (by first | decide | omega)) rfl D_draw.g D_draw.kp D_draw.b .nil pass0 (pa_cons (pv 0) (pa_cons pe_int pa_nil))))
    (pss_cons (ps_if (PW.pt (pw_and (pt_val (pe_callB (call_isiK K rfl) (by rfl) T.isinstance (by decide +kernel) (pa_cons (pv 1) (pa_cons (pe_bltn (v := .ty "tuple") (by rfl) T.tuple (by decide +kernel) rfl) pa_nil)))) (pw_and (pt_cmpR (op_neNilK K rfl hr.units) (pv 1) (pe_tup pa_nil) (nomark _)) (pw_and1 (pt_cmpR op_gt (pv 3) pe_int (nomark _))))))
      (pss_cons (ps_set (i := 4) sc_bent.nd rfl (Or.inl rfl) (pe_call D_draw.ok (hr.mono (by first | decide | omega)) rfl D_draw.g D_draw.kp D_draw.b .nil pass0 (pa_cons (pv 0) (pa_cons (pe_callB (call_lenK K rfl) (by rfl) T.len PySem.boot_len (pa_cons (pv 1) pa_nil)) pa_nil))))
    (pss_cons (ps_if (pt_cmpR op_eq (pv 3) pe_int (nomark _))
      (pss_one (ps_ret (pe_op op_catA (pv 1) (pe_slice (sl_tupAK K rfl) (pv 1) (po_some (pv 4)) (po_some (pe_op op_add (pv 4) pe_int))))))
      pss_nil)
    (pss_one (ps_ret (pe_op op_catA (pe_op op_catA (pe_slice (sl_tupAK K rfl) (pv 1) po_none (po_some (pv 4))) (pe_tup (pa_cons (pe_call D_bent.ok (hr.mono (by first | decide | omega)) rfl D_bent.g D_bent.kp D_bent.b .nil pass0 (pa_cons (pv 0) (pa_cons (pe_ix (ix_tupK K rfl) (pv 1) (pv 4) (fun _ _ => rfl)) pa_nil))) pa_nil))) (pe_slice (sl_tupAK K rfl) (pv 1) (po_some (pe_op op_add (pv 4) pe_int)) po_none))))))
      pss_nil)
    (pss_cons (ps_if (PW.pt (pw_and (pt_val (pe_callB (call_isiK K rfl) (by rfl) T.isinstance (by decide +kernel) (pa_cons (pv 1) (pa_cons (pe_bltn (v := .ty "dict") (by rfl) T.dict (by decide +kernel) rfl) pa_nil)))) (pw_and (pt_cmpR (op_neNilD hr.units) (pv 1) pe_dnewK (nomark _)) (pw_and1 (pt_cmpR op_gt (pv 3) pe_int (nomark _))))))
      (pss_cons (ps_par rfl sc_bent.nd (i := 5) (j := 6) rfl rfl (by decide) rfl rfl (pa_cons (pe_callTy call_dictD (by rfl) T.dict (by decide +kernel) (pa_cons (pv 1) pa_nil)) (pa_cons (pe_callB cr_sortedS (by rfl) T.sorted (by decide +kernel) (pa_cons (pe_lock (pe_lc (own := [("_law_word", 7)]) (g := (gName 7)) (tt := tYes) rfl sc_bent.nd (pi_keys (pv 1)) (blkOk_by (own := [("_law_word", 7)]) (N := N_bent) (sc := defScope s_bent) (by decide +kernel)) (fun _ _ _ _ _ => (pg_name (i := 7) sc_bent.nd rfl (Or.inl rfl))) (fun _ _ _ _ _ => pts_nil) (fun _ _ _ _ _ => (pv 7)))) pa_nil)) pa_nil)) (by rfl))
    (pss_cons (ps_set (i := 7) sc_bent.nd rfl (Or.inl rfl) (pe_ix (ix_listK K rfl) (pv 6) (pe_call D_draw.ok (hr.mono (by first | decide | omega)) rfl D_draw.g D_draw.kp D_draw.b .nil pass0 (pa_cons (pv 0) (pa_cons (pe_callB (call_lenK K rfl) (by rfl) T.len PySem.boot_len (pa_cons (pv 6) pa_nil)) pa_nil))) (fun _ _ => rfl)))
    (pss_cons (ps_if (pt_cmpR op_eq (pv 3) pe_int (nomark _))
      (pss_one (ps_dput (hu_of hr) (pv 5) pe_str pe_int rfl))
      (pss_one (ps_if (pt_cmpR op_eq (pv 3) pe_int (nomark _))
      (pss_one (ps_expr (pe_dpop1 (pv 5) (pv 7) ⟨rfl, rfl, rfl, rfl⟩)))
      (pss_one (ps_dput (hu_of hr) (pv 5) (pv 7) (pe_call D_bent.ok (hr.mono (by first | decide | omega)) rfl D_bent.g D_bent.kp D_bent.b .nil pass0 (pa_cons (pv 0) (pa_cons (pe_dget (hu_of hr) (pv 1) (pv 7) (fun _ _ => rfl)) pa_nil))) rfl)))))
    (pss_one (ps_ret (pv 5))))))
      pss_nil)
    (pss_one (ps_ret (pe_ix (ix_listK K rfl) (pv 2) (pe_call D_draw.ok (hr.mono (by first | decide | omega)) rfl D_draw.g D_draw.kp D_draw.b .nil pass0 (pa_cons (pv 0) (pa_cons pe_int pa_nil))) (fun _ _ => rfl)))))))), ?_⟩
  have bars0 := bars
  have one : ∀ n : Nat, n ≤ 100 → n ≤ sizeLine := fun n h => big (by omega)
  have s0 : Same H H := Same.refl H
  refine ⟨one 0 (by decide), fun t1 ht1 => ?_⟩
  obtain ⟨H1, e1⟩ : ∃ Z, Z = upd H t1 (.tup []) := ⟨_, rfl⟩
  have x1 : Same H H1 := by rw [e1]; exact same_new ht1 _
  have f1 : H1 t1 = some (.tup []) := by rw [e1]; exact upd_same
  have o1 : t1 ∉ as := fresh_out bars0 (s0.free ht1)
  have s1 : Same H H1 := s0.trans x1
  rw [← e1]
  clear e1 ht1
  intro d1 hd1
  obtain ⟨H2, e2⟩ : ∃ Z, Z = upd H1 d1 (.dK []) := ⟨_, rfl⟩
  have x2 : Same H1 H2 := by rw [e2]; exact same_new hd1 _
  have f2 : H2 d1 = some (.dK []) := by rw [e2]; exact upd_same
  have o2 : d1 ∉ as := fresh_out bars0 (s1.free hd1)
  have s2 : Same H H2 := s1.trans x2
  rw [← e2]
  clear e2 hd1
  refine ⟨one 1 (by decide), fun t2 ht2 => ?_⟩
  obtain ⟨H3, e3⟩ : ∃ Z, Z = upd H2 t2 (.tup [.int 1]) := ⟨_, rfl⟩
  have x3 : Same H2 H3 := by rw [e3]; exact same_new ht2 _
  have f3 : H3 t2 = some (.tup [.int 1]) := by rw [e3]; exact upd_same
  have o3 : t2 ∉ as := fresh_out bars0 (s2.free ht2)
  have s3 : Same H H3 := s2.trans x3
  rw [← e3]
  clear e3 ht2
  intro d2 hd2
  refine ⟨upd_same, [(Sum.inr "a", V.int 1)], rfl, by decide, ?_⟩
  rw [upd_upd]
  rw [show mergeK [] ([(Sum.inr "a", V.int 1)] : List (Key × V)) = ([(Sum.inr "a", V.int 1)] : List (Key × V)) from rfl]
  obtain ⟨H4, e4⟩ : ∃ Z, Z = upd H3 d2 (.dK [(Sum.inr "a", V.int 1)]) := ⟨_, rfl⟩
  have x4 : Same H3 H4 := by rw [e4]; exact same_new hd2 _
  have f4 : H4 d2 = some (.dK [(Sum.inr "a", V.int 1)]) := by rw [e4]; exact upd_same
  have o4 : d2 ∉ as := fresh_out bars0 (s3.free hd2)
  have s4 : Same H H4 := s3.trans x4
  rw [← e4]
  clear e4 hd2
  refine ⟨one 1 (by decide), fun l1 hl1 => ?_⟩
  obtain ⟨H5, e5⟩ : ∃ Z, Z = upd H4 l1 (.lst [.int 1]) := ⟨_, rfl⟩
  have x5 : Same H4 H5 := by rw [e5]; exact same_new hl1 _
  have f5 : H5 l1 = some (.lst [.int 1]) := by rw [e5]; exact upd_same
  have o5 : l1 ∉ as := fresh_out bars0 (s4.free hl1)
  have s5 : Same H H5 := s4.trans x5
  rw [← e5]
  clear e5 hl1
  intro d3 hd3
  refine ⟨upd_same, [(Sum.inr "id", V.int 0)], rfl, by decide, ?_⟩
  rw [upd_upd]
  rw [show mergeK [] ([(Sum.inr "id", V.int 0)] : List (Key × V)) = ([(Sum.inr "id", V.int 0)] : List (Key × V)) from rfl]
  obtain ⟨H6, e6⟩ : ∃ Z, Z = upd H5 d3 (.dK [(Sum.inr "id", V.int 0)]) := ⟨_, rfl⟩
  have x6 : Same H5 H6 := by rw [e6]; exact same_new hd3 _
  have f6 : H6 d3 = some (.dK [(Sum.inr "id", V.int 0)]) := by rw [e6]; exact upd_same
  have o6 : d3 ∉ as := fresh_out bars0 (s5.free hd3)
  have s6 : Same H H6 := s5.trans x6
  rw [← e6]
  clear e6 hd3
  refine ⟨1, rfl, one 14 (by decide), fun A hA => ?_⟩
  obtain ⟨H7, e7⟩ : ∃ Z, Z = upd H6 A (.lst [.non, .int 0, .int 1, .bl true, .bl false, .str "", .str "a", .ref t1, .ref d1, .ref t2, .ref d2, .ref l1, .ref d3, .int (-1)]) := ⟨_, rfl⟩
  have x7 : Same H6 H7 := by rw [e7]; exact same_new hA _
  have f7 : H7 A = some (.lst [.non, .int 0, .int 1, .bl true, .bl false, .str "", .str "a", .ref t1, .ref d1, .ref t2, .ref d2, .ref l1, .ref d3, .int (-1)]) := by rw [e7]; exact upd_same
  have o7 : A ∉ as := fresh_out bars0 (s6.free hA)
  have s7 : Same H H7 := s6.trans x7
  rw [← e7]
  clear e7 hA
  have y6 := x7
  have y5 := x6.trans y6
  have y4 := x5.trans y5
  have y3 := x4.trans y4
  have y2 := x3.trans y3
  have y1 := x2.trans y2
  replace f1 := y1 _ _ f1
  replace f2 := y2 _ _ f2
  replace f3 := y3 _ _ f3
  replace f4 := y4 _ _ f4
  replace f5 := y5 _ _ f5
  replace f6 := y6 _ _ f6
  have odds := odd_all (K := K) (as := as) f7 f1 f2 f3 f4 f5 f6 o1 o2 o3 o4 o5 o6
  have nA : A ≠ p := fun e => o7 (e ▸ pas)
  have g7 : H7 A = some (.lst (oddV t1 d1 t2 d2 l1 d3)) := f7
  clear f1 f2 f3 f4 f5 f6 f7 o1 o2 o3 o4 o5 o6 x1 x2 x3 x4 x5 x6 x7 y1 y2 y3 y4 y5 y6
  have k7 : Keep p H H7 := Same.keep s7
  have p7 := hp.same s7
  refine ⟨_, rfl, p, 5, rfl, p7, by decide, by decide, fun G1 way k1 p1 w0 w6 => ?_⟩
  have k01 := k7.trans k1
  have gA := k1 _ _ nA g7
  have odds1 : ∀ y ∈ oddV t1 d1 t2 d2 l1 d3, ∃ new, Dq K (hideL as G1) y new ∧ Sm 2 1 new ∧ Bk 2 60 new := fun y my => (odds y my).imp fun _ h => ⟨Dq.same (bar_same pas k1) _ _ h.1, h.2⟩
  have bars1 := bars.keep k01 p1
  have dm1 := Dq.same (bar_same pas k01) _ _ dm
  clear odds g7 k7 p7 k1 s1 s2 s3 s4 s5 s6 s7 s0 o7 bars0
  obtain ⟨T', ty, kd, kt⟩ := typ_of (bar_low as) dm1
  have tups : isTup d = true → ∃ oa oxs ds, d = .tuple ds ∧ mv = .ref oa ∧ hideL as G1 oa = some (.tup oxs) ∧ DqAll K (hideL as G1) oxs ds := fun h => by
    clear q
    cases dm1 with
    | tup hs ha => exact ⟨_, _, _, rfl, rfl, hs, ha⟩
    | _ => cases h
  have dicts : isDict d = true → ∃ oa kvs es, d = .dict es ∧ mv = .ref oa ∧ hideL as G1 oa = some (.dK kvs) ∧ DqKv K (hideL as G1) kvs es := fun h => by
    clear q
    cases dm1 with
    | dct hs ha => exact ⟨_, _, _, rfl, rfl, hs, ha⟩
    | _ => cases h
  apply bothH (fun G => Same G1 G)
  · intro next
    refine ⟨_, rfl, _, _, _, _, _, rfl, .ty _, ty, kt, _, rfl, ?_⟩
    by_cases hT : isTup d = true
    rotate_left
    · exact if_ff (by simpa using hT) (if_ff rfl (next _ (Same.refl _)))
    obtain ⟨oa, oxs, ds, ed, emv, hoa, oall⟩ := tups hT
    refine if_tt hT ⟨_, rfl, one 0 (by decide), fun e1 he1 => ⟨oa, e1, oxs, emv, rfl, SqT.of ((same_new he1 _) _ _ (bar_low _ _ _ hoa)), SqT.of upd_same, _, rfl, ?_⟩⟩
    have s2 := same_new he1 (.tup [])
    by_cases hx : oxs = []
    · exact if_ff (by rw [hx]; rfl) (if_ff rfl (next _ s2))
    refine if_tt (by cases oxs with | nil => exact absurd rfl hx | cons => rfl) ⟨_, rfl, _, _, rfl, rfl, _, rfl, ?_⟩
    by_cases hw : 0 < way
    rotate_left
    · exact if_ff (decide_eq_false hw) (next _ s2)
    refine if_tt (decide_eq_true hw) ?_
    clear next
    subst ed emv
    obtain ⟨G2, e2⟩ : ∃ Z, Z = upd G1 e1 (.tup []) := ⟨_, rfl⟩
    rw [← e2] at s2 ⊢
    clear e2 he1
    have p2 := p1.same s2
    have k2 : Keep p G1 G2 := Same.keep s2
    have len := oall.length
    have pos : 0 < oxs.length := List.length_pos_iff.mpr hx
    obtain ⟨n', rfl, h'⟩ : ∃ n', n = n' + 1 ∧ (ds.length ≤ b ∧ ∀ x ∈ ds, Sm b n' x) := by
      cases n with
      | zero => simp [Sm] at sm
      | succ n => exact ⟨n, rfl, by simpa only [Sm] using sm⟩
    refine ⟨_, rfl, _, rfl, .ref oa, oxs.length, rfl, .inr ⟨oxs, SqT.of (s2 _ _ (bar_low _ _ _ hoa)), rfl⟩, p, oxs.length, rfl, p2, by omega, by omega, fun G3 j k3 p3 j0 j1 => ?_⟩
    have k13 := k2.trans k3
    have k03 := k01.trans k13
    have bars3 := bars.keep k03 p3
    have hoa3 := bar_same pas k13 _ _ hoa
    have oall3 := DqAll.same (bar_same pas k13) _ _ oall
    have hoa3' := bar_low _ _ _ hoa3
    have lt' : j.toNat < oxs.length := by omega
    have ej : j = ((j.toNat : Nat) : Int) := by omega
    have hxj := List.getElem?_eq_getElem lt'
    obtain ⟨z, hz, dz⟩ := oall3.get hxj
    have smz := h'.2 z (List.mem_of_getElem? hz)
    have out : ∀ {G : Hp} {c : Addr} {xs : List V}, Bars G as → G c = some (.tup xs) → hideL as G c = some (.tup xs) := fun bs e => by
      rw [hideL_ne (tup_out bs e)]
      exact e
    have wide : ∀ {x : PyData}, Sm b n' x → Sm (b + 1) (n' + 1) x := fun h => h.up (Nat.le_succ b)
    refine ⟨_, rfl, rfl, _, rfl, ?_⟩
    by_cases w1 : way = 1
    · refine if_tt (decide_eq_true (by rw [w1])) ?_
      refine ⟨_, rfl, _, rfl, _, rfl, _, rfl, _, rfl, _, _, rfl, rfl, _, rfl, ?_⟩
      refine slice_any hoa3' fun c2 Gb sb h2 => ?_
      rw [ej, cut_one hxj] at h2
      refine cat_any (K := K) (sb _ _ hoa3') h2 (by rw [sizeLine_eq]; show _ + 1 ≤ _; omega) fun c5 Ge se h5 => ?_
      have s3e := sb.trans se
      have k3e : Keep p G3 Ge := Same.keep s3e
      have p3e := p3.same s3e
      have allE := DqAll.same (bar_same pas k3e) _ _ oall3
      have dzE := Dq.same (bar_same pas k3e) _ _ dz
      refine q Ge _ (.tuple (ds ++ [z])) (k03.trans k3e) p3e (.tup (out (bars3.keep k3e p3e) h5) (DqAll.app (.cons dzE .nil) allE)) ?_ (mild_twice (List.mem_of_getElem? hz))
      show Sm (b + 1) (n' + 1 + 1) (.tuple _)
      simp only [Sm]
      refine ⟨by rw [List.length_append]; show _ + 1 ≤ _; omega, fun x mx => ?_⟩
      rcases List.mem_append.mp mx with mx | mx
      · exact wide (h'.2 x mx)
      · rw [List.mem_singleton.mp mx]
        exact wide smz
    · refine if_ff (decide_eq_false fun e => w1 (by injection e)) ?_
      refine ⟨_, rfl, ?_⟩
      dsimp only [tNoPart]
      refine ⟨_, rfl, _, rfl, ?_⟩
      refine slice_any hoa3' fun c1 Ga sa h1 => ?_
      rw [ej, cutV_upTo (by omega)] at h1
      have ka : Keep p G3 Ga := Same.keep sa
      have pa' := p3.same sa
      have barsA := bars3.keep ka pa'
      refine ⟨_, rfl, _, rfl, _, rfl, oa, oxs, j, oxs[j.toNat], rfl, rfl, SqT.of (sa _ _ hoa3'), at_of (j := j.toNat) ej hxj, ?_⟩
      refine ⟨p, _, z, b, n', as, rfl, pa', pas, barsA, by omega, b50, b2, smz, Dq.same (bar_same pas ka) _ _ dz, fun Gb y e kb pb dy sme mld => ?_⟩
      have k3b := ka.trans kb
      have barsB := bars3.keep k3b pb
      have h1b : Gb c1 = some (.tup (oxs.take j.toNat)) := kb _ _ (fun e => tup_out barsA h1 (e ▸ pas)) h1
      have hoaB := bar_low _ _ _ (bar_same pas k3b _ _ hoa3)
      refine ⟨one 1 (by decide), fun c2 hc2 => ?_⟩
      have s2' := same_new hc2 (.tup [y])
      refine cat_any (K := K) (s2' _ _ h1b) upd_same (by rw [List.length_take, sizeLine_eq]; show _ + 1 ≤ _; omega) fun c3 Gc sc h3 => ?_
      have sbc := s2'.trans sc
      refine ⟨_, rfl, ?_⟩
      dsimp only [tNoPart]
      refine ⟨_, rfl, _, _, rfl, rfl, _, rfl, ?_⟩
      refine slice_any (sbc _ _ hoaB) fun c4 Gd sd h4 => ?_
      rw [show j + 1 = ((j.toNat + 1 : Nat) : Int) from by omega, cut_from (by omega)] at h4
      refine cat_any (K := K) (sd _ _ h3) h4 (by rw [List.length_append, List.length_take, List.length_drop, sizeLine_eq]; show _ + 1 + _ ≤ _; omega) fun c5 Ge se h5 => ?_
      have sbe := sbc.trans (sd.trans se)
      have kbe : Keep p Gb Ge := Same.keep sbe
      have pe := pb.same sbe
      have k3e := k3b.trans kbe
      have allE := DqAll.same (bar_same pas k3e) _ _ oall3
      have dyE := Dq.same (bar_same pas kbe) _ _ dy
      refine q Ge _ (.tuple (ds.take j.toNat ++ [e] ++ ds.drop (j.toNat + 1))) (k03.trans k3e) pe (.tup (out (bars3.keep k3e pe) h5) (DqAll.app (all_drop allE _) (DqAll.app (.cons dyE .nil) (all_take allE _)))) ?_ (mild_at hz mld)
      show Sm (b + 1) (n' + 1 + 1) (.tuple _)
      simp only [Sm]
      refine ⟨by rw [List.length_append, List.length_append, List.length_take, List.length_drop]; show _ + 1 + _ ≤ _; omega, fun x mx => ?_⟩
      rcases List.mem_append.mp mx with mx | mx
      · rcases List.mem_append.mp mx with mx | mx
        · exact wide (h'.2 x (List.mem_of_mem_take mx))
        · rw [List.mem_singleton.mp mx]
          exact sme
      · exact wide (h'.2 x (List.mem_of_mem_drop mx))
  intro G s
  apply bothH (fun G' => Same G1 G')
  · intro next
    obtain ⟨T2, ty2, kd2, _⟩ := typ_of ((bar_low as).trans s) dm1
    refine ⟨_, rfl, _, _, _, _, _, rfl, .ty _, ty2, kd2, _, rfl, ?_⟩
    by_cases hD : isDict d = true
    rotate_left
    · exact if_ff (by simpa using hD) (if_ff rfl (next _ s))
    obtain ⟨oa, kvs, es, ed, emv, hoa, oall⟩ := dicts hD
    refine if_tt hD ⟨_, rfl, ?_⟩
    intro e1 he1
    refine ⟨oa, e1, kvs, emv, rfl, (same_new he1 _) _ _ (s _ _ (bar_low _ _ _ hoa)), upd_same, _, rfl, ?_⟩
    have s2 := s.trans (same_new he1 (.dK []))
    by_cases hx : kvs = []
    · exact if_ff (by rw [hx]; rfl) (if_ff rfl (next _ s2))
    refine if_tt (by cases kvs with | nil => exact absurd rfl hx | cons => rfl) ⟨_, rfl, _, _, rfl, rfl, _, rfl, ?_⟩
    by_cases hw : 0 < way
    rotate_left
    · exact if_ff (decide_eq_false hw) (next _ s2)
    refine if_tt (decide_eq_true hw) ?_
    clear next
    subst ed emv
    obtain ⟨G2, e2⟩ : ∃ Z, Z = upd G e1 (.dK []) := ⟨_, rfl⟩
    rw [← e2] at s2 ⊢
    clear e2 he1
    have p2 := p1.same s2
    have k2 : Keep p G1 G2 := Same.keep s2
    have len := DqKv.length oall
    have pos : 0 < kvs.length := List.length_pos_iff.mpr hx
    obtain ⟨n', rfl, h'⟩ : ∃ n', n = n' + 1 ∧ ((es.length ≤ b ∧ (es.map (·.1)).Nodup ∧ ∀ kv ∈ es, ∃ z, kv.1 = .str z ∧ IsNm z) ∧ ∀ kv ∈ es, Sm b n' kv.2) := by
      cases n with
      | zero => simp [Sm] at sm
      | succ n => exact ⟨n, rfl, by simpa only [Sm] using sm⟩
    obtain ⟨ks, keys, lks, nms⟩ := key_texts oall h'.1.2.2
    refine ⟨_, rfl, oa, kvs, rfl, .inl (s2 _ _ (bar_low _ _ _ hoa)), fun D nD => ?_⟩
    have Dout : D ∉ as := fresh_out (bars1.keep k2 p2) nD
    have Dp : D ≠ p := fun e => Dout (e ▸ pas)
    have nD1 : G1 D = none := s2.free nD
    obtain ⟨G3, e3⟩ : ∃ Z, Z = upd G2 D (.dK kvs) := ⟨_, rfl⟩
    have s3 : Same G2 G3 := by rw [e3]; exact same_new nD _
    have d3 : G3 D = some (.dK kvs) := by rw [e3]; exact upd_same
    rw [← e3]
    clear e3
    have s13 := s2.trans s3
    refine sorted_keys (K := K) rfl (s13 _ _ (bar_low _ _ _ hoa)) keys (by omega) fun ys t G4 s4 perm srt ht h4 => ?_
    have yl : ys.length = kvs.length := by rw [perm.length_eq, lks]
    have p3 := p2.same s3
    have tp : t ≠ p := p3.ne ht
    have s14 := s13.trans s4
    have p4 := p3.same s4
    refine ⟨_, _, rfl, ?_⟩
    refine ⟨_, rfl, _, rfl, _, rfl, .ref t, ys.length, rfl, .inl ⟨_, SqL.of h4, by rw [List.length_map]⟩, p, ys.length, rfl, p4, by omega, by omega, fun G5 j k5 p5 j0 j1 => ?_⟩
    have lt' : j.toNat < ys.length := by omega
    have hy := List.getElem?_eq_getElem lt'
    obtain ⟨word, hword⟩ : ∃ z, z = ys[j.toNat] := ⟨_, rfl⟩
    have mw : word ∈ ks := perm.mem_iff.mp (by rw [hword]; exact List.getElem_mem lt')
    refine ⟨t, ys.map V.str, j, .str word, rfl, rfl, SqL.of (k5 _ _ tp h4), at_of (j := j.toNat) (by omega) (by rw [List.getElem?_map, hy, hword]; rfl), ?_⟩
    obtain ⟨v, hv⟩ := val_there keys mw
    have k15 : Keep p G1 G5 := (Same.keep s14).trans k5
    have d5 : G5 D = some (.dK kvs) := k5 _ _ Dp (s4 _ _ d3)
    have hoa5 : G5 oa = some (.dK kvs) := bar_low _ _ _ (bar_same pas k15 _ _ hoa)
    refine ⟨_, rfl, rfl, _, rfl, ?_⟩
    by_cases w1 : way = 1
    · refine if_tt (decide_eq_true (by rw [w1])) ?_
      refine ⟨_, rfl, D, _, rfl, DPut.k (k := Sum.inr ("extra" : Str)) d5 (by exact less_line (by omega)), ?_⟩
      have k6 : Keep p G1 (upd G5 D (.dK (putK kvs (Sum.inr ("extra" : Str)) (V.int 1)))) := k15.upd nD1
      have p6 := p5.upd (o := .dK (putK kvs (Sum.inr ("extra" : Str)) (V.int 1))) Dp
      refine ⟨_, rfl, q _ _ (.dict (putDs es "extra" (.int 1))) (k01.trans k6) p6 (.dct (by rw [hideL_ne Dout]; exact upd_same) (kv_putAny (.int 1) (DqKv.same (bar_same pas k6) _ _ oall))) (sm_put sm (isNm_of (by decide +kernel)) (by simp only [Sm]; decide)) (mild_extra h'.1.2.1 (isNm_of (by decide +kernel)) (bk_int _ _ (by decide)))⟩
    refine if_ff (decide_eq_false fun e => w1 (by injection e)) ?_
    refine ⟨_, rfl, rfl, _, rfl, ?_⟩
    by_cases w2 : way = 2
    · refine if_tt (decide_eq_true (by rw [w2])) ?_
      refine ⟨_, rfl, D, rfl, .inl ⟨kvs, .inl d5⟩, _, rfl, kvs, .inr word, v, d5, rfl, hv, ?_⟩
      have k6 : Keep p G1 (upd G5 D (.dK (dropK kvs (Sum.inr word)))) := k15.upd nD1
      have p6 := p5.upd (o := .dK (dropK kvs (Sum.inr word))) Dp
      exact ⟨_, rfl, q _ _ (.dict (lessD es word)) (k01.trans k6) p6 (.dct (by rw [hideL_ne Dout]; exact upd_same) (kv_drop (DqKv.same (bar_same pas k6) _ _ oall))) ((sm_less sm).up (Nat.le_succ b)) mild_less⟩
    refine if_ff (decide_eq_false fun e => w2 (by injection e)) ?_
    rcases find_kv word oall with ⟨no, _⟩ | ⟨y, z, hv', hk, dz, _, inz⟩
    · rw [no] at hv
      cases hv
    have low : Same (hideL as G1) (hideL (D :: as) G5) := fun c o e => by
      obtain ⟨nc, ec⟩ := hideL_some e
      have cD : c ≠ D := ne_of_none ec nD1
      rw [hideL_ne (by simp [cD, nc])]
      exact k15 c o (fun h => nc (h ▸ pas)) ec
    have barsD : Bars G5 (D :: as) := fun c m => by
      rcases List.mem_cons.mp m with rfl | m
      · exact .inr ⟨kvs, d5⟩
      · exact (bars1.keep k15 p5) c m
    refine ⟨_, rfl, _, rfl, _, rfl, oa, y, rfl, .inl ⟨kvs, .inr word, .inl hoa5, rfl, hv'.symm⟩, ?_⟩
    refine ⟨p, y, z, b, n', D :: as, rfl, p5, List.mem_cons_of_mem _ pas, barsD, by omega, b50, b2, h'.2 _ inz, Dq.same low _ _ dz, fun G6 u e k6 p6 du sme mld => ?_⟩
    have d6 : G6 D = some (.dK kvs) := k6 _ _ Dp d5
    refine ⟨_, rfl, _, rfl, D, _, rfl, DPut.k (k := Sum.inr word) d6 (by exact less_line (by omega)), ?_⟩
    have k7 : Keep p G1 (upd G6 D (.dK (putK kvs (Sum.inr word) u))) := (k15.trans k6).upd nD1
    have p7 := p6.upd (o := .dK (putK kvs (Sum.inr word) u)) Dp
    have low2 : Same (hideL (D :: as) G6) (hideL as (upd G6 D (.dK (putK kvs (Sum.inr word) u)))) := fun c o e => by
      obtain ⟨nc, ec⟩ := hideL_some e
      rw [hideL_ne (fun m => nc (List.mem_cons_of_mem _ m)), upd_ne (fun h => nc (by rw [h]; exact List.mem_cons_self))]
      exact ec
    exact ⟨_, rfl, q _ _ (.dict (putDs es word e)) (k01.trans k7) p7 (.dct (by rw [hideL_ne Dout]; exact upd_same) (kv_putAny (Dq.same low2 _ _ du) (DqKv.same (bar_same pas k7) _ _ oall))) (sm_put sm (nms word mw) sme) (mild_put h'.1.2.1 (keyIn_pair hk) mld)⟩
  intro G2 s2
  have p2 := p1.same s2
  refine ⟨_, rfl, _, rfl, p, 14, rfl, p2, by decide, by decide, fun G3 j k3 p3 j0 j1 => ?_⟩
  have k13 : Keep p G1 G3 := (Same.keep s2).trans k3
  have lt' : j.toNat < (oddV t1 d1 t2 d2 l1 d3).length := by show _ < 14; omega
  have hx := List.getElem?_eq_getElem lt'
  obtain ⟨new, dn, sn⟩ := odds1 _ (List.mem_of_getElem? hx)
  refine ⟨A, oddV t1 d1 t2 d2 l1 d3, j, (oddV t1 d1 t2 d2 l1 d3)[j.toNat], rfl, rfl, SqL.of (k13 _ _ nA gA), at_of (j := j.toNat) (by omega) hx, ?_⟩
  refine q G3 _ new (k01.trans k13) p3 (Dq.same (bar_same pas k13) _ _ dn) ?_ (mild_odd sn.2)
  have big' := (sn.1.wide (show 2 ≤ b + 1 by omega)).deep n
  rw [Nat.add_comm 1 n] at big'
  exact big'
theorem ok_bent {f f1 : Addr} {fd d1 : FuncData} (F : Fun K "_law_bent" "_law_bent" s_bent f fd) (T : Bl mg) (g : mg "_law_bent" = some (.ref f)) (bi : L2.Binds K fd P_bent []) (D_draw : Def P w K mg base "_law_draw" 1 P_draw spDraw f1 d1) : ∀ N, FnOk P w K mg base CX0 (N + 1) f fd P_bent (spBent K N)
  | 0 => F.ok sc_bent (fun vs H Q E h => by
      obtain ⟨p, mv, d, b, n, as, rfl, _⟩ := h
      rfl) fun cdv A outer s H vs Q E hr h => by
      obtain ⟨p, mv, d, b, n, as, _, _, _, _, lt, _⟩ := h
      exact absurd lt (Nat.not_lt_zero _)
  | N + 1 => ok_bentS F T D_draw ⟨g, F.kp, bi, ok_bent F T g bi D_draw N⟩
end
end KX

namespace KX
open PySem PySem.Spec L2 PyProof.Rows
/-- the bulk of what is drawn, and of what is bent once -/
def bulkD : Nat := 26952
def bulkE : Nat := 2 * 26952 + 60
theorem drawn_bk {f : Fm} {d : PyData} (o : okF 3 f) (fit : Fit f d) : Bk 6 bulkD d := (fit_bk 3 f d o fit).up (by decide) (by decide)
theorem bent_bk {d e : PyData} (h : Bk 6 bulkD d) (m : Mild d e) : Bk 8 bulkE e := m 6 bulkD h
/-- the values of so many forms -/
structure Vals' (i : Nat) (ds : List PyData) : Prop where
  bulk : PyData.bulkAll ds ≤ i * (bulkD + 2 * bulkE + 3)
  short : PyData.leavesShortAll 22 ds = true
  sw : PyData.showableAll ds = true
  deep : PyData.depthAll ds ≤ 8
  vd : ∀ d ∈ ds, Vd 8 d
  len : ds.length = 3 * i
theorem vals_none : Vals' 0 [] := ⟨by simp [PyData.bulkAll], rfl, rfl, by simp [PyData.depthAll], fun d m => (by cases m), rfl⟩
theorem vals_more {i : Nat} {ds : List PyData} {d e1 e2 : PyData} (h : Vals' i ds) (bd : Bk 6 bulkD d) (b1 : Bk 8 bulkE e1) (b2 : Bk 8 bulkE e2) (vd : Vd 8 d) (v1 : Vd 8 e1) (v2 : Vd 8 e2) : Vals' (i + 1) (ds ++ [d, e1, e2]) := by
  obtain ⟨h1, h2, h3, h4, h5, h6⟩ := h
  have := bd.bulk
  have := b1.bulk
  have := b2.bulk
  have := bd.deep
  have := b1.deep
  have := b2.deep
  refine ⟨?_, ?_, ?_, ?_, fun x m => ?_, by rw [List.length_append, h6]; show 3 * i + 3 = _; omega⟩
  · rw [bulkAll_app, Nat.succ_mul]
    simp only [PyData.bulkAll]
    omega
  · rw [shortAll_app, h2]
    simp only [PyData.leavesShortAll]
    rw [bd.short, b1.short, b2.short]
    rfl
  · rw [showAll_app, h3]
    simp only [PyData.showableAll]
    rw [bd.sw, b1.sw, b2.sw]
    rfl
  · rw [depthAll_app]
    simp only [PyData.depthAll]
    omega
  · rcases List.mem_append.mp m with m | m
    · exact h5 x m
    · simp only [List.mem_cons, List.not_mem_nil, or_false] at m
      rcases m with rfl | rfl | rfl
      · exact vd
      · exact v1
      · exact v2
theorem vals_show {ds : List PyData} (h : Vals' 5 ds) : Shows (.list ds) := by
  obtain ⟨h1, h2, h3, h4, _, _⟩ := h
  refine ⟨h3, by simp only [PyData.depth]; omega, ?_⟩
  have z := PyData.shown_le_bulk 22 (by decide) (.list ds) h2
  simp only [PyData.bulk] at z
  unfold bulkD bulkE at h1
  rw [sizeLine_eq]
  omega
end KX

namespace KX
open PySem PySem.Spec L2 PyProof.Rows
section
variable {M : Model} {A : Around} {Er : Value → Shared → Prop} {s : Shared} {K : PySem.W.Frag} {a C f : Addr} {oa : Obj} {od : Option Obj}
/-- v in an object of a class of one's own -/
theorem contains_here {v : Value} {Q : Bool → Shared → Prop} (there : K.In s.heap) (inst : PySem.W.InstAt s.heap a oa C od) (found : PySem.W.findIn K (.ref C) "__contains__" = some (some (.ref f))) (fn : PySem.W.isFn K (.ref f) = true)
    (asked : wpAny M A (call (.ref f) [.ref a, v]) (fun r s' => ∃ b, r = .bool b ∧ Q b s') Er s) : wpAny M A (contains (.ref a) v) Q Er s := by
  have look : ∀ {Q' : Option Value → Shared → Prop}, Q' (some (.ref f)) s → wpAny M A (specialOf (.ref a) "__contains__") Q' Er s := fun q => by
    unfold specialOf
    exact wpAny_bind (inst.type.here ((PySem.W.looks_findIn there found).here q))
  unfold contains
  refine wpAny_holding ?_
  refine wpAny_bind (look ?_)
  refine wpAny_ite (wpAny_bind ?_)
  unfold callSpecialUnlessNone?
  refine wpAny_bind (look (wpAny_holding (wpAny_bind ((PySem.W.bind_fn there _ (beq_iff_eq.mp fn)).here ?_))))
  dsimp only
  rw [if_neg (show ¬ (Value.ref f == Value.none) = true from Bool.false_ne_true)]
  refine wpAny_bind (wpAny_mono asked (fun r s' told => ?_) fun _ _ e => e)
  obtain ⟨b, rfl, q⟩ := told
  exact wpAny_pure (wpAny_truthy_bool q)
end
section
variable {P : Program} {w : World} {A : Around} {Er : Value → Shared → Prop} {s : Shared} {K : PySem.W.Frag} {a C f : Addr} {oa : Obj} {od : Option Obj}
/-- object's != where the class has an == of its own: that one, the other way round -/
theorem not_equal_here {v : Value} {Q : Value → Shared → Prop} (room : A.in1.units < cLine) (there : K.In s.heap) (inst : PySem.W.InstAt s.heap a oa C od) (obj : PySem.W.mroIn K C (.type "object") = some true)
    (found : PySem.W.findIn K (.ref C) "__eq__" = some (some (.ref f))) (fn : PySem.W.isFn K (.ref f) = true)
    (asked : wpAny (model P w) A.in1 (call (.ref f) [.ref a, v]) (fun r s' => ∃ b, r = .bool b ∧ Q (.bool (!b)) s') Er s) : wpAny (model P w) A (call (.builtin "object.__ne__") [.ref a, v]) Q Er s := by
  have known := F.cmp_object.ne
  refine wpAny_call (codeAny_call_builtin known.plain F.cmpEntry_ne (PySem.W.check_slot (i := "object.__ne__") (owner := "object") (n := "__ne__") F.cmpKind_ne F.cmpSplit_ne (inst.type.andThen (PySem.W.looks_mroIn there obj)) (F.cmpArgs_ne _ _) ?_))
  unfold Builtin.«object.__ne__»
  refine wpAny_bind (m := slotArgs "__ne__" 1 _) (wpAny_pure ?_)
  refine wpAny_bind (m := cRoomFor _ _) (wpAny_cRoomFor room ?_)
  refine wpAny_bind (m := callSpecialIfBound? (.ref a) (Str.ofString "__eq__") _) (PySem.W.ifBound_K there inst found fn (wpAny_mono asked (fun r s' told => ?_) fun _ _ e => e))
  obtain ⟨b, rfl, q⟩ := told
  exact wpAny_bind (wpAny_truthy_bool (wpAny_pure q))
/-- one != other, both of such a class -/
theorem not_equal_asked {v : Value} {Q : Value → Shared → Prop} (room : A.units < cLine) (room1 : A.in1.units < cLine) (there : K.In s.heap) (inst : PySem.W.InstAt s.heap a oa C od) (obj : PySem.W.mroIn K C (.type "object") = some true)
    (other : PySem.W.Looks (model P w) s.heap (typeOf v) (.ref C))
    (ne : PySem.W.findIn K (.ref C) "__ne__" = some (some (.builtin "object.__ne__"))) (found : PySem.W.findIn K (.ref C) "__eq__" = some (some (.ref f))) (fn : PySem.W.isFn K (.ref f) = true)
    (asked : wpAny (model P w) A.in1 (call (.ref f) [.ref a, v]) (fun r s' => ∃ b, r = .bool b ∧ Q (.bool (!b)) s') Er s) : wpAny (model P w) A (richCompare .NotEq (.ref a) v) Q Er s := by
  have known := F.cmp_object.ne
  have answer : wpAny (model P w) A (call (.builtin "object.__ne__") [.ref a, v]) (fun r s' => ∃ b : Bool, r = .bool b ∧ Q r s') Er s :=
    not_equal_here room1 there inst obj found fn (wpAny_mono asked (fun r s' t => t.imp fun b t => ⟨t.1, !b, rfl, t.2⟩) fun _ _ e => e)
  unfold richCompare
  simp only [oneThing_ref]
  refine wpAny_holding (wpAny_bind (wpAny_cRoomFor room (wpAny_bind (inst.type.here (wpAny_bind (other.here ?_))))))
  rw [if_neg (by simp)]
  refine wpAny_bind (wpAny_pure ?_)
  rw [if_neg (by decide)]
  have seen : wpAny (model P w) A (bindSpecialIfBound? (.ref a) "__ne__") (fun o s' => o = some (.builtin "object.__ne__", [.ref a]) ∧ s' = s) Er s := by
    unfold bindSpecialIfBound? specialOf
    refine wpAny_bind (wpAny_bind (inst.type.here ((PySem.W.looks_findIn there ne).here ?_)))
    dsimp only
    rw [known.bind]
    refine wpAny_bind (wpAny_askSetting (wpAny_ite ?_))
    split
    · exact wpAny_bind (wpAny_pure (wpAny_pure ⟨rfl, rfl⟩))
    · exact wpAny_tryCatch (wpAny_bind (wpAny_pure (wpAny_pure ⟨rfl, rfl⟩)))
  unfold tryCompare callSpecialIfBound?
  refine wpAny_bind (wpAny_bind (wpAny_holding (wpAny_bind (wpAny_mono seen (fun o s' e => ?_) fun _ _ e => e))))
  obtain ⟨rfl, rfl⟩ := e
  refine wpAny_bind (wpAny_mono answer (fun r s2 told => ?_) fun _ _ e => e)
  obtain ⟨b, rfl, q⟩ := told
  exact wpAny_pure (wpAny_pure (wpAny_pure q))
end
section
variable {X : Cx} {TC f : Addr} {fd : FuncData} {k : Nat} {ps : List Str} {sp : Sp} {m : Str}
/-- a method is asked, and says yes or no -/
theorem yes_or_no {pins : List (Addr × Obj)} {σ : L2.St} {H : Hp} {s : Shared} {B : Around} {vs : List V} {us : List Value} {Q : VK} (M : MtD X.prog X.w X.K X.mg X.base TC m k ps sp f fd) (I : Inv X pins σ H s) (env : Env0 X.prog X.w X.K X.mg X.base B X.stack s H) (room : Room k B)
    (same : Vals vs us) (flip : Bool → Bool) (asked : sp vs H (fun v G => ∃ b, v = .bl b ∧ Q (.bl (flip b)) G) E0) :
    wpAny (model X.prog X.w) B (call (.ref f) us) (fun r s' => ∃ b, r = .bool b ∧ EP X pins σ Q (.bool (flip b)) s') X.xe s := by
  have bound := M.b s us I.kIn (by rw [List.append_nil, same.length.symm]; exact M.ok.len _ _ _ _ asked)
  rw [List.append_nil] at bound
  refine wpAny_call (codeAny_mono (M.ok.run B X.stack s H ⟨us, []⟩ us vs _ E0 room env bound same asked) ?_)
  rintro (er | fl) s2 h
  · exact h.elim
  cases fl with
  | ret u =>
    obtain ⟨v, G, J, rv, b, rfl, q⟩ := I.after h
    cases rv
    exact ⟨b, rfl, .bl (flip b), G, J, rfl, q⟩
  | next => exact h.elim
  | brk => exact h.elim
  | cont => exact h.elim
def rOwn (TC : Addr) (sp : Sp) (flip : Bool → Bool) : R2 := fun x y H Q => ∃ (a dx : Addr) (fs : List (Str × V)), x = .ref a ∧ H a = some (.ins TC dx fs) ∧ sp [x, y] H (fun v G => ∃ b, v = .bl b ∧ Q (.bl (flip b)) G) E0
/-- v in an object, v not in it -/
theorem op_ownIn (M : MtD X.prog X.w X.K X.mg X.base TC "__contains__" k ps sp f fd) (room : Room k X.A) : OpR X (compareOp .In) fun x y H Q => rOwn TC sp id y x H Q := by
  intro pins s σ H x y v u Q I rx ry h
  obtain ⟨a, dx, fs, rfl, at', asked⟩ := h
  obtain rfl : u = Value.ref a := ry
  obtain ⟨_, O, _⟩ := ins_get I.hok at'
  obtain ⟨od, inst, _⟩ := O.look
  refine wpAny_bind (contains_here I.kIn inst M.me.at_ M.me.fn (wpAny_mono (yes_or_no M I I.env0 room (.cons (show RelV (.ref a) (.ref a) from rfl) (.cons rx .nil)) id asked) (fun r s' t => t.imp fun b t => ⟨t.1, wpAny_pure t.2⟩) fun _ _ e => e))
theorem op_ownNotIn (M : MtD X.prog X.w X.K X.mg X.base TC "__contains__" k ps sp f fd) (room : Room k X.A) : OpR X (compareOp .NotIn) fun x y H Q => rOwn TC sp (!·) y x H Q := by
  intro pins s σ H x y v u Q I rx ry h
  obtain ⟨a, dx, fs, rfl, at', asked⟩ := h
  obtain rfl : u = Value.ref a := ry
  obtain ⟨_, O, _⟩ := ins_get I.hok at'
  obtain ⟨od, inst, _⟩ := O.look
  refine wpAny_bind (contains_here I.kIn inst M.me.at_ M.me.fn (wpAny_mono (yes_or_no M I I.env0 room (.cons (show RelV (.ref a) (.ref a) from rfl) (.cons rx .nil)) (!·) asked) (fun r s' t => t.imp fun b t => ⟨t.1, wpAny_pure t.2⟩) fun _ _ e => e))
/-- one == other, one != other, both of the class -/
def rOwn2 (TC : Addr) (sp : Sp) (flip : Bool → Bool) : R2 := fun x y H Q => (∃ (b dy : Addr) (gs : List (Str × V)), y = .ref b ∧ H b = some (.ins TC dy gs)) ∧ rOwn TC sp flip x y H Q
theorem op_ownEq (M : MtD X.prog X.w X.K X.mg X.base TC "__eq__" k ps sp f fd) (room : Room k X.A) : OpR X (compareOp .Eq) (rOwn2 TC sp id) := by
  intro pins s σ H x y v u Q I rx ry h
  obtain ⟨⟨b, dy, gs, rfl, bt⟩, a, dx, fs, rfl, at', asked⟩ := h
  obtain rfl : v = Value.ref a := rx
  obtain rfl : u = Value.ref b := ry
  obtain ⟨_, O, _⟩ := ins_get I.hok at'
  obtain ⟨od, inst, _⟩ := O.look
  obtain ⟨_, O2, _⟩ := ins_get I.hok bt
  obtain ⟨_, inst2, _⟩ := O2.look
  obtain ⟨_, fr⟩ := I.fr
  refine PySem.W.cmp_K (op := .Eq) (tb := .ref TC) room.units0 fr I.ok.mod.kin inst inst2.type (by simp [PySem.W.notFirst]) M.me.at_ M.me.fn (wpAny_mono (yes_or_no M I I.env0 room (.cons (show RelV (.ref a) (.ref a) from rfl) (.cons (show RelV (.ref b) (.ref b) from rfl) .nil)) id asked) (fun r s' t => ?_) fun _ _ e => e)
  obtain ⟨c, rfl, q⟩ := t
  exact q
theorem op_ownNe (obj : PySem.W.mroIn X.K TC (.type "object") = some true) (ne : PySem.W.findIn X.K (.ref TC) "__ne__" = some (some (.builtin "object.__ne__"))) (M : MtD X.prog X.w X.K X.mg X.base TC "__eq__" k ps sp f fd) (room : Room (k + 1) X.A) : OpR X (compareOp .NotEq) (rOwn2 TC sp (!·)) := by
  intro pins s σ H x y v u Q I rx ry h
  obtain ⟨⟨b, dy, gs, rfl, bt⟩, a, dx, fs, rfl, at', asked⟩ := h
  obtain rfl : v = Value.ref a := rx
  obtain rfl : u = Value.ref b := ry
  obtain ⟨_, O, _⟩ := ins_get I.hok at'
  obtain ⟨od, inst, _⟩ := O.look
  obtain ⟨_, O2, _⟩ := ins_get I.hok bt
  obtain ⟨_, inst2, _⟩ := O2.look
  exact not_equal_asked room.units0 room.in1.units0 I.kIn inst obj inst2.type ne M.me.at_ M.me.fn (yes_or_no M I I.env0.in1 room.in1 (.cons (show RelV (.ref a) (.ref a) from rfl) (.cons (show RelV (.ref b) (.ref b) from rfl) .nil)) (!·) asked)
end
end KX

namespace KX
open PySem PySem.Spec L2 PyProof.Rows
section
variable {base : Heap} {P : Program} {w : World} {K : PySem.W.Frag} {mg : Str → Option Value} {tk : Str → Tok} {TC ED RC : Addr} {mc : Value} {rp rf : Addr} {rd : FuncData}
/-- Type.read -/
structure ReadC (P : Program) (w : World) (K : PySem.W.Frag) (mg : Str → Option Value) (base : Heap) (TC ED : Addr) (mc : Value) (p f : Addr) (fd : FuncData) : Prop where
  g : mg "Type" = some (.ref TC)
  r : ClX.CRead K TC mc
  m : ClX.CMet K TC mc "read" p f
  b : L2.Binds K fd P_tread []
  ok : FnOk P w K mg base CX0 34 f fd P_tread (spTread TC ED)
theorem reads {H : Hp} {y : V} {t : Ty} {Q : VK} {E : XK} (e : y = .str (wr t)) (g : GoodT 6 t) (l : (wr t).length ≤ 100000) (q : ∀ (x : Addr) (H' : Hp), Same H H' → TyAt TC ED H' (.ref x) t → Q (.ref x) H') : spTread TC ED ([.ref TC, y] ++ []) H Q E :=
  ⟨y, rfl, t, by rw [e], g, l, q⟩
theorem bars_one {p : Addr} {G : Hp} (h : PoolAt G p) : Bars G [p] := fun a m => by
  rw [List.mem_singleton.mp m]
  obtain ⟨_, _, _, e, _⟩ := h
  exact .inl ⟨_, e⟩
theorem hide_one {p : Addr} {G : Hp} : Same (hide p G) (hideL [p] G) := fun b o e => by
  by_cases c : b = p
  · rw [c, show hide p G p = none from if_pos rfl] at e
    cases e
  · rw [hide_ne c] at e
    rw [hideL_ne (by simpa using c)]
    exact e
theorem one_hide {p : Addr} {G : Hp} : Same (hideL [p] G) (hide p G) := fun b o e => by
  obtain ⟨n, e⟩ := hideL_some e
  rw [hide_ne (by simpa using n)]
  exact e
/-- a form, its data clear of these -/
def FV (K : PySem.W.Frag) (as : List Addr) (G : Hp) (v : V) : Prop := ∃ fm, okF 3 fm ∧ Dq K (hideL as G) v (enc fm)
theorem FV.same {as bs : List Addr} {G G' : Hp} {v : V} (h : FV K as G v) (s : Same (hideL as G) (hideL bs G')) : FV K bs G' v := h.imp fun _ t => ⟨t.1, Dq.same s _ _ t.2⟩
theorem fewer_bars {as bs : List Addr} {G : Hp} (h : ∀ b ∈ bs, b ∈ as) : Same (hideL as G) (hideL bs G) := fun b o e => by
  obtain ⟨n, e⟩ := hideL_some e
  rw [hideL_ne fun m => n (h b m)]
  exact e
/-- what is new is clear of what was there -/
theorem sub_bars {as : List Addr} {G G' : Hp} (h : ∀ a ∈ as, ∃ o, G a = some o) : Same (sub G G') (hideL as G') := fun b o e => by
  by_cases c : b ∈ as
  · obtain ⟨o', e'⟩ := h b c
    unfold sub at e
    rw [e'] at e
    cases e
  · rw [hideL_ne c]
    unfold sub at e
    cases z : G b with
    | none => rw [z] at e; exact e
    | some o' => rw [z] at e; cases e
abbrev s_right : Stmt := top 49
abbrev N_right : List Str := ["_law_pool_here", "_law_forms", "_law_values", "_law_form_here", "_law_matter", "_law_as_it_was", "_law_made", "_law_due", "_law_turn"]
abbrev P_right : List Str := ["_law_pool_here"]
theorem sc_right : FnScope N_right P_right (defScope s_right) := ⟨rfl, rfl, rfl, by decide +kernel, rfl, by decide +kernel, by decide +kernel⟩
def spRight : Sp := fun vs H Q _ => ∃ p : Addr, vs = [.ref p] ∧ PoolAt H p ∧ ∀ H' : Hp, Keep p H H' → Q (.bl true) H'
theorem ok_right {f f1 f2 f3 f4 f5 f6 : Addr} {fd d1 d2 d3 d4 d5 d6 : FuncData} (F : Fun K "_law_right" "_law_right" s_right f fd) (T : BlT mg) (SK : SysK K) (RT : ReadC P w K mg base TC ED mc rp rf rd)
    (M_has : MtD P w K mg base TC "__contains__" 21 P_has (spHas K TC ED) f1 d1) (D_form : Def P w K mg base "_law_form" 6 P_form (fun vs H Q E => spFormL K 3 vs H Q E ∨ spFormL K 4 vs H Q E) f2 d2) (D_form_text : Def P w K mg base "_law_form_text" 8 P_ftext (spFText K 7) f3 d3)
    (D_thing_of : Def P w K mg base "_law_thing_of" 9 P_thing (spThingL K 7) f4 d4) (D_bent : Def P w K mg base "_law_bent" 11 P_bent (spBent K 10) f5 d5) (D_fits : Def P w K mg base "_law_fits" 9 P_fits (spFits K 8) f6 d6) : FnG P w K mg base 35 f fd P_right spRight := by
  refine Fun.g F sc_right (fun vs H Q h => ?_) (fun cdv A outer s H vs Q quiet hr h => ?_)
  · obtain ⟨p, rfl, _⟩ := h
    rfl
  obtain ⟨p, rfl, hp, q⟩ := h
  refine ⟨_, (pss_cons (ps_set (i := 1) sc_right.nd rfl (Or.inl rfl) (pe_op op_cat (pe_lc (own := [("_law_turn", 8)]) (g := (gName 8)) (tt := tYes) rfl sc_right.nd (pi_range1 rfl T.range (pa_cons pe_int pa_nil)) (blkOk_by (own := [("_law_turn", 8)]) (N := N_right) (sc := defScope s_right) (by decide +kernel)) (fun _ _ _ _ _ => (pg_name (i := 8) sc_right.nd rfl (Or.inl rfl))) (fun _ _ _ _ _ => pts_nil) (fun _ _ _ _ _ => (pe_call D_form.ok (hr.mono (by first | decide | omega)) rfl D_form.g D_form.kp D_form.b .nil pass0 (pa_cons (pv 0) (pa_cons pe_int pa_nil))))) (pe_lst (pa_cons (pe_call D_form.ok (hr.mono (by first | decide | omega)) rfl D_form.g D_form.kp D_form.b .nil pass0 (pa_cons (pv 0) (pa_cons pe_int pa_nil))) pa_nil))))
    (pss_cons (ps_set (i := 2) sc_right.nd rfl (Or.inl rfl) (pe_lst pa_nil))
    (pss_cons (ps_for PassesOwn.never rfl (pi_list (pv 1)) (pg_name (i := 3) sc_right.nd rfl (Or.inl rfl))
      (pss_cons (ps_set (i := 4) sc_right.nd rfl (Or.inl rfl) (pe_call D_thing_of.ok (hr.mono (by first | decide | omega)) rfl D_thing_of.g D_thing_of.kp D_thing_of.b .nil pass0 (pa_cons (pv 0) (pa_cons (pv 3) pa_nil))))
    (pss_one (ps_set (i := 2) sc_right.nd rfl (Or.inl rfl) (pe_op op_cat (pv 2) (pe_lst (pa_cons (pv 4) (pa_cons (pe_call D_bent.ok (hr.mono (by first | decide | omega)) rfl D_bent.g D_bent.kp D_bent.b .nil pass0 (pa_cons (pv 0) (pa_cons (pv 4) pa_nil))) (pa_cons (pe_call D_bent.ok (hr.mono (by first | decide | omega)) rfl D_bent.g D_bent.kp D_bent.b .nil pass0 (pa_cons (pv 0) (pa_cons (pv 4) pa_nil))) pa_nil)))))))))
    (pss_cons (ps_set (i := 5) sc_right.nd rfl (Or.inl rfl) (pe_callB (call_reprK K rfl SK quiet hr) (by rfl) T.repr (by decide +kernel) (pa_cons (pv 2) pa_nil)))
    (pss_cons (ps_for PassesOwn.never rfl (pi_list (pv 1)) (pg_name (i := 3) sc_right.nd rfl (Or.inl rfl))
      (pss_cons (ps_set (i := 6) sc_right.nd rfl (Or.inl rfl) (ClX.pe_cmeth (pe_glob (v := .ref TC) rfl RT.g rfl) RT.r RT.m (FnOk.raw RT.ok RT.b .nil) (hr.mono (by first | decide | omega)) pass0 (pa_cons (pe_call D_form_text.ok (hr.mono (by first | decide | omega)) rfl D_form_text.g D_form_text.kp D_form_text.b .nil pass0 (pa_cons (pv 3) pa_nil)) pa_nil)))
    (pss_one (ps_for PassesOwn.never rfl (pi_list (pe_op op_cat (pv 2) (pe_lst (pa_cons pe_non (pa_cons pe_bl (pa_cons pe_int (pa_cons pe_str (pa_cons (pe_tup pa_nil) (pa_cons pe_dnewK (pa_cons (pe_lst pa_nil) (pa_cons (pe_lst (pa_cons pe_int pa_nil)) pa_nil))))))))))) (pg_name (i := 4) sc_right.nd rfl (Or.inl rfl))
      (pss_cons (ps_set (i := 7) sc_right.nd rfl (Or.inl rfl) (pe_call D_fits.ok (hr.mono (by first | decide | omega)) rfl D_fits.g D_fits.kp D_fits.b .nil pass0 (pa_cons (pv 3) (pa_cons (pv 4) pa_nil))))
    (pss_one (ps_if (pt_cmpR op_ne (pe_callB (call_reprK K rfl SK quiet hr) (by rfl) T.repr (by decide +kernel) (pa_cons (pe_lst (pa_cons (pe_cmpR (op_ownIn M_has (hr.mono (by first | decide | omega))) (pv 4) (pv 6) (by with_unfolding_all rfl)) (pa_cons (pe_cmpR (op_ownNotIn M_has (hr.mono (by first | decide | omega))) (pv 4) (pv 6) (by with_unfolding_all rfl)) pa_nil))) pa_nil)) (pe_callB (call_reprK K rfl SK quiet hr) (by rfl) T.repr (by decide +kernel) (pa_cons (pe_lst (pa_cons (pv 7) (pa_cons (pe_not (pv 7)) pa_nil))) pa_nil)) (nomark _))
      (pss_one (ps_ret pe_bl))
      pss_nil)))))))
    (pss_one (ps_ret (pe_cmpR op_eq (pe_callB (call_reprK K rfl SK quiet hr) (by rfl) T.repr (by decide +kernel) (pa_cons (pv 2) pa_nil)) (pv 5) (nomark _))))))))), ?_⟩
  refine ⟨4, rfl, by decide, by decide, fun D newD => ?_⟩
  have nD : D ≠ p := fun e => by
    obtain ⟨_, _, _, hu, _⟩ := hp
    rw [e, hu] at newD
    cases newD
  refine lc_range (lo := 0) (n := 4) (fun i Z => Keep p H Z ∧ PoolAt Z p ∧ ∃ fvs : List V, fvs.length = i ∧ (∀ v ∈ fvs, FV K [p, D] Z v) ∧ Z D = some (.lst fvs)) ⟨(Keep.refl p H).upd newD, hp.upd nD, [], rfl, (fun _ m => nomatch m), upd_same⟩ ?_ ?_
  · rintro i Z hi ⟨kZ, pZ, fvs, len, all, made⟩
    refine ⟨rfl, yesT ⟨_, rfl, .inl ⟨p, rfl, pZ, fun Z1 v fm k1 p1 df okf => ?_⟩⟩⟩
    have known : ∀ a ∈ [p, D], ∃ o, Z a = some o := fun a m => by
      rcases List.mem_cons.mp m with rfl | m
      · obtain ⟨_, _, _, e, _⟩ := pZ
        exact ⟨_, e⟩
      · rw [List.mem_singleton.mp m]
        exact ⟨_, made⟩
    have pas : p ∈ [p, D] := List.mem_cons_self
    have low : ∀ {o : HO}, Same (hideL [p, D] Z1) (hideL [p, D] (upd Z1 D o)) := fun {o} b ob e => by
      obtain ⟨n, e⟩ := hideL_some e
      rw [hideL_ne n, upd_ne (fun c => n (by rw [c]; simp))]
      exact e
    have madeD : Z1 D = some (.lst fvs) := k1 _ _ nD made
    refine ⟨fvs, madeD, ?_, (kZ.trans k1).upd newD, p1.upd nD, fvs ++ [v], by rw [List.length_append, len]; rfl, fun x m => ?_, upd_same⟩
    · exact less_line (by omega)
    · rcases List.mem_append.mp m with m | m
      · exact (all x m).same ((bar_same pas k1).trans low)
      · rw [List.mem_singleton.mp m]
        exact ⟨fm, okF_up 2 fm okf, Dq.same ((sub_bars known).trans low) _ _ df⟩
  rintro G1 ⟨k1, p1, fvs, len, all, made⟩
  refine ⟨_, rfl, .inr ⟨p, rfl, p1, fun G2 v fm k2 p2 df okf => ?_⟩⟩
  have sizes : ∀ n : Nat, n ≤ 100 → n ≤ sizeLine := fun n h => big (by omega)
  refine ⟨sizes 1 (by decide), fun l1 hl1 => ⟨D, l1, fvs, [v], rfl, rfl, (same_new hl1 _) _ _ (k2 _ _ nD made), upd_same, sizes _ (by rw [len]; show 4 + 1 ≤ 100; decide), fun Fl hF => ?_⟩⟩
  obtain ⟨G3, e3⟩ : ∃ Z, Z = upd (upd G2 l1 (.lst [v])) Fl (.lst (fvs ++ [v])) := ⟨_, rfl⟩
  have s3 : Same G2 G3 := by
    rw [e3]
    exact (same_new hl1 _).trans (same_new hF _)
  have f3 : G3 Fl = some (.lst (fvs ++ [v])) := by rw [e3]; exact upd_same
  have Fp : Fl ≠ p := fun e => by
    have := (p2.same (same_new hl1 (.lst [v])))
    obtain ⟨_, _, _, hu, _⟩ := this
    rw [e, hu] at hF
    cases hF
  rw [← e3]
  clear e3 hF hl1
  have p3 := p2.same s3
  have mem : p ∈ [p] := List.mem_singleton_self p
  have k13 : Keep p G1 G3 := k2.trans (Same.keep s3)
  have forms : ∀ x ∈ fvs ++ [v], FV K [p] G3 x := fun x m => by
    rcases List.mem_append.mp m with m | m
    · exact (all x m).same ((fewer_bars (by simp)).trans (bar_same mem k13))
    · rw [List.mem_singleton.mp m]
      refine ⟨fm, okf, Dq.same ((sub_bars fun a m => ?_).trans (bar_same mem (Same.keep s3))) _ _ df⟩
      rw [List.mem_singleton.mp m]
      obtain ⟨_, _, _, e, _⟩ := p1
      exact ⟨_, e⟩
  have lenF : (fvs ++ [v]).length = 5 := by rw [List.length_append, len]; rfl
  have k03 : Keep p H G3 := k1.trans k13
  clear all made df k2 p2 s3 k1 p1 k13
  generalize fvs ++ [v] = fvs at f3 forms lenF ⊢
  refine ⟨sizes 0 (by decide), fun L0 hL0 => ?_⟩
  have s4 := same_new hL0 (.lst [])
  have L0p : L0 ≠ p := fun e => by
    obtain ⟨_, _, _, hu, _⟩ := p3
    rw [e, hu] at hL0
    cases hL0
  refine ⟨_, rfl, Fl, rfl, ⟨_, SqL.of (s4 _ _ f3)⟩, ?_⟩
  refine for_it (walk_list (K := K) (a := Fl) (xs := fvs)) (fun i σ G => (∃ (o3 o4 : Option V) (Lv : Addr) (xs : List V) (ds : List PyData), σ = [some (.ref p), some (.ref Fl), some (.ref Lv), o3, o4, none, none, none, none] ∧ Lv ≠ p ∧ G Lv = some (.lst xs) ∧ DqAll K (hideL [p] G) xs ds ∧ Vals' i ds) ∧ Keep p G3 G ∧ PoolAt G p)
    ⟨⟨none, none, L0, [], [], rfl, L0p, upd_same, .nil, vals_none⟩, Same.keep s4, p3.same s4⟩ (fun i σ G _ z => SqL.of (z.2.1 _ _ Fp f3)) ?_ ?_
  · rintro i x σ G G' hi ⟨⟨o3, o4, Lv, xs, ds, rfl, Lp, hL, dall, vals⟩, kG, pG⟩ ⟨rfl, at'⟩
    obtain ⟨fm, okf, dfm⟩ := (forms x (List.mem_of_getElem? at')).same (bar_same mem kG)
    refine ⟨_, rfl, _, rfl, p, x, fm, rfl, pG, Dq.same one_hide _ _ dfm, okD_of 3 fm okf, fun G5 y d k5 p5 dy fit => ?_⟩
    have dyh : Dq K (hideL [p] G5) y d := Dq.same ((sub_hide pG.has).trans hide_one) _ _ dy
    have sm := fit_sm 3 fm d okf fit
    have bd := drawn_bk okf fit
    refine ⟨_, rfl, _, rfl, _, rfl, _, rfl, p, y, d, 3, 6, [p], rfl, p5, mem, bars_one p5, by omega, by omega, by omega, sm, dyh, fun G6 y1 e1 k6 p6 dy1 sm1 m1 => ?_⟩
    have dyh6 := Dq.same (bar_same mem k6) _ _ dyh
    refine ⟨_, rfl, _, rfl, p, y, d, 3, 6, [p], rfl, p6, mem, bars_one p6, by omega, by omega, by omega, sm, dyh6, fun G7 y2 e2 k7 p7 dy2 sm2 m2 => ?_⟩
    have k57 := k5.trans (k6.trans k7)
    have hL7 := k57 _ _ Lp hL
    have few : xs.length ≤ 15 := by
      have := DqAll.length dall
      rw [vals.len] at this
      omega
    refine ⟨sizes 3 (by decide), fun l3 hl3 => ⟨Lv, l3, xs, [y, y1, y2], rfl, rfl, (same_new hl3 _) _ _ hL7, upd_same, sizes _ (by show xs.length + 3 ≤ 100; omega), fun L4 hL4 => ?_⟩⟩
    have s8 := (same_new hl3 (.lst [y, y1, y2])).trans (same_new hL4 (.lst (xs ++ [y, y1, y2])))
    have L4p : L4 ≠ p := fun e => by
      have := p7.same (same_new hl3 (.lst [y, y1, y2]))
      obtain ⟨_, _, _, hu, _⟩ := this
      rw [e, hu] at hL4
      cases hL4
    have k8 : Keep p G7 _ := Same.keep s8
    have new : DqAll K (hideL [p] G7) [y, y1, y2] [d, e1, e2] := .cons (Dq.same (bar_same mem k7) _ _ dyh6) (.cons (Dq.same (bar_same mem k7) _ _ dy1) (.cons dy2 .nil))
    have old := DqAll.same (bar_same mem k57) _ _ dall
    refine ⟨⟨_, _, L4, xs ++ [y, y1, y2], ds ++ [d, e1, e2], rfl, L4p, upd_same, DqAll.same (bar_same mem k8) _ _ (DqAll.app new old), ?_⟩, kG.trans (k57.trans k8), p7.same s8⟩
    have up8 : ∀ {b n : Nat} {d : PyData}, b ≤ 8 → n ≤ 8 → Sm b n d → Vd 8 d := fun {b n d} hb hn h => by
      have := h.deep (8 - n)
      rw [show n + (8 - n) = 8 from by omega] at this
      exact this.vd hb
    exact vals_more vals bd (bent_bk bd m1) (bent_bk bd m2) (up8 (by decide) (by decide) sm) (up8 (by decide) (by decide) sm1) (up8 (by decide) (by decide) sm2)
  rintro σ G ⟨⟨o3, o4, Lv, xs, ds, rfl, Lp, hL, dall, vals⟩, kG, pG⟩
  rw [lenF] at vals
  have low : Same (hideL [p] G) G := bar_low [p]
  have dlow := DqAll.same low _ _ dall
  refine ⟨_, rfl, _, .list ds, rfl, .lst hL dlow, vals_show vals, ?_⟩
  have f4 := kG _ _ Fp f3
  refine ⟨_, rfl, Fl, rfl, ⟨_, SqL.of f4⟩, ?_⟩
  refine for_it (walk_list (K := K) (a := Fl) (xs := fvs)) (fun i σ G' => (∃ o3 o4 o6 o7 : Option V, σ = [some (.ref p), some (.ref Fl), some (.ref Lv), o3, o4, some (.str (PyData.list ds).shown), o6, o7, none]) ∧ Same G G') ⟨⟨_, _, _, _, rfl⟩, Same.refl G⟩ (fun i σ G' _ z => SqL.of (z.2 _ _ f4)) ?_ ?_
  · rintro i x σ G1 G1' hi ⟨⟨o3, o4, o6, o7, rfl⟩, s1⟩ ⟨rfl, at'⟩
    obtain ⟨fm, okf, dfm0⟩ := (forms x (List.mem_of_getElem? at')).same (bar_same mem kG)
    have dfm := Dq.same (low.trans s1) _ _ dfm0
    obtain ⟨good, deep⟩ := good_of 3 fm okf
    have lenw : (wr (tyOf fm)).length ≤ 100000 := Nat.le_trans (len_of 3 fm okf) (by decide)
    refine ⟨rfl, _, rfl, x, tyOf fm, 6, rfl, by decide, by rw [← enc_ty]; exact dfm, deep, by omega, fun G2 s2 => reads rfl good (by omega) fun x1 G3 s3 t3 => ?_⟩
    have s13 := s1.trans (s2.trans s3)
    refine ⟨_, rfl, sizes 0 (by decide), fun t1 ht1 => ?_⟩
    have a1 := same_new ht1 (.tup [])
    have f1 : upd G3 t1 (.tup []) t1 = some (.tup []) := upd_same
    generalize upd G3 t1 (.tup []) = H1 at a1 f1 ⊢
    intro d1 hd1
    have a2 := same_new hd1 (.dK [])
    have f2 : upd H1 d1 (.dK []) d1 = some (.dK []) := upd_same
    generalize upd H1 d1 (.dK []) = H2 at a2 f2 ⊢
    refine ⟨sizes 0 (by decide), fun l1 hl1 => ?_⟩
    have a3 := same_new hl1 (.lst [])
    have f3 : upd H2 l1 (.lst []) l1 = some (.lst []) := upd_same
    generalize upd H2 l1 (.lst []) = H3 at a3 f3 ⊢
    refine ⟨sizes 1 (by decide), fun l2 hl2 => ?_⟩
    have a4 := same_new hl2 (.lst [.int 1])
    have f4 : upd H3 l2 (.lst [.int 1]) l2 = some (.lst [.int 1]) := upd_same
    generalize upd H3 l2 (.lst [.int 1]) = H4 at a4 f4 ⊢
    have b4 := a1.trans (a2.trans (a3.trans a4))
    have few : xs.length ≤ 15 := by
      have := DqAll.length dall
      rw [vals.len] at this
      omega
    refine ⟨sizes 8 (by decide), fun l3 hl3 => ⟨Lv, l3, xs, _, rfl, rfl, (same_new hl3 _) _ _ (b4 _ _ (s13 _ _ hL)), upd_same, sizes _ (by show xs.length + 8 ≤ 100; omega), fun L4 hL4 => ?_⟩⟩
    have a5 := (same_new hl3 (.lst [.non, .bl true, .int 1, .str "", .ref t1, .ref d1, .ref l1, .ref l2])).trans (same_new hL4 (.lst (xs ++ [.non, .bl true, .int 1, .str "", .ref t1, .ref d1, .ref l1, .ref l2])))
    have f5 : upd (upd H4 l3 (.lst [.non, .bl true, .int 1, .str "", .ref t1, .ref d1, .ref l1, .ref l2])) L4 (.lst (xs ++ [.non, .bl true, .int 1, .str "", .ref t1, .ref d1, .ref l1, .ref l2])) L4 = some (.lst (xs ++ [.non, .bl true, .int 1, .str "", .ref t1, .ref d1, .ref l1, .ref l2])) := upd_same
    generalize upd (upd H4 l3 (.lst [.non, .bl true, .int 1, .str "", .ref t1, .ref d1, .ref l1, .ref l2])) L4 (.lst (xs ++ [.non, .bl true, .int 1, .str "", .ref t1, .ref d1, .ref l1, .ref l2])) = H5 at a5 f5 ⊢
    have s15 := s13.trans (b4.trans a5)
    have each : ∀ y ∈ xs ++ [V.non, .bl true, .int 1, .str "", .ref t1, .ref d1, .ref l1, .ref l2], ∃ d, Dq K H5 y d ∧ Vd 8 d := fun y m => by
      rcases List.mem_append.mp m with m | m
      · obtain ⟨j, hj⟩ := List.getElem?_of_mem m
        obtain ⟨d, ed, dd⟩ := dlow.get hj
        exact ⟨d, Dq.same s15 _ _ dd, vals.vd d (List.mem_of_getElem? ed)⟩
      · simp only [List.mem_cons, List.not_mem_nil, or_false] at m
        rcases m with rfl | rfl | rfl | rfl | rfl | rfl | rfl | rfl
        · exact ⟨.none, .non, by simp [Vd]⟩
        · exact ⟨.bool true, .bl true, by simp [Vd]⟩
        · exact ⟨.int 1, .int 1, by simp only [Vd]; decide⟩
        · exact ⟨.str "", .str "", by simp only [Vd]; exact ⟨by decide, fun c m => by cases m⟩⟩
        · exact ⟨.tuple [], .tup (a5 _ _ (a4 _ _ (a3 _ _ (a2 _ _ f1)))) .nil, by simp only [Vd]; exact ⟨by decide, fun x m => by cases m⟩⟩
        · exact ⟨.dict [], .dct (a5 _ _ (a4 _ _ (a3 _ _ f2))) .nil, by simp only [Vd]; exact ⟨⟨by decide, .nil, fun kv m => by cases m⟩, fun kv m => by cases m⟩⟩
        · exact ⟨.list [], .lst (a5 _ _ (a4 _ _ f3)) .nil, by simp [Vd]⟩
        · exact ⟨.list [.int 1], .lst (a5 _ _ f4) (.cons (.int 1) .nil), by simp [Vd]⟩
    have t5 := TyAt.same (b4.trans a5) _ _ t3
    have dfm5 := Dq.same ((s2.trans s3).trans (b4.trans a5)) _ _ dfm
    refine ⟨L4, rfl, ⟨_, SqL.of f5⟩, ?_⟩
    clear a1 a2 a3 a4 f1 f2 f3 f4 b4 ht1 hd1 hl1 hl2
    generalize xs ++ [V.non, .bl true, .int 1, .str "", .ref t1, .ref d1, .ref l1, .ref l2] = ys at f5 each ⊢
    refine for_it (walk_list (K := K) (a := L4) (xs := ys)) (fun k σ G' => (∃ o4 o7 : Option V, σ = [some (.ref p), some (.ref Fl), some (.ref Lv), some x, o4, some (.str (PyData.list ds).shown), some (.ref x1), o7, none]) ∧ Same H5 G') ⟨⟨_, _, rfl⟩, Same.refl H5⟩ (fun k σ G' _ z => SqL.of (z.2 _ _ f5)) ?_ ?_
    · rintro k y σ G7 G7' hk ⟨⟨o4, o7, rfl⟩, s7⟩ ⟨rfl, aty⟩
      obtain ⟨d, dq, vd⟩ := each y (List.mem_of_getElem? aty)
      have lv := lev_le 3 fm
      refine ⟨_, rfl, _, rfl, x, y, fm, d, 3, 8, rfl, by omega, by decide, okf, Dq.same s7 _ _ dfm5, Dq.same s7 _ _ dq, vd, fun G8 s8 => ?_⟩
      have s58 := s7.trans s8
      have t8 := TyAt.same s58 _ _ t5
      obtain ⟨_, dx, vi, vf, e, hrow, _⟩ := t8.obj
      cases e
      refine ⟨_, rfl, _, rfl, x1, dx, _, rfl, hrow, x1, tyOf fm, y, d, 6, 8, rfl, by decide, deep, t8, Dq.same s58 _ _ dq, vd, fun G9 s9 => ⟨_, rfl, ?_⟩⟩
      refine ⟨_, rfl, _, rfl, x1, dx, _, rfl, s9 _ _ hrow, x1, tyOf fm, y, d, 6, 8, rfl, by decide, deep, TyAt.same s9 _ _ t8, Dq.same (s58.trans s9) _ _ dq, vd, fun G10 s10 => ⟨_, rfl, ?_⟩⟩
      have shows : Shows (.list [.bool (fitsT (tyOf fm) d), .bool (!fitsT (tyOf fm) d)]) := by
        cases fitsT (tyOf fm) d <;> exact ⟨rfl, by simp [PyData.depth, PyData.depthAll], big (by decide +kernel)⟩
      refine ⟨sizes 2 (by decide), fun l hl => ?_⟩
      have s11 := same_new hl (.lst [.bl (fitsT (tyOf fm) d), .bl (!fitsT (tyOf fm) d)])
      refine ⟨_, .list [.bool (fitsT (tyOf fm) d), .bool (!fitsT (tyOf fm) d)], rfl, .lst upd_same (.cons (.bl _) (.cons (.bl _) .nil)), shows, ?_⟩
      refine ⟨_, rfl, _, rfl, _, rfl, sizes 2 (by decide), fun l' hl' => ?_⟩
      have s12 := same_new hl' (.lst [.bl (fitsT (tyOf fm) d), .bl (!fitsT (tyOf fm) d)])
      refine ⟨_, .list [.bool (fitsT (tyOf fm) d), .bool (!fitsT (tyOf fm) d)], rfl, .lst upd_same (.cons (.bl _) (.cons (.bl _) .nil)), shows, rfl, _, rfl, if_ff (by rw [decide_eq_true rfl]; rfl) ?_⟩
      exact ⟨⟨_, _, rfl⟩, s58.trans (s9.trans (s10.trans (s11.trans s12)))⟩
    · rintro σ G7 ⟨⟨o4, o7, rfl⟩, s7⟩
      exact ⟨⟨_, _, _, _, rfl⟩, s15.trans s7⟩
  rintro σ G1 ⟨⟨o3', o4', o6, o7, rfl⟩, s1⟩
  refine ⟨_, rfl, _, .list ds, rfl, .lst (s1 _ _ hL) (DqAll.same s1 _ _ dlow), vals_show vals, _, rfl, rfl, ?_⟩
  rw [decide_eq_true rfl]
  exact q _ (k03.trans (kG.trans (Same.keep s1)))
end
end KX

namespace KX
open PySem PySem.Spec L2 PyProof.Rows
section
variable {base : Heap} {P : Program} {w : World} {K : PySem.W.Frag} {mg : Str → Option Value} {tk : Str → Tok}
/-- one that fits and one that does not, at the top -/
def PairOk (K : PySem.W.Frag) (t : Ty) (G : Hp) (v : V) : Prop := ∃ (a : Addr) (g b : V) (dg db : PyData), v = .ref a ∧ G a = some (.tup [g, b]) ∧ Dq K G g dg ∧ Dq K G b db ∧ Vd 8 dg ∧ Vd 8 db ∧ (∀ p, tr t dg p = none) ∧ ∀ p, tr t db p = some p
theorem PairOk.same {t : Ty} {G G' : Hp} {v : V} (h : PairOk K t G v) (s : Same G G') : PairOk K t G' v := by
  obtain ⟨a, g, b, dg, db, e, at', d1, d2, r⟩ := h
  exact ⟨a, g, b, dg, db, e, s _ _ at', Dq.same s _ _ d1, Dq.same s _ _ d2, r⟩
abbrev s_twins : Stmt := top 50
abbrev N_twins : List Str := ["_law_form_here"]
abbrev P_twins : List Str := ["_law_form_here"]
theorem sc_twins : FnScope N_twins P_twins (defScope s_twins) := ⟨rfl, rfl, rfl, by decide +kernel, rfl, by decide +kernel, by decide +kernel⟩
def spTwins (K : PySem.W.Frag) : Sp := fun vs H Q _ => ∃ (fv : V) (fm : Fm), vs = [fv] ∧ Dq K H fv (enc fm) ∧ ∀ (H' : Hp) (l : Addr) (xs : List V), Same H H' → H' l = some (.lst xs) → xs.length ≤ 2 → (∀ x ∈ xs, PairOk K (tyOf fm) H' x) → Q (.ref l) H'
theorem pairs_two {t : Ty} {G : Hp} {Q : VK} {g1 b1 g2 b2 : V} {e1 e2 f1 f2 : PyData} (h1 : Dq K G g1 e1) (h2 : Dq K G b1 e2) (h3 : Dq K G g2 f1) (h4 : Dq K G b2 f2) (v1 : Vd 8 e1) (v2 : Vd 8 e2) (v3 : Vd 8 f1) (v4 : Vd 8 f2) (t1 : ∀ p, tr t e1 p = none) (t2 : ∀ p, tr t e2 p = some p) (t3 : ∀ p, tr t f1 p = none) (t4 : ∀ p, tr t f2 p = some p)
    (q : ∀ (H' : Hp) (l : Addr) (xs : List V), Same G H' → H' l = some (.lst xs) → xs.length ≤ 2 → (∀ x ∈ xs, PairOk K t H' x) → Q (.ref l) H') {a1 a2 l : Addr} {G1 : Hp} (s1 : Same G G1) (at1 : G1 a1 = some (.tup [g1, b1])) (n2 : G1 a2 = none) (nl : upd G1 a2 (.tup [g2, b2]) l = none) : Q (.ref l) (upd (upd G1 a2 (.tup [g2, b2])) l (.lst [.ref a1, .ref a2])) := by
  have s2 := same_new n2 (.tup [g2, b2])
  have s3 := same_new nl (.lst [.ref a1, .ref a2])
  have s13 := s1.trans (s2.trans s3)
  refine q _ l _ s13 upd_same (by show 2 ≤ 2; decide) fun x m => ?_
  rcases List.mem_cons.mp m with rfl | m
  · exact ⟨a1, g1, b1, e1, e2, rfl, s3 _ _ (s2 _ _ at1), Dq.same s13 _ _ h1, Dq.same s13 _ _ h2, v1, v2, t1, t2⟩
  · rw [List.mem_singleton.mp m]
    exact ⟨a2, g2, b2, f1, f2, rfl, s3 _ _ upd_same, Dq.same s13 _ _ h3, Dq.same s13 _ _ h4, v3, v4, t3, t4⟩
theorem ok_twins {f : Addr} {fd : FuncData} (F : Fun K "_law_twins" "_law_twins" s_twins f fd) : FnOk P w K mg base CX0 1 f fd P_twins (spTwins K) := by
  refine F.ok sc_twins (fun vs H Q E h => ?_) (fun cdv A outer s H vs Q E hr h => ?_)
  · obtain ⟨fv, fm, rfl, _⟩ := h
    rfl
  obtain ⟨fv, fm, rfl, df, q⟩ := h
  refine ⟨_, (pss_cons (ps_if (pt_cmpR op_eq (pe_ix (ix_tupK K rfl) (pv 0) pe_int (fun _ _ => rfl)) pe_str (nomark _))
      (pss_one (ps_ret (pe_lst (pa_cons (pe_tup (pa_cons pe_int (pa_cons pe_bl pa_nil))) (pa_cons (pe_tup (pa_cons pe_int (pa_cons pe_bl pa_nil))) pa_nil)))))
      pss_nil)
    (pss_cons (ps_if (pt_cmpR op_eq (pe_ix (ix_tupK K rfl) (pv 0) pe_int (fun _ _ => rfl)) pe_str (nomark _))
      (pss_one (ps_ret (pe_lst (pa_cons (pe_tup (pa_cons pe_bl (pa_cons pe_int pa_nil))) (pa_cons (pe_tup (pa_cons pe_bl (pa_cons pe_int pa_nil))) pa_nil)))))
      pss_nil)
    (pss_cons (ps_if (pt_cmpR op_eq (pe_ix (ix_tupK K rfl) (pv 0) pe_int (fun _ _ => rfl)) pe_str (nomark _))
      (pss_one (ps_ret (pe_lst (pa_cons (pe_tup (pa_cons pe_str (pa_cons pe_non pa_nil))) (pa_cons (pe_tup (pa_cons pe_str (pa_cons pe_int pa_nil))) pa_nil)))))
      pss_nil)
    (pss_one (ps_ret (pe_ifExp (pt_cmpR (op_inK K rfl) (pe_ix (ix_tupK K rfl) (pv 0) pe_int (fun _ _ => rfl)) (pe_lst (pa_cons pe_str (pa_cons pe_str pa_nil))) (by with_unfolding_all rfl)) (pe_lst (pa_cons (pe_tup (pa_cons (pe_tup pa_nil) (pa_cons (pe_lst pa_nil) pa_nil))) (pa_cons (pe_tup (pa_cons (pe_tup pa_nil) (pa_cons pe_dnewK pa_nil))) pa_nil))) (pe_lst pa_nil))))))), ?_⟩
  obtain ⟨fa, fxs, rfl, hfa, head⟩ := enc_head fm df
  have at0 : atI fxs 0 = some (.str fm.word) := at_of (j := 0) rfl head
  have sizes : ∀ n : Nat, n ≤ 100 → n ≤ sizeLine := fun n h => big (by omega)
  have no : ∀ z : Str, fm.word ≠ z → decide (V.str fm.word = V.str z) = false := fun z ne => decide_eq_false fun e => ne (V.str.inj e)
  have yes : ∀ z : Str, fm.word = z → decide (V.str fm.word = V.str z) = true := fun z e => decide_eq_true (by rw [e])
  have one1 : Vd 8 (.int 1) := by simp only [Vd]; decide
  have zero : Vd 8 (.int 0) := by simp only [Vd]; decide
  have bool : ∀ b, Vd 8 (.bool b) := fun b => by simp [Vd]
  have word : fm.word = "number" ∨ fm.word = "flag" ∨ fm.word = "text" ∨ (fm.word ≠ "number" ∧ fm.word ≠ "flag" ∧ fm.word ≠ "text") := by
    by_cases a : fm.word = "number"
    · exact .inl a
    · by_cases b : fm.word = "flag"
      · exact .inr (.inl b)
      · by_cases c : fm.word = "text"
        · exact .inr (.inr (.inl c))
        · exact .inr (.inr (.inr ⟨a, b, c⟩))
  rcases word with e | e | e | ⟨w1, w2, w3⟩
  · have ty : tyOf fm = .number := by cases fm <;> first | rfl | (exact absurd e (by simp only [Fm.word]; decide))
    rw [ty] at q
    refine ⟨_, rfl, fa, _, 0, _, rfl, rfl, SqT.of hfa, at0, rfl, _, rfl, if_tt (yes _ e) ?_⟩
    refine ⟨sizes 2 (by decide), fun a1 h1 => ⟨sizes 2 (by decide), fun a2 h2 => ⟨sizes 2 (by decide), fun l hl => ?_⟩⟩⟩
    exact pairs_two (K := K) (.int 1) (.bl true) (.int 0) (.bl false) one1 (bool _) zero (bool _) (fun _ => rfl) (fun _ => rfl) (fun _ => rfl) (fun _ => rfl) q (same_new h1 _) upd_same h2 hl
  · have ty : tyOf fm = .flag := by cases fm <;> first | rfl | (exact absurd e (by simp only [Fm.word]; decide))
    rw [ty] at q
    refine ⟨_, rfl, fa, _, 0, _, rfl, rfl, SqT.of hfa, at0, rfl, _, rfl, if_ff (no _ (by rw [e]; decide)) ?_⟩
    refine ⟨_, rfl, fa, _, 0, _, rfl, rfl, SqT.of hfa, at0, rfl, _, rfl, if_tt (yes _ e) ?_⟩
    refine ⟨sizes 2 (by decide), fun a1 h1 => ⟨sizes 2 (by decide), fun a2 h2 => ⟨sizes 2 (by decide), fun l hl => ?_⟩⟩⟩
    exact pairs_two (K := K) (.bl true) (.int 1) (.bl false) (.int 0) (bool _) one1 (bool _) zero (fun _ => rfl) (fun _ => rfl) (fun _ => rfl) (fun _ => rfl) q (same_new h1 _) upd_same h2 hl
  · have ty : tyOf fm = .text := by cases fm <;> first | rfl | (exact absurd e (by simp only [Fm.word]; decide))
    rw [ty] at q
    refine ⟨_, rfl, fa, _, 0, _, rfl, rfl, SqT.of hfa, at0, rfl, _, rfl, if_ff (no _ (by rw [e]; decide)) ?_⟩
    refine ⟨_, rfl, fa, _, 0, _, rfl, rfl, SqT.of hfa, at0, rfl, _, rfl, if_ff (no _ (by rw [e]; decide)) ?_⟩
    refine ⟨_, rfl, fa, _, 0, _, rfl, rfl, SqT.of hfa, at0, rfl, _, rfl, if_tt (yes _ e) ?_⟩
    refine ⟨sizes 2 (by decide), fun a1 h1 => ⟨sizes 2 (by decide), fun a2 h2 => ⟨sizes 2 (by decide), fun l hl => ?_⟩⟩⟩
    exact pairs_two (K := K) (.str "") .non (.str "1") (.int 1) (by simp only [Vd]; exact ⟨by decide, fun c m => by cases m⟩) (by simp [Vd]) (by simp only [Vd]; exact ⟨by decide, by decide +kernel⟩) one1 (fun _ => rfl) (fun _ => rfl) (fun _ => rfl) (fun _ => rfl) q (same_new h1 _) upd_same h2 hl
  · refine ⟨_, rfl, fa, _, 0, _, rfl, rfl, SqT.of hfa, at0, rfl, _, rfl, if_ff (no _ w1) ?_⟩
    refine ⟨_, rfl, fa, _, 0, _, rfl, rfl, SqT.of hfa, at0, rfl, _, rfl, if_ff (no _ w2) ?_⟩
    refine ⟨_, rfl, fa, _, 0, _, rfl, rfl, SqT.of hfa, at0, rfl, _, rfl, if_ff (no _ w3) ?_⟩
    refine ⟨_, rfl, fa, _, 0, _, rfl, rfl, SqT.of hfa, at0, sizes 2 (by decide), fun l2 hl2 => ⟨l2, _, rfl, .inl (SqL.of upd_same), rfl, rfl, _, rfl, ?_⟩⟩
    have s2 := same_new hl2 (.lst [.str "list", .str "keyed"])
    generalize upd H l2 (.lst [.str "list", .str "keyed"]) = G2 at s2 ⊢
    by_cases many : inV (V.str fm.word) [V.str "list", V.str "keyed"] = true
    · refine if_tt many ?_
      refine ⟨sizes 0 (by decide), fun t1 ht1 => ?_⟩
      have a1 := same_new ht1 (.tup [])
      have f1 : upd G2 t1 (.tup []) t1 = some (.tup []) := upd_same
      generalize upd G2 t1 (.tup []) = H1 at a1 f1 ⊢
      refine ⟨sizes 0 (by decide), fun l1 hl1 => ?_⟩
      have a2 := same_new hl1 (.lst [])
      have f2 : upd H1 l1 (.lst []) l1 = some (.lst []) := upd_same
      generalize upd H1 l1 (.lst []) = H2 at a2 f2 ⊢
      refine ⟨sizes 2 (by decide), fun p1 hp1 => ?_⟩
      have a3 := same_new hp1 (.tup [.ref t1, .ref l1])
      have f3 : upd H2 p1 (.tup [.ref t1, .ref l1]) p1 = some (.tup [.ref t1, .ref l1]) := upd_same
      generalize upd H2 p1 (.tup [.ref t1, .ref l1]) = H3 at a3 f3 ⊢
      refine ⟨sizes 0 (by decide), fun t2 ht2 => ?_⟩
      have a4 := same_new ht2 (.tup [])
      have f4 : upd H3 t2 (.tup []) t2 = some (.tup []) := upd_same
      generalize upd H3 t2 (.tup []) = H4 at a4 f4 ⊢
      intro d1 hd1
      have a5 := same_new hd1 (.dK [])
      have f5 : upd H4 d1 (.dK []) d1 = some (.dK []) := upd_same
      generalize upd H4 d1 (.dK []) = H5 at a5 f5 ⊢
      refine ⟨sizes 2 (by decide), fun p2 hp2 => ⟨sizes 2 (by decide), fun l hl => ?_⟩⟩
      have nil : Vd 8 (.tuple []) := by simp only [Vd]; exact ⟨by decide, fun x m => by cases m⟩
      have ends : (∀ p, tr (tyOf fm) (.tuple []) p = none) ∧ (∀ p, tr (tyOf fm) (.list []) p = some p) ∧ ∀ p, tr (tyOf fm) (.dict []) p = some p := by
        cases fm <;> first | (exact absurd many (by simp only [Fm.word]; decide)) | (refine ⟨fun p => ?_, fun p => ?_, fun p => ?_⟩ <;> simp [tyOf, tr, rowsT])
      have a35 := a3.trans (a4.trans a5)
      exact pairs_two (K := K) (.tup (a35 _ _ (a2 _ _ f1)) .nil) (.lst (a35 _ _ f2) .nil) (.tup (a5 _ _ f4) .nil) (.dct f5 .nil) nil (by simp [Vd]) nil (by simp only [Vd]; exact ⟨⟨by decide, .nil, fun kv m => by cases m⟩, fun kv m => by cases m⟩) ends.1 ends.2.1 ends.1 ends.2.2
        (fun H' l xs s a b c => q H' l xs (s2.trans (a1.trans (a2.trans (a35.trans s)))) a b c) (Same.refl H5) (a5 _ _ (a4 _ _ f3)) hp2 hl
    · refine if_ff (Bool.eq_false_iff.mpr many) ⟨sizes 0 (by decide), fun l hl => ?_⟩
      exact q _ l [] (s2.trans (same_new hl _)) upd_same (by decide) fun x m => by cases m
end
end KX

namespace KX
open PySem PySem.Spec L2 PyProof.Rows
/-! ### what is drawn is a value, and the same as itself -/
def Vs : Nat → PyData → Prop
  | n + 1, .tuple ds => ds.length ≤ 3 ∧ ∀ x ∈ ds, Vs n x
  | n + 1, .dict kvs => (kvs.length ≤ 3 ∧ (kvs.map (·.1)).Nodup ∧ ∀ kv ∈ kvs, ∃ z, kv.1 = .str z ∧ IsNm z) ∧ ∀ kv ∈ kvs, Vs n kv.2
  | _, .none => True
  | _, .bool _ => True
  | _, .int i => i.natAbs ≤ 10 ^ 40
  | _, .str z => TxV z
  | _, .list _ => False
  | 0, .tuple _ => False
  | 0, .dict _ => False
theorem Vs.vk : ∀ {n : Nat} {d : PyData}, Vs n d → Vk d
  | _, .none, _ => trivial
  | _, .bool _, _ => trivial
  | _, .int _, h => by simpa only [Vs, Vk] using h
  | _, .str z, h => by simpa only [Vs, Vk] using h
  | n + 1, .tuple ds, h => by
    have h' : ds.length ≤ 3 ∧ ∀ x ∈ ds, Vs n x := by simpa only [Vs] using h
    show ds.length ≤ 100
    omega
  | n + 1, .dict kvs, h => by
    have h' : (kvs.length ≤ 3 ∧ (kvs.map (·.1)).Nodup ∧ ∀ kv ∈ kvs, ∃ z, kv.1 = .str z ∧ IsNm z) ∧ ∀ kv ∈ kvs, Vs n kv.2 := by simpa only [Vs] using h
    refine ⟨by omega, h'.1.2.1, fun kv m => ?_⟩
    obtain ⟨z, e, nm⟩ := h'.1.2.2 kv m
    rw [e]
    exact nm
  | 0, .tuple _, h => by simp [Vs] at h
  | 0, .dict _, h => by simp [Vs] at h
  | 0, .list _, h => by simp [Vs] at h
  | n + 1, .list _, h => by simp [Vs] at h
theorem Vs.up : ∀ {n : Nat} {d : PyData}, Vs n d → Vs (n + 1) d
  | _, .none, _ => by simp [Vs]
  | _, .bool _, _ => by simp [Vs]
  | n, .int _, h => by cases n <;> simpa only [Vs] using h
  | n, .str z, h => by cases n <;> simpa only [Vs] using h
  | n + 1, .tuple ds, h => by
    have h' : ds.length ≤ 3 ∧ ∀ x ∈ ds, Vs n x := by simpa only [Vs] using h
    show Vs (n + 1 + 1) (.tuple ds)
    simp only [Vs]
    exact ⟨h'.1, fun x hx => (h'.2 x hx).up⟩
  | n + 1, .dict kvs, h => by
    have h' : (kvs.length ≤ 3 ∧ (kvs.map (·.1)).Nodup ∧ ∀ kv ∈ kvs, ∃ z, kv.1 = .str z ∧ IsNm z) ∧ ∀ kv ∈ kvs, Vs n kv.2 := by simpa only [Vs] using h
    show Vs (n + 1 + 1) (.dict kvs)
    simp only [Vs]
    exact ⟨h'.1, fun x hx => (h'.2 x hx).up⟩
  | 0, .tuple _, h => by simp [Vs] at h
  | 0, .dict _, h => by simp [Vs] at h
  | 0, .list _, h => by simp [Vs] at h
  | n + 1, .list _, h => by simp [Vs] at h
theorem fit_vs : ∀ (n : Nat) (f : Fm) (d : PyData), okF n f → Fit f d → Vs (2 * n) d
  | n, .text, _, _, .text tx => by
    have h : TxV _ := tx_v tx
    cases n <;> simpa only [Vs] using h
  | n, .number, _, _, .number i => by
    have h : (_ : Int).natAbs ≤ 10 ^ 40 := Nat.le_trans i (by decide)
    cases n <;> simpa only [Vs] using h
  | n, .flag, _, _, .flag b => by cases n <;> simp [Vs]
  | 0, .list _, _, h, _ => by simp [okF] at h
  | 0, .opt _, _, h, _ => by simp [okF] at h
  | 0, .rcd _, _, h, _ => by simp [okF] at h
  | 0, .keyed _ _ _ _, _, h, _ => by simp [okF] at h
  | n + 1, .opt f, _, h, .optN _ => by simp [Vs]
  | n + 1, .opt f, d, h, .opt fd => by
    have h' : okF n f ∧ f.isOpt = false := by simpa only [okF] using h
    exact ((fit_vs n f d h'.1 fd).up).up
  | n + 1, .list f, _, h, .list (ds := ds) few each => by
    have h' : okF n f := by simpa only [okF] using h
    have : Vs (2 * n + 1) (.tuple ds) := by
      simp only [Vs]
      exact ⟨by omega, fun x hx => fit_vs n f x h' (each x hx)⟩
    exact this.up
  | n + 1, .rcd fs, _, h, .rcd (kvs := kvs) keys each => by
    have h' : Names (fs.map (·.1)) ∧ sortedS (fs.map (·.1)) = true ∧ 1 ≤ fs.length ∧ fs.length ≤ 3 ∧ ∀ q ∈ fs, okF n q.2 := by simpa only [okF] using h
    have len : kvs.length = fs.length := by
      have := congrArg List.length keys
      rw [List.length_map, List.length_map] at this
      exact this
    have at' : ∀ kv ∈ kvs, ∃ q ∈ fs, kv.1 = .str q.1 ∧ Fit q.2 kv.2 := by
      intro kv hkv
      obtain ⟨i, hi, e⟩ := List.mem_iff_getElem.mp hkv
      have hi2 : i < fs.length := by omega
      refine ⟨fs[i], List.getElem_mem hi2, ?_, each i _ kv (List.getElem?_eq_getElem hi2) (by rw [List.getElem?_eq_getElem hi, e])⟩
      have := congrArg (fun l : List PyData => l[i]?) keys
      simp only [List.getElem?_map, List.getElem?_eq_getElem hi, List.getElem?_eq_getElem hi2, Option.map_some] at this
      rw [← e]
      exact Option.some.inj this
    have : Vs (2 * n + 1) (.dict kvs) := by
      simp only [Vs]
      refine ⟨⟨by omega, ?_, fun kv hkv => ?_⟩, fun kv hkv => ?_⟩
      · rw [keys]
        have nd := h'.1.1
        unfold List.Nodup at nd ⊢
        rw [List.pairwise_map] at nd ⊢
        exact nd.imp fun ne e => ne (by simpa using e)
      · obtain ⟨q, hq, e, _⟩ := at' kv hkv
        exact ⟨q.1, e, h'.1.2 _ (List.mem_map.mpr ⟨q, hq, rfl⟩)⟩
      · obtain ⟨q, hq, _, ft⟩ := at' kv hkv
        exact fit_vs n q.2 kv.2 (h'.2.2.2.2 q hq) ft
    exact this.up
  | n + 1, .keyed k num w f, _, h, .keyed (rows := rows) few keys each => by
    have h' : Names [k, w] ∧ sortedS [k, w] = true ∧ okF n f := by simpa only [okF] using h
    have ne : k ≠ w := by
      have := h'.1.1
      simp at this
      exact this
    have row : ∀ x ∈ rows.map (fun r => PyData.dict [(.str k, r.1), (.str w, r.2)]), Vs (2 * n + 1) x := by
      intro x hx
      obtain ⟨r, hr, rfl⟩ := List.mem_map.mp hx
      obtain ⟨i, hi, e⟩ := List.mem_iff_getElem.mp hr
      have ky := keys i r (by rw [List.getElem?_eq_getElem hi, e])
      have kv : Vs (2 * n) r.1 := by
        unfold keyOf at ky
        split at ky
        · obtain ⟨j, e, b1, b2⟩ := ky
          rw [e]
          have : j.natAbs ≤ 10 ^ 40 := by
            have z : (100 : Nat) ≤ 10 ^ 40 := by decide
            omega
          cases n <;> simpa only [Vs] using this
        · rw [ky]
          have := rep_k (i + 1) (by omega)
          cases n <;> simpa only [Vs] using this
      simp only [Vs]
      refine ⟨⟨by simp, by simp [ne], fun q hq => ?_⟩, fun q hq => ?_⟩
      · rcases List.mem_cons.mp hq with rfl | hq
        · exact ⟨k, rfl, h'.1.2 k (by simp)⟩
        · rw [List.mem_singleton.mp hq]
          exact ⟨w, rfl, h'.1.2 w (by simp)⟩
      · rcases List.mem_cons.mp hq with rfl | hq
        · exact kv
        · rw [List.mem_singleton.mp hq]
          exact fit_vs n f r.2 h'.2.2 (each r hr)
    have : Vs (2 * n + 2) (.tuple (rows.map fun r => PyData.dict [(.str k, r.1), (.str w, r.2)])) := by
      simp only [Vs]
      exact ⟨by rw [List.length_map]; omega, row⟩
    exact this
section
variable {base : Heap} {P : Program} {w : World} {K : PySem.W.Frag} {mg : Str → Option Value} {tk : Str → Tok}
abbrev s_within : Stmt := top 25
abbrev N_within : List Str := ["thing", "levels", "kind", "parts", "part"]
abbrev P_within : List Str := ["thing", "levels"]
theorem sc_within : FnScope N_within P_within (defScope s_within) := ⟨rfl, rfl, rfl, by decide +kernel, rfl, by decide +kernel, by decide +kernel⟩
def spWithin (K : PySem.W.Frag) : Nat → Sp
  | 0 => fun _ _ _ _ => False
  | m + 1 => fun vs H Q _ => ∃ (v : V) (d : PyData) (l : Int), vs = [v, .int l] ∧ Dq K H v d ∧ Vs m d ∧ (m : Int) ≤ l ∧ ∀ H', Same H H' → Q (.bl true) H'
theorem ok_withinS {n : Nat} {f fk : Addr} {fd fdk : FuncData} (F : Fun K "_is_value_within" "_is_value_within" s_within f fd) (T : Bl mg) (D_kind_of : Def P w K mg base "kind_of" 3 P_kind_of (spKind K) fk fdk)
    (D_is_value_within : Def P w K mg base "_is_value_within" (n + 3) P_within (spWithin K n) f fd) : FnOk P w K mg base CX0 (n + 4) f fd P_within (spWithin K (n + 1)) := by
  refine F.ok sc_within (fun vs H Q E h => ?_) (fun cdv A outer s H vs Q E hr h => ?_)
  · obtain ⟨v, d, l, rfl, _⟩ := h
    rfl
  obtain ⟨v, d, l, rfl, hd, hv, hnl, q⟩ := h
  refine ⟨_, (pss_cons (ps_set (i := 2) sc_within.nd rfl (Or.inl rfl) (pe_call D_kind_of.ok (hr.mono (by first | decide | omega)) rfl D_kind_of.g D_kind_of.kp D_kind_of.b .nil pass0 (pa_cons (pv 0) pa_nil)))
    (pss_cons (ps_if (pt_cmpR op_eq (pv 2) pe_str (nomark _))
      (pss_one (ps_set (i := 3) sc_within.nd rfl (Or.inl rfl) (pe_callTy call_list_of (by rfl) T.list (by decide +kernel) (pa_cons (pv 0) pa_nil))))
      (pss_one (ps_if (pt_cmpR op_eq (pv 2) pe_str (nomark _))
      (pss_one (ps_set (i := 3) sc_within.nd rfl (Or.inl rfl) (pe_listVals rfl (by rfl) T.list (pv 0))))
      (pss_one (ps_ret (pe_cmpR op_notN (pv 2) pe_non (nomark _)))))))
    (pss_one (ps_ret (pe_and (pe_cmpR op_gt (pv 1) pe_int (nomark _)) (pe_one (pe_callB (cr_all rfl) (by rfl) T.all (by decide +kernel) (pa_cons (pe_lc (own := [("part", 4)]) (g := (gName 4)) (tt := tYes) rfl sc_within.nd (pi_list (pv 3)) (blkOk_by (own := [("part", 4)]) (N := N_within) (sc := defScope s_within) (by decide +kernel)) (fun _ _ _ _ _ => (pg_name (i := 4) sc_within.nd rfl (Or.inl rfl))) (fun _ _ _ _ _ => pts_nil) (fun _ _ _ _ _ => (pe_call D_is_value_within.ok (hr.mono (by first | decide | omega)) rfl D_is_value_within.g D_is_value_within.kp D_is_value_within.b .nil pass0 (pa_cons (pv 4) (pa_cons (pe_op op_sub (pv 1) pe_int) pa_nil))))) pa_nil)))))))), ?_⟩
  refine ⟨_, rfl, v, d, rfl, hd, hv.vk, fun H1 s1 => ?_⟩
  refine ⟨_, rfl, kindV_scal _ _, _, rfl, ?_⟩
  cases hd with
  | non => exact if_ff (show decide (V.str ("absent" : Str) = V.str ("list" : Str)) = false by decide) ⟨_, rfl, rfl, _, rfl, if_ff (show decide (V.str ("absent" : Str) = V.str ("record" : Str)) = false by decide) ⟨_, rfl, rfl, q _ s1⟩⟩
  | bl b => exact if_ff (show decide (V.str ("flag" : Str) = V.str ("list" : Str)) = false by decide) ⟨_, rfl, rfl, _, rfl, if_ff (show decide (V.str ("flag" : Str) = V.str ("record" : Str)) = false by decide) ⟨_, rfl, rfl, q _ s1⟩⟩
  | int i => exact if_ff (show decide (V.str ("number" : Str) = V.str ("list" : Str)) = false by decide) ⟨_, rfl, rfl, _, rfl, if_ff (show decide (V.str ("number" : Str) = V.str ("record" : Str)) = false by decide) ⟨_, rfl, rfl, q _ s1⟩⟩
  | str x => exact if_ff (show decide (V.str ("text" : Str) = V.str ("list" : Str)) = false by decide) ⟨_, rfl, rfl, _, rfl, if_ff (show decide (V.str ("text" : Str) = V.str ("record" : Str)) = false by decide) ⟨_, rfl, rfl, q _ s1⟩⟩
  | lst => cases n <;> exact (by simp [Vs] at hv)
  | tup hs ha =>
    rename_i a xs ds
    match n, D_is_value_within, hr, hnl, hv with
    | 0, _, _, _, hv => simp [Vs] at hv
    | m + 1, D, hr, hnl, hv =>
      have hv' : ds.length ≤ 3 ∧ ∀ x ∈ ds, Vs m x := by simpa only [Vs] using hv
      have el := DqAll.length ha
      refine if_tt (by rw [kindV_tup (by omega)]; rfl) ⟨_, rfl, a, xs, rfl, .inr (SqT.of (s1 _ _ hs)), fun l hl => ?_⟩
      refine ⟨_, rfl, _, _, rfl, rfl, _, rfl, if_tt (decide_eq_true (by omega)) ?_⟩
      refine ⟨_, rfl, l, rfl, ⟨_, SqL.of upd_same⟩, fun D2 hD => ?_⟩
      refine lc_it (walk_list (K := K) (a := l) (xs := xs)) (fun i G => Same (upd H1 l (.lst xs)) G ∧ G D2 = some (.lst (trues i))) ⟨same_new hD _, upd_same⟩ (fun i G _ p => SqL.of (p.1 _ _ upd_same)) ?_ ?_
      · rintro i x G2 G hi ⟨kept, made⟩ ⟨rfl, hx⟩
        obtain ⟨d, e1, e2⟩ := DqAll.get ha hx
        have e3 := hv'.2 d (List.mem_of_getElem? e1)
        refine ⟨rfl, yesT ?_⟩
        refine ⟨_, rfl, _, rfl, _, _, rfl, rfl, x, d, _, rfl, Dq.same (s1.trans ((same_new hl _).trans kept)) _ _ e2, e3, by omega, fun G3 same => ⟨_, same _ _ made, ?_, Same.updNew (kept.trans same) hD, ?_⟩⟩
        · rw [trues_len]
          refine less_line ?_
          omega
        · rw [upd_same, trues_more]
      · rintro G ⟨kept, made⟩
        refine ⟨D2, _, rfl, SqL.of made, ?_⟩
        rw [trues_all]
        exact q _ (s1.trans ((same_new hl _).trans kept))
  | dct hs ha => 
    rename_i a kvs ds
    match n, D_is_value_within, hr, hnl, hv with
    | 0, _, _, _, hv => simp [Vs] at hv
    | m + 1, D, hr, hnl, hv =>
      have hv' : (ds.length ≤ 3 ∧ (ds.map (·.1)).Nodup ∧ ∀ kv ∈ ds, ∃ z, kv.1 = .str z ∧ IsNm z) ∧ ∀ kv ∈ ds, Vs m kv.2 := by simpa only [Vs] using hv
      have el := DqKv.length ha
      have named : (ds.all fun kv => nameK kv.1) = true := by
        rw [List.all_eq_true]
        intro kv m
        obtain ⟨z, e, _⟩ := hv'.1.2.2 kv m
        rw [e]
        rfl
      refine if_ff (by rw [kindV_rec named]; rfl) ⟨_, rfl, kindV_scal _ _, _, rfl, if_tt (by rw [kindV_rec named]; rfl) ⟨_, rfl, a, kvs, rfl, s1 _ _ hs, fun l hl => ?_⟩⟩
      refine ⟨_, rfl, _, _, rfl, rfl, _, rfl, if_tt (decide_eq_true (by omega)) ?_⟩
      refine ⟨_, rfl, l, rfl, ⟨_, SqL.of upd_same⟩, fun D2 hD => ?_⟩
      refine lc_it (walk_list (K := K) (a := l) (xs := kvs.map Prod.snd)) (fun i G => Same (upd H1 l (.lst (kvs.map Prod.snd))) G ∧ G D2 = some (.lst (trues i))) ⟨same_new hD _, upd_same⟩ (fun i G _ p => SqL.of (p.1 _ _ upd_same)) ?_ ?_
      · rintro i x G2 G hi ⟨kept, made⟩ ⟨rfl, hx⟩
        rw [List.length_map] at hi
        obtain ⟨d, e2, e3⟩ : ∃ d, Dq K H x d ∧ Vs m d := by
          rw [List.getElem?_map] at hx
          obtain ⟨⟨k, y⟩, hk, rfl⟩ := Option.map_eq_some_iff.mp hx
          obtain ⟨d, e1, e2⟩ := DqKv.get ha hk
          exact ⟨d, e2, hv'.2 _ (List.mem_of_getElem? e1)⟩
        refine ⟨rfl, yesT ?_⟩
        refine ⟨_, rfl, _, rfl, _, _, rfl, rfl, x, d, _, rfl, Dq.same (s1.trans ((same_new hl _).trans kept)) _ _ e2, e3, by omega, fun G3 same => ⟨_, same _ _ made, ?_, Same.updNew (kept.trans same) hD, ?_⟩⟩
        · rw [trues_len]
          refine less_line ?_
          omega
        · rw [upd_same, trues_more]
      · rintro G ⟨kept, made⟩
        refine ⟨D2, _, rfl, SqL.of made, ?_⟩
        rw [trues_all]
        exact q _ (s1.trans ((same_new hl _).trans kept))
theorem ok_within {f fk : Addr} {fd fdk : FuncData} (F : Fun K "_is_value_within" "_is_value_within" s_within f fd) (T : Bl mg) (g : mg "_is_value_within" = some (.ref f)) (b : Binds K fd P_within []) (D_kind_of : Def P w K mg base "kind_of" 3 P_kind_of (spKind K) fk fdk) :
    ∀ n : Nat, FnOk P w K mg base CX0 (n + 3) f fd P_within (spWithin K n)
  | 0 => ⟨fun _ _ _ _ h => h.elim, fun _ _ _ _ _ _ _ _ _ _ _ _ _ h => h.elim⟩
  | n + 1 => ok_withinS F T D_kind_of ⟨g, F.kp, b, ok_within F T g b D_kind_of n⟩
abbrev s_is_value : Stmt := top 21
abbrev N_is_value : List Str := ["thing"]
abbrev P_is_value : List Str := ["thing"]
theorem sc_is_value : FnScope N_is_value P_is_value (defScope s_is_value) := ⟨rfl, rfl, rfl, by decide +kernel, rfl, by decide +kernel, by decide +kernel⟩
def spIsValue (K : PySem.W.Frag) : Sp := fun vs H Q _ => ∃ (v : V) (d : PyData), vs = [v] ∧ Dq K H v d ∧ Vs 6 d ∧ ∀ H', Same H H' → Q (.bl true) H'
theorem ok_is_value {f g : Addr} {fd gd : FuncData} (F : Fun K "is_value" "is_value" s_is_value f fd) (L : Lm mg tk) (D_is_value_within : Def P w K mg base "_is_value_within" 10 P_within (spWithin K 7) g gd) : FnOk P w K mg base CX0 11 f fd P_is_value (spIsValue K) := by
  refine F.ok sc_is_value (fun vs H Q E h => ?_) (fun cdv A outer s H vs Q E hr h => ?_)
  · obtain ⟨v, d, rfl, _⟩ := h
    rfl
  obtain ⟨v, d, rfl, hd, hv, q⟩ := h
  refine ⟨_, (pss_one (ps_ret (pe_call D_is_value_within.ok (hr.mono (by first | decide | omega)) rfl D_is_value_within.g D_is_value_within.kp D_is_value_within.b .nil pass0 (pa_cons (pv 0) (pa_cons (pe_glob (v := .int 6) rfl L.MAX_LEVELS ⟨_, rfl⟩) pa_nil))))), ?_⟩
  exact ⟨_, rfl, v, d, 6, rfl, hd, hv, by decide, q⟩
abbrev s_agree : Stmt := top 26
abbrev N_agree : List Str := ["one", "other", "part", "twin", "name"]
abbrev P_agree : List Str := ["one", "other"]
theorem sc_agree : FnScope N_agree P_agree (defScope s_agree) := ⟨rfl, rfl, rfl, by decide +kernel, rfl, by decide +kernel, by decide +kernel⟩
def spAgree (K : PySem.W.Frag) : Nat → Sp
  | 0 => fun _ _ _ _ => False
  | m + 1 => fun vs H Q _ => ∃ (v u : V) (d e : PyData), vs = [v, u] ∧ Dq K H v d ∧ Dq K H u e ∧ Alike d e ∧ Vs m d ∧ Vs m e ∧ ∀ H', Same H H' → Q (.bl true) H'
theorem kv_keys {H : Hp} : ∀ {kvs : List (Key × V)} {ds : List (PyData × PyData)} {ks : List Str}, DqKv K H kvs ds → kvs.map (·.1) = ks.map Sum.inr → ds.map (·.1) = ks.map PyData.str
  | _, _, [], .nil, _ => rfl
  | _, _, _ :: _, .nil, h => by simp at h
  | _, _, [], .cons _ _, h => by simp at h
  | _, _, z :: r, @DqKv.cons _ _ k v kr d dr _ t, h => by
    rw [List.map_cons, List.map_cons, List.cons.injEq] at h
    rw [List.map_cons, List.map_cons, kv_keys t h.2, show k = .inr z from h.1]
    rfl
theorem kv_strs {H : Hp} : ∀ {kvs : List (Key × V)} {ds : List (PyData × PyData)}, DqKv K H kvs ds → (∀ kv ∈ ds, ∃ z, kv.1 = .str z ∧ IsNm z) → ∃ ks : List Str, kvs.map (·.1) = ks.map Sum.inr
  | _, _, .nil, _ => ⟨[], rfl⟩
  | _, _, .cons h1 h2, hk => by
    obtain ⟨ks, e⟩ := kv_strs h2 fun kv h => hk kv (List.mem_cons_of_mem _ h)
    obtain ⟨z, ez, _⟩ := hk _ List.mem_cons_self
    exact ⟨z :: ks, by rw [List.map_cons, List.map_cons, e, keyD_str ez]⟩
theorem mem_depth {kv : PyData × PyData} : ∀ {ds : List (PyData × PyData)}, kv ∈ ds → kv.2.depth < (PyData.dict ds).depth := by
  intro ds h
  have : kv.2.depth ≤ PyData.depthKv ds := by
    induction ds with
    | nil => cases h
    | cons q r ih =>
      obtain ⟨k, d⟩ := q
      simp only [PyData.depthKv]
      rcases List.mem_cons.mp h with rfl | h
      · show d.depth ≤ _
        omega
      · have := ih h
        omega
  simp only [PyData.depth]
  omega
theorem valV_mem {kvs : List (Key × V)} {k : Key} {v : V} (h : (k, v) ∈ kvs) : ∃ y, valV kvs k = some y ∧ (k, y) ∈ kvs := by
  unfold valV
  cases e : kvs.find? (fun kv => decide (kv.1 = k)) with
  | none =>
    have := List.find?_eq_none.mp e _ h
    simp at this
  | some q =>
    have h1 := List.find?_some e
    have h2 := List.mem_of_find?_eq_some e
    obtain ⟨k', y⟩ := q
    have : k' = k := of_decide_eq_true h1
    subst this
    exact ⟨y, rfl, h2⟩
theorem ok_agreeS {n : Nat} {f : Addr} {fd : FuncData} (F : Fun K "agree" "agree" s_agree f fd) (T : Bl mg)
    (D_agree : Def P w K mg base "agree" (n + 3) P_agree (spAgree K n) f fd) : FnOk P w K mg base CX0 (n + 4) f fd P_agree (spAgree K (n + 1)) := by
  refine F.ok sc_agree (fun vs H Q E h => ?_) (fun cdv A outer s H vs Q E hr h => ?_)
  · obtain ⟨v, u, d, e, rfl, _⟩ := h
    rfl
  obtain ⟨v, u, d, e, rfl, hd, he, al, hv, hu, q⟩ := h
  refine ⟨_, (pss_cons (ps_if (PW.pt (pw_and (pt_val (pe_callB call_isi (by rfl) T.isinstance (by decide +kernel) (pa_cons (pv 0) (pa_cons (pe_bltn (v := .ty "tuple") (by rfl) T.tuple (by decide +kernel) rfl) pa_nil)))) (pw_and1 (pt_val (pe_callB call_isi (by rfl) T.isinstance (by decide +kernel) (pa_cons (pv 1) (pa_cons (pe_bltn (v := .ty "tuple") (by rfl) T.tuple (by decide +kernel) rfl) pa_nil)))))))
      (pss_one (ps_ret (pe_and (pe_cmpR op_eq (pe_callB (call_lenK K rfl) (by rfl) T.len PySem.boot_len (pa_cons (pv 0) pa_nil)) (pe_callB (call_lenK K rfl) (by rfl) T.len PySem.boot_len (pa_cons (pv 1) pa_nil)) (nomark _)) (pe_one (pe_callB (cr_all rfl) (by rfl) T.all (by decide +kernel) (pa_cons (pe_lc (own := [("part", 2), ("twin", 3)]) (g := (gTup K 2 (gCons (gName 2) (gCons (gName 3) gNil)))) (tt := tYes) rfl sc_agree.nd (RZ.pi_zipA (by rfl) T.zip (pa_cons (pv 0) (pa_cons (pv 1) pa_nil))) (blkOk_by (own := [("part", 2), ("twin", 3)]) (N := N_agree) (sc := defScope s_agree) (by decide +kernel)) (fun _ _ _ _ _ => (pg_tup rfl (pgs_cons (pg_name (i := 2) sc_agree.nd rfl (Or.inl rfl)) (pgs_cons (pg_name (i := 3) sc_agree.nd rfl (Or.inl rfl)) pgs_nil)))) (fun _ _ _ _ _ => pts_nil) (fun _ _ _ _ _ => (pe_call D_agree.ok (hr.mono (by first | decide | omega)) rfl D_agree.g D_agree.kp D_agree.b .nil pass0 (pa_cons (pv 2) (pa_cons (pv 3) pa_nil))))) pa_nil))))))
      pss_nil)
    (pss_cons (ps_if (PW.pt (pw_and (pt_val (pe_callB call_isi (by rfl) T.isinstance (by decide +kernel) (pa_cons (pv 0) (pa_cons (pe_bltn (v := .ty "dict") (by rfl) T.dict (by decide +kernel) rfl) pa_nil)))) (pw_and1 (pt_val (pe_callB call_isi (by rfl) T.isinstance (by decide +kernel) (pa_cons (pv 1) (pa_cons (pe_bltn (v := .ty "dict") (by rfl) T.dict (by decide +kernel) rfl) pa_nil)))))))
      (pss_one (ps_ret (pe_and (pe_cmpR (op_eqK K rfl hr.units) (pe_callB (call_sortedD rfl) (by rfl) T.sorted (by decide +kernel) (pa_cons (pv 0) pa_nil)) (pe_callB (call_sortedD rfl) (by rfl) T.sorted (by decide +kernel) (pa_cons (pv 1) pa_nil)) (nomark _)) (pe_one (pe_callB (cr_all rfl) (by rfl) T.all (by decide +kernel) (pa_cons (pe_lock (pe_lc (own := [("name", 4)]) (g := (gName 4)) (tt := tYes) rfl sc_agree.nd (pi_keys (pv 0)) (blkOk_by (own := [("name", 4)]) (N := N_agree) (sc := defScope s_agree) (by decide +kernel)) (fun _ _ _ _ _ => (pg_name (i := 4) sc_agree.nd rfl (Or.inl rfl))) (fun _ _ _ _ _ => pts_nil) (fun _ _ _ _ _ => (pe_call D_agree.ok (hr.mono (by first | decide | omega)) rfl D_agree.g D_agree.kp D_agree.b .nil pass0 (pa_cons (pe_dget (hu_of hr) (pv 0) (pv 4) (fun _ _ => rfl)) (pa_cons (pe_dget (hu_of hr) (pv 1) (pv 4) (fun _ _ => rfl)) pa_nil)))))) pa_nil))))))
      pss_nil)
    (pss_one (ps_ret (pe_and (pe_cmpR op_eq (pe_callB call_isi (by rfl) T.isinstance (by decide +kernel) (pa_cons (pv 0) (pa_cons (pe_bltn (v := .ty "bool") (by rfl) T.bool (by decide +kernel) rfl) pa_nil))) (pe_callB call_isi (by rfl) T.isinstance (by decide +kernel) (pa_cons (pv 1) (pa_cons (pe_bltn (v := .ty "bool") (by rfl) T.bool (by decide +kernel) rfl) pa_nil))) (nomark _)) (pe_one (pe_cmpR op_eq (pv 0) (pv 1) (nomark _)))))))), ?_⟩
  cases al with
  | non =>
    cases hd
    cases he
    refine ⟨_, rfl, _, _, _, _, false, rfl, .ty _, .base .non, kit_ty (by decide +kernel), _, rfl, if_ff rfl (if_ff rfl ?_)⟩
    refine ⟨_, rfl, _, _, _, _, false, rfl, .ty _, .base .non, kit_ty (by decide +kernel), _, rfl, if_ff rfl (if_ff rfl ?_)⟩
    refine ⟨_, rfl, _, _, _, _, false, rfl, .ty _, .base .non, kit_ty (by decide +kernel), _, rfl, _, _, _, _, false, rfl, .ty _, .base .non, kit_ty (by decide +kernel), rfl, _, rfl, if_tt rfl ⟨_, rfl, _, rfl, rfl, ?_⟩⟩
    rw [decide_eq_true rfl]
    exact q _ (Same.refl H)
  | bl b =>
    cases hd
    cases he
    refine ⟨_, rfl, _, _, _, _, false, rfl, .ty _, .base (.bl _), kit_ty (by decide +kernel), _, rfl, if_ff rfl (if_ff rfl ?_)⟩
    refine ⟨_, rfl, _, _, _, _, false, rfl, .ty _, .base (.bl _), kit_ty (by decide +kernel), _, rfl, if_ff rfl (if_ff rfl ?_)⟩
    refine ⟨_, rfl, _, _, _, _, true, rfl, .ty _, .base (.bl _), kit_ty (by decide +kernel), _, rfl, _, _, _, _, true, rfl, .ty _, .base (.bl _), kit_ty (by decide +kernel), rfl, _, rfl, if_tt rfl ⟨_, rfl, _, rfl, rfl, ?_⟩⟩
    rw [decide_eq_true rfl]
    exact q _ (Same.refl H)
  | int i =>
    cases hd
    cases he
    refine ⟨_, rfl, _, _, _, _, false, rfl, .ty _, .base (.int _), kit_ty (by decide +kernel), _, rfl, if_ff rfl (if_ff rfl ?_)⟩
    refine ⟨_, rfl, _, _, _, _, false, rfl, .ty _, .base (.int _), kit_ty (by decide +kernel), _, rfl, if_ff rfl (if_ff rfl ?_)⟩
    refine ⟨_, rfl, _, _, _, _, false, rfl, .ty _, .base (.int _), kit_ty (by decide +kernel), _, rfl, _, _, _, _, false, rfl, .ty _, .base (.int _), kit_ty (by decide +kernel), rfl, _, rfl, if_tt rfl ⟨_, rfl, _, rfl, rfl, ?_⟩⟩
    rw [decide_eq_true rfl]
    exact q _ (Same.refl H)
  | str x =>
    cases hd
    cases he
    refine ⟨_, rfl, _, _, _, _, false, rfl, .ty _, .base (.str _), kit_ty (by decide +kernel), _, rfl, if_ff rfl (if_ff rfl ?_)⟩
    refine ⟨_, rfl, _, _, _, _, false, rfl, .ty _, .base (.str _), kit_ty (by decide +kernel), _, rfl, if_ff rfl (if_ff rfl ?_)⟩
    refine ⟨_, rfl, _, _, _, _, false, rfl, .ty _, .base (.str _), kit_ty (by decide +kernel), _, rfl, _, _, _, _, false, rfl, .ty _, .base (.str _), kit_ty (by decide +kernel), rfl, _, rfl, if_tt rfl ⟨_, rfl, _, rfl, rfl, ?_⟩⟩
    rw [decide_eq_true rfl]
    exact q _ (Same.refl H)
  | @tup ds es al =>
    cases hd with
    | @tup va xs _ hs ha =>
    cases he with
    | @tup ub ys _ ht hb =>
    match n, D_agree, hr, hv, hu with
    | 0, _, _, hv, _ => simp [Vs] at hv
    | m + 1, D, hr, hv, hu =>
      have hv' : ds.length ≤ 3 ∧ ∀ x ∈ ds, Vs m x := by simpa only [Vs] using hv
      have hu' : es.length ≤ 3 ∧ ∀ x ∈ es, Vs m x := by simpa only [Vs] using hu
      have l1 := DqAll.length ha
      have l2 := DqAll.length hb
      have l3 := al.length
      have same : xs.length = ys.length := by omega
      refine ⟨_, rfl, _, _, _, _, true, rfl, .ty _, .base (.tup hs), kit_ty (by decide +kernel), _, rfl, if_tt rfl ⟨_, rfl, _, _, _, _, true, rfl, .ty _, .base (.tup ht), kit_ty (by decide +kernel), _, rfl, if_tt rfl ?_⟩⟩
      refine ⟨_, rfl, _, xs.length, rfl, .inr ⟨xs, SqT.of hs, rfl⟩, _, rfl, _, ys.length, rfl, .inr ⟨ys, SqT.of ht, rfl⟩, rfl, _, rfl, if_tt (decide_eq_true (by rw [same])) ?_⟩
      refine ⟨_, rfl, _, rfl, va, ub, xs, ys, rfl, .inr ⟨SqT.of hs, SqT.of ht, fun D2 hD => ?_⟩⟩
      refine lc_it (walk_zipT (K := K) (n := xs.length) (by omega)) (fun i H' => Same H H' ∧ H' D2 = some (.lst (trues i))) ⟨same_new hD _, upd_same⟩ (fun i H' _ p => ⟨SqT.of (p.1 _ _ hs), SqT.of (p.1 _ _ ht)⟩) ?_ ?_
      · rintro i v H' G0 hi ⟨s', e'⟩ ⟨t, x, y, rfl, ht', eG, hx, hy⟩
        subst eG
        have hx : xs[i]? = some x := hx
        have hy : ys[i]? = some y := hy
        obtain ⟨d, e1, e2⟩ := DqAll.get ha hx
        obtain ⟨e, e3, e4⟩ := DqAll.get hb hy
        obtain ⟨e0, e5, e6⟩ := al.at' e1
        obtain rfl : e = e0 := Option.some.inj (e3.symm.trans e5)
        have st : Same H (upd H' t (.tup [x, y])) := s'.trans (same_new ht' _)
        refine ⟨t, _, rfl, SqT.of upd_same, rfl, _, _, rfl, _, _, rfl, rfl, rfl, yesT ?_⟩
        refine ⟨_, rfl, _, rfl, x, y, d, e, rfl, Dq.same st _ _ e2, Dq.same st _ _ e4, e6, hv'.2 d (List.mem_of_getElem? e1), hu'.2 e (List.mem_of_getElem? e3), fun H'' s'' => ⟨_, s'' _ _ (same_new ht' _ _ _ e'), ?_, Same.updNew (st.trans s'') hD, ?_⟩⟩
        · rw [trues_len]
          exact less_line (by omega)
        · rw [upd_same, trues_more]
      · rintro H' ⟨s', e'⟩
        refine ⟨D2, _, rfl, SqL.of e', ?_⟩
        rw [trues_all]
        exact q _ s'
  | @dct ds es fs al pm =>
    cases hd with
    | @dct a kvs _ hs ha =>
    cases he with
    | @dct b jvs _ ht hb =>
    match n, D_agree, hr, hv, hu with
    | 0, _, _, hv, _ => simp [Vs] at hv
    | m + 1, D, hr, hv, hu =>
      have hv' : (ds.length ≤ 3 ∧ (ds.map (·.1)).Nodup ∧ ∀ kv ∈ ds, ∃ z, kv.1 = .str z ∧ IsNm z) ∧ ∀ kv ∈ ds, Vs m kv.2 := by simpa only [Vs] using hv
      have hu' : (es.length ≤ 3 ∧ (es.map (·.1)).Nodup ∧ ∀ kv ∈ es, ∃ z, kv.1 = .str z ∧ IsNm z) ∧ ∀ kv ∈ es, Vs m kv.2 := by simpa only [Vs] using hu
      refine ⟨_, rfl, _, _, _, _, false, rfl, .ty _, .base (.dK hs), kit_ty (by decide +kernel), _, rfl, if_ff rfl (if_ff rfl ?_)⟩
      refine ⟨_, rfl, _, _, _, _, true, rfl, .ty _, .base (.dK hs), kit_ty (by decide +kernel), _, rfl, if_tt rfl ⟨_, rfl, _, _, _, _, true, rfl, .ty _, .base (.dK ht), kit_ty (by decide +kernel), _, rfl, if_tt rfl ?_⟩⟩
      obtain ⟨ks, eks⟩ := kv_strs ha hv'.1.2.2
      obtain ⟨js, ejs⟩ := kv_strs hb hu'.1.2.2
      have k64 : ks.length < 64 := by
        have h1 := congrArg List.length eks
        have h2 := DqKv.length ha
        have h3 := hv'.1.1
        rw [List.length_map, List.length_map] at h1
        omega
      have j64 : js.length < 64 := by
        have h1 := congrArg List.length ejs
        have h2 := DqKv.length hb
        have h3 := hu'.1.1
        rw [List.length_map, List.length_map] at h1
        omega
      have pj : ks.Perm js := by
        have h1 := kv_keys ha eks
        have h2 := kv_keys hb ejs
        have h3 : (ks.map PyData.str).Perm (js.map PyData.str) := by
          rw [← h1, ← h2, al.keys]
          exact pm.map _
        have h4 := h3.map fun x => match x with | .str z => z | _ => ("" : Str)
        rwa [List.map_map, List.map_map, show ((fun x => match x with | .str z => z | _ => ("" : Str)) ∘ PyData.str : Str → Str) = id from rfl, List.map_id, List.map_id] at h4
      refine ⟨_, rfl, a, kvs, ks, rfl, .inl hs, eks, k64, fun ys l1 p1 o1 h1 => ?_⟩
      have s3 := same_new h1 (.lst (ys.map V.str))
      refine ⟨_, rfl, b, jvs, js, rfl, .inl (s3 _ _ ht), ejs, j64, fun zs l2 p2 o2 h2 => ?_⟩
      have s4 := same_new h2 (.lst (zs.map V.str))
      obtain rfl := sorted_one (p1.trans (pj.trans p2.symm)) o1 o2
      have nm : ∀ z ∈ ys, IsNm z := fun z hz => by
        have h3 : PyData.str z ∈ ds.map (·.1) := by
          rw [kv_keys ha eks]
          exact List.mem_map.mpr ⟨z, p1.mem_iff.mp hz, rfl⟩
        obtain ⟨kv, h4, h5⟩ := List.mem_map.mp h3
        obtain ⟨z', h6, h7⟩ := hv'.1.2.2 _ h4
        rw [h5] at h6
        cases h6
        exact h7
      refine ⟨_, _, .lst (SqL.of (s4 _ _ upd_same)) (strs_dp ys), .lst (SqL.of upd_same) (strs_dp ys), strs_shaped nm, strs_shaped nm, _, rfl, if_tt (strs_eqv ys) ?_⟩
      have s6 := s3.trans s4
      refine ⟨a, _, s6 _ _ hs, trivial, fun od => ⟨_, rfl, a, od, rfl, .inl ⟨kvs, upd_same, fun D2 hD => ?_⟩⟩⟩
      have hDa : D2 ≠ a := fun e => by
        rw [e, upd_same] at hD
        cases hD
      refine lc_it walk_keys (fun i H' => Same (upd (upd (upd H l1 (.lst (ys.map V.str))) l2 (.lst (ys.map V.str))) a (.frz od (.dK kvs))) H' ∧ H' D2 = some (.lst (trues i))) ⟨same_new hD _, upd_same⟩ (fun i H' _ p => p.1 _ _ upd_same) ?_ ?_
      · rintro i v0 G1 H' hi ⟨s', e'⟩ ⟨rfl, k, v, hkv, rfl⟩
        obtain ⟨d0, g1, _⟩ := DqKv.get ha hkv
        obtain ⟨z, ez, _⟩ := hv'.1.2.2 _ (List.mem_of_getElem? g1)
        obtain rfl := keyD_str ez
        have fz : H' a = some (.frz od (.dK kvs)) := s' _ _ upd_same
        have inD : keyIn ds z = some d0 := keyIn_mem hv'.1.2.1 (List.mem_of_getElem? g1)
        obtain ⟨e0, me, ae⟩ := al.mem (List.mem_of_getElem? g1)
        have me := pm.mem_iff.mp me
        have inE : keyIn es z = some e0 := keyIn_mem hu'.1.2.1 me
        rcases find_kv z ha with ⟨_, no⟩ | ⟨x, d, vx, kx, dx, kk, mx⟩
        · rw [no] at inD
          cases inD
        rcases find_kv z hb with ⟨_, no⟩ | ⟨y, e, vy, ky, dy, jj, my⟩
        · rw [no] at inE
          cases inE
        obtain rfl : d = d0 := Option.some.inj (kx.symm.trans inD)
        obtain rfl : e = e0 := Option.some.inj (ky.symm.trans inE)
        have lower : ∀ {v : V} {c : PyData}, Dq K H v c → c.depth < (PyData.dict ds).depth → Dq K H' v c := fun {v c} dq low => by
          refine Dq.same (fun b o eb => ?_) _ _ (Dq.avoid (.dct hs ha) _ _ dq low)
          by_cases w0 : b = a
          · subst w0
            rw [show hide b H b = none from if_pos rfl] at eb
            cases eb
          · rw [hide_ne w0] at eb
            exact s' _ _ (by rw [upd_ne w0]; exact s6 _ _ eb)
        have low := mem_depth mx
        have e3 : Dq K H' x d := lower dx low
        have e4 : Dq K H' y e := lower dy (by rw [← ae.depth]; exact low)
        have other : L2.Rd H' b (.dK jvs) := by
          by_cases w0 : b = a
          · subst w0
            rw [hs] at ht
            cases ht
            exact .inr ⟨od, fz⟩
          · exact .inl (s' _ _ (by rw [upd_ne w0]; exact s6 _ _ ht))
        refine ⟨rfl, yesT ?_⟩
        refine ⟨_, rfl, _, rfl, a, x, rfl, .inl ⟨kvs, .inr z, .inr ⟨od, fz⟩, rfl, vx.symm⟩, _, rfl, _, rfl, b, y, rfl, .inl ⟨jvs, .inr z, other, rfl, vy.symm⟩, ?_⟩
        refine ⟨x, y, d, e, rfl, e3, e4, ae, hv'.2 _ mx, hu'.2 _ my, fun H'' s'' => ⟨_, s'' _ _ e', ?_, Same.updNew (s'.trans s'') hD, ?_⟩⟩
        · rw [trues_len]
          refine less_line ?_
          have h1 := hv'.1.1
          have h2 := DqKv.length ha
          omega
        · rw [upd_same, trues_more]
      · rintro H' ⟨s', e'⟩
        refine ⟨s' _ _ upd_same, D2, _, rfl, SqL.of (by rw [upd_ne hDa]; exact e'), ?_⟩
        rw [trues_all]
        exact q _ (s6.trans (Same.unlock s' (s6 _ _ hs)))
theorem ok_agree {f : Addr} {fd : FuncData} (F : Fun K "agree" "agree" s_agree f fd) (T : Bl mg) (g : mg "agree" = some (.ref f)) (b : Binds K fd P_agree []) :
    ∀ n : Nat, FnOk P w K mg base CX0 (n + 3) f fd P_agree (spAgree K n)
  | 0 => ⟨fun _ _ _ _ h => h.elim, fun _ _ _ _ _ _ _ _ _ _ _ _ _ h => h.elim⟩
  | n + 1 => ok_agreeS F T ⟨g, F.kp, b, ok_agree F T g b n⟩
abbrev s_same : Stmt := top 22
abbrev N_same : List Str := ["one", "other"]
abbrev P_same : List Str := ["one", "other"]
theorem sc_same : FnScope N_same P_same (defScope s_same) := ⟨rfl, rfl, rfl, by decide +kernel, rfl, by decide +kernel, by decide +kernel⟩
theorem alikeL_self : ∀ {ds : List PyData}, (∀ x ∈ ds, Alike x x) → AlikeL ds ds
  | [], _ => .nil
  | _ :: _, h => .cons (h _ List.mem_cons_self) (alikeL_self fun x m => h x (List.mem_cons_of_mem _ m))
theorem alikeK_self : ∀ {ds : List (PyData × PyData)}, (∀ kv ∈ ds, Alike kv.2 kv.2) → AlikeK ds ds
  | [], _ => .nil
  | (_, _) :: _, h => .cons (h _ List.mem_cons_self) (alikeK_self fun x m => h x (List.mem_cons_of_mem _ m))
theorem alike_self : ∀ {m : Nat} {d : PyData}, Vs m d → Alike d d
  | _, .none, _ => .non
  | _, .bool b, _ => .bl b
  | _, .int i, _ => .int i
  | _, .str z, _ => .str z
  | _, .list _, h => by simp [Vs] at h
  | 0, .tuple _, h => by simp [Vs] at h
  | 0, .dict _, h => by simp [Vs] at h
  | m + 1, .tuple ds, h => by
    have h' : ds.length ≤ 3 ∧ ∀ x ∈ ds, Vs m x := by simpa only [Vs] using h
    exact .tup (alikeL_self fun x mx => alike_self (h'.2 x mx))
  | m + 1, .dict ds, h => by
    have h' : (ds.length ≤ 3 ∧ (ds.map (·.1)).Nodup ∧ ∀ kv ∈ ds, ∃ z, kv.1 = .str z ∧ IsNm z) ∧ ∀ kv ∈ ds, Vs m kv.2 := by simpa only [Vs] using h
    exact .dct (alikeK_self fun kv mk => alike_self (h'.2 kv mk)) (.refl ds)
def spSame1 (K : PySem.W.Frag) : Sp := fun vs H Q _ => ∃ (v : V) (d : PyData), vs = [v, v] ∧ Dq K H v d ∧ Vs 6 d ∧ ∀ H', Same H H' → Q (.bl true) H'
theorem ok_same1 {f fv fa : Addr} {fd fdv fda : FuncData} (F : Fun K "same" "same" s_same f fd) (T : Bl mg) (D_is_value : Def P w K mg base "is_value" 11 P_is_value (spIsValue K) fv fdv) (D_agree : Def P w K mg base "agree" 10 P_agree (spAgree K 7) fa fda) : FnOk P w K mg base CX0 12 f fd P_same (spSame1 K) := by
  refine F.ok sc_same (fun vs H Q E h => ?_) (fun cdv A outer s H vs Q E hr h => ?_)
  · obtain ⟨v, d, rfl, _⟩ := h
    rfl
  obtain ⟨v, d, rfl, hd, hv, q⟩ := h
  refine ⟨_, (pss_cons (ps_if (pt_not (pt_val (pe_call D_is_value.ok (hr.mono (by first | decide | omega)) rfl D_is_value.g D_is_value.kp D_is_value.b .nil pass0 (pa_cons (pv 0) pa_nil))))
      (pss_one ps_never)
      pss_nil)
    (pss_cons (ps_if (pt_not (pt_val (pe_call D_is_value.ok (hr.mono (by first | decide | omega)) rfl D_is_value.g D_is_value.kp D_is_value.b .nil pass0 (pa_cons (pv 1) pa_nil))))
      (pss_one ps_never)
      pss_nil)
    (pss_one (ps_ret (pe_call D_agree.ok (hr.mono (by first | decide | omega)) rfl D_agree.g D_agree.kp D_agree.b .nil pass0 (pa_cons (pv 0) (pa_cons (pv 1) pa_nil))))))), ?_⟩
  refine ⟨_, rfl, v, d, rfl, hd, hv, fun H1 s1 => ⟨_, rfl, if_ff rfl ?_⟩⟩
  refine ⟨_, rfl, v, d, rfl, Dq.same s1 _ _ hd, hv, fun H2 s2 => ⟨_, rfl, if_ff rfl ?_⟩⟩
  exact ⟨_, rfl, _, rfl, v, v, d, d, rfl, Dq.same (s1.trans s2) _ _ hd, Dq.same (s1.trans s2) _ _ hd, alike_self hv, hv, hv, fun H3 s3 => q _ (s1.trans (s2.trans s3))⟩
end
end KX

namespace KX
open PySem PySem.Spec L2 PyProof.Rows
/-! ### what a type says of itself: str, repr, bool -/
section
variable {X : Cx} {TC f : Addr} {fd : FuncData} {k : Nat} {ps : List Str} {sp : Sp} {m : Str}
/-- a method is asked, and says a text -/
theorem says_text {pins : List (Addr × Obj)} {σ : L2.St} {H : Hp} {s : Shared} {B : Around} {a : Addr} {Q : VK} (M : MtD X.prog X.w X.K X.mg X.base TC m k ps sp f fd) (I : Inv X pins σ H s) (env : Env0 X.prog X.w X.K X.mg X.base B X.stack s H) (room : Room k B)
    (asked : sp [.ref a] H (fun v G => ∃ z, v = .str z ∧ Q (.str z) G) E0) : wpAny (model X.prog X.w) B (call (.ref f) [.ref a]) (PySem.W.StrBack (EP X pins σ Q)) X.xe s := by
  have bound := M.b s [.ref a] I.kIn (by rw [List.append_nil]; exact (M.ok.len _ _ _ _ asked).symm ▸ rfl)
  rw [List.append_nil] at bound
  refine wpAny_call (codeAny_mono (M.ok.run B X.stack s H ⟨[.ref a], []⟩ [.ref a] [.ref a] _ E0 room env bound (.cons rfl .nil) asked) ?_)
  rintro (er | fl) s2 h
  · exact h.elim
  cases fl with
  | ret u =>
    obtain ⟨v, G, J, rv, z, rfl, q⟩ := I.after h
    obtain ⟨t, rfl⟩ := rv
    exact ⟨.str z, G, J, ⟨t, rfl⟩, q⟩
  | next => exact h.elim
  | brk => exact h.elim
  | cont => exact h.elim
def rSays (TC : Addr) (sp : Sp) : List V → Hp → VK → Prop := fun xs H Q => ∃ (a dx : Addr) (fs : List (Str × V)), xs = [.ref a] ∧ H a = some (.ins TC dx fs) ∧ sp [.ref a] H (fun v G => ∃ z, v = .str z ∧ Q (.str z) G) E0
theorem call_strOwn (M : MtD X.prog X.w X.K X.mg X.base TC "__str__" k ps sp f fd) (room : Room (k + 2) X.A) : CallR X (.type "str") (rSays TC sp) := by
  intro pins s σ H xs us Q I r h
  obtain ⟨a, dx, fs, rfl, at', asked⟩ := h
  obtain ⟨u, rfl, r1⟩ := vals1 r
  obtain rfl : u = Value.ref a := r1
  obtain ⟨_, O, _⟩ := ins_get I.hok at'
  obtain ⟨od, inst, _⟩ := O.look
  exact PySem.W.kso_call room.in1.in1.units0 I.kIn inst M.me.at_ M.me.fn (says_text M I I.env0.in1.in1 room.in1.in1 asked)
theorem call_reprOwn (M : MtD X.prog X.w X.K X.mg X.base TC "__repr__" k ps sp f fd) (room : Room (k + 1) X.A) : CallR X (.builtin "repr") (rSays TC sp) := by
  intro pins s σ H xs us Q I r h
  obtain ⟨a, dx, fs, rfl, at', asked⟩ := h
  obtain ⟨u, rfl, r1⟩ := vals1 r
  obtain rfl : u = Value.ref a := r1
  obtain ⟨_, O, _⟩ := ins_get I.hok at'
  obtain ⟨od, inst, _⟩ := O.look
  obtain ⟨_, fr⟩ := I.fr
  exact PySem.W.repr_K room.in1.units0 fr I.ok.mod.kin inst M.me.at_ M.me.fn (says_text M I I.env0.in1 room.in1 asked)
end
/-- neither __bool__ nor __len__ -/
structure NoTruth (K : PySem.W.Frag) (C : Addr) : Prop where
  b : PySem.W.findIn K (.ref C) "__bool__" = some none
  l : PySem.W.findIn K (.ref C) "__len__" = some none
section
variable {M : Model} {A : Around} {Er : Value → Shared → Prop} {s : Shared} {K : PySem.W.Frag} {a C : Addr} {oa : Obj} {od : Option Obj}
theorem true_own {Q : Bool → Shared → Prop} (there : K.In s.heap) (inst : PySem.W.InstAt s.heap a oa C od) (no : NoTruth K C) (q : Q true s) : wpAny M A (truthy (.ref a)) Q Er s := by
  have none_at : ∀ {n : Str} {T : Option Value → Shared → Prop}, PySem.W.findIn K (.ref C) n = some none → T none s → wpAny M A (specialOf (.ref a) n) T Er s := by
    intro n T away t
    unfold specialOf
    exact wpAny_bind (inst.type.here ((PySem.W.looks_findIn there away).here t))
  unfold truthy callSpecial?
  exact wpAny_bind (wpAny_bind (none_at no.b (wpAny_pure (wpAny_bind (none_at no.l (wpAny_pure q))))))
/-- how bool.__new__ goes on over such an object -/
def trueSpec (a : Addr) : PySem.Spec := fun _ R s => R (.ok (.ret (.bool true))) s ∧ ∃ (K : PySem.W.Frag) (C : Addr) (oa : Obj) (od : Option Obj), K.In s.heap ∧ PySem.W.InstAt s.heap a oa C od ∧ NoTruth K C
theorem bool_of_own (a : Addr) : Meets (Builtin.«bool.__new__» ⟨[.type "bool", .ref a], []⟩) (trueSpec a) :=
  Meets.of_wp fun prog w A R s hs => by
    obtain ⟨hs, K, C, oa, od, there, inst, no⟩ := hs
    obtain ⟨hp, g, d, tk, os⟩ := s
    have f1 := F.conv_sub_bool
    repeat (any_goals (first | assumption | with_reducible refine true_own there inst no ?_ | wp_step))
    all_goals first | exact ⟨_, rfl, hs⟩ | skip
end
section
variable {X : Cx} {TC : Addr}
theorem call_boolOwn (no : NoTruth X.K TC) : CallR X (.type "bool") (fun xs H Q => ∃ (a dx : Addr) (fs : List (Str × V)), xs = [.ref a] ∧ H a = some (.ins TC dx fs) ∧ Q (.bl true) H) := by
  intro pins s σ H xs us Q I r h
  obtain ⟨a, dx, fs, rfl, at', q⟩ := h
  obtain ⟨u, rfl, r1⟩ := vals1 r
  obtain rfl : u = Value.ref a := r1
  obtain ⟨_, O, _⟩ := ins_get I.hok at'
  obtain ⟨od, inst, _⟩ := O.look
  exact call_bool_1 (bool_of_own a) ⟨⟨rfl, ⟨.bl true, H, I, rfl, q⟩⟩, X.K, TC, _, _, I.kIn, inst, no⟩
end
end KX

namespace KX
open PySem PySem.Spec L2 PyProof.Rows
/-! ### the text of a tuple of pairs: a name and a type -/
/-- how the text of a thing is told from within the text of another -/
def Tells (X : Cx) (pins : List (Addr × Obj)) (σ : L2.St) (H : Hp) (k : Nat) (as : List Addr) (x : Value) (t : Str) : Prop :=
  ∀ (base : Nat) (B : Around) (g : List Code) (s : Shared) (Q : Str → Shared → Prop), base + t.length ≤ sizeLine → Inv X pins σ H s → B.frames = some X.stack → Room k B → B.guards = some g → (∀ a ∈ as, Clear g a) → (∀ s', Inv X pins σ H s' → Q t s') → wpAny (model X.prog X.w) B (pyReprUnder base x) Q X.xe s
inductive TellsAll (X : Cx) (pins : List (Addr × Obj)) (σ : L2.St) (H : Hp) (k : Nat) (as : List Addr) : List Value → List Str → Prop
  | nil : TellsAll X pins σ H k as [] []
  | cons {x : Value} {t : Str} {us : List Value} {ts : List Str} : Tells X pins σ H k as x t → TellsAll X pins σ H k as us ts → TellsAll X pins σ H k as (x :: us) (t :: ts)
theorem TyAt.has {TC ED : Addr} {H : Hp} {a : Addr} {t : Ty} (h : TyAt TC ED H (.ref a) t) : ∃ dx vi vf, H a = some (.ins TC dx (rowT (kindW t) vi (partsT t).2 vf (wr t))) := by
  obtain ⟨b, dx, vi, vf, e, row, _⟩ := h.obj
  cases e
  exact ⟨dx, vi, vf, row⟩
theorem type_says {TC ED : Addr} {H : Hp} {a : Addr} {t : Ty} {Q : VK} (h : TyAt TC ED H (.ref a) t) (q : Q (.str (wr t)) H) : rSays TC (spTStr TC) [.ref a] H Q := by
  obtain ⟨dx, vi, vf, row⟩ := h.has
  exact ⟨a, dx, _, rfl, row, a, dx, _, wr t, rfl, row, rfl, _, rfl, q⟩
def reprT (t : Ty) : Str := "Type('" ++ wr t ++ "')"
def spRepr (TC : Addr) : Sp := fun vs H Q _ => ∃ (a dx : Addr) (fs : List (Str × V)) (z : Str), vs = [.ref a] ∧ H a = some (.ins TC dx fs) ∧ fs.lookup ("_writing" : Str) = some (.str z) ∧ z.length ≤ 100000 ∧ Q (.str ("Type('" ++ z ++ "')")) H
section
variable {X : Cx} {pins : List (Addr × Obj)} {σ : L2.St} {H : Hp} {k : Nat} {as : List Addr} {B : Around} {g : List Code} {TC ED : Addr}
theorem env_at {s : Shared} (I : Inv X pins σ H s) (fr : B.frames = some X.stack) : Env0 X.prog X.w X.K X.mg X.base B X.stack s H :=
  have e := I.env0
  ⟨fr, e.mod, e.bs, e.bsz, e.funs, e.frf, e.hok, e.bare⟩
theorem TellsAll.len : ∀ {us : List Value} {ts : List Str}, TellsAll X pins σ H k as us ts → us.length = ts.length
  | _, _, .nil => rfl
  | _, _, .cons _ more => by rw [List.length_cons, List.length_cons, more.len]
theorem tells_text (z : Str) (u : Tok) (few : (reprText z).length ≤ sizeLine) : Tells X pins σ H k as (.str z u) (reprText z) :=
  fun base B g s Q fits I _ _ _ _ q => ReprIs.str z u few base fits B X.xe s Q fun tk => q _ (I.tok tk)
/-- a special method of an own object, asked by whoever asks last -/
theorem special_by {M : Model} {A : Around} {Er : Value → Shared → Prop} {s : Shared} {K : PySem.W.Frag} {a C f : Addr} {oa : Obj} {od : Option Obj} {name : Str} {last : Value → List Value → Sem Value} {Q : Option Value → Shared → Prop} (there : K.In s.heap) (inst : PySem.W.InstAt s.heap a oa C od) (found : PySem.W.findIn K (.ref C) name = some (some (.ref f))) (isf : PySem.W.isFn K (.ref f) = true)
    (q : wpAny M A (last (.ref f) [.ref a]) (fun v => Q (some v)) Er s) : wpAny M A (callSpecialIfBoundBy? last (.ref a) name) Q Er s := by
  have go : wpAny M A (do pure (some (← last (.ref f) [.ref a]))) Q Er s := wpAny_bind (wpAny_mono q (fun _ _ h => wpAny_pure h) fun _ _ h => h)
  have bound : ∀ {T : Option (Value × List Value) → Shared → Prop} {Fr : Value → Shared → Prop}, T (some (.ref f, [.ref a])) s → wpAny M A (do pure (some (← bindSpecial (.ref f) (.ref a)))) T Fr s := fun {T Fr} t =>
    wpAny_bind ((PySem.W.bind_fn there _ (beq_iff_eq.mp isf)).here (wpAny_pure t))
  unfold callSpecialIfBoundBy? bindSpecialIfBound?
  refine wpAny_holding (wpAny_bind (wpAny_bind ?_))
  unfold specialOf
  refine wpAny_bind (inst.type.here ((PySem.W.looks_findIn there found).here ?_))
  dsimp only
  refine wpAny_bind (wpAny_askSetting ?_); split
  · exact bound go
  · exact wpAny_tryCatch (bound go)
/-- a type says its own text -/
theorem tells_type {f : Addr} {fd : FuncData} (M : MtD X.prog X.w X.K X.mg X.base TC "__repr__" 1 P_repr (spRepr TC) f fd) {a : Addr} {t : Ty} (h : TyAt TC ED H (.ref a) t) (few : (wr t).length ≤ 100000) : Tells X pins σ H (k + 2) as (.ref a) (reprT t) := by
  intro base B g s Q fits I fr room guards clear q
  obtain ⟨_, dx, vi, vf, e, at', _⟩ := h.obj
  obtain rfl := V.ref.inj e
  obtain ⟨_, O, _⟩ := ins_get I.hok at'
  obtain ⟨od, inst, _⟩ := O.look
  have asked : spRepr TC [.ref a] H (fun v G => ∃ z, v = .str z ∧ (z = reprT t ∧ G = H)) E0 := ⟨a, dx, _, wr t, rfl, at', rfl, few, _, rfl, rfl, rfl⟩
  have said := says_text (pins := pins) (σ := σ) (Q := fun v G => v = .str (reprT t) ∧ G = H) M I (env_at I fr) (room.mono (by omega)) (by
    obtain ⟨a', dx', fs', z', e1, e2, e3, e4, z, e5, e6, e7⟩ := asked
    exact ⟨a', dx', fs', z', e1, e2, e3, e4, z, e5, by rw [e6], e7⟩)
  refine wpAny_pyReprUnder_ref (by omega) ?_
  unfold pyReprObjUnder pyReprObjBy; refine wpAny_bind (wpAny_cRoomFor room.units0 (wpAny_bind ?_)); unfold specialOf
  refine wpAny_bind (inst.type.here ((PySem.W.looks_findIn I.kIn M.me.at_).here ?_))
  show wpAny _ _ (if (some (Value.ref f)).isNone = true then _ else _) _ _ _; rw [if_neg (by simp)]
  refine wpAny_bind (special_by I.kIn inst M.me.at_ M.me.fn ?_)
  refine wpAny_mono said (fun r s' back => ?_) fun _ _ h => h
  cases r <;> first | exact back.elim | skip
  rename_i z tok
  obtain ⟨v, G, J, rv, rfl, rfl⟩ := back
  obtain ⟨_, e⟩ := rv
  cases e
  exact wpAny_bind (wpAny_isInstance (T := "str") (b := true) rfl isSubtype_str_str (wpAny_pure ⟨_, _, rfl, q s' J⟩))
theorem tells_each (fr : B.frames = some X.stack) (room : Room k B) (guards : B.guards = some g) (clear : ∀ a ∈ as, Clear g a) :
    ∀ {us : List Value} {ts : List Str}, TellsAll X pins σ H k as us ts → ∀ (done : Array Str) (n : Nat) (s : Shared) (Q : (Array Str × Nat) → Shared → Prop), n + piled ts ≤ sizeLine → Inv X pins σ H s → (∀ s', Inv X pins σ H s' → Q ⟨done ++ ts.toArray, n + piled ts⟩ s') → wpAny (model X.prog X.w) B (forIn us (⟨done, n⟩ : (Array Str × Nat)) tupBody) Q X.xe s
  | _, _, .nil, done, n, s, Q, _, I, q => by
    have := q s I
    rw [List.forIn_nil]
    refine wpAny_pure ?_
    simpa [piled] using this
  | _, _, @TellsAll.cons _ _ _ _ _ _ x t us ts one more, done, n, s, Q, few, I, q => by
    rw [piled_cons] at few
    have total : n + piled (t :: ts) = n + (t.length + 2) + piled ts := by
      rw [piled_cons]
      omega
    rw [List.forIn_cons]
    refine wpAny_bind (wpAny_bind (one (n + 1) B g s _ (by omega) I fr room guards clear fun s' J => wpAny_pure ?_))
    refine tells_each fr room guards clear more (done.push t) (n + (t.length + 2)) s' Q (by omega) J fun s2 J2 => ?_
    have := q s2 J2
    rw [total] at this
    simpa using this
/-- the text of a tuple, by its own method or the one beneath -/
theorem tuple_by {p : Addr} {o : Obj} {items : Array Value} {n base : Nat} {ts : List Str} {id : String} {rest : List Value} {s : Shared} {Q : Value → Shared → Prop} (guard : (Code.builtin id ⟨.ref p :: rest, []⟩).isGuard = true) (one : (B.under (.builtin id ⟨.ref p :: rest, []⟩)).units = B.units + 1)
    (deeper : (B.under (.builtin id ⟨.ref p :: rest, []⟩)).depth = B.depth + 1) (same : (B.under (.builtin id ⟨.ref p :: rest, []⟩)).frames = B.frames) (out : p ∉ as) (fr : B.frames = some X.stack) (room : Room (k + 1) B) (guards : B.guards = some g) (clear : ∀ a ∈ p :: as, Clear g a) (I : Inv X pins σ H s)
    (at' : s.heap.get? p = some o) (data : o.data = .seq items n) (each : TellsAll X pins σ H k as items.toList ts) (few : base + (tupleText ts).length ≤ sizeLine) (q : ∀ s' u, Inv X pins σ H s' → Q (.str (tupleText ts) u) s') :
    wpOwn (model X.prog X.w) B (.builtin id ⟨.ref p :: rest, []⟩) (Builtin.tupleReprAt base ⟨[.ref p], []⟩) (fun fin s' => match fin with | .done f => callEnd Q X.xe (.ok f) s' | .again c' => c'.quiet = true ∧ codeAny (model X.prog X.w) B c' (callEnd Q X.xe) s') (fun e s' => callEnd Q X.xe (.error e) s') s := by
  have away : (g.any fun c => tupGuardF (.ref p) (c, default)) = false := List.any_eq_false.mpr fun c m => by
    rw [tupGuardF_of_clear (clear p List.mem_cons_self) c m]
    exact Bool.false_ne_true
  have size : items.size = ts.length := by simpa using each.len
  have pl := piled_le_tupleText ts
  have room' : Room k (B.under (.builtin id ⟨.ref p :: rest, []⟩)) := ⟨room.hd, by have := room.dp; rw [deeper]; omega, by have := room.un; rw [one]; omega⟩
  rw [tuple_repr_tree, tupleReprUnderWay_eq]; refine wpOwn_bind (wpOwn_stackTailAny guards (tupGuardF_off _) (tupGuardF_pos _) ?_)
  rw [away, if_neg Bool.false_ne_true]
  refine wpOwn_of_wpAny ?_; unfold tupleReprRest Builtin.Tuple.tupleItemsOf
  refine wpAny_bind (wpAny_bind (wpAny_seqItems at' data (wpAny_pure ?_)))
  rw [← Array.forIn_toList]
  refine wpAny_bind (tells_each (same.trans fr) room' (guards_under_guard guard guards) (fun a m => (clear a (List.mem_cons_of_mem _ m)).cons fun e => out (by rw [e]; exact m)) each #[] base s _ (by omega) I fun s' J => ?_)
  have last := q _ s'.toks (J.tok (s'.toks + 1))
  refine wpAny_bind (wpAny_mkStr (wpAny_pure ?_) ?_)
  · simpa [tupleText, size] using last
  · have : (tupleText ts).length ≤ sizeLine := by omega
    simpa [tupleText, size] using this
theorem under_tup (B : Around) (id : String) (args : Args) (h : (Code.builtin id args).isGuard = true) (plain : (Code.builtin id args).weight = 1 := by first | rfl | decide +kernel) : (B.under (.builtin id args)).depth = B.depth + 1 ∧ (B.under (.builtin id args)).frames = B.frames := by
  constructor
  · show B.depth + (Code.builtin id args).weight = _
    rw [plain]
  · first | rfl | simp [Around.under, Code.envs, Code.isFrame, pushEnvs]
theorem tells_tuple {p : Addr} {xs : List V} {ts : List Str} (at' : H p = some (.tup xs)) (out : p ∉ as) (each : ∀ us, Vals xs us → TellsAll X pins σ H k as us ts) : Tells X pins σ H (k + 3) (p :: as) (.ref p) (tupleText ts) := by
  intro base B g s Q fits I fr room guards clear q
  obtain ⟨its, rv, ⟨o, ho, hc, n, hd⟩, _⟩ := I.tuple (SqT.of at')
  obtain ⟨d1, d2⟩ := under_tup B "tuple.__repr__.under" ⟨[.ref p, rawInt base], []⟩ (isGuard_tuple_repr_under _)
  refine wpAny_pyReprUnder_ref (by omega) (wpAny_pyReprObjUnder_twin (twin := "tuple.__repr__.under") ⟨o, ho, hc⟩ F.slot_tuple_repr rfl room.units0 ?_)
  refine call_twin_own (F.quiet_tuple_repr_under _) F.entry_tuple_repr_under F.check_tuple_repr_under ⟨o, ho, hc⟩ F.slot_tuple_repr (F.args_tuple_repr_1 _) ?_
  exact tuple_by (k := k) (isGuard_tuple_repr_under _) (units_under_tuple_repr_under _ _) d1 d2 out fr (room.mono (by omega)) guards clear I ho hd (by simpa using each its rv) fits fun s' u J => ⟨⟨_, _, rfl⟩, _, _, rfl, q s' J⟩
/-- repr of a tuple whose parts tell -/
theorem repr_told {p : Addr} {xs : List V} {ts : List Str} {s : Shared} {Q : VK} (at' : H p = some (.tup xs)) (out : p ∉ as) (each : ∀ us, Vals xs us → TellsAll X pins σ H k as us ts) (few : (tupleText ts).length ≤ sizeLine) (I : Inv X pins σ H s) (room : Room (k + 3) X.A) (quiet : X.A.guards = some []) (q : Q (.str (tupleText ts)) H) :
    wpAny (model X.prog X.w) X.A (call (.builtin "repr") [.ref p]) (EP X pins σ Q) X.xe s := by
  obtain ⟨its, rv, ⟨o, ho, hc, n, hd⟩, _⟩ := I.tuple (SqT.of at')
  obtain ⟨d1, d2⟩ := under_tup X.A.in1 "tuple.__repr__" ⟨[.ref p], []⟩ (isGuard_tuple_repr _)
  have ty : s.TypeIs (.ref p) "tuple" := ⟨o, ho, hc⟩
  refine call_repr_slot (by have := room.un; omega) ty F.slot_tuple_repr ?_
  refine wpAny_call (codeAny_call_builtin_own (Code.quiet_builtin _ (by decide +kernel)) F.entry_tuple_repr (F.slot_tuple_repr.check _ _ _ _ _ _ _ _ ty (F.args_tuple_repr_1 _) ?_))
  exact tuple_by (k := k) (isGuard_tuple_repr _) (units_under_tuple_repr _ _) d1 d2 out I.ok.frames (Room.mono room.in1 (by omega)) quiet (fun a _ => Clear.nil a) I ho hd (by simpa using each its rv) (by omega) fun s' u J => ⟨_, _, rfl, .str _, H, J, ⟨_, rfl⟩, q⟩
theorem Tells.more {x : Value} {t : Str} {bs : List Addr} {j : Nat} (h : Tells X pins σ H k as x t) (sub : ∀ a ∈ as, a ∈ bs) (le : k ≤ j) : Tells X pins σ H j bs x t :=
  fun base B g s Q fits I fr room guards clear q => h base B g s Q fits I fr (room.mono le) guards (fun a m => clear a (sub a m)) q
def fieldsT (fs : List (Str × Ty)) : List Str := fs.map fun q => tupleText [reprText q.1, reprT q.2]
theorem row_in : ∀ {rows : List V} {fs : List (Str × Ty)} {v : V}, TyRows TC ED H rows fs → v ∈ rows → ∃ c n u, v = .ref c ∧ H c = some (.tup [.str n, u])
  | _, _, _, .nil, m => nomatch m
  | _, _, _, .cons hc _ more, m => by
    rcases List.mem_cons.mp m with rfl | m
    · exact ⟨_, _, _, rfl, hc⟩
    · exact row_in more m
theorem rows_tell {f : Addr} {fd : FuncData} (M : MtD X.prog X.w X.K X.mg X.base TC "__repr__" 1 P_repr (spRepr TC) f fd) : ∀ {rows : List V} {fs : List (Str × Ty)}, TyRows TC ED H rows fs → (∀ c, V.ref c ∈ rows → c ∈ as) → (∀ q ∈ fs, (wr q.2).length ≤ 100000 ∧ (reprText q.1).length ≤ sizeLine) → ∀ us, Vals rows us → TellsAll X pins σ H 5 as us (fieldsT fs)
  | _, _, .nil, _, _, us, r => by
    cases r
    exact .nil
  | _, _, .cons hc ht more, mem, few, us, r => by
    cases r with
    | cons r1 r2 =>
      cases r1
      have f1 := few _ List.mem_cons_self
      refine .cons (Tells.more (k := 2 + 3) (tells_tuple (as := []) hc (by simp) fun ws rw' => ?_) (fun a m => ?_) (Nat.le_refl _)) (rows_tell M more (fun c m => mem c (List.mem_cons_of_mem _ m)) (fun q m => few q (List.mem_cons_of_mem _ m)) _ r2)
      · cases rw' with
        | cons a1 rw' =>
          cases rw' with
          | cons a2 rw' =>
            cases rw'
            obtain ⟨tk, rfl⟩ := a1
            obtain ⟨c2, _, _, _, rfl, _⟩ := ht.obj
            cases a2
            exact .cons (tells_text _ _ f1.2) (.cons (tells_type (k := 0) M ht f1.1) .nil)
      · rw [List.mem_singleton.mp m]
        exact mem _ List.mem_cons_self
/-- repr of the fields of a type -/
inductive rFields (K : PySem.W.Frag) (TC ED : Addr) (xs : List V) (H : Hp) (Q : VK) : Prop
  | rows (h : ∃ p rows fs, xs = [.ref p] ∧ H p = some (.tup rows) ∧ TyRows TC ED H rows fs ∧ (∀ q ∈ fs, (wr q.2).length ≤ 100000 ∧ (reprText q.1).length ≤ sizeLine) ∧ (tupleText (fieldsT fs)).length ≤ sizeLine ∧ Q (.str (tupleText (fieldsT fs))) H) : rFields K TC ED xs H Q
  | void (h : xs = [.ref ED] ∧ SqT K H ED [] ∧ Q (.str "()") H) : rFields K TC ED xs H Q
theorem call_reprF {f : Addr} {fd : FuncData} {n : Nat} (K : PySem.W.Frag) (hK : X.K = K) (M : MtD X.prog X.w X.K X.mg X.base TC "__repr__" 1 P_repr (spRepr TC) f fd) (quiet : X.A.guards = some []) (room : Room n X.A) (le : 8 ≤ n) : CallR X (.builtin "repr") (rFields K TC ED) := by
  subst hK
  intro pins s σ H xs us Q I r h
  have h' := (show _ ∨ _ from match h with | .rows h => .inl h | .void h => .inr h)
  rcases h' with ⟨p, rows, fs, rfl, at', tys, few, size, q⟩ | ⟨rfl, nil, q⟩
  · obtain ⟨u, rfl, ru⟩ := vals1 r
    cases ru
    refine repr_told (k := 5) (as := rows.filterMap fun v => match v with | .ref c => some c | _ => none) at' (fun m => ?_) (fun us' r' => rows_tell M tys (fun c m => List.mem_filterMap.mpr ⟨_, m, rfl⟩) few us' r') size I (room.mono le) quiet q
    obtain ⟨v, mv, e⟩ := List.mem_filterMap.mp m
    obtain ⟨c, n', u', rfl, hc⟩ := row_in tys mv
    cases e
    rw [at'] at hc
    cases hc
    cases tys
  · obtain ⟨u, rfl, ru⟩ := vals1 r
    cases ru
    obtain ⟨its, rv, ⟨o, ho, hc, m, hd⟩, _⟩ := I.tuple nil
    cases rv
    exact repr_of_reads' (h₀ := s.heap) (Reads.tuple ho hc hd .nil) (by rfl) (fun _ => by simp) quiet (by have := room.un; simp [PyData.depth, PyData.depthAll]; omega) (fun _ _ e => e) (fun h' u tk k => ⟨.str _, H, I.kept k, ⟨_, rfl⟩, q⟩) (by decide +kernel)
end
/-! ### lists of the same flags and texts are not unlike -/
def flatT : V → Bool
  | .bl _ => true
  | .str _ => true
  | _ => false
def rNeF (K : PySem.W.Frag) : R2 := fun x y H Q => ∃ (a b : Addr) (xs : List V), x = .ref a ∧ y = .ref b ∧ SqL K H a xs ∧ SqL K H b xs ∧ (∀ v ∈ xs, flatT v = true) ∧ Q (.bl false) H
theorem op_neF {X : Cx} (K : PySem.W.Frag) (same : X.K = K) (hu : X.A.units + 64 < cLine) : OpR X (compareOp .NotEq) (rNeF K) := by
  subst same
  intro pins s σ H x y v u Q I rx ry want
  obtain ⟨a, b, xs, rfl, rfl, ha, hb, flat, q⟩ := want
  cases rx
  cases ry
  obtain ⟨ia, r1, ⟨oa, na, ea, ca, da, za⟩, _⟩ := I.list ha; obtain ⟨ib, r2, ⟨ob, nb, eb, cb, db, zb⟩, _⟩ := I.list hb
  have l1 := r1.length
  have l2 := r2.length
  have pair : ∀ {xs : List V} {us ws : List Value}, Vals xs us → Vals xs ws → (∀ v ∈ xs, flatT v = true) → ∀ (j : Nat) (u w : Value), us[j]? = some u → ws[j]? = some w → (∃ b, u = .bool b ∧ w = .bool b) ∨ ∃ z t t', u = .str z t ∧ w = .str z t' := by
    intro xs
    induction xs with
    | nil =>
      intro us ws ru rw' _ j u w e _
      cases ru
      simp at e
    | cons x xs ih =>
      intro us ws ru rw' fl j u w e e'
      cases ru with
      | cons p1 p2 =>
        cases rw' with
        | cons q1 q2 =>
          cases j with
          | succ j => exact ih p2 q2 (fun v m => fl v (List.mem_cons_of_mem _ m)) j u w (by simpa using e) (by simpa using e')
          | zero =>
            obtain rfl := Option.some.inj (by simpa using e)
            obtain rfl := Option.some.inj (by simpa using e')
            have := fl x List.mem_cons_self
            cases x <;> simp only [flatT, Bool.false_eq_true] at this
            · cases p1
              cases q1
              exact .inl ⟨_, rfl, rfl⟩
            · obtain ⟨t, rfl⟩ := p1
              obtain ⟨t', rfl⟩ := q1
              exact .inr ⟨_, t, t', rfl, rfl⟩
  refine SeqAt.RcNeAt.lists (e := fun _ => true) ⟨oa, ea, ca, na, za⟩ ⟨ob, eb, cb, nb, zb⟩ (by rw [List.size_toArray, List.size_toArray, ← l1, ← l2]) (by omega) (fun j h1 h2 => ?_) X.prog X.w _ _ ?_
  · rw [List.size_toArray] at h1 h2
    rw [List.getElem_toArray, List.getElem_toArray]
    rcases pair r1 r2 flat j _ _ (List.getElem?_eq_getElem h1) (List.getElem?_eq_getElem h2) with ⟨c, e1, e2⟩ | ⟨z, t, t', e1, e2⟩
    · rw [e1, e2]
      exact SeqAt.EqAt.same _
    · rw [e1, e2]
      have k := SeqAt.EqAt.str_str (A := X.A.in1) (s := s) z t z t'
      rw [beq_self_eq_true] at k
      exact k
  · have all : ((List.range ia.toArray.size).all fun _ => true) = true := List.all_eq_true.mpr fun _ _ => rfl
    rw [all]
    exact ⟨.bl false, H, I, rfl, q⟩
end KX

namespace KX
open PySem PySem.Spec L2 PyProof.Rows
/-! ### one that fits and one that does not, by turns -/
theorem tr_two {t : Ty} {a b : PyData} (h : ∀ p, tr t a p = none) : tr (.list t) (.tuple [a, b]) [] = tr t b [.int 1] := by
  simp only [tr]
  rw [if_pos (show [a, b].length ≤ 60 by show 2 ≤ 60; decide)]
  simp only [rowsT]
  rw [h]
  cases e : tr t b ([] ++ [PyData.int ((0 + 1 : Nat) : Int)]) with
  | none => rw [show tr t b [PyData.int 1] = none from e]
  | some p => rw [show tr t b [PyData.int 1] = some p from e]
theorem tr_one {t : Ty} {d : PyData} {n : Str} : tr (.rcd [(n, t)]) (.dict [(.str n, d)]) [] = tr t d [.str n] := by
  simp only [tr]
  have k : isKey (.str n) n = true := decide_eq_true rfl
  rw [if_pos (by simp [k])]
  simp only [trF]
  have f : keyIn [(PyData.str n, d)] n = some d := by
    unfold keyIn
    rw [List.find?_cons]
    dsimp only
    rw [k]
    rfl
  rw [f]
  dsimp only
  cases e : tr t d ([] ++ [PyData.str n]) with
  | none =>
    rw [show tr t d [PyData.str n] = none from e]
  | some p =>
    rw [show tr t d [PyData.str n] = some p from e]
section
variable {base : Heap} {P : Program} {w : World} {K : PySem.W.Frag} {mg : Str → Option Value} {tk : Str → Tok} {TC ED RC : Addr}
theorem dp_nil {H : Hp} {v : V} (h : Dq K H v (.tuple [])) : Dp K H v (.tuple []) := by
  obtain ⟨a, xs, rfl, at', all⟩ := Dq.tup1 h
  cases all
  exact .tup (SqT.of at') .nil
theorem dp_int {H : Hp} {v : V} {i : Int} (h : Dq K H v (.tuple [.int i])) : Dp K H v (.tuple [.int i]) := by
  obtain ⟨a, xs, rfl, at', all⟩ := Dq.tup1 h
  cases all with
  | cons h1 h2 =>
    cases h1
    cases h2
    exact .tup (SqT.of at') (.cons (.int i) .nil)
theorem dp_str {H : Hp} {v : V} {z : Str} (h : Dq K H v (.tuple [.str z])) : Dp K H v (.tuple [.str z]) := by
  obtain ⟨a, xs, rfl, at', all⟩ := Dq.tup1 h
  cases all with
  | cons h1 h2 =>
    cases h1
    cases h2
    exact .tup (SqT.of at') (.cons (.str z) .nil)
theorem in_type {H : Hp} {a : Addr} {t : Ty} {v : V} {d : PyData} {n m : Nat} {flip : Bool → Bool} {Q : VK} (at' : TyAt TC ED H (.ref a) t) (deep : DeepT n t) (few : n < 8) (dv : Dq K H v d) (vd : Vd m d)
    (q : ∀ H', Same H H' → Q (.bl (flip (tr t d []).isNone)) H') : rOwn TC (spHas K TC ED) flip (.ref a) v H Q := by
  obtain ⟨a0, dx, vi, vf, e, row, _⟩ := at'.obj
  obtain rfl := V.ref.inj e
  exact ⟨a, dx, _, rfl, row, a, t, v, d, n, m, rfl, few, deep, at', dv, vd, fun H' s => ⟨_, rfl, q H' s⟩⟩
def na : Str := "a"
theorem text_list (t : Ty) : "[" ++ wr t ++ "]" = wr (.list t) := by simp only [wr]
theorem text_field (t : Ty) : "{a: " ++ wr t ++ "}" = wr (.rcd [(na, t)]) := by
  apply ql_ext
  simp only [wr, wrFs]
  rw [ql_app, ql_app, ql_app, ql_app, ql_join]
  simp only [List.map_cons, List.map_nil, TL.joinL, ql_app]
  show [123, 97, 58, 32] ++ ql (wr t) ++ [125] = [123] ++ ([97] ++ [58, 32] ++ ql (wr t)) ++ [125]
  simp
theorem field_good {n : Nat} {t : Ty} (g : GoodT n t) : GoodT (n + 1) (.rcd [(na, t)]) :=
  .rcd (by simp) (by simp) (by rfl) (by simp) (fun q m => by
    rw [List.mem_singleton.mp m]
    exact ⟨(by decide +kernel : letters na), (by decide +kernel : na.length ≤ 12), (by decide +kernel : na.length ≠ 0)⟩) fun q m => by
    rw [List.mem_singleton.mp m]
    exact g
theorem field_deep {n : Nat} {t : Ty} (g : DeepT n t) : DeepT (n + 1) (.rcd [(na, t)]) :=
  .rcd (by simp) fun q m => by
    rw [List.mem_singleton.mp m]
    exact g
theorem GoodT.upTo {t : Ty} : ∀ {n : Nat} (k : Nat), GoodT n t → GoodT (n + k) t
  | _, 0, g => g
  | _, k + 1, g => (GoodT.upTo k g).up
/-- trouble is asked of a type -/
theorem asks_trouble {H : Hp} {a : Addr} {t : Ty} {v : V} {d : PyData} {n m : Nat} {Q : VK} {E : XK} (at' : TyAt TC ED H (.ref a) t) (deep : DeepT n t) (few : n < 8) (dv : Dq K H v d) (vd : Vd m d) (q : ∀ (H' : Hp) (y : V), Same H H' → Told' K H' (tr t d []) y → Q y H') : spTrouble K TC ED [.ref a, v] H Q E :=
  ⟨a, t, v, d, n, m, rfl, few, deep, at', dv, vd, q⟩
abbrev s_pair : Stmt := top 51
abbrev N_pair : List Str := ["_law_made", "_law_good", "_law_bad", "_law_around", "_law_turn", "_law_outer", "_law_wrap", "_law_first", "_law_second"]
abbrev P_pair : List Str := ["_law_made", "_law_good", "_law_bad", "_law_around"]
theorem sc_pair : FnScope N_pair P_pair (defScope s_pair) := ⟨rfl, rfl, rfl, by decide +kernel, rfl, by decide +kernel, by decide +kernel⟩
/-- the two that are around -/
def AroundOk (TC ED : Addr) (H : Hp) (ar : V) (t : Ty) : Prop := ∃ (a q1 q2 : Addr) (b1 b2 : Addr), ar = .ref a ∧ H a = some (.lst [.ref q1, .ref q2]) ∧ H q1 = some (.tup [.ref b1, .str "list"]) ∧ H q2 = some (.tup [.ref b2, .str "record"]) ∧ TyAt TC ED H (.ref b1) (.list t) ∧ TyAt TC ED H (.ref b2) (.rcd [(na, t)])
theorem AroundOk.same {H H' : Hp} {ar : V} {t : Ty} (h : AroundOk TC ED H ar t) (s : Same H H') : AroundOk TC ED H' ar t := by
  obtain ⟨a, q1, q2, b1, b2, e, h1, h2, h3, h4, h5⟩ := h
  exact ⟨a, q1, q2, b1, b2, e, s _ _ h1, s _ _ h2, s _ _ h3, TyAt.same s _ _ h4, TyAt.same s _ _ h5⟩
def spPair (K : PySem.W.Frag) (TC ED : Addr) : Sp := fun vs H Q _ => ∃ (a : Addr) (g b ar : V) (dg db : PyData) (t : Ty), vs = [.ref a, g, b, ar] ∧ DeepT 6 t ∧ TyAt TC ED H (.ref a) t ∧ AroundOk TC ED H ar t ∧ Dq K H g dg ∧ Dq K H b db ∧ Vd 8 dg ∧ Vd 8 db ∧ (∀ p, tr t dg p = none) ∧ (∀ p, tr t db p = some p) ∧ ∀ H', Same H H' → Q (.bl true) H'
theorem ok_pair {f f1 f2 : Addr} {fd d1 d2 : FuncData} (F : Fun K "_law_pair_right" "_law_pair_right" s_pair f fd) (T : BlT mg) (M_has : MtD P w K mg base TC "__contains__" 21 P_has (spHas K TC ED) f1 d1) (M_trouble : MtD P w K mg base TC "trouble" 21 P_trouble (spTrouble K TC ED) f2 d2) : FnOk P w K mg base CX0 23 f fd P_pair (spPair K TC ED) := by
  refine F.ok sc_pair (fun vs H Q E h => ?_) (fun cdv A outer s H vs Q E hr h => ?_)
  · obtain ⟨a, g, b, ar, dg, db, t, rfl, _⟩ := h
    rfl
  obtain ⟨a, g, b, ar, dg, db, t, rfl, deep, at', around, hg, hb, vg, vb, tg, tb, q⟩ := h
  refine ⟨_, (pss_cons (ps_for PassesOwn.never rfl (pi_range1 rfl T.range (pa_cons pe_int pa_nil)) (pg_name (i := 4) sc_pair.nd rfl (Or.inl rfl))
      (pss_cons (ps_if (PW.pt (pw_or (pt_cmpR (op_ownNotIn M_has (hr.mono (by first | decide | omega))) (pv 1) (pv 0) (by with_unfolding_all rfl)) (pw_or (pt_cmpR (op_ownIn M_has (hr.mono (by first | decide | omega))) (pv 2) (pv 0) (by with_unfolding_all rfl)) (pw_or (pt_cmpR op_notN (pe_meth (pv 0) M_trouble.cl M_trouble.me M_trouble.ok (hr.mono (by first | decide | omega)) M_trouble.b .nil pass0 (pa_cons (pv 1) pa_nil)) pe_non (nomark _)) (pw_or1 (pt_cmpR (op_neK K rfl hr.units) (pe_meth (pv 0) M_trouble.cl M_trouble.me M_trouble.ok (hr.mono (by first | decide | omega)) M_trouble.b .nil pass0 (pa_cons (pv 2) pa_nil)) (pe_tup pa_nil) (nomark _)))))))
      (pss_one (ps_ret pe_bl))
      pss_nil)
    (pss_one (ps_for PassesOwn.never rfl (pi_list (pv 3)) (pg_tup rfl (pgs_cons (pg_name (i := 5) sc_pair.nd rfl (Or.inl rfl)) (pgs_cons (pg_name (i := 6) sc_pair.nd rfl (Or.inl rfl)) pgs_nil)))
      (pss_cons (ps_par rfl sc_pair.nd (i := 7) (j := 8) rfl rfl (by decide) rfl rfl (pa_cons (pe_tup (pa_cons (pv 1) (pa_cons (pv 1) pa_nil))) (pa_cons (pe_tup (pa_cons (pv 1) (pa_cons (pv 2) pa_nil))) pa_nil)) (by rfl))
    (pss_cons (ps_if (PW.pt (pw_and (pt_cmpR op_eq (pv 6) pe_str (nomark _)) (pw_and1 (PW.pt (pw_or (pt_cmpR (op_ownNotIn M_has (hr.mono (by first | decide | omega))) (pv 7) (pv 5) (by with_unfolding_all rfl)) (pw_or1 (pt_cmpR (op_ownIn M_has (hr.mono (by first | decide | omega))) (pv 8) (pv 5) (by with_unfolding_all rfl))))))))
      (pss_one (ps_ret pe_bl))
      pss_nil)
    (pss_cons (ps_if (PW.pt (pw_and (pt_cmpR op_eq (pv 6) pe_str (nomark _)) (pw_and1 (pt_cmpR (op_neK K rfl hr.units) (pe_meth (pv 5) M_trouble.cl M_trouble.me M_trouble.ok (hr.mono (by first | decide | omega)) M_trouble.b .nil pass0 (pa_cons (pv 8) pa_nil)) (pe_tup (pa_cons pe_int pa_nil)) (nomark _)))))
      (pss_one (ps_ret pe_bl))
      pss_nil)
    (pss_one (ps_if (PW.pt (pw_and (pt_cmpR op_eq (pv 6) pe_str (nomark _)) (pw_and1 (PW.pt (pw_or (pt_cmpR (op_ownNotIn M_has (hr.mono (by first | decide | omega))) (pe_disp (pps_cons pe_str (pv 1) pps_nil) (by rfl) (by rfl) (fun z => by cases z) (by decide)) (pv 5) (by with_unfolding_all rfl)) (pw_or1 (pt_cmpR (op_neK K rfl hr.units) (pe_meth (pv 5) M_trouble.cl M_trouble.me M_trouble.ok (hr.mono (by first | decide | omega)) M_trouble.b .nil pass0 (pa_cons (pe_disp (pps_cons pe_str (pv 2) pps_nil) (by rfl) (by rfl) (fun z => by cases z) (by decide)) pa_nil)) (pe_tup (pa_cons pe_str pa_nil)) (nomark _))))))))
      (pss_one (ps_ret pe_bl))
      pss_nil)))))))))
    (pss_one (ps_ret pe_bl))), ?_⟩
  refine ⟨3, rfl, by decide, by decide, ?_⟩
  refine for_it (walk_range (lo := 0) (n := 3)) (fun i σ G => (∃ o4 o5 o6 o7 o8 : Option V, σ = [some (.ref a), some g, some b, some ar, o4, o5, o6, o7, o8]) ∧ Same H G) ⟨⟨none, none, none, none, none, rfl⟩, Same.refl H⟩ (fun _ _ _ _ _ => trivial) ?_ ?_
  · rintro i x σ G G' hi ⟨⟨o4, o5, o6, o7, o8, rfl⟩, s1⟩ ⟨rfl, rfl⟩
    have at1 := TyAt.same s1 _ _ at'
    have ar1 := around.same s1
    have g1 := Dq.same s1 _ _ hg
    have b1 := Dq.same s1 _ _ hb
    have none' : (tr t dg []).isNone = true := by rw [tg]; rfl
    have some' : (tr t db []).isNone = false := by rw [tb]; rfl
    refine ⟨_, rfl, _, rfl, in_type at1 deep (by decide) g1 vg fun G2 s2 => ?_⟩
    rw [none']
    refine ⟨_, rfl, if_ff rfl ?_⟩
    have s12 := s1.trans s2
    refine ⟨_, rfl, _, rfl, in_type (TyAt.same s12 _ _ at') deep (by decide) (Dq.same s12 _ _ hb) vb fun G3 s3 => ?_⟩
    rw [some']
    refine ⟨_, rfl, if_ff rfl ?_⟩
    have s13 := s12.trans s3
    obtain ⟨_, dx, vi, vf, e, row, _⟩ := (TyAt.same s13 _ _ at').obj
    cases e
    refine ⟨_, rfl, a, dx, _, rfl, row, rfl, _, rfl, asks_trouble (E := E0) (TyAt.same s13 _ _ at') deep (by decide) (Dq.same s13 _ _ hg) vg fun G4 y s4 told => ?_⟩
    rw [tg] at told
    cases told
    refine ⟨rfl, _, rfl, if_ff rfl ?_⟩
    have s14 := s13.trans s4
    refine ⟨_, rfl, a, dx, _, rfl, s4 _ _ row, rfl, _, rfl, asks_trouble (E := E0) (TyAt.same s14 _ _ at') deep (by decide) (Dq.same s14 _ _ hb) vb fun G5 y s5 told => ?_⟩
    rw [tb] at told
    cases told with
    | some dq =>
    have s15 := s14.trans s5
    refine ⟨big (by show 0 ≤ _; decide), fun e0 he0 => ?_⟩
    have s6 := same_new he0 (.tup [])
    refine ⟨_, _, dp_nil (Dq.same s6 _ _ dq), .tup (SqT.of upd_same) .nil, by rfl, by rfl, _, rfl, if_ff (by rfl) ?_⟩
    have s16 := s15.trans s6
    generalize upd G5 e0 (.tup []) = G6 at s16 ⊢
    clear he0 s6 s15 s14 s13 s12
    obtain ⟨ar0, q1, q2, b1', b2', rfl, har, hq1, hq2, t1, t2⟩ := around.same s16
    have g6 := Dq.same s16 _ _ hg
    have b6 := Dq.same s16 _ _ hb
    refine ⟨_, rfl, ar0, rfl, ⟨_, SqL.of har⟩, ?_⟩
    refine for_it (walk_list (K := K) (a := ar0) (xs := [.ref q1, .ref q2])) (fun k σ G => (∃ o5 o6 o7 o8 : Option V, σ = [some (.ref a), some g, some b, some (.ref ar0), some (.int (0 + (i : Int))), o5, o6, o7, o8]) ∧ Same G6 G) ⟨⟨o5, o6, o7, o8, rfl⟩, Same.refl G6⟩ (fun k σ G _ z => SqL.of (z.2 _ _ har)) ?_ ?_
    · rintro k x σ G G' hk ⟨⟨o5, o6, o7, o8, rfl⟩, s7⟩ ⟨rfl, atk⟩
      have cases2 : (k = 0 ∧ x = .ref q1) ∨ (k = 1 ∧ x = .ref q2) := by
        match k, atk with
        | 0, e => exact .inl ⟨rfl, (Option.some.inj e).symm⟩
        | 1, e => exact .inr ⟨rfl, (Option.some.inj e).symm⟩
      have g7 := Dq.same s7 _ _ g6
      have b7 := Dq.same s7 _ _ b6
      rcases cases2 with ⟨rfl, rfl⟩ | ⟨rfl, rfl⟩
      · have u1 := TyAt.same s7 _ _ t1
        refine ⟨q1, _, rfl, SqT.of (s7 _ _ hq1), rfl, _, _, rfl, _, _, rfl, rfl, ?_⟩
        refine ⟨_, rfl, _, rfl, big (by show 2 ≤ _; decide), fun p1 hp1 => ?_⟩
        have a1 := same_new hp1 (.tup [g, g])
        have f1 : upd G' p1 (.tup [g, g]) p1 = some (.tup [g, g]) := upd_same
        generalize upd G' p1 (.tup [g, g]) = Z1 at a1 f1 ⊢
        refine ⟨_, rfl, _, rfl, big (by show 2 ≤ _; decide), fun p2 hp2 => ?_⟩
        have a2 := same_new hp2 (.tup [g, b])
        have f2 : upd Z1 p2 (.tup [g, b]) p2 = some (.tup [g, b]) := upd_same
        generalize upd Z1 p2 (.tup [g, b]) = Z2 at a2 f2 ⊢
        have a12 := a1.trans a2
        refine ⟨_, _, rfl, ?_⟩
        refine ⟨_, rfl, rfl, _, rfl, if_tt (by rfl) ?_⟩
        have v2 : ∀ {c e : PyData}, Vd 8 c → Vd 8 e → Vd 9 (.tuple [c, e]) := fun hc he => by
          simp only [Vd]
          refine ⟨by simp, fun x m => ?_⟩
          rcases List.mem_cons.mp m with rfl | m
          · exact hc
          · rw [List.mem_singleton.mp m]
            exact he
        have first : Dq K Z2 (.ref p1) (.tuple [dg, dg]) := .tup (a2 _ _ f1) (.cons (Dq.same a12 _ _ g7) (.cons (Dq.same a12 _ _ g7) .nil))
        have second : Dq K Z2 (.ref p2) (.tuple [dg, db]) := .tup f2 (.cons (Dq.same a12 _ _ g7) (.cons (Dq.same a12 _ _ b7) .nil))
        refine ⟨_, rfl, _, rfl, in_type (TyAt.same a12 _ _ u1) (.list deep) (by decide) first (v2 vg vg) fun Z3 s8 => ?_⟩
        rw [tr_two tg, tg]
        refine ⟨_, rfl, if_ff rfl ?_⟩
        have u2 := TyAt.same (a12.trans s8) _ _ u1
        refine ⟨_, rfl, _, rfl, in_type u2 (.list deep) (by decide) (Dq.same s8 _ _ second) (v2 vg vb) fun Z4 s9 => ?_⟩
        rw [tr_two tg, tb]
        refine ⟨_, rfl, if_ff rfl ?_⟩
        have u3 := TyAt.same s9 _ _ u2
        refine ⟨_, rfl, rfl, _, rfl, if_tt (by rfl) ?_⟩
        obtain ⟨_, dx, vi, vf, e, row, _⟩ := u3.obj
        cases e
        refine ⟨_, rfl, b1', dx, _, rfl, row, rfl, _, rfl, asks_trouble (E := E0) u3 (.list deep) (by decide) (Dq.same (s8.trans s9) _ _ second) (v2 vg vb) fun Z5 y sA told => ?_⟩
        rw [tr_two tg, tb] at told
        cases told with
        | some dq =>
        refine ⟨big (by show 1 ≤ _; decide), fun e0 he0 => ?_⟩
        have sB := same_new he0 (.tup [.int 1])
        refine ⟨_, _, dp_int (Dq.same sB _ _ dq), .tup (SqT.of upd_same) (.cons (.int 1) .nil), by rfl, by rfl, _, rfl, if_ff (by rfl) ?_⟩
        refine ⟨_, rfl, rfl, _, rfl, if_ff (by rfl) ?_⟩
        exact ⟨⟨_, _, _, _, rfl⟩, s7.trans (a12.trans (s8.trans (s9.trans (sA.trans sB))))⟩
      · have u1 := TyAt.same s7 _ _ t2
        refine ⟨q2, _, rfl, SqT.of (s7 _ _ hq2), rfl, _, _, rfl, _, _, rfl, rfl, ?_⟩
        refine ⟨_, rfl, _, rfl, big (by show 2 ≤ _; decide), fun p1 hp1 => ?_⟩
        have a1 := same_new hp1 (.tup [g, g])
        generalize upd G' p1 (.tup [g, g]) = Z1 at a1 ⊢
        refine ⟨_, rfl, _, rfl, big (by show 2 ≤ _; decide), fun p2 hp2 => ?_⟩
        have a2 := same_new hp2 (.tup [g, b])
        generalize upd Z1 p2 (.tup [g, b]) = Z2 at a2 ⊢
        have a12 := a1.trans a2
        refine ⟨_, _, rfl, ?_⟩
        refine ⟨_, rfl, rfl, _, rfl, if_ff (by rfl) ?_⟩
        refine ⟨_, rfl, rfl, _, rfl, if_ff (by rfl) ?_⟩
        refine ⟨_, rfl, rfl, _, rfl, if_tt (by rfl) ?_⟩
        have v1 : ∀ {c : PyData}, Vd 8 c → Vd 9 (.dict [(.str na, c)]) := fun hc => by
          simp only [Vd]
          refine ⟨⟨by simp, by simp, fun kv m => ?_⟩, fun kv m => ?_⟩
          · rw [List.mem_singleton.mp m]
            exact isNm_of (by decide +kernel)
          · rw [List.mem_singleton.mp m]
            exact hc
        intro d1 hd1
        have s8 : Same Z2 (upd (upd Z2 d1 (.dK [])) d1 (.dK [(.inr na, g)])) := Same.updNew (same_new hd1 _) hd1
        have f8 : upd (upd Z2 d1 (.dK [])) d1 (.dK [(.inr na, g)]) d1 = some (.dK [(.inr na, g)]) := upd_same
        refine ⟨_, rfl, ⟨upd_same, [(.inr na, g)], rfl, by simp, ?_⟩⟩
        rw [show mergeK [] [((.inr na : Key), g)] = [(.inr na, g)] from rfl]
        generalize upd (upd Z2 d1 (.dK [])) d1 (.dK [(.inr na, g)]) = Z3 at s8 f8 ⊢
        have g8 := Dq.same (a12.trans s8) _ _ g7
        have u2 := TyAt.same (a12.trans s8) _ _ u1
        refine ⟨_, rfl, in_type u2 (field_deep deep) (by decide) (d := .dict [(.str na, dg)]) (.dct f8 (.cons (k := .inr na) g8 .nil)) (v1 vg) fun Z4 s9 => ?_⟩
        rw [tr_one, tg]
        refine ⟨_, rfl, if_ff rfl ?_⟩
        have u3 := TyAt.same s9 _ _ u2
        obtain ⟨_, dx, vi, vf, e, row, _⟩ := u3.obj
        cases e
        refine ⟨_, rfl, b2', dx, _, rfl, row, rfl, ?_⟩
        intro d3 hd3
        have sA : Same Z4 (upd (upd Z4 d3 (.dK [])) d3 (.dK [(.inr na, b)])) := Same.updNew (same_new hd3 _) hd3
        have fA : upd (upd Z4 d3 (.dK [])) d3 (.dK [(.inr na, b)]) d3 = some (.dK [(.inr na, b)]) := upd_same
        refine ⟨_, rfl, ⟨upd_same, [(.inr na, b)], rfl, by simp, ?_⟩⟩
        rw [show mergeK [] [((.inr na : Key), b)] = [(.inr na, b)] from rfl]
        generalize upd (upd Z4 d3 (.dK [])) d3 (.dK [(.inr na, b)]) = Z5 at sA fA ⊢
        have bA := Dq.same (a12.trans (s8.trans (s9.trans sA))) _ _ b7
        refine asks_trouble (E := E0) (TyAt.same sA _ _ u3) (field_deep deep) (by decide) (d := .dict [(.str na, db)]) (.dct fA (.cons (k := .inr na) bA .nil)) (v1 vb) fun Z6 y sB told => ?_
        rw [tr_one, tb] at told
        cases told with
        | some dq =>
        refine ⟨big (by show 1 ≤ _; decide), fun e0 he0 => ?_⟩
        have sC := same_new he0 (.tup [.str na])
        refine ⟨_, _, dp_str (Dq.same sC _ _ dq), .tup (SqT.of upd_same) (.cons (.str na) .nil), (by decide +kernel), (by decide +kernel), _, rfl, if_ff (by decide +kernel) ?_⟩
        exact ⟨⟨_, _, _, _, rfl⟩, s7.trans (a12.trans (s8.trans (s9.trans (sA.trans (sB.trans sC)))))⟩
    · rintro σ G ⟨⟨o5, o6, o7, o8, rfl⟩, s7⟩
      exact ⟨⟨_, _, _, _, _, rfl⟩, s16.trans s7⟩
  · rintro σ G ⟨_, s1⟩
    exact q G s1
end
end KX

namespace KX
open PySem PySem.Spec L2 PyProof.Rows
/-! ### the texts of the fields are short -/
theorem tuple_len (ts : List Str) : (tupleText ts).length ≤ piled ts + 3 := by
  unfold tupleText
  rw [len_app, len_app]
  have e1 : ("(" : Str).length = 1 := rfl
  have e2 : (Str.ofString (if (ts.length == 1) = true then ",)" else ")")).length ≤ 2 := by
    split
    · exact Nat.le_of_eq rfl
    · exact (by decide : (1 : Nat) ≤ 2)
  have e3 : (Str.join ", " ts).length ≤ piled ts := by
    by_cases z : ts = []
    · subst z
      exact Nat.zero_le _
    · have := join_length_add ts z
      omega
  omega
theorem fields_short {n : Nat} (fm : Fm) (o : okF (n + 1) fm) (small : lim n ≤ 20000) {gs : List (Str × Ty)} (e : tyOf fm = .rcd gs) : gs.length ≤ 3 ∧ ∀ q ∈ gs, IsNm q.1 ∧ (wr q.2).length ≤ 20000 := by
  cases fm with
  | rcd fs =>
    have o' : Names (fs.map (·.1)) ∧ sortedS (fs.map (·.1)) = true ∧ 1 ≤ fs.length ∧ fs.length ≤ 3 ∧ ∀ q ∈ fs, okF n q.2 := by simpa only [okF] using o
    simp only [tyOf, Ty.rcd.injEq] at e
    subst e
    refine ⟨by rw [tyOfs_map, List.length_map]; exact o'.2.2.2.1, fun q m => ?_⟩
    rw [tyOfs_map] at m
    obtain ⟨p, mp, rfl⟩ := List.mem_map.mp m
    exact ⟨o'.1.2 _ (List.mem_map.mpr ⟨p, mp, rfl⟩), Nat.le_trans (len_of n p.2 (o'.2.2.2.2 p mp)) small⟩
  | _ => simp [tyOf] at e
theorem fields_piled : ∀ (gs : List (Str × Ty)), (∀ q ∈ gs, IsNm q.1 ∧ (wr q.2).length ≤ 20000) → piled (fieldsT gs) ≤ gs.length * 20200
  | [], _ => Nat.zero_le _
  | q :: r, h => by
    have ih := fields_piled r fun p m => h p (List.mem_cons_of_mem _ m)
    obtain ⟨nm, few⟩ := h q List.mem_cons_self
    have l1 := nm_len nm
    have l2 := tuple_len [reprText q.1, reprT q.2]
    rw [piled_cons, piled_cons, piled_nil] at l2
    have l3 : (reprT q.2).length = 6 + (wr q.2).length + 2 := by
      unfold reprT
      rw [len_app, len_app]
      rfl
    have l4 : piled (fieldsT (q :: r)) = ((tupleText [reprText q.1, reprT q.2]).length + 2) + piled (fieldsT r) := piled_cons _ _
    rw [l4, List.length_cons]
    omega
section
variable {TC E p : Addr} {H H' : Hp}
theorem keep_ins {b : Addr} {C dx : Addr} {fs : List (Str × V)} (hp : PoolAt H p) (k : Keep p H H') (h : H b = some (.ins C dx fs)) : H' b = some (.ins C dx fs) := k b _ (fun e => by
  obtain ⟨_, _, _, hu, _⟩ := hp
  rw [e, hu] at h
  cases h) h
theorem keep_tup {b : Addr} {xs : List V} (hp : PoolAt H p) (k : Keep p H H') (h : H b = some (.tup xs)) : H' b = some (.tup xs) := k b _ (fun e => by
  obtain ⟨_, _, _, hu, _⟩ := hp
  rw [e, hu] at h
  cases h) h
mutual
theorem TyAt.keep (hp : PoolAt H p) (k : Keep p H H') : ∀ (t : Ty) (v : V), TyAt TC E H v t → TyAt TC E H' v t
  | .text, _, .plain q h => .plain q (keep_ins hp k h)
  | .number, _, .plain q h => .plain q (keep_ins hp k h)
  | .flag, _, .plain q h => .plain q (keep_ins hp k h)
  | .opt t, _, .opt h i => .opt (keep_ins hp k h) (TyAt.keep hp k t _ i)
  | .opt _, _, .plain q _ => nomatch q
  | .list t, _, .list h i => .list (keep_ins hp k h) (TyAt.keep hp k t _ i)
  | .list _, _, .plain q _ => nomatch q
  | .keyed t _, _, .keyed h i => .keyed (keep_ins hp k h) (TyAt.keep hp k t _ i)
  | .keyed _ _, _, .plain q _ => nomatch q
  | .rcd fs, _, .rcd h1 h2 r => .rcd (keep_ins hp k h1) (keep_tup hp k h2) (TyRows.keep hp k fs _ r)
  | .rcd _, _, .plain q _ => nomatch q
theorem TyRows.keep (hp : PoolAt H p) (k : Keep p H H') : ∀ (fs : List (Str × Ty)) (rows : List V), TyRows TC E H rows fs → TyRows TC E H' rows fs
  | [], _, .nil => .nil
  | (_, t) :: fs, _, .cons h i r => .cons (keep_tup hp k h) (TyAt.keep hp k t _ i) (TyRows.keep hp k fs _ r)
end
end
theorem hide_new {p b : Addr} {H : Hp} {o : HO} (has : ∃ u, H p = some u) (new : H b = none) : hide p (upd H b o) b = some o := by
  have ne : b ≠ p := fun e => by
    obtain ⟨u, hu⟩ := has
    rw [e, hu] at new
    cases new
  rw [hide_ne ne]
  exact upd_same
def fieldsZ : Ty → Str
  | .rcd gs => tupleText (fieldsT gs)
  | _ => "()"
section
variable {base : Heap} {P : Program} {w : World} {K : PySem.W.Frag} {mg : Str → Option Value} {tk : Str → Tok} {TC ED RC : Addr} {mc : Value} {rp rf : Addr} {rd : FuncData}
theorem fields_told {H : Hp} {a : Addr} {fm : Fm} {n : Nat} (at' : TyAt TC ED H (.ref a) (tyOf fm)) (o : okF (n + 1) fm) (small : lim n ≤ 20000) (nil : ∀ H, SqT K H ED []) : ∃ (dx : Addr) (vi vf : V), H a = some (.ins TC dx (rowT (kindW (tyOf fm)) vi (partsT (tyOf fm)).2 vf (wr (tyOf fm)))) ∧ ∀ (H' : Hp) (Q : VK), Same H H' → Q (.str (fieldsZ (tyOf fm))) H' → rFields K TC ED [vf] H' Q := by
  obtain ⟨_, dx, vi, vf, e, row, _, _, kind⟩ := at'.obj
  cases e
  refine ⟨dx, vi, vf, row, fun H' Q s q => ?_⟩
  rcases kind with ⟨gs, b, rows, et, rfl, hb, tys⟩ | ⟨no, rfl⟩
  · obtain ⟨g3, gq⟩ := fields_short fm o small et
    rw [et] at q
    have pl := fields_piled gs gq
    have tl := tuple_len (fieldsT gs)
    refine .rows ⟨b, rows, gs, rfl, s _ _ hb, TyRows.same s _ _ tys, fun x m => ⟨Nat.le_trans (gq x m).2 (by decide), big (Nat.le_trans (nm_len (gq x m).1) (by decide))⟩, big ?_, q⟩
    have : gs.length * 20200 ≤ 3 * 20200 := Nat.mul_le_mul_right _ g3
    omega
  · refine .void ⟨rfl, nil H', ?_⟩
    have : fieldsZ (tyOf fm) = "()" := by
      generalize tyOf fm = t at no
      cases t <;> first | rfl | exact absurd rfl (no _)
    rw [this] at q
    exact q
abbrev s_again : Stmt := top 52
abbrev N_again : List Str := ["_law_pool_here", "_law_turn", "_law_form_here", "_law_row", "_law_made", "_law_around", "_law_good", "_law_bad", "_law_matter", "_law_told", "_law_each"]
abbrev P_again : List Str := ["_law_pool_here"]
theorem sc_again : FnScope N_again P_again (defScope s_again) := ⟨rfl, rfl, rfl, by decide +kernel, rfl, by decide +kernel, by decide +kernel⟩
theorem ok_again {f f1 f2 f3 f4 f5 f6 f7 f8 f9 fA : Addr} {fd d1 d2 d3 d4 d5 d6 d7 d8 d9 dA : FuncData} (F : Fun K "_law_right_again" "_law_right_again" s_again f fd) (T : BlT mg) (SK : SysK K) (C : TyC K TC) (nil : ∀ H, SqT K H ED []) (RT : ReadC P w K mg base TC ED mc rp rf rd)
    (M_has : MtD P w K mg base TC "__contains__" 21 P_has (spHas K TC ED) f1 d1) (M_trouble : MtD P w K mg base TC "trouble" 21 P_trouble (spTrouble K TC ED) f2 d2) (M_str : MtD P w K mg base TC "__str__" 1 P_tstr (spTStr TC) f3 d3) (M_repr : MtD P w K mg base TC "__repr__" 1 P_repr (spRepr TC) f4 d4)
    (D_form : Def P w K mg base "_law_form" 6 P_form (fun vs H Q E => spFormL K 3 vs H Q E ∨ spFormL K 4 vs H Q E) f5 d5) (D_form_text : Def P w K mg base "_law_form_text" 8 P_ftext (spFText K 7) f6 d6) (D_twins : Def P w K mg base "_law_twins" 1 P_twins (spTwins K) f7 d7) (D_pair_right : Def P w K mg base "_law_pair_right" 23 P_pair (spPair K TC ED) f8 d8)
    (D_thing_of : Def P w K mg base "_law_thing_of" 9 P_thing (spThingL K 7) f9 d9) (D_same : Def P w K mg base "same" 12 P_same (spSame1 K) fA dA) : FnG P w K mg base 35 f fd P_again spRight := by
  refine Fun.g F sc_again (fun vs H Q h => ?_) (fun cdv A outer s H vs Q quiet hr h => ?_)
  · obtain ⟨p, rfl, _⟩ := h
    rfl
  obtain ⟨p, rfl, hp, q⟩ := h
  refine ⟨_, (pss_cons (ps_for PassesOwn.never rfl (pi_range1 rfl T.range (pa_cons pe_int pa_nil)) (pg_name (i := 1) sc_again.nd rfl (Or.inl rfl))
      (pss_cons (ps_set (i := 2) sc_again.nd rfl (Or.inl rfl) (pe_call D_form.ok (hr.mono (by first | decide | omega)) rfl D_form.g D_form.kp D_form.b .nil pass0 (pa_cons (pv 0) (pa_cons pe_int pa_nil))))
    (pss_cons (ps_set (i := 3) sc_again.nd rfl (Or.inl rfl) (pe_call D_form_text.ok (hr.mono (by first | decide | omega)) rfl D_form_text.g D_form_text.kp D_form_text.b .nil pass0 (pa_cons (pv 2) pa_nil)))
    (pss_cons (ps_set (i := 4) sc_again.nd rfl (Or.inl rfl) (ClX.pe_cmeth (pe_glob (v := .ref TC) rfl RT.g rfl) RT.r RT.m (FnOk.raw RT.ok RT.b .nil) (hr.mono (by first | decide | omega)) pass0 (pa_cons (pv 3) pa_nil)))
    (pss_cons (ps_set (i := 5) sc_again.nd rfl (Or.inl rfl) (pe_lst (pa_cons (pe_tup (pa_cons (ClX.pe_cmeth (pe_glob (v := .ref TC) rfl RT.g rfl) RT.r RT.m (FnOk.raw RT.ok RT.b .nil) (hr.mono (by first | decide | omega)) pass0 (pa_cons (pe_op op_add_str (pe_op op_add_str pe_str (pv 3)) pe_str) pa_nil)) (pa_cons pe_str pa_nil))) (pa_cons (pe_tup (pa_cons (ClX.pe_cmeth (pe_glob (v := .ref TC) rfl RT.g rfl) RT.r RT.m (FnOk.raw RT.ok RT.b .nil) (hr.mono (by first | decide | omega)) pass0 (pa_cons (pe_op op_add_str (pe_op op_add_str pe_str (pv 3)) pe_str) pa_nil)) (pa_cons pe_str pa_nil))) pa_nil))))
    (pss_cons (ps_for PassesOwn.never rfl (pi_list (pe_call D_twins.ok (hr.mono (by first | decide | omega)) rfl D_twins.g D_twins.kp D_twins.b .nil pass0 (pa_cons (pv 2) pa_nil))) (pg_tup rfl (pgs_cons (pg_name (i := 6) sc_again.nd rfl (Or.inl rfl)) (pgs_cons (pg_name (i := 7) sc_again.nd rfl (Or.inl rfl)) pgs_nil)))
      (pss_one (ps_if (pt_not (pt_val (pe_call D_pair_right.ok (hr.mono (by first | decide | omega)) rfl D_pair_right.g D_pair_right.kp D_pair_right.b .nil pass0 (pa_cons (pv 4) (pa_cons (pv 6) (pa_cons (pv 7) (pa_cons (pv 5) pa_nil)))))))
      (pss_one (ps_ret pe_bl))
      pss_nil)))
    (pss_cons (ps_set (i := 8) sc_again.nd rfl (Or.inl rfl) (pe_call D_thing_of.ok (hr.mono (by first | decide | omega)) rfl D_thing_of.g D_thing_of.kp D_thing_of.b .nil pass0 (pa_cons (pv 0) (pa_cons (pv 2) pa_nil))))
    (pss_cons (ps_set (i := 9) sc_again.nd rfl (Or.inl rfl) (pe_lst (pa_cons (pe_cmpR (op_ownIn M_has (hr.mono (by first | decide | omega))) (pv 8) (pv 4) (by with_unfolding_all rfl)) (pa_cons (pe_callTy (call_strOwn M_str (hr.mono (by first | decide | omega))) (by rfl) T.str (by decide +kernel) (pa_cons (pv 4) pa_nil)) (pa_cons (pe_callB (call_reprK K rfl SK quiet hr) (by rfl) T.repr (by decide +kernel) (pa_cons (pe_meth (pv 4) M_trouble.cl M_trouble.me M_trouble.ok (hr.mono (by first | decide | omega)) M_trouble.b .nil pass0 (pa_cons (pv 8) pa_nil)) pa_nil)) (pa_cons (pe_callB (call_reprF (ED := ED) K rfl M_repr quiet hr (by decide)) (by rfl) T.repr (by decide +kernel) (pa_cons (pe_fld (pv 4) rfl) pa_nil)) (pa_cons (pe_call D_same.ok (hr.mono (by first | decide | omega)) rfl D_same.g D_same.kp D_same.b .nil pass0 (pa_cons (pv 8) (pa_cons (pv 8) pa_nil))) pa_nil)))))))
    (pss_cons (ps_for PassesOwn.never rfl (pi_list (pe_lst (pa_cons pe_non (pa_cons pe_int (pa_cons pe_bl (pa_cons pe_str (pa_cons (pe_tup pa_nil) (pa_cons pe_dnewK (pa_cons (pe_call D_thing_of.ok (hr.mono (by first | decide | omega)) rfl D_thing_of.g D_thing_of.kp D_thing_of.b .nil pass0 (pa_cons (pv 0) (pa_cons (pe_call D_form.ok (hr.mono (by first | decide | omega)) rfl D_form.g D_form.kp D_form.b .nil pass0 (pa_cons (pv 0) (pa_cons pe_int pa_nil))) pa_nil))) pa_nil))))))))) (pg_name (i := 10) sc_again.nd rfl (Or.inl rfl))
      (pss_one (ps_if (PW.pt (pw_or (pt_cmpR op_ne (pe_cmpR (op_ownIn M_has (hr.mono (by first | decide | omega))) (pv 10) (pv 4) (by with_unfolding_all rfl)) (pe_cmpR op_isN (pe_meth (pv 4) M_trouble.cl M_trouble.me M_trouble.ok (hr.mono (by first | decide | omega)) M_trouble.b .nil pass0 (pa_cons (pv 10) pa_nil)) pe_non (nomark _)) (nomark _)) (pw_or1 (pt_cmpR op_ne (pe_cmpR (op_ownIn M_has (hr.mono (by first | decide | omega))) (pv 10) (pv 4) (by with_unfolding_all rfl)) (pe_cmpR (op_ownIn M_has (hr.mono (by first | decide | omega))) (pv 10) (ClX.pe_cmeth (pe_glob (v := .ref TC) rfl RT.g rfl) RT.r RT.m (FnOk.raw RT.ok RT.b .nil) (hr.mono (by first | decide | omega)) pass0 (pa_cons (pv 3) pa_nil)) (by with_unfolding_all rfl)) (nomark _)))))
      (pss_one (ps_ret pe_bl))
      pss_nil)))
    (pss_one (ps_if (pt_cmpR (op_neF K rfl hr.units) (pv 9) (pe_lst (pa_cons (pe_cmpR (op_ownIn M_has (hr.mono (by first | decide | omega))) (pv 8) (pv 4) (by with_unfolding_all rfl)) (pa_cons (pe_callTy (call_strOwn M_str (hr.mono (by first | decide | omega))) (by rfl) T.str (by decide +kernel) (pa_cons (pv 4) pa_nil)) (pa_cons (pe_callB (call_reprK K rfl SK quiet hr) (by rfl) T.repr (by decide +kernel) (pa_cons (pe_meth (pv 4) M_trouble.cl M_trouble.me M_trouble.ok (hr.mono (by first | decide | omega)) M_trouble.b .nil pass0 (pa_cons (pv 8) pa_nil)) pa_nil)) (pa_cons (pe_callB (call_reprF (ED := ED) K rfl M_repr quiet hr (by decide)) (by rfl) T.repr (by decide +kernel) (pa_cons (pe_fld (pv 4) rfl) pa_nil)) (pa_cons (pe_call D_same.ok (hr.mono (by first | decide | omega)) rfl D_same.g D_same.kp D_same.b .nil pass0 (pa_cons (pv 8) (pa_cons (pv 8) pa_nil))) pa_nil)))))) (nomark _))
      (pss_one (ps_ret pe_bl))
      pss_nil)))))))))))
    (pss_one (ps_ret pe_bl))), ?_⟩
  refine ⟨6, rfl, by decide, by decide, ?_⟩
  refine for_it (walk_range (lo := 0) (n := 6)) (fun i σ G => (∃ o1 o2 o3 o4 o5 o6 o7 o8 o9 o10 : Option V, σ = [some (.ref p), o1, o2, o3, o4, o5, o6, o7, o8, o9, o10]) ∧ Keep p H G ∧ PoolAt G p) ⟨⟨none, none, none, none, none, none, none, none, none, none, rfl⟩, Keep.refl p H, hp⟩ (fun _ _ _ _ _ => trivial) ?_ ?_
  · rintro i x σ G G' hi ⟨⟨o1, o2, o3, o4, o5, o6, o7, o8, o9, o10, rfl⟩, k0, p0⟩ ⟨rfl, rfl⟩
    refine ⟨_, rfl, .inl ⟨p, rfl, p0, fun G1 fv fm k1 p1 df okf => ?_⟩⟩
    have dfh : Dq K (hide p G1) fv (enc fm) := Dq.same (sub_hide p0.has) _ _ df
    have dlow := Dq.same (hide_sub _ _) _ _ dfh
    obtain ⟨good, deep⟩ := good_of 2 fm okf
    have lenw : (wr (tyOf fm)).length ≤ 90000 := Nat.le_trans (len_of 2 fm okf) (by decide)
    refine ⟨_, rfl, fv, tyOf fm, 6, rfl, by decide, by rw [← enc_ty]; exact dlow, deep.up.up, by omega, fun G2 s2 => ?_⟩
    refine ⟨rfl, _, rfl, reads rfl (GoodT.upTo 2 good) (by omega) fun x1 G3 s3 t3 => ?_⟩
    have t5 : (wr (.list (tyOf fm))).length ≤ 100000 := by
      rw [← text_list, len_app, len_app]
      show 1 + (wr (tyOf fm)).length + 1 ≤ _
      omega
    have t6 : (wr (.rcd [(na, tyOf fm)])).length ≤ 100000 := by
      rw [← text_field, len_app, len_app]
      show 4 + (wr (tyOf fm)).length + 1 ≤ _
      omega
    refine ⟨rfl, _, rfl, _, _, rfl, rfl, big (by show 1 + (wr (tyOf fm)).length ≤ _; omega), _, _, rfl, rfl, big (by rw [len_app]; show 1 + (wr (tyOf fm)).length + 1 ≤ _; omega), reads (by rw [text_list]) (GoodT.upTo 1 (.list good)) t5 fun x2 G4 s4 tl => ?_⟩
    refine ⟨big (by show 2 ≤ _; decide), fun q1 hq1 => ?_⟩
    have a1 := same_new hq1 (.tup [.ref x2, .str "list"])
    have f1 : upd G4 q1 (.tup [.ref x2, .str "list"]) q1 = some (.tup [.ref x2, .str "list"]) := upd_same
    generalize upd G4 q1 (.tup [.ref x2, .str "list"]) = G5 at a1 f1 ⊢
    refine ⟨rfl, _, rfl, _, _, rfl, rfl, big (by show 4 + (wr (tyOf fm)).length ≤ _; omega), _, _, rfl, rfl, big (by rw [len_app]; show 4 + (wr (tyOf fm)).length + 1 ≤ _; omega), reads (by rw [text_field]) (GoodT.upTo 1 (field_good good)) t6 fun x3 G6 s6 tr' => ?_⟩
    refine ⟨big (by show 2 ≤ _; decide), fun q2 hq2 => ?_⟩
    have a2 := same_new hq2 (.tup [.ref x3, .str "record"])
    have f2 : upd G6 q2 (.tup [.ref x3, .str "record"]) q2 = some (.tup [.ref x3, .str "record"]) := upd_same
    generalize upd G6 q2 (.tup [.ref x3, .str "record"]) = G7 at a2 f2 ⊢
    refine ⟨big (by show 2 ≤ _; decide), fun ar har => ?_⟩
    have a3 := same_new har (.lst [.ref q1, .ref q2])
    have f3 : upd G7 ar (.lst [.ref q1, .ref q2]) ar = some (.lst [.ref q1, .ref q2]) := upd_same
    generalize upd G7 ar (.lst [.ref q1, .ref q2]) = G8 at a3 f3 ⊢
    have s68 := a2.trans a3
    have s58 := s6.trans s68
    have s48 := a1.trans s58
    have around : AroundOk TC ED G8 (.ref ar) (tyOf fm) := ⟨ar, q1, q2, x2, x3, rfl, f3, s58 _ _ f1, a3 _ _ f2, TyAt.same s48 _ _ tl, TyAt.same s68 _ _ tr'⟩
    have s18 := s2.trans (s3.trans (s4.trans s48))
    have t8 := TyAt.same (s4.trans s48) _ _ t3
    refine ⟨_, rfl, fv, fm, rfl, Dq.same s18 _ _ dlow, fun G9 l xs s9 hl few all => ⟨l, rfl, ⟨_, SqL.of hl⟩, ?_⟩⟩
    refine for_it (walk_list (K := K) (a := l) (xs := xs)) (fun k σ G => (∃ o6 o7 : Option V, σ = [some (.ref p), some (.int (0 + (i : Int))), some fv, some (.str (wr (tyOf fm))), some (.ref x1), some (.ref ar), o6, o7, o8, o9, o10]) ∧ Same G9 G) ⟨⟨o6, o7, rfl⟩, Same.refl G9⟩ (fun k σ G _ z => SqL.of (z.2 _ _ hl)) ?_ ?_
    · rintro k x σ G G' hk ⟨⟨o6, o7, rfl⟩, sA⟩ ⟨rfl, atk⟩
      obtain ⟨c, g, b, dg, db, rfl, hc, dqg, dqb, vg, vb, tg, tb⟩ := (all x (List.mem_of_getElem? atk)).same sA
      refine ⟨c, _, rfl, SqT.of hc, rfl, _, _, rfl, _, _, rfl, rfl, ?_⟩
      have s8' := s9.trans sA
      refine ⟨_, rfl, _, rfl, _, rfl, _, rfl, x1, g, b, .ref ar, dg, db, tyOf fm, rfl, deep.up.up, TyAt.same s8' _ _ t8, around.same s8', dqg, dqb, vg, vb, tg, tb, fun G2' sB => ?_⟩
      exact ⟨_, rfl, if_ff rfl ⟨⟨_, _, rfl⟩, sA.trans sB⟩⟩
    · rintro σ G ⟨⟨o6, o7, rfl⟩, sA⟩
      have s1G := s18.trans (s9.trans sA)
      have kG : Keep p G1 G := Same.keep s1G
      have pG := p1.same s1G
      have tG := TyAt.same (s9.trans sA) _ _ t8
      have okf3 := okF_up 2 fm okf
      refine ⟨_, rfl, _, rfl, p, fv, fm, rfl, pG, Dq.same kG.hide _ _ dfh, okD_of 3 fm okf3, fun H5 y d k5 p5 dy fit => ?_⟩
      have dyh : Dq K (hide p H5) y d := Dq.same (sub_hide pG.has) _ _ dy
      have dyl := Dq.same (hide_sub _ _) _ _ dyh
      have vs6 : Vs 6 d := fit_vs 3 fm d okf3 fit
      have vd6 : Vd 6 d := (fit_sm 3 fm d okf3 fit).vd (by decide)
      have none' : ∀ q, tr (tyOf fm) d q = none := fit_none fit 3 okf3
      have tH := TyAt.keep pG k5 _ _ tG
      obtain ⟨dx, vi, vf, row, tell⟩ := fields_told tH okf (by decide) nil
      refine ⟨_, rfl, _, rfl, in_type tH deep (by decide) dyl vd6 fun I1 u1 => ?_⟩
      rw [none']
      refine ⟨_, rfl, x1, dx, _, rfl, u1 _ _ row, x1, dx, _, wr (tyOf fm), rfl, u1 _ _ row, rfl, _, rfl, ?_⟩
      refine ⟨_, rfl, x1, dx, _, rfl, u1 _ _ row, rfl, _, rfl, asks_trouble (E := E0) (TyAt.same u1 _ _ tH) deep (by decide) (Dq.same u1 _ _ dyl) vd6 fun I2 w2 u2 told => ?_⟩
      rw [none'] at told
      cases told
      have shows : Shows .none := ⟨rfl, by simp [PyData.depth], big (by decide +kernel)⟩
      refine ⟨_, .none, rfl, .non, shows, ?_⟩
      have u12 := u1.trans u2
      refine ⟨_, rfl, x1, TC, dx, _, _, rfl, u12 _ _ row, C.cl, C.fields, rfl, ?_⟩
      refine tell I2 _ u12 ?_
      refine ⟨_, rfl, _, rfl, y, d, rfl, Dq.same u12 _ _ dyl, vs6, fun I3 u3 => ?_⟩
      refine ⟨big (by show 5 ≤ _; decide), fun L hL => ?_⟩
      have uL := same_new hL (.lst [.bl (id (none : Option (List PyData)).isNone), .str (wr (tyOf fm)), .str PyData.none.shown, .str (fieldsZ (tyOf fm)), .bl true])
      have fL : upd I3 L (.lst [.bl (id (none : Option (List PyData)).isNone), .str (wr (tyOf fm)), .str PyData.none.shown, .str (fieldsZ (tyOf fm)), .bl true]) L = some (.lst [.bl (id (none : Option (List PyData)).isNone), .str (wr (tyOf fm)), .str PyData.none.shown, .str (fieldsZ (tyOf fm)), .bl true]) := upd_same
      have Lp : L ≠ p := fun e => by
        obtain ⟨_, _, _, hu, _⟩ := p5.same (u12.trans u3)
        rw [e, hu] at hL
        cases hL
      generalize upd I3 L (.lst [.bl (id (none : Option (List PyData)).isNone), .str (wr (tyOf fm)), .str PyData.none.shown, .str (fieldsZ (tyOf fm)), .bl true]) = H6 at uL fL ⊢
      have s56 : Same H5 H6 := u12.trans (u3.trans uL)
      have p6 := p5.same s56
      have k56 : Keep p H5 H6 := Same.keep s56
      clear u1 u2 u3 u12 uL hL
      refine ⟨big (by show 0 ≤ _; decide), fun e1 he1 => ?_⟩
      have m1 := same_new he1 (.tup [])
      have g1 : Dq K (hide p (upd H6 e1 (.tup []))) (.ref e1) (.tuple []) := .tup (hide_new p6.has he1) .nil
      generalize upd H6 e1 (.tup []) = Z1 at m1 g1 ⊢
      have pz1 := p6.same m1
      intro e2 he2
      have m2 := same_new he2 (.dK [])
      have g2 : Dq K (hide p (upd Z1 e2 (.dK []))) (.ref e2) (.dict []) := .dct (hide_new pz1.has he2) .nil
      generalize upd Z1 e2 (.dK []) = Z2 at m2 g2 ⊢
      have pz2 := pz1.same m2
      have g1' := Dq.same (Same.keep (p := p) m2).hide _ _ g1
      refine ⟨_, rfl, _, rfl, .inl ⟨p, rfl, pz2, fun Z3 v2 fm2 k3 p3 df2 okf2 => ?_⟩⟩
      refine ⟨p, v2, fm2, rfl, p3, Dq.same (sub_hide pz2.has) _ _ df2, okD_of 3 fm2 (okF_up 2 fm2 okf2), fun Z4 y2 d2 k4 p4 dy2 fit2 => ?_⟩
      have g4 : Dq K (hide p Z4) y2 d2 := Dq.same (sub_hide p3.has) _ _ dy2
      have vd2 : Vd 6 d2 := (fit_sm 3 fm2 d2 (okF_up 2 fm2 okf2) fit2).vd (by decide)
      have k24 := k3.trans k4
      have k64 : Keep p H6 Z4 := (Same.keep (m1.trans m2)).trans k24
      refine ⟨big (by show 7 ≤ _; decide), fun L2 hL2 => ?_⟩
      have sL2 := same_new hL2 (.lst [.non, .int 1, .bl true, .str "", .ref e1, .ref e2, y2])
      have fL2 : upd Z4 L2 (.lst [.non, .int 1, .bl true, .str "", .ref e1, .ref e2, y2]) L2 = some (.lst [.non, .int 1, .bl true, .str "", .ref e1, .ref e2, y2]) := upd_same
      generalize upd Z4 L2 (.lst [.non, .int 1, .bl true, .str "", .ref e1, .ref e2, y2]) = Z5 at sL2 fL2 ⊢
      have low5 : Same (hide p Z4) Z5 := Same.trans (hide_sub _ _) sL2
      have each : ∀ z ∈ [V.non, .int 1, .bl true, .str "", .ref e1, .ref e2, y2], ∃ e, Dq K Z5 z e ∧ Vd 8 e := fun z m => by
        simp only [List.mem_cons, List.not_mem_nil, or_false] at m
        rcases m with rfl | rfl | rfl | rfl | rfl | rfl | rfl
        · exact ⟨.none, .non, by simp [Vd]⟩
        · exact ⟨.int 1, .int 1, by simp only [Vd]; decide⟩
        · exact ⟨.bool true, .bl true, by simp [Vd]⟩
        · exact ⟨.str "", .str "", by simp only [Vd]; exact ⟨by decide, fun c m => by cases m⟩⟩
        · exact ⟨.tuple [], Dq.same (k24.hide.trans low5) _ _ g1', by simp only [Vd]; exact ⟨by decide, fun x m => by cases m⟩⟩
        · exact ⟨.dict [], Dq.same (k24.hide.trans low5) _ _ g2, by simp only [Vd]; exact ⟨⟨by decide, .nil, fun kv m => by cases m⟩, fun kv m => by cases m⟩⟩
        · exact ⟨d2, Dq.same low5 _ _ g4, (vd2.ups 2)⟩
      have k65 : Keep p H6 Z5 := k64.trans (Same.keep sL2)
      have k55 : Keep p H5 Z5 := k56.trans k65
      have p55 := p4.same sL2
      have t55 := TyAt.keep p5 k55 _ _ tH
      have fL5 : Z5 L = some (.lst [.bl (id (none : Option (List PyData)).isNone), .str (wr (tyOf fm)), .str PyData.none.shown, .str (fieldsZ (tyOf fm)), .bl true]) := k65 _ _ Lp fL
      have dy5 : Dq K Z5 y d := Dq.same (k55.hide.trans (hide_sub _ _)) _ _ dyh
      obtain ⟨dx5, vi5, vf5, row5, tell5⟩ := fields_told t55 okf (by decide) nil
      refine ⟨L2, rfl, ⟨_, SqL.of fL2⟩, ?_⟩
      refine for_it (walk_list (K := K) (a := L2) (xs := [V.non, .int 1, .bl true, .str "", .ref e1, .ref e2, y2])) (fun k σ G => (∃ oz : Option V, σ = [some (.ref p), some (.int (0 + (i : Int))), some fv, some (.str (wr (tyOf fm))), some (.ref x1), some (.ref ar), o6, o7, some y, some (.ref L), oz]) ∧ Same Z5 G) ⟨⟨o10, rfl⟩, Same.refl Z5⟩ (fun k σ G _ z => SqL.of (z.2 _ _ fL2)) ?_ ?_
      · rintro k z σ G G' hk ⟨⟨oz, rfl⟩, sG⟩ ⟨rfl, atk⟩
        obtain ⟨e, dz, vz⟩ := each z (List.mem_of_getElem? atk)
        have tz := TyAt.same sG _ _ t55
        have dz1 := Dq.same sG _ _ dz
        refine ⟨_, rfl, _, rfl, in_type tz deep (by decide) dz1 vz fun W1 w1 => ?_⟩
        refine ⟨_, rfl, x1, dx5, _, rfl, w1 _ _ (sG _ _ row5), rfl, _, rfl, asks_trouble (E := E0) (TyAt.same w1 _ _ tz) deep (by decide) (Dq.same w1 _ _ dz1) vz fun W2 r2 w2 told => ?_⟩
        have told' : decide (r2 = V.non) = (tr (tyOf fm) e []).isNone := by
          generalize tr (tyOf fm) e [] = o at told
          cases told with
          | none => exact decide_eq_true rfl
          | some dq =>
            cases dq with
            | tup _ _ => exact decide_eq_false fun z => nomatch z
        refine ⟨rfl, ?_⟩
        rw [told']
        refine ⟨rfl, _, rfl, if_ff (by rw [id, decide_eq_true rfl]; rfl) ?_⟩
        have w12 := w1.trans w2
        refine ⟨_, rfl, _, rfl, in_type (TyAt.same w12 _ _ tz) deep (by decide) (Dq.same w12 _ _ dz1) vz fun W3 w3 => ?_⟩
        have w13 := w12.trans w3
        refine ⟨_, rfl, rfl, _, rfl, reads rfl (GoodT.upTo 2 good) (by omega) fun x9 W4 w4 t9 => ?_⟩
        refine in_type t9 deep (by decide) (Dq.same (w13.trans w4) _ _ dz1) vz fun W5 w5 => ?_
        refine ⟨rfl, _, rfl, if_ff (by rw [decide_eq_true rfl]; rfl) ?_⟩
        exact ⟨⟨_, rfl⟩, sG.trans (w13.trans (w4.trans w5))⟩
      · rintro σ G ⟨⟨oz, rfl⟩, sG⟩
        have tz := TyAt.same sG _ _ t55
        have dz1 := Dq.same sG _ _ dy5
        refine ⟨_, rfl, _, rfl, _, rfl, in_type tz deep (by decide) dz1 vd6 fun I1 u1 => ?_⟩
        rw [none']
        refine ⟨_, rfl, x1, dx5, _, rfl, u1 _ _ (sG _ _ row5), x1, dx5, _, wr (tyOf fm), rfl, u1 _ _ (sG _ _ row5), rfl, _, rfl, ?_⟩
        refine ⟨_, rfl, x1, dx5, _, rfl, u1 _ _ (sG _ _ row5), rfl, _, rfl, asks_trouble (E := E0) (TyAt.same u1 _ _ tz) deep (by decide) (Dq.same u1 _ _ dz1) vd6 fun I2 w2 u2 told => ?_⟩
        rw [none'] at told
        cases told
        refine ⟨_, .none, rfl, .non, shows, ?_⟩
        have u12 := u1.trans u2
        refine ⟨_, rfl, x1, TC, dx5, _, _, rfl, u12 _ _ (sG _ _ row5), C.cl, C.fields, rfl, ?_⟩
        refine tell5 I2 _ (sG.trans u12) ?_
        refine ⟨_, rfl, _, rfl, y, d, rfl, Dq.same u12 _ _ dz1, vs6, fun I3 u3 => ?_⟩
        refine ⟨big (by show 5 ≤ _; decide), fun L3 hL3 => ?_⟩
        have uL3 := same_new hL3 (.lst [.bl (id (none : Option (List PyData)).isNone), .str (wr (tyOf fm)), .str PyData.none.shown, .str (fieldsZ (tyOf fm)), .bl true])
        have u13 := u12.trans (u3.trans uL3)
        refine ⟨L, L3, _, rfl, rfl, SqL.of (u13 _ _ (sG _ _ fL5)), SqL.of upd_same, fun v m => ?_, _, rfl, if_ff rfl ?_⟩
        · simp only [List.mem_cons, List.not_mem_nil, or_false] at m
          rcases m with rfl | rfl | rfl | rfl | rfl <;> rfl
        · have sE := sG.trans u13
          exact ⟨⟨_, _, _, _, _, _, _, _, _, _, rfl⟩, k0.trans (k1.trans (kG.trans (k5.trans (k55.trans (Same.keep sE))))), p55.same sE⟩
  · rintro σ G ⟨_, k0, p0⟩
    exact q G k0
end
end KX

namespace KX
open PySem PySem.Spec L2 PyProof.Rows
/-! ### a dict with keys of unlike kinds: None, an empty tuple, ints, texts -/
section
variable {prog : Program} {w : World} {A : Around} {Er : Value → Shared → Prop} {s : Shared} {d : Addr} {o : Obj} {es : Array DictEntry} {ep : Nat}
/-- a loop that finds nothing -/
theorem loop_stays {α : Type} {σ : Type} {M : Model} {body : α → σ → Sem (ForInStep σ)} {b : σ} {T : σ → Shared → Prop} : ∀ {l : List α}, (∀ x ∈ l, ∀ {R : ForInStep σ → Shared → Prop}, R (.yield b) s → wpAny M A (body x b) R Er s) → T b s → wpAny M A (forIn l b body) T Er s
  | [], _, t => by
    rw [List.forIn_nil]
    exact wpAny_pure t
  | x :: l, h, t => by
    rw [List.forIn_cons]
    exact wpAny_bind (h x List.mem_cons_self (loop_stays (fun y m => h y (List.mem_cons_of_mem _ m)) t))
/-- a key that is not there -/
theorem find_new {key : Value} {hsh : Int} {Q : Option Nat → Shared → Prop} (kinds : key = .none ∨ (∃ i t, key = .int i t) ∨ (∃ z t, key = .str z t) ∨ ∃ a, key = .ref a) (at' : s.heap.get? d = some o) (data : o.data = .dict es ep) (apart : ∀ e ∈ es, (e.key == key) = false) (text : ∀ z t, key = .str z t → es.findIdx? (·.key.isStr z) = none)
    (quiet : ∀ v, (v = key ∨ ∃ e ∈ es, v = e.key) → ∀ {T : Bool → Shared → Prop}, T true s → wpAny (model prog w) A (eqIsQuiet 8 v) T Er s) (unlike : ∀ e ∈ es, ∀ {T : Bool → Shared → Prop}, T false s → wpAny (model prog w) A (eqBool e.key key) T Er s) (q : Q none s) : wpAny (model prog w) A (dictFind d key hsh) Q Er s := by
  have kept : ∀ v ∈ (placesWithHash es.size (fun i => es[i]?.map (·.hash)) hsh).filterMap (fun i => es[i]?.map (·.key)), ∃ e ∈ es, v = e.key := by
    intro v hv
    obtain ⟨i, _, found⟩ := List.mem_filterMap.mp hv
    obtain ⟨e, he, rfl⟩ := Option.map_eq_some_iff.mp found
    exact ⟨e, Array.mem_of_getElem? he, rfl⟩
  have look : ∀ (i : Nat) (e : DictEntry), es[i]? = some e → e ∈ es := fun i e h => Array.mem_of_getElem? h
  have silent : ∀ {stored : List Value}, (∀ v ∈ stored, ∃ e ∈ es, v = e.key) → ∀ {T : Bool → Shared → Prop}, T false s → wpAny (model prog w) A (tableMayTell key stored) T Er s := by
    intro stored h T t
    unfold tableMayTell
    split
    · exact wpAny_pure t
    · refine wpAny_bind (quiet key (.inl rfl) ?_)
      rw [Bool.not_true, if_neg Bool.false_ne_true]
      refine wpAny_bind (loop_stays (fun v m R r => ?_) ?_)
      · refine wpAny_bind (quiet v (.inr (h v m)) ?_)
        rw [Bool.not_true, if_neg Bool.false_ne_true]
        exact wpAny_pure r
      · exact wpAny_pure t
  unfold dictFind
  refine wpAny_holding ?_
  refine wpAny_bind (wpAny_dictEntries at' data ?_)
  dsimp only
  have epoch : ∀ {T : Nat → Shared → Prop}, T ep s → wpAny (model prog w) A (dictEpoch d (keyPart key)) T Er s := fun t => wpAny_dictEpoch at' data t
  have plain : wpAny (model prog w) A (dictWalkPlain d key hsh es (placesWithHash es.size (fun i => es[i]?.map (·.hash)) hsh)) Q Er s := by
    unfold dictWalkPlain
    refine wpAny_bind (loop_stays (fun i m R r => ?_) (wpAny_pure q))
    cases he : es[i]? with
    | none => exact wpAny_pure r
    | some e =>
      dsimp only
      split
      · refine wpAny_bind (epoch (wpAny_bind (unlike e (look i e he) (wpAny_bind (epoch ?_)))))
        rw [bne_self_eq_false, if_neg Bool.false_ne_true, if_neg Bool.false_ne_true]
        exact wpAny_bind (wpAny_rule (wpAny_pure r))
      · exact wpAny_pure r
  have none_same : (es.any fun e => e.key == key && e.hash != hsh) = false := by
    rw [Array.any_eq_false]
    intro i hi
    rw [apart _ (Array.getElem_mem hi)]
    exact Bool.false_ne_true
  rw [none_same]
  obtain ⟨places, hp⟩ : ∃ p, p = placesWithHash es.size (fun i => es[i]?.map (·.hash)) hsh := ⟨_, rfl⟩
  rw [← hp] at kept plain ⊢
  clear hp
  obtain ⟨stored, hs⟩ : ∃ p, p = places.filterMap (fun i => es[i]?.map (·.key)) := ⟨_, rfl⟩
  rw [← hs] at kept ⊢
  clear hs
  by_cases byv : ((key :: stored).all carriedByValue) = true
  · have after : wpAny (model prog w) A (if ((key :: stored).all carriedByValue) = true then dictWalkPlain d key hsh es places else pure none) Q Er s := by
      rw [if_pos byv]
      exact plain
    rw [if_pos byv]
    cases key
    case str z t =>
      dsimp only
      by_cases all : (es.all fun e => isExactStrKey e.key) = true
      · rw [if_pos all]
        unfold foundByValue
        rw [text z t rfl]
        exact wpAny_pure q
      · rw [if_neg all]
        exact plain
    all_goals exact plain
  · rw [if_neg byv]
    have body : ∀ (tells : Bool) (i : Nat) (e : DictEntry), es[i]? = some e → ∀ {R : ForInStep (Option (Option Nat) × Option Nat) → Shared → Prop} {hit : Bool → Sem (ForInStep (Option (Option Nat) × Option Nat))}, wpAny (model prog w) A (hit false) R Er s → wpAny (model prog w) A (do let before ← dictEpoch d (keyPart key); let same ← eqBool e.key key; if (← dictEpoch d (keyPart key)) != before then (do unsupported "dict.changed-during-lookup"; hit same) else hit same) R Er s := by
      intro tells i e he R hit r
      refine wpAny_bind (epoch (wpAny_bind (unlike e (look i e he) (wpAny_bind (epoch ?_)))))
      rw [bne_self_eq_false, if_neg Bool.false_ne_true]
      exact r
    rcases kinds with rfl | ⟨i, t, rfl⟩ | ⟨z, t, rfl⟩ | ⟨a, rfl⟩
    · dsimp only
      have done' : ∀ {m : Sem Bool} {k : Bool → Sem (Option Nat)}, wpAny (model prog w) A m (fun b s' => b = false ∧ s' = s) Er s → wpAny (model prog w) A (k false) Q Er s → wpAny (model prog w) A (m >>= k) Q Er s := fun hm hk => wpAny_bind (wpAny_mono hm (fun b s' ⟨e1, e2⟩ => by rw [e1, e2]; exact hk) fun _ _ e => e)
      by_cases lone : (stored == [Value.none]) = true
      all_goals first | rw [if_pos lone] | rw [if_neg lone]
      all_goals refine done' (by first | exact wpAny_pure ⟨rfl, rfl⟩ | exact silent kept ⟨rfl, rfl⟩) ?_
      all_goals rw [Bool.false_and, if_neg Bool.false_ne_true]
      all_goals refine wpAny_bind (loop_stays (fun i m R r => ?_) (wpAny_pure q))
      all_goals
        dsimp only
        cases he : es[i]? with
        | none => exact wpAny_pure r
        | some e =>
          dsimp only
          by_cases hh : (e.hash == hsh) = true
          · rw [if_pos hh]
            refine body false i e he ?_
            rw [if_neg Bool.false_ne_true]; refine wpAny_bind (wpAny_rule ?_)
            rw [Bool.false_and, if_neg Bool.false_ne_true]
            exact wpAny_pure r
          · rw [if_neg hh]
            exact wpAny_pure r
    · dsimp only
      have done' : ∀ {m : Sem Bool} {k : Bool → Sem (Option Nat)}, wpAny (model prog w) A m (fun b s' => b = false ∧ s' = s) Er s → wpAny (model prog w) A (k false) Q Er s → wpAny (model prog w) A (m >>= k) Q Er s := fun hm hk => wpAny_bind (wpAny_mono hm (fun b s' ⟨e1, e2⟩ => by rw [e1, e2]; exact hk) fun _ _ e => e)
      by_cases lone : (stored == [(Value.int i t)]) = true
      all_goals first | rw [if_pos lone] | rw [if_neg lone]
      all_goals refine done' (by first | exact wpAny_pure ⟨rfl, rfl⟩ | exact silent kept ⟨rfl, rfl⟩) ?_
      all_goals rw [Bool.false_and, if_neg Bool.false_ne_true]
      all_goals refine wpAny_bind (loop_stays (fun i m R r => ?_) (wpAny_pure q))
      all_goals
        dsimp only
        cases he : es[i]? with
        | none => exact wpAny_pure r
        | some e =>
          dsimp only
          by_cases hh : (e.hash == hsh) = true
          · rw [if_pos hh]
            refine body false i e he ?_
            rw [if_neg Bool.false_ne_true]; refine wpAny_bind (wpAny_rule ?_)
            rw [Bool.false_and, if_neg Bool.false_ne_true]
            exact wpAny_pure r
          · rw [if_neg hh]
            exact wpAny_pure r
    · dsimp only
      by_cases all : (es.all fun e => isExactStrKey e.key) = true
      · rw [if_pos all]
        unfold foundByValue
        rw [text z t rfl]
        exact wpAny_pure q
      · rw [if_neg all]
        have done' : ∀ {m : Sem Bool} {k : Bool → Sem (Option Nat)}, wpAny (model prog w) A m (fun b s' => b = false ∧ s' = s) Er s → wpAny (model prog w) A (k false) Q Er s → wpAny (model prog w) A (m >>= k) Q Er s := fun hm hk => wpAny_bind (wpAny_mono hm (fun b s' ⟨e1, e2⟩ => by rw [e1, e2]; exact hk) fun _ _ e => e)
        by_cases lone : (stored == [(Value.str z t)]) = true
        all_goals first | rw [if_pos lone] | rw [if_neg lone]
        all_goals refine done' (by first | exact wpAny_pure ⟨rfl, rfl⟩ | exact silent kept ⟨rfl, rfl⟩) ?_
        all_goals rw [Bool.false_and, if_neg Bool.false_ne_true]
        all_goals refine wpAny_bind (loop_stays (fun i m R r => ?_) (wpAny_pure q))
        all_goals
          dsimp only
          cases he : es[i]? with
          | none => exact wpAny_pure r
          | some e =>
            dsimp only
            by_cases hh : (e.hash == hsh) = true
            · rw [if_pos hh]
              refine body false i e he ?_
              rw [if_neg Bool.false_ne_true]; refine wpAny_bind (wpAny_rule ?_)
              rw [Bool.false_and, if_neg Bool.false_ne_true]
              exact wpAny_pure r
            · rw [if_neg hh]
              exact wpAny_pure r
    · dsimp only
      first | rw [none_same, if_neg Bool.false_ne_true] | rw [if_neg Bool.false_ne_true]
      have done' : ∀ {m : Sem Bool} {k : Bool → Sem (Option Nat)}, wpAny (model prog w) A m (fun b s' => b = false ∧ s' = s) Er s → wpAny (model prog w) A (k false) Q Er s → wpAny (model prog w) A (m >>= k) Q Er s := fun hm hk => wpAny_bind (wpAny_mono hm (fun b s' ⟨e1, e2⟩ => by rw [e1, e2]; exact hk) fun _ _ e => e)
      by_cases lone : (stored == [(Value.ref a)]) = true
      all_goals first | rw [if_pos lone] | rw [if_neg lone]
      all_goals refine done' (by first | exact wpAny_pure ⟨rfl, rfl⟩ | exact silent kept ⟨rfl, rfl⟩) ?_
      all_goals rw [Bool.false_and, if_neg Bool.false_ne_true]
      all_goals refine wpAny_bind (loop_stays (fun i m R r => ?_) (wpAny_pure q))
      all_goals
        dsimp only
        cases he : es[i]? with
        | none => exact wpAny_pure r
        | some e =>
          dsimp only
          by_cases hh : (e.hash == hsh) = true
          · rw [if_pos hh]
            refine body false i e he ?_
            rw [if_neg Bool.false_ne_true]; refine wpAny_bind (wpAny_rule ?_)
            rw [Bool.false_and, if_neg Bool.false_ne_true]
            exact wpAny_pure r
          · rw [if_neg hh]
            exact wpAny_pure r
/-- a key: None, an int or a text; or an empty tuple -/
def KeyAt (h : Heap) (d : Addr) : Option (Option Key) → Value → Prop
  | some k, v => nkIs k v = true
  | none, v => ∃ a, v = .ref a ∧ a ≠ d ∧ h.IsTuple a #[]
theorem not_ref {k : Option Key} {a : Addr} (h : nkIs k (.ref a) = true) : False := by
  cases k with
  | none => exact nomatch nk_none h
  | some k => rcases keyIs_shape h with ⟨_, _, _, e⟩ | ⟨_, _, _, e⟩ <;> cases e
theorem key_one (prog : Program) (w : World) {h : Heap} {v : Value} {j k : Option (Option Key)} (a : KeyAt h d j v) (b : KeyAt h d k v) : j = k := by
  cases j with
  | none =>
    cases k with
    | none => rfl
    | some k =>
      obtain ⟨x, rfl, _⟩ := a
      exact (not_ref b).elim
  | some j =>
    cases k with
    | none =>
      obtain ⟨x, rfl, _⟩ := b
      exact (not_ref a).elim
    | some k => exact congrArg some ((noneKind prog w).inj v j k a b)
theorem key_kinds {h : Heap} {v : Value} {k : Option (Option Key)} (a : KeyAt h d k v) : v = .none ∨ (∃ i t, v = .int i t) ∨ (∃ z t, v = .str z t) ∨ ∃ a, v = .ref a := by
  match k, a with
  | none, ⟨x, e, _⟩ => exact .inr (.inr (.inr ⟨x, e⟩))
  | some none, a => exact .inl (nk_none a)
  | some (some k), a =>
    rcases keyIs_shape a with ⟨i, t, _, e⟩ | ⟨z, t, _, e⟩
    · exact .inr (.inl ⟨i, t, e⟩)
    · exact .inr (.inr (.inl ⟨z, t, e⟩))
theorem empty_key {h : Heap} {a : Addr} (t : h.IsTuple a #[]) : IsTupleKey (noneKind prog w) h [] a := by
  obtain ⟨o, ho, hc, n, hd⟩ := t
  exact ⟨o, #[], n, ho, hc, hd, by first | exact trivial | exact .nil | simp [ItemsAre]⟩
theorem key_hash {v : Value} {k : Option (Option Key)} (hu : A.units < cLine) (a : KeyAt s.heap d k v) : ∃ (hs : Int) (n : Nat), ∀ {T : Int → Shared → Prop}, T hs { s with toks := s.toks + n } → wpAny (model prog w) A (pyHash v) T Er s := by
  cases k with
  | none =>
    obtain ⟨x, rfl, _, t⟩ := a
    exact ⟨_, _, fun {T} h => wpAny_pyHash_tuple (knd := noneKind prog w) hu (empty_key t) h⟩
  | some k => exact ⟨_, _, fun {T} h => (noneKind prog w).pyHash (k := k) a h⟩
theorem key_quiet {v : Value} {k : Option (Option Key)} (a : KeyAt s.heap d k v) {T : Bool → Shared → Prop} (t : T true s) : wpAny (model prog w) A (eqIsQuiet 8 v) T Er s := by
  cases k with
  | none =>
    obtain ⟨x, rfl, _, h⟩ := a
    exact wpAny_eqIsQuiet_tuple (knd := noneKind prog w) (empty_key h) t
  | some k =>
    rw [eqIsQuiet_byValue 8 ((noneKind prog w).byValue k v a)]
    exact wpAny_pure t
theorem key_unlike {u v : Value} {j k : Option (Option Key)} (hu : A.units < cLine) (a : KeyAt s.heap d j u) (b : KeyAt s.heap d k v) (ne : j ≠ k) {T : Bool → Shared → Prop} (t : T false s) : wpAny (model prog w) A (eqBool u v) T Er s := by
  cases j with
  | none =>
    obtain ⟨x, rfl, _, hx⟩ := a
    cases k with
    | none => exact absurd rfl ne
    | some k =>
      cases k with
      | none =>
        obtain rfl := nk_none b
        exact SeqAt.EqAt.tuple_none hx hu prog w Er T t
      | some k =>
        rcases keyIs_shape b with ⟨i, tk, _, rfl⟩ | ⟨z, tk, _, rfl⟩
        · exact SeqAt.EqAt.tuple_int i tk hx hu prog w Er T t
        · exact SeqAt.EqAt.tuple_str z tk hx hu prog w Er T t
  | some j =>
    cases k with
    | none =>
      obtain ⟨x, rfl, _, hx⟩ := b
      cases j with
      | none =>
        obtain rfl := nk_none a
        exact SeqAt.EqAt.none_tuple hx hu prog w Er T t
      | some k =>
        rcases keyIs_shape a with ⟨i, tk, _, rfl⟩ | ⟨z, tk, _, rfl⟩
        · exact SeqAt.EqAt.int_tuple i tk hx hu prog w Er T t
        · exact SeqAt.EqAt.str_tuple z tk hx hu prog w Er T t
    | some k =>
      refine (noneKind prog w).eqBool (a := j) (b := k) a b ?_
      rw [decide_eq_false fun e => ne (congrArg some e)]
      exact t
theorem KeyAt.kept {h h' : Heap} {v : Value} {k : Option (Option Key)} (a : KeyAt h d k v) (same : Heap.SameBut d h h') : KeyAt h' d k v := by
  cases k with
  | none =>
    obtain ⟨x, e, ne, o, ho, r⟩ := a
    exact ⟨x, e, ne, o, (same.2 x ne).trans ho, r⟩
  | some k => exact a
/-- d[key] = v, the key not there yet -/
theorem raw_set {k : Option (Option Key)} {ks : List (Option (Option Key))} {key v : Value} {Q : Unit → Shared → Prop} (hu : A.units < cLine) (at' : s.heap.get? d = some o) (exact' : o.ExactDict) (data : o.data = .dict es ep) (olds : ∀ e ∈ es, ∃ j ∈ ks, KeyAt s.heap d j e.key) (hk : KeyAt s.heap d k key) (new : k ∉ ks) (few : es.size ≤ 100)
    (q : ∀ h' n o' es' ep', h'.get? d = some o' → o'.ExactDict → o'.data = .dict es' ep' → es'.toList.map (·.key) = es.toList.map (·.key) ++ [key] → Heap.SameBut d s.heap h' → Q () { s with heap := h', toks := s.toks + n }) : wpAny (model prog w) A (dictSet d key v) Q Er s := by
  obtain ⟨hs, n, hashed⟩ := key_hash (prog := prog) (w := w) (Er := Er) hu hk
  unfold dictSet
  refine wpAny_holding (wpAny_bind (hashed ?_))
  unfold dictSetHashed
  refine wpAny_holding (wpAny_bind (find_new (s := { s with toks := s.toks + n }) (key_kinds hk) at' data (fun e m => ?_) (fun z t e => ?_) (fun u m T t => ?_) (fun e m T t => ?_) ?_))
  · obtain ⟨j, mj, kj⟩ := olds e m
    cases c : e.key == key with
    | false => rfl
    | true =>
      rw [eq_of_beq c] at kj
      exact absurd ((key_one prog w kj hk) ▸ mj) new
  · rw [Array.findIdx?_eq_none_iff]
    intro e' m
    obtain ⟨j, mj, kj⟩ := olds e' m
    cases c : e'.key.isStr z with
    | false => rfl
    | true =>
      rw [e] at hk
      cases j with
      | none =>
        obtain ⟨x, ex, _⟩ := kj
        rw [ex] at c
        cases c
      | some j =>
        cases k with
        | none =>
          obtain ⟨x, ex, _⟩ := hk
          cases ex
        | some k =>
          have same : nkIs k e'.key = e'.key.isStr z := (noneKind prog w).«strs» k z t e'.key hk
          rw [c] at same
          exact absurd (congrArg some ((noneKind prog w).inj e'.key j k kj same) ▸ mj) new
  · rcases m with rfl | ⟨e, me, rfl⟩
    · exact key_quiet (s := { s with toks := s.toks + n }) hk t
    · obtain ⟨j, _, kj⟩ := olds e me
      exact key_quiet (s := { s with toks := s.toks + n }) kj t
  · obtain ⟨j, mj, kj⟩ := olds e m
    exact key_unlike (s := { s with toks := s.toks + n }) hu kj hk (fun z => new (z ▸ mj)) t
  · refine wpAny_bind (wpAny_rule (wpAny_updateDictKeys (hz := by rw [sizeLine_eq]; omega) (s := { s with toks := s.toks + n }) at' data ?_))
    exact q _ n _ _ _ (Heap.get?_update_self _ at' (Obj.isFreed_of_dict (Obj.data_mapDictKeys data _))) (exact'.mapDictKeys _) (Obj.data_mapDictKeys data _) (by simp) (Heap.SameBut.update ..)
inductive KeysAll (h : Heap) (d : Addr) : List (Option (Option Key)) → List (Value × Value) → Prop
  | nil : KeysAll h d [] []
  | cons {j : Option (Option Key)} {u v : Value} {js : List (Option (Option Key))} {vs : List (Value × Value)} : KeyAt h d j u → KeysAll h d js vs → KeysAll h d (j :: js) ((u, v) :: vs)
theorem KeysAll.kept {h h' : Heap} (same : Heap.SameBut d h h') : ∀ {js : List (Option (Option Key))} {vs : List (Value × Value)}, KeysAll h d js vs → KeysAll h' d js vs
  | _, _, .nil => .nil
  | _, _, .cons a r => .cons (a.kept same) (r.kept same)
/-- all pairs, one behind the other -/
theorem raw_all (hu : A.units < cLine) : ∀ (vs : List (Value × Value)) (js ks : List (Option (Option Key))) (es : Array DictEntry) (ep : Nat) (o : Obj) (s : Shared) (Q : PUnit → Shared → Prop), s.heap.get? d = some o → o.ExactDict → o.data = .dict es ep → (∀ e ∈ es, ∃ j ∈ ks, KeyAt s.heap d j e.key) → KeysAll s.heap d js vs → (ks ++ js).Nodup → es.size + vs.length ≤ 100 →
    (∀ h' n o' es' ep', h'.get? d = some o' → o'.ExactDict → o'.data = .dict es' ep' → es'.toList.map (·.key) = es.toList.map (·.key) ++ vs.map (·.1) → Heap.SameBut d s.heap h' → Q PUnit.unit { s with heap := h', toks := s.toks + n }) →
    wpAny (model prog w) A (forIn vs PUnit.unit fun (x : Value × Value) (_ : PUnit) => (do dictSet d x.1 x.2; pure (ForInStep.yield PUnit.unit) : Sem (ForInStep PUnit))) Q Er s
  | [], js, ks, es, ep, o, s, Q, at', exact', data, olds, all, nd, few, q => by
    rw [List.forIn_nil]
    exact wpAny_pure (q s.heap 0 o es ep at' exact' data (by simp) (Heap.SameBut.refl _ _))
  | (key, v) :: vs, [], ks, es, ep, o, s, Q, at', exact', data, olds, all, nd, few, q => nomatch all
  | (key, v) :: vs, j :: js, ks, es, ep, o, s, Q, at', exact', data, olds, .cons one more, nd, few, q => by
    have nd' : (ks ++ [j] ++ js).Nodup := by
      rw [List.append_assoc]
      exact nd
    have new : j ∉ ks := fun m => by
      rw [List.nodup_append] at nd
      exact nd.2.2 j m j List.mem_cons_self rfl
    rw [List.length_cons] at few
    rw [List.forIn_cons]
    refine wpAny_bind (wpAny_bind (raw_set hu at' exact' data olds one new (by omega) fun h1 n o1 es1 ep1 at1 ex1 d1 keys1 same1 => wpAny_pure ?_))
    have size1 : es1.size = es.size + 1 := by
      have := congrArg List.length keys1
      simpa using this
    refine raw_all hu vs js (ks ++ [j]) es1 ep1 o1 { s with heap := h1, toks := s.toks + n } Q at1 ex1 d1 (fun e m => ?_) (more.kept same1) nd' (by omega) fun h2 n2 o2 es2 ep2 at2 ex2 d2 keys2 same2 => ?_
    · have mk : e.key ∈ es1.toList.map (·.key) := List.mem_map.mpr ⟨e, Array.mem_toList_iff.mpr m, rfl⟩
      rw [keys1] at mk
      rcases List.mem_append.mp mk with mk | mk
      · obtain ⟨e0, m0, ek⟩ := List.mem_map.mp mk
        obtain ⟨i, mi, ki⟩ := olds e0 (Array.mem_toList_iff.mp m0)
        rw [ek] at ki
        exact ⟨i, List.mem_append_left _ mi, ki.kept same1⟩
      · rw [List.mem_singleton.mp mk]
        exact ⟨j, by simp, one.kept same1⟩
    · have := q h2 (n + n2) o2 es2 ep2 at2 ex2 d2 (by rw [keys2, keys1]; simp) (same1.trans same2)
      rw [← Nat.add_assoc] at this
      exact this
end
/-- the dict at a, by its keys -/
def RawD (a : Addr) (ks : List V) : HO := .ext fun h => (a == sysModules) = false ∧ ∃ (o : Obj) (es : Array DictEntry) (ep : Nat), h.get? a = some o ∧ o.ExactDict ∧ o.data = .dict es ep ∧ Vals ks (es.toList.map (·.key))
theorem raw_laid {P : Program} {w : World} {H : Hp} {h : Heap} {a : Addr} {ks : List V} (apart : (a == sysModules) = false) (d : ∃ (o : Obj) (es : Array DictEntry) (ep : Nat), h.get? a = some o ∧ o.ExactDict ∧ o.data = .dict es ep ∧ Vals ks (es.toList.map (·.key))) : ObjOk P w H h a (RawD a ks) := by
  refine ⟨⟨apart, d⟩, d.imp fun o t => t.choose_spec.choose_spec.1, ?_⟩
  rintro g g' ⟨z, o, es, ep, at', rest⟩ same
  exact ⟨z, o, es, ep, same o at', rest⟩
/-- what a key is, by its kind -/
def keyVs (H : Hp) : Option (Option Key) → V → Prop
  | some none, v => v = .non
  | some (some k), v => v = kV k
  | none, v => ∃ t, v = .ref t ∧ H t = some (.tup [])
inductive KeysV (H : Hp) : List (Option (Option Key)) → List (V × V) → Prop
  | nil : KeysV H [] []
  | cons {j : Option (Option Key)} {v x : V} {js : List (Option (Option Key))} {ps : List (V × V)} : keyVs H j v → KeysV H js ps → KeysV H (j :: js) ((v, x) :: ps)
section
variable {X : Cx}
/-- {k: v, ..}, keys of unlike kinds -/
def tDispR (trs : List (TE × TE)) : TE := fun σ H Q => ∀ a, H a = none → tPairs trs σ (upd H a (.dK [])) fun ps G => G a = some (.dK []) ∧ ∃ js, KeysV G js ps ∧ js.Nodup ∧ Q (.ref a) (upd G a (RawD a (ps.map (·.1))))
theorem keys_all {pins : List (Addr × Obj)} {σ : L2.St} {G : Hp} {s : Shared} {d : Addr} {kvs : List (Key × V)} (I : Inv X pins σ G s) (hd : G d = some (.dK kvs)) : ∀ {js : List (Option (Option Key))} {ps : List (V × V)} {ws : List (Value × Value)}, KeysV G js ps → VV ps ws → KeysAll s.heap d js ws ∧ Vals (ps.map (·.1)) (ws.map (·.1))
  | _, _, [], .nil, _ => ⟨.nil, .nil⟩
  | _, _, _ :: _, .nil, r => nomatch r
  | _, _, [], .cons _ _, r => nomatch r
  | j :: js, (v, x) :: ps, (u, y) :: ws, .cons k more, .cons r rs => by
    obtain ⟨h1, h2⟩ := keys_all I hd more rs
    have r1 : RelV v u := r.1
    refine ⟨.cons ?_ h1, .cons r1 h2⟩
    match j, k with
    | some none, k =>
      have k : v = .non := k
      subst k
      obtain rfl : u = Value.none := r1
      rfl
    | some (some k'), k =>
      have k : v = kV k' := k
      subst k
      exact kV_is (P := X.prog) (w := X.w) r1
    | none, ⟨t, e, ht⟩ =>
      subst e
      cases r1
      obtain ⟨its, rv, ⟨o, ho, hc, n, hz⟩, _⟩ := I.tuple (SqT.of ht)
      cases rv
      exact ⟨t, rfl, (fun e => by rw [e, hd] at ht; cases ht), o, ho, hc, n, hz⟩
theorem VV.len : ∀ {ps : List (V × V)} {ws : List (Value × Value)}, VV ps ws → ps.length = ws.length
  | [], [], _ => rfl
  | [], _ :: _, r => nomatch r
  | _ :: _, [], r => nomatch r
  | _ :: _, _ :: _, .cons _ r => congrArg (· + 1) (VV.len r)
theorem pe_dispR {pos : Pos} {keys : List (Option Expr)} {values : List Expr} {trs : List (TE × TE)} (hu : X.A.units < cLine) (pairs : PPs X pos keys values trs) (plain : keys.all (·.isSome) = true) (even : keys.length = values.length) (some' : keys ≠ []) (few : keys.length ≤ 15) : PE X (.Dict keys values pos) (tDispR trs) := by
  constructor
  intro pins s σ H Q I want
  have fresh := I.hok.fresh (Nat.le_refl s.heap.objs.size)
  have J := I.laid (a := s.heap.objs.size) (o := .dK []) (h' := s.heap.push { cls := .type "dict", data := .dict #[] }) (t' := s.toks) (fun _ _ e => Heap.get?_push_of_some _ e) (Nat.le_refl _) (dk_empty s.heap I.big)
  have len := pairTrees_length keys values X.env pos plain even
  have some2 : pairTrees keys values X.env pos ≠ [] := fun e => some' (List.length_eq_zero_iff.mp (by rw [← len, e]; rfl))
  rw [arm_eval_Dict, zip_pairTrees keys values X.env pos plain even, dictDisplay_pairs _ some2 (by omega)]
  refine wpAny_bind (wpAny_standAt (wpAny_bind ?_)); unfold subDict
  refine wpAny_bind (wpAny_alloc (wpAny_bind (wpAny_holding ?_)))
  rw [if_pos (by omega)]
  refine wpAny_bind (thn (wpAny_evalPairs_len (pairs.run pins _ σ _ _ J (want _ fresh))) ?_)
  rintro ws s2 ⟨wl, ps, G, J2, rel, still, js, kv, nd, q⟩
  obtain ⟨all, names⟩ := keys_all J2 still kv rel
  obtain ⟨_, apart, vs, none', o, es, ep, at', exact', data, _, pr, _⟩ := dk_of J2.hok still
  cases none'
  have nil : es.toList = [] := List.eq_nil_of_length_eq_zero pr.length
  have size : es.size = 0 := by simpa using congrArg List.length nil
  refine wpAny_holding (wpAny_bind (raw_all hu ws js [] es ep o s2 _ at' exact' data (fun e m => ?_) all nd (by omega) fun h' n o' es' ep' at2 ex2 data2 keys2 same => ?_))
  · have := Array.mem_toList_iff.mpr m
    rw [nil] at this
    cases this
  · rw [nil] at keys2
    refine wpAny_pure (wpAny_pure (wpAny_pure ⟨.ref s.heap.objs.size, _, ?_, rfl, q⟩))
    exact d_write J2 (by rw [still]; trivial) same ⟨_, at2⟩ (raw_laid apart ⟨o', es', ep', at2, ex2, data2, by rw [keys2]; exact names⟩)
/-- the keys of such a dict while a loop walks it -/
def ItN (d : Addr) (o : Obj) (ks : List V) : It where
  go := fun i H => H d = some (.frz o (RawD d ks)) ∧ i < ks.length
  yld := fun i H x H' => H' = H ∧ ks[i]? = some x
  stop := fun i H => H d = some (.frz o (RawD d ks)) ∧ ks.length ≤ i
theorem vals_at : ∀ {ks : List V} {us : List Value} {i : Nat} {x : V}, Vals ks us → ks[i]? = some x → ∃ u, us[i]? = some u ∧ RelV x u
  | [], _, _, _, _, e => by simp at e
  | _ :: _, _, 0, _, .cons r _, e => by
    obtain rfl := Option.some.inj e
    exact ⟨_, rfl, r⟩
  | _ :: _, _, i + 1, _, .cons _ r, e => vals_at (i := i) r e
theorem locked {pins : List (Addr × Obj)} {σ : L2.St} {H : Hp} {s : Shared} {d : Addr} {o : Obj} {ks : List V} (I : Inv X pins σ H s) (at' : H d = some (.frz o (RawD d ks))) :
    (d == sysModules) = false ∧ s.heap.get? d = some o ∧ o.ExactDict ∧ ∃ (es : Array DictEntry) (ep : Nat), o.data = .dict es ep ∧ es.size = ks.length ∧ Vals ks (es.toList.map (·.key)) := by
  obtain ⟨here, ⟨apart, o', es, ep, there, exact', dat, names⟩, _⟩ := I.hok d _ at'
  obtain rfl := Option.some.inj (here.symm.trans there)
  have size : es.size = ks.length := by
    have := names.length
    simpa using this.symm
  exact ⟨apart, here, exact', es, ep, dat, size, names⟩
theorem turnN {P : Program} {w : World} {K : PySem.W.Frag} {tg : Expr} {d : Addr} {o : Obj} {es : Array DictEntry} {ep : Nat} {ks : List V} (it : Addr) (dat : o.data = .dict es ep) : Turn P w K tg (ItN d o ks) [it] it (fun i h => h.IsKeyIter it d i ks.length ep) := by
  have lone : ∀ {b : Addr}, b ∈ [it] → b = it := fun m => List.mem_singleton.mp m
  refine ⟨List.mem_singleton_self it, fun i h st b mb => ?_, fun i h h' st k => ?_, ?_, ?_, fun A i s Q E st z => wpAny_pyIter_keyiter st z⟩
  · obtain rfl := lone mb
    obtain ⟨oi, at', _, f⟩ := st
    exact ⟨oi, at', fun v z => by rw [f] at z; cases z⟩
  · exact st.at fun oi at' => k it (List.mem_singleton_self it) oi at'
  · rintro X rfl rfl rfl calm i pins s σ H E I own st ⟨at', lt⟩
    obtain ⟨g0, g1, g2, g3, g4, g5⟩ := own it (List.mem_singleton_self it)
    obtain ⟨_, here, _, es1, ep1, dat1, size, names⟩ := locked I at'
    obtain ⟨rfl, rfl⟩ := dict_ep dat dat1
    have hx := List.getElem?_eq_getElem lt
    obtain ⟨u, hu, ru⟩ := vals_at names hx
    obtain ⟨en, hen, rfl⟩ : ∃ en, es1[i]? = some en ∧ en.key = u := by
      rw [List.getElem?_map] at hu
      obtain ⟨en, h1, h2⟩ := Option.map_eq_some_iff.mp hu
      exact ⟨en, by rw [← Array.getElem?_toList]; exact h1, h2⟩
    refine next_key_item st here dat size hen fun g st' but => ?_
    have J : Inv X pins σ H { s with heap := g } := I.turned (t' := s.toks) (fun b ob nb e => (but.2 b nb).trans e) g0 g1 g3 g4 g5
    obtain ⟨oi, e, c, f⟩ := id st'
    exact ⟨en.key, rfl, go_of (s := { s with heap := g }) e c f (by decide) ⟨_, H, J, ru, ⟨rfl, hx⟩, st', fun b mb => (own b mb).1⟩⟩
  · rintro X rfl rfl rfl calm i pins s σ H E I own st ⟨at', le⟩
    obtain ⟨g0, g1, g2, g3, g4, g5⟩ := own it (List.mem_singleton_self it)
    obtain ⟨_, here, _, es1, ep1, dat1, size, _⟩ := locked I at'
    obtain ⟨rfl, rfl⟩ := dict_ep dat dat1
    exact next_key_end (I.ok.hd calm) st here dat size le fun g ext => ⟨rfl, I.turned (t' := s.toks) (fun b ob nb e => ext b ob nb e) g0 g1 g3 g4 g5⟩
/-- .. in -/
def iN (td : TE) : TI := fun σ H R => td σ H fun x G => ∃ d o ks, x = .ref d ∧ G d = some (.frz o (RawD d ks)) ∧ R (ItN d o ks) G
theorem pi_noneKeys {tg e : Expr} {td : TE} (of : PE X e td) : PI X tg e (iN td) := by
  constructor
  intro pins s σ H R I want
  refine thn (of.run pins s σ H _ I want) ?_
  rintro u s1 ⟨x, G, J, rx, d, o, ks, rfl, at', q⟩
  obtain rfl : u = Value.ref d := rx
  obtain ⟨apart, here, exact', es, ep, dat, size, _⟩ := locked J at'
  refine iter_keys apart here exact' dat (pi_one (tk := s1.toks) J _ (turnN _ dat) ⟨_, Heap.get?_push_size _ rfl, rfl, ?_⟩ q)
  rw [size]
  rfl
/-- isinstance of such a dict -/
def rIsiN (K : PySem.W.Frag) : List V → Hp → VK → Prop := fun xs H Q => ∃ (a : Addr) (c : V) (u : Value) (ks : List V) (b : Bool), xs = [.ref a, c] ∧ H a = some (RawD a ks) ∧ ClsV c u ∧ PySem.W.kitOne K (.type "dict") u = some b ∧ Q (.bl b) H
theorem call_isiN : CallR X (.builtin "isinstance") (rIsiN X.K) := by
  intro pins s σ H xs us Q I r want
  obtain ⟨a, c, u, ks, b, rfl, at', cls, kit, q⟩ := want
  obtain ⟨u1, u2, rfl, r1, r2⟩ := vals2 r
  obtain rfl : u1 = Value.ref a := r1
  obtain ⟨⟨_, o, es, ep, here, ex, _⟩, _⟩ := I.hok a _ at'
  have same := cls.eq r2
  subst same
  exact PySem.W.kia_one PySem.W.kitx_dict I.kIn ⟨o, here, ex.1⟩ kit (fun z => nomatch z) fun tk => ⟨.bl b, H, I.tok tk, rfl, q⟩
end
end KX

namespace KX
open PySem PySem.Spec L2 PyProof.Rows
/-! ### what is told of a dict with keys that are no names -/
theorem walk_noneKeys {P : Program} {w : World} {d : Addr} {o : Obj} {ks : List V} : Walk (ItN d o ks) ks.length (fun H => H d = some (.frz o (RawD d ks))) (fun i H x H' => H' = H ∧ ks[i]? = some x) := by
  constructor
  · exact fun i H lt h => ⟨h, lt⟩
  · exact fun H h => ⟨h, Nat.le_refl _⟩
  · exact fun i H v H' _ _ y => y
/-- a key: a name or not -/
def isName : V → Bool
  | .str _ => true
  | _ => false
/-- the keys, one of them no name -/
structure OddK (H : Hp) (ks : List V) : Prop where
  there : ∃ k ∈ ks, isName k = false
  few : ks.length ≤ 15
  each : ∀ k ∈ ks, (∃ z, k = .str z ∧ IsNm z) ∨ (∃ i, k = .int i) ∨ k = .non ∨ ∃ t, k = .ref t ∧ H t = some (.tup [])
theorem OddK.same {H G : Hp} {ks : List V} (h : OddK H ks) (s : Same H G) : OddK G ks := ⟨h.there, h.few, fun k m => (h.each k m).imp id fun r => r.imp id fun r => r.imp id fun ⟨t, e, at'⟩ => ⟨t, e, s _ _ at'⟩⟩
section
variable {base : Heap} {P : Program} {w : World} {K : PySem.W.Frag} {mg : Str → Option Value} {tk : Str → Tok} {TC ED : Addr}
/-- an empty tuple is no name -/
def spTupName : Sp := fun vs H Q _ => ∃ t : Addr, vs = [.ref t] ∧ H t = some (.tup []) ∧ Q (.bl false) H
abbrev s_nameT : Stmt := top 17
abbrev N_nameT : List Str := ["thing", "letter"]
abbrev P_nameT : List Str := ["thing"]
theorem sc_nameT : FnScope N_nameT P_nameT (defScope s_nameT) := ⟨rfl, rfl, rfl, by decide +kernel, rfl, by decide +kernel, by decide +kernel⟩
theorem ok_tupname {f g : Addr} {fd gd : FuncData} (F : Fun K "is_name" "is_name" s_nameT f fd) (T : Bl mg) (L : Lm mg tk) (D_is_letter : Def P w K mg base "is_letter" 1 P_is_letter (spBetween 97 122) g gd) : FnOk P w K mg base CX0 2 f fd P_nameT spTupName := by
  refine F.ok sc_nameT (fun vs H Q E h => ?_) (fun cdv A outer s H vs Q E hr h => ?_)
  · obtain ⟨t, rfl, _⟩ := h
    rfl
  obtain ⟨t, rfl, ht, q⟩ := h
  refine ⟨_, (pss_cons (ps_if (PW.pt (pw_or (pt_not (pt_val (pe_callB call_isi (by rfl) T.isinstance (by decide +kernel) (pa_cons (pv 0) (pa_cons (pe_bltn (v := .ty "str") (by rfl) T.str (by decide +kernel) rfl) pa_nil))))) (pw_or1 (pt_not (pt_chain op_le op_le pe_int (pe_callB (call_lenK K rfl) (by rfl) T.len PySem.boot_len (pa_cons (pv 0) pa_nil)) (pe_glob (v := .int 12) rfl L.MAX_LETTERS ⟨_, rfl⟩))))))
      (pss_one (ps_ret pe_bl))
      pss_nil)
    (pss_one (ps_ret (pe_callB (cr_all rfl) (by rfl) T.all (by decide +kernel) (pa_cons (pe_lc (own := [("letter", 1)]) (g := (gName 1)) (tt := tYes) rfl sc_nameT.nd (pi_str (pv 0)) (blkOk_by (own := [("letter", 1)]) (N := N_nameT) (sc := defScope s_nameT) (by decide +kernel)) (fun _ _ _ _ _ => (pg_name (i := 1) sc_nameT.nd rfl (Or.inl rfl))) (fun _ _ _ _ _ => pts_nil) (fun _ _ _ _ _ => (pe_call D_is_letter.ok (hr.mono (by first | decide | omega)) rfl D_is_letter.g D_is_letter.kp D_is_letter.b .nil pass0 (pa_cons (pv 1) pa_nil)))) pa_nil))))), ?_⟩
  refine ⟨_, rfl, _, _, _, _, false, rfl, .ty _, .base (.tup ht), kit_ty (by decide +kernel), _, rfl, if_tt rfl ?_⟩
  exact q
def spName3 : Sp := fun vs H Q E => spName2 vs H Q E ∨ spTupName vs H Q E
abbrev s_is_textN : Stmt := top 13
abbrev N_is_textN : List Str := ["thing", "sign"]
abbrev P_is_textN : List Str := ["thing"]
theorem sc_is_textN : FnScope N_is_textN P_is_textN (defScope s_is_textN) := ⟨rfl, rfl, rfl, by decide +kernel, rfl, by decide +kernel, by decide +kernel⟩
def spTextN : Sp := fun vs H Q _ => ∃ (a : Addr) (ks : List V), vs = [.ref a] ∧ H a = some (RawD a ks) ∧ Q (.bl false) H
theorem ok_textN {f g : Addr} {fd gd : FuncData} (F : Fun K "is_text" "is_text" s_is_textN f fd) (T : Bl mg) (D_is_sign : Def P w K mg base "is_sign" 1 P_is_sign spSign g gd) : FnOk P w K mg base CX0 2 f fd P_is_textN spTextN := by
  refine F.ok sc_is_textN (fun vs H Q E h => ?_) (fun cdv A outer s H vs Q E hr h => ?_)
  · obtain ⟨a, ks, rfl, _⟩ := h
    rfl
  obtain ⟨a, ks, rfl, at', q⟩ := h
  refine ⟨_, (pss_one (ps_ret (pe_and (pe_callB call_isiN (by rfl) T.isinstance (by decide +kernel) (pa_cons (pv 0) (pa_cons (pe_bltn (v := .ty "str") (by rfl) T.str (by decide +kernel) rfl) pa_nil))) (pe_one (pe_callB (cr_all rfl) (by rfl) T.all (by decide +kernel) (pa_cons (pe_lc (own := [("sign", 1)]) (g := (gName 1)) (tt := tYes) rfl sc_is_textN.nd (pi_str (pv 0)) (blkOk_by (own := [("sign", 1)]) (N := N_is_textN) (sc := defScope s_is_textN) (by decide +kernel)) (fun _ _ _ _ _ => (pg_name (i := 1) sc_is_textN.nd rfl (Or.inl rfl))) (fun _ _ _ _ _ => pts_nil) (fun _ _ _ _ _ => (pe_call D_is_sign.ok (hr.mono (by first | decide | omega)) rfl D_is_sign.g D_is_sign.kp D_is_sign.b .nil pass0 (pa_cons (pv 1) pa_nil)))) pa_nil)))))), ?_⟩
  exact ⟨_, rfl, a, _, _, ks, false, rfl, at', .ty _, kit_ty (show kitB "dict" "str" = some false by decide +kernel), _, rfl, if_ff rfl q⟩
abbrev s_kindN : Stmt := top 24
abbrev N_kindN : List Str := ["thing", "name"]
abbrev P_kindN : List Str := ["thing"]
theorem sc_kindN : FnScope N_kindN P_kindN (defScope s_kindN) := ⟨rfl, rfl, rfl, by decide +kernel, rfl, by decide +kernel, by decide +kernel⟩
def spKindN : Sp := fun vs H Q _ => ∃ (a : Addr) (ks : List V), vs = [.ref a] ∧ H a = some (RawD a ks) ∧ OddK H ks ∧ ∀ H', Same H H' → Q .non H'
theorem ok_kindN {f ft fn : Addr} {fd fdt fdn : FuncData} (F : Fun K "kind_of" "kind_of" s_kindN f fd) (T : Bl mg) (L : Lm mg tk) (D_is_text : Def P w K mg base "is_text" 2 P_is_textN spTextN ft fdt) (D_is_name : Def P w K mg base "is_name" 2 P_is_name spName3 fn fdn) : FnOk P w K mg base CX0 3 f fd P_kindN spKindN := by
  refine F.ok sc_kindN (fun vs H Q E h => ?_) (fun cdv A outer s H vs Q E hr h => ?_)
  · obtain ⟨a, ks, rfl, _⟩ := h
    rfl
  obtain ⟨a, ks, rfl, at', odd, q⟩ := h
  refine ⟨_, (pss_cons (ps_if (pt_cmpR op_isN (pv 0) pe_non (nomark _))
      (pss_one (ps_ret pe_str))
      pss_nil)
    (pss_cons (ps_if (pt_val (pe_callB call_isiN (by rfl) T.isinstance (by decide +kernel) (pa_cons (pv 0) (pa_cons (pe_bltn (v := .ty "bool") (by rfl) T.bool (by decide +kernel) rfl) pa_nil))))
      (pss_one (ps_ret pe_str))
      pss_nil)
    (pss_cons (ps_if (pt_val (pe_callB call_isiN (by rfl) T.isinstance (by decide +kernel) (pa_cons (pv 0) (pa_cons (pe_bltn (v := .ty "int") (by rfl) T.int (by decide +kernel) rfl) pa_nil))))
      (pss_one (ps_ret pe_str))
      pss_nil)
    (pss_cons (ps_if (pt_val (pe_call D_is_text.ok (hr.mono (by first | decide | omega)) rfl D_is_text.g D_is_text.kp D_is_text.b .nil pass0 (pa_cons (pv 0) pa_nil)))
      (pss_one (ps_ret pe_str))
      pss_nil)
    (pss_cons (ps_if (PW.pt (pw_and (pt_val (pe_callB call_isiN (by rfl) T.isinstance (by decide +kernel) (pa_cons (pv 0) (pa_cons (pe_bltn (v := .ty "tuple") (by rfl) T.tuple (by decide +kernel) rfl) pa_nil)))) (pw_and1 (pt_cmpR op_le (pe_callB (call_lenK K rfl) (by rfl) T.len PySem.boot_len (pa_cons (pv 0) pa_nil)) (pe_glob (v := .int 60) rfl L.MAX_ELEMENTS ⟨_, rfl⟩) (nomark _)))))
      (pss_one (ps_ret pe_str))
      pss_nil)
    (pss_cons (ps_if (PW.pt (pw_and (pt_val (pe_callB call_isiN (by rfl) T.isinstance (by decide +kernel) (pa_cons (pv 0) (pa_cons (pe_bltn (v := .ty "dict") (by rfl) T.dict (by decide +kernel) rfl) pa_nil)))) (pw_and1 (pt_val (pe_callB (cr_all rfl) (by rfl) T.all (by decide +kernel) (pa_cons (pe_lock (pe_lc (own := [("name", 1)]) (g := (gName 1)) (tt := tYes) rfl sc_kindN.nd (pi_noneKeys (pv 0)) (blkOk_by (own := [("name", 1)]) (N := N_kindN) (sc := defScope s_kindN) (by decide +kernel)) (fun _ _ _ _ _ => (pg_name (i := 1) sc_kindN.nd rfl (Or.inl rfl))) (fun _ _ _ _ _ => pts_nil) (fun _ _ _ _ _ => (pe_call D_is_name.ok (hr.mono (by first | decide | omega)) rfl D_is_name.g D_is_name.kp D_is_name.b .nil pass0 (pa_cons (pv 1) pa_nil))))) pa_nil))))))
      (pss_one (ps_ret pe_str))
      pss_nil)
    (pss_one (ps_ret pe_non)))))))), ?_⟩
  refine ⟨_, rfl, rfl, _, rfl, if_ff rfl ?_⟩
  refine ⟨_, rfl, a, _, _, ks, false, rfl, at', .ty _, kit_ty (show kitB "dict" "bool" = some false by decide +kernel), _, rfl, if_ff rfl ?_⟩
  refine ⟨_, rfl, a, _, _, ks, false, rfl, at', .ty _, kit_ty (show kitB "dict" "int" = some false by decide +kernel), _, rfl, if_ff rfl ?_⟩
  refine ⟨_, rfl, a, ks, rfl, at', _, rfl, if_ff rfl ?_⟩
  refine ⟨_, rfl, a, _, _, ks, false, rfl, at', .ty _, kit_ty (show kitB "dict" "tuple" = some false by decide +kernel), _, rfl, if_ff rfl (if_ff rfl ?_)⟩
  refine ⟨_, rfl, a, _, _, ks, true, rfl, at', .ty _, kit_ty (show kitB "dict" "dict" = some true by decide +kernel), _, rfl, if_tt rfl ?_⟩
  refine ⟨a, _, at', trivial, fun od => ⟨_, rfl, a, od, ks, rfl, upd_same, fun D hD => ?_⟩⟩
  have hDa : D ≠ a := fun e => by
    rw [e, upd_same] at hD
    cases hD
  have few := odd.few
  refine lc_it (walk_noneKeys (P := P) (w := w)) (fun i G => Same (upd H a (.frz od (RawD a ks))) G ∧ G D = some (.lst ((ks.take i).map fun k => .bl (isName k)))) ⟨same_new hD _, upd_same⟩ (fun i G _ p => p.1 _ _ upd_same) ?_ ?_
  · rintro i x G2 G hi ⟨kept, made⟩ ⟨rfl, hk⟩
    have more : ks.take (i + 1) = ks.take i ++ [x] := by rw [List.take_succ, hk]; rfl
    have small : ((ks.take i).map fun k => V.bl (isName k)).length < sizeLine := by
      rw [List.length_map, List.length_take]
      exact less_line (by omega)
    have last : ∀ {Z : Hp} {b : Bool}, isName x = b → upd Z D (.lst (((ks.take i).map fun k => V.bl (isName k)) ++ [.bl b])) D = some (.lst ((ks.take (i + 1)).map fun k => .bl (isName k))) := fun {Z b} e => by
      rw [upd_same, more, List.map_append, List.map_cons, List.map_nil, e]
    refine ⟨rfl, yesT ?_⟩
    rcases odd.each x (List.mem_of_getElem? hk) with ⟨z, rfl, nm⟩ | ⟨j, rfl⟩ | rfl | ⟨t, rfl, ht⟩
    · exact ⟨_, rfl, .inl (.inl ⟨z, rfl, nm, fun G3 same => ⟨_, same _ _ made, small, Same.updNew (kept.trans same) hD, last rfl⟩⟩)⟩
    · exact ⟨_, rfl, .inl (.inr ⟨.inl ⟨j, rfl⟩, fun G3 same => ⟨_, same _ _ made, small, Same.updNew (kept.trans same) hD, last rfl⟩⟩)⟩
    · exact ⟨_, rfl, .inl (.inr ⟨.inr rfl, fun G3 same => ⟨_, same _ _ made, small, Same.updNew (kept.trans same) hD, last rfl⟩⟩)⟩
    · have tne : t ≠ a := fun e => by
        rw [e, at'] at ht
        cases ht
      exact ⟨_, rfl, .inr ⟨t, rfl, kept _ _ (by rw [upd_ne tne]; exact ht), ⟨_, made, small, Same.updNew kept hD, last rfl⟩⟩⟩
  · rintro G ⟨kept, made⟩
    rw [List.take_length] at made
    refine ⟨kept _ _ upd_same, D, ks.map isName, rfl, SqL.of (by rw [upd_ne hDa, made, List.map_map]; rfl), ?_⟩
    have no : ((ks.map isName).all id) = false := by
      rw [List.all_eq_false]
      obtain ⟨k, mk, e⟩ := odd.there
      exact ⟨false, List.mem_map.mpr ⟨k, mk, e⟩, by decide⟩
    rw [no]
    exact ⟨_, rfl, if_ff rfl (q _ (Same.unlock kept at'))⟩
abbrev s_firstN : Stmt := top 35
abbrev N_firstN : List Str := ["wanted", "value", "path", "form"]
abbrev P_firstN : List Str := ["wanted", "value", "path"]
theorem sc_firstN : FnScope N_firstN P_firstN (defScope s_firstN) := ⟨rfl, rfl, rfl, by decide +kernel, rfl, by decide +kernel, by decide +kernel⟩
def spFirstN (TC ED : Addr) : Sp := fun vs H Q _ => ∃ (b a : Addr) (ks : List V) (fs : List (Str × Ty)) (pw : V), vs = [.ref b, .ref a, pw] ∧ TyAt TC ED H (.ref b) (.rcd fs) ∧ H a = some (RawD a ks) ∧ OddK H ks ∧ ∀ H', Same H H' → Q pw H'
theorem ok_firstN {f fk fl fr : Addr} {fd dk dl dr : FuncData} {n : Nat} {sl sr s1 : Sp} (F : Fun K "_first_trouble" "_first_trouble" s_firstN f fd) (C : TyC K TC) (D_kind_of : Def P w K mg base "kind_of" 3 P_kindN spKindN fk dk) (D_first_trouble : Def P w K mg base "_first_trouble" (n + 4) P_firstN s1 f fd)
    (D_trouble_in_list : Def P w K mg base "_trouble_in_list" (n + 5) ["wanted", "rows", "path"] sl fl dl) (D_trouble_in_record : Def P w K mg base "_trouble_in_record" (n + 5) ["fields", "record", "path"] sr fr dr) : FnOk P w K mg base CX0 (n + 6) f fd P_firstN (spFirstN TC ED) := by
  refine F.ok sc_firstN (fun vs H Q E h => ?_) (fun cdv A outer s H vs Q E hr h => ?_)
  · obtain ⟨b, a, ks, fs, pw, rfl, _⟩ := h
    rfl
  obtain ⟨b, a, ks, fs, pw, rfl, at', here, odd, q⟩ := h
  refine ⟨_, (pss_cons (ps_if (pt_cmpR op_eq (pe_fld (pv 0) rfl) pe_str (nomark _))
      (pss_one (ps_ret (pe_ifExp (pt_cmpR op_isN (pv 1) pe_non (nomark _)) pe_non (pe_call D_first_trouble.ok (hr.mono (by first | decide | omega)) rfl D_first_trouble.g D_first_trouble.kp D_first_trouble.b .nil pass0 (pa_cons (pe_fld (pv 0) rfl) (pa_cons (pv 1) (pa_cons (pv 2) pa_nil)))))))
      pss_nil)
    (pss_cons (ps_set (i := 3) sc_firstN.nd rfl (Or.inl rfl) (pe_ifExp (pt_cmpR op_eq (pe_fld (pv 0) rfl) pe_str (nomark _)) pe_str (pe_fld (pv 0) rfl)))
    (pss_cons (ps_if (pt_cmpR op_ne (pe_call D_kind_of.ok (hr.mono (by first | decide | omega)) rfl D_kind_of.g D_kind_of.kp D_kind_of.b .nil pass0 (pa_cons (pv 1) pa_nil)) (pv 3) (nomark _))
      (pss_one (ps_ret (pv 2)))
      pss_nil)
    (pss_cons (ps_if (pt_cmpR op_eq (pv 3) pe_str (nomark _))
      (pss_one (ps_ret (pe_call D_trouble_in_list.ok (hr.mono (by first | decide | omega)) rfl D_trouble_in_list.g D_trouble_in_list.kp D_trouble_in_list.b .nil pass0 (pa_cons (pv 0) (pa_cons (pv 1) (pa_cons (pv 2) pa_nil))))))
      pss_nil)
    (pss_cons (ps_if (pt_cmpR op_eq (pv 3) pe_str (nomark _))
      (pss_one (ps_ret (pe_call D_trouble_in_record.ok (hr.mono (by first | decide | omega)) rfl D_trouble_in_record.g D_trouble_in_record.kp D_trouble_in_record.b .nil pass0 (pa_cons (pe_fld (pv 0) rfl) (pa_cons (pv 1) (pa_cons (pv 2) pa_nil))))))
      pss_nil)
    (pss_one (ps_ret pe_non))))))), ?_⟩
  obtain ⟨_, dx, vi, vf, e, hrow, _⟩ := at'.obj
  cases e
  refine ⟨_, rfl, b, TC, dx, _, _, rfl, hrow, C.cl, C.kind, rfl, rfl, _, rfl, ?_⟩
  refine word_ne (by simp only [kindW]; decide) ?_
  refine ⟨_, rfl, b, TC, dx, _, _, rfl, hrow, C.cl, C.kind, rfl, rfl, _, rfl, word_ne (by simp only [kindW]; decide) ?_⟩
  refine ⟨_, rfl, b, TC, dx, _, _, rfl, hrow, C.cl, C.kind, rfl, ?_⟩
  refine ⟨_, rfl, a, ks, rfl, here, odd, fun H1 s1 => ⟨_, rfl, rfl, _, rfl, if_tt rfl ⟨_, rfl, q H1 s1⟩⟩⟩
/-- .. and where the type is an optional one -/
def spFirstO (TC ED : Addr) : Sp := fun vs H Q _ => ∃ (b a : Addr) (ks : List V) (fs : List (Str × Ty)) (pw : V), vs = [.ref b, .ref a, pw] ∧ TyAt TC ED H (.ref b) (.opt (.rcd fs)) ∧ H a = some (RawD a ks) ∧ OddK H ks ∧ ∀ H', Same H H' → Q pw H'
theorem ok_firstO {f fk fl fr : Addr} {fd dk dl dr : FuncData} {n : Nat} {sl sr : Sp} (F : Fun K "_first_trouble" "_first_trouble" s_firstN f fd) (C : TyC K TC) (D_kind_of : Def P w K mg base "kind_of" 3 P_kindN spKindN fk dk) (D_first_trouble : Def P w K mg base "_first_trouble" (n + 4) P_firstN (spFirstN TC ED) f fd)
    (D_trouble_in_list : Def P w K mg base "_trouble_in_list" (n + 5) ["wanted", "rows", "path"] sl fl dl) (D_trouble_in_record : Def P w K mg base "_trouble_in_record" (n + 5) ["fields", "record", "path"] sr fr dr) : FnOk P w K mg base CX0 (n + 6) f fd P_firstN (spFirstO TC ED) := by
  refine F.ok sc_firstN (fun vs H Q E h => ?_) (fun cdv A outer s H vs Q E hr h => ?_)
  · obtain ⟨b, a, ks, fs, pw, rfl, _⟩ := h
    rfl
  obtain ⟨b, a, ks, fs, pw, rfl, at', here, odd, q⟩ := h
  refine ⟨_, (pss_cons (ps_if (pt_cmpR op_eq (pe_fld (pv 0) rfl) pe_str (nomark _))
      (pss_one (ps_ret (pe_ifExp (pt_cmpR op_isN (pv 1) pe_non (nomark _)) pe_non (pe_call D_first_trouble.ok (hr.mono (by first | decide | omega)) rfl D_first_trouble.g D_first_trouble.kp D_first_trouble.b .nil pass0 (pa_cons (pe_fld (pv 0) rfl) (pa_cons (pv 1) (pa_cons (pv 2) pa_nil)))))))
      pss_nil)
    (pss_cons (ps_set (i := 3) sc_firstN.nd rfl (Or.inl rfl) (pe_ifExp (pt_cmpR op_eq (pe_fld (pv 0) rfl) pe_str (nomark _)) pe_str (pe_fld (pv 0) rfl)))
    (pss_cons (ps_if (pt_cmpR op_ne (pe_call D_kind_of.ok (hr.mono (by first | decide | omega)) rfl D_kind_of.g D_kind_of.kp D_kind_of.b .nil pass0 (pa_cons (pv 1) pa_nil)) (pv 3) (nomark _))
      (pss_one (ps_ret (pv 2)))
      pss_nil)
    (pss_cons (ps_if (pt_cmpR op_eq (pv 3) pe_str (nomark _))
      (pss_one (ps_ret (pe_call D_trouble_in_list.ok (hr.mono (by first | decide | omega)) rfl D_trouble_in_list.g D_trouble_in_list.kp D_trouble_in_list.b .nil pass0 (pa_cons (pv 0) (pa_cons (pv 1) (pa_cons (pv 2) pa_nil))))))
      pss_nil)
    (pss_cons (ps_if (pt_cmpR op_eq (pv 3) pe_str (nomark _))
      (pss_one (ps_ret (pe_call D_trouble_in_record.ok (hr.mono (by first | decide | omega)) rfl D_trouble_in_record.g D_trouble_in_record.kp D_trouble_in_record.b .nil pass0 (pa_cons (pe_fld (pv 0) rfl) (pa_cons (pv 1) (pa_cons (pv 2) pa_nil))))))
      pss_nil)
    (pss_one (ps_ret pe_non))))))), ?_⟩
  cases at' with
  | plain z _ => cases z
  | @opt _ dx vi _ hrow inner =>
  refine ⟨_, rfl, b, TC, dx, _, _, rfl, hrow, C.cl, C.kind, rfl, rfl, _, rfl, if_tt rfl ?_⟩
  obtain ⟨a2, dx2, vi2, vf2, rfl, _⟩ := inner.obj
  refine ⟨_, rfl, rfl, _, rfl, if_ff (decide_eq_false fun z => nomatch z) ?_⟩
  exact ⟨_, rfl, b, TC, dx, _, _, rfl, hrow, C.cl, C.inner, rfl, _, rfl, _, rfl, a2, a, ks, fs, pw, rfl, inner, here, odd, q⟩
def spFirst2 (TC ED : Addr) : Sp := fun vs H Q E => spFirstN TC ED vs H Q E ∨ spFirstO TC ED vs H Q E
abbrev s_hasN : Stmt := inClass (top 23) 3
abbrev N_hasN : List Str := ["self", "x"]
abbrev P_hasN : List Str := ["self", "x"]
theorem sc_hasN : FnScope N_hasN P_hasN (defScope s_hasN) := ⟨rfl, rfl, rfl, by decide +kernel, rfl, by decide +kernel, by decide +kernel⟩
def spHasN (K : PySem.W.Frag) (TC ED : Addr) : Sp := fun vs H Q _ => ∃ (b a : Addr) (ks : List V) (fs : List (Str × Ty)), vs = [.ref b, .ref a] ∧ (TyAt TC ED H (.ref b) (.rcd fs) ∨ TyAt TC ED H (.ref b) (.opt (.rcd fs))) ∧ H a = some (RawD a ks) ∧ OddK H ks ∧ ∀ H' : Hp, Same H H' → Q (.bl false) H'
theorem ok_hasN {f g : Addr} {fd gd : FuncData} (F : Fun K "__contains__" "Type.__contains__" s_hasN f fd) (D_first_trouble : Def P w K mg base "_first_trouble" 20 P_firstN (spFirst2 TC ED) g gd) : FnOk P w K mg base CX0 21 f fd P_hasN (spHasN K TC ED) := by
  refine F.ok sc_hasN (fun vs H Q E h => ?_) (fun cdv A outer s H vs Q E hr h => ?_)
  · obtain ⟨b, a, ks, fs, rfl, _⟩ := h
    rfl
  obtain ⟨b, a, ks, fs, rfl, at', here, odd, q⟩ := h
  refine ⟨_, (pss_one (ps_ret (pe_cmpR op_isN (pe_call D_first_trouble.ok (hr.mono (by first | decide | omega)) rfl D_first_trouble.g D_first_trouble.kp D_first_trouble.b .nil pass0 (pa_cons (pv 0) (pa_cons (pv 1) (pa_cons (pe_tup pa_nil) pa_nil)))) pe_non (nomark _)))), ?_⟩
  refine ⟨_, rfl, _, rfl, (by show 0 ≤ sizeLine; decide +kernel), fun t new => ?_⟩
  have s1 : Same H (upd H t (.tup [])) := same_new new _
  rcases at' with at' | at'
  · exact .inl ⟨b, a, ks, fs, .ref t, rfl, TyAt.same s1 _ _ at', s1 _ _ here, odd.same s1, fun H' s2 => ⟨rfl, by rw [decide_eq_false (by intro z; cases z)]; exact q H' (s1.trans s2)⟩⟩
  · exact .inr ⟨b, a, ks, fs, .ref t, rfl, TyAt.same s1 _ _ at', s1 _ _ here, odd.same s1, fun H' s2 => ⟨rfl, by rw [decide_eq_false (by intro z; cases z)]; exact q H' (s1.trans s2)⟩⟩
end
end KX

namespace KX
open PySem PySem.Spec L2 PyProof.Rows
/-! ### what the law writes out by hand -/
def hasKey : Ty → Str → Bool
  | .rcd fs, k => fs.any fun q => decide (q.1 = k) && keyT q.2
  | _, _ => false
mutual
def goodB : Ty → Nat → Bool
  | .text, _ => true
  | .number, _ => true
  | .flag, _ => true
  | .opt t, n => goodB t n && !isOpt t
  | .list _, 0 => false
  | .list t, n + 1 => goodB t n
  | .keyed _ _, 0 => false
  | .keyed t k, n + 1 => goodB t n && (hasKey t k && decide (letters k))
  | .rcd _, 0 => false
  | .rcd fs, n + 1 => goodsB fs n && (!fs.isEmpty && (decide (fs.map (·.1)).Nodup && (sortedS (fs.map (·.1)) && (decide (fs.length < 4000) && fs.all fun q => decide (letters q.1) && (decide (q.1.length ≤ 12) && decide (q.1.length ≠ 0))))))
def goodsB : List (Str × Ty) → Nat → Bool
  | [], _ => true
  | (_, t) :: r, n => goodB t n && goodsB r n
end
mutual
theorem good_ofB : ∀ (t : Ty) (n : Nat), goodB t n = true → GoodT n t
  | .text, _, _ => .plain rfl
  | .number, _, _ => .plain rfl
  | .flag, _, _ => .plain rfl
  | .opt t, n, h => by
    simp only [goodB, Bool.and_eq_true, Bool.not_eq_true'] at h
    exact .opt (good_ofB t n h.1) h.2
  | .list _, 0, h => by simp [goodB] at h
  | .list t, n + 1, h => by
    simp only [goodB] at h
    exact .list (good_ofB t n h)
  | .keyed _ _, 0, h => by simp [goodB] at h
  | .keyed t k, n + 1, h => by
    simp only [goodB, Bool.and_eq_true, decide_eq_true_eq] at h
    obtain ⟨g, has, l⟩ := h
    have g' := good_ofB t n g
    cases t with
    | rcd fs =>
      obtain ⟨q, mq, e⟩ := List.any_eq_true.mp (show (fs.any fun q => decide (q.1 = k) && keyT q.2) = true from has)
      simp only [Bool.and_eq_true, decide_eq_true_eq] at e
      obtain ⟨rfl, kt⟩ := e
      exact .keyed g' mq kt l
    | _ => cases has
  | .rcd _, 0, h => by simp [goodB] at h
  | .rcd fs, n + 1, h => by
    simp only [goodB, Bool.and_eq_true, decide_eq_true_eq, Bool.not_eq_true', List.all_eq_true] at h
    obtain ⟨g, ne, nd, so, few, each⟩ := h
    refine .rcd (fun e => ?_) nd so few each (goods_ofB fs n g)
    rw [e] at ne
    cases ne
theorem goods_ofB : ∀ (fs : List (Str × Ty)) (n : Nat), goodsB fs n = true → ∀ q ∈ fs, GoodT n q.2
  | [], _, _ => fun _ m => nomatch m
  | (z, t) :: r, n, h => by
    simp only [goodsB, Bool.and_eq_true] at h
    intro q m
    rcases List.mem_cons.mp m with rfl | m
    · exact good_ofB t n h.1
    · exact goods_ofB r n h.2 q m
end
mutual
def deepB : Ty → Nat → Bool
  | .text, _ => true
  | .number, _ => true
  | .flag, _ => true
  | .opt _, 0 => false
  | .opt t, n + 1 => deepB t n
  | .list _, 0 => false
  | .list t, n + 1 => deepB t n
  | .keyed _ _, 0 => false
  | .keyed t k, n + 1 => deepB t n && hasKey t k
  | .rcd _, 0 => false
  | .rcd fs, n + 1 => deepsB fs n && decide (fs.length < 4000)
def deepsB : List (Str × Ty) → Nat → Bool
  | [], _ => true
  | (_, t) :: r, n => deepB t n && deepsB r n
end
mutual
theorem deep_ofB : ∀ (t : Ty) (n : Nat), deepB t n = true → DeepT n t
  | .text, _, _ => .plain rfl
  | .number, _, _ => .plain rfl
  | .flag, _, _ => .plain rfl
  | .opt _, 0, h => by simp [deepB] at h
  | .opt t, n + 1, h => .opt (deep_ofB t n (by simpa only [deepB] using h))
  | .list _, 0, h => by simp [deepB] at h
  | .list t, n + 1, h => .list (deep_ofB t n (by simpa only [deepB] using h))
  | .keyed _ _, 0, h => by simp [deepB] at h
  | .keyed t k, n + 1, h => by
    simp only [deepB, Bool.and_eq_true] at h
    refine .keyed ?_ (deep_ofB t n h.1)
    cases t with
    | rcd fs =>
      obtain ⟨q, mq, e⟩ := List.any_eq_true.mp (show (fs.any fun q => decide (q.1 = k) && keyT q.2) = true from h.2)
      simp only [Bool.and_eq_true, decide_eq_true_eq] at e
      obtain ⟨rfl, kt⟩ := e
      exact ⟨fs, q.2, rfl, mq, kt⟩
    | _ => cases h.2
  | .rcd _, 0, h => by simp [deepB] at h
  | .rcd fs, n + 1, h => by
    simp only [deepB, Bool.and_eq_true, decide_eq_true_eq] at h
    exact .rcd h.2 (deeps_ofB fs n h.1)
theorem deeps_ofB : ∀ (fs : List (Str × Ty)) (n : Nat), deepsB fs n = true → ∀ q ∈ fs, DeepT n q.2
  | [], _, _ => fun _ m => nomatch m
  | (z, t) :: r, n, h => by
    simp only [deepsB, Bool.and_eq_true] at h
    intro q m
    rcases List.mem_cons.mp m with rfl | m
    · exact deep_ofB t n h.1
    · exact deeps_ofB r n h.2 q m
end
/-- a type and its text -/
structure HandT (z : Str) (t : Ty) : Prop where
  text : z = wr t
  good : GoodT 6 t
  deep : DeepT 6 t
  few : (wr t).length ≤ 100000
theorem hand_of {z : Str} {t : Ty} (h : (decide (z = wr t) && (goodB t 6 && (deepB t 6 && decide ((wr t).length ≤ 100000)))) = true) : HandT z t := by
  simp only [Bool.and_eq_true, decide_eq_true_eq] at h
  exact ⟨h.1, good_ofB t 6 h.2.1, deep_ofB t 6 h.2.2.1, h.2.2.2⟩
def nameH (k : Nat) : Str := (⟨#[97 + k / 10]⟩ : Str) ++ ⟨#[97 + k % 10]⟩
def namesH : List Str := (List.range 100).map nameH
def wideT : Ty := .rcd (namesH.map fun n => (n, .number))
theorem wide_rows : wrFs (namesH.map fun n => (n, .number)) = namesH.map fun n => n ++ (": number" : Str) := by
  rw [wrFs_map, List.map_map]
  refine List.map_congr_left fun n _ => ?_
  apply ql_ext
  show ql (n ++ ": " ++ wr .number) = ql (n ++ ": number")
  rw [ql_app, ql_app, ql_app]
  simp only [wr]
  show ql n ++ [58, 32] ++ [110, 117, 109, 98, 101, 114] = ql n ++ [58, 32, 110, 117, 109, 98, 101, 114]
  simp
theorem wide_text : "{" ++ Txt.join ", " (namesH.map fun n => n ++ (": number" : Str)) ++ "}" = wr wideT := by
  show _ = wr (.rcd (namesH.map fun n => (n, .number)))
  simp only [wr]
  rw [wide_rows]
theorem nameH_len (k : Nat) : (nameH k).length = 2 := rfl
theorem wide_join : (Txt.join ", " (namesH.map fun n => n ++ (": number" : Str))).length ≤ 2000 := by
  rw [ql_len, ql_join]
  refine Nat.le_trans (joinL_up 10 _ fun z hz => ?_) ?_
  · obtain ⟨y, my, rfl⟩ := List.mem_map.mp hz
    obtain ⟨n, mn, rfl⟩ := List.mem_map.mp my
    obtain ⟨k, _, rfl⟩ := List.mem_map.mp mn
    rw [← ql_len, len_app, nameH_len]
    decide
  · rw [List.length_map, List.length_map, namesH, List.length_map, List.length_range]
    decide
theorem wide_len : (wr wideT).length ≤ 50000 := by
  have l := wide_join
  rw [← wide_text, len_app, len_app]
  have e1 : ("{" : Str).length = 1 := rfl
  have e2 : ("}" : Str).length = 1 := rfl
  omega
theorem namesH_apart : namesH.Nodup := by decide +kernel
theorem names_sorted : sortedS namesH = true := by decide +kernel
theorem names_fine : (namesH.all fun q => decide (letters q) && (decide (q.length ≤ 12) && decide (q.length ≠ 0))) = true := by decide +kernel
theorem wide_good : GoodT 1 wideT := by
  have firsts : (namesH.map fun n => (n, Ty.number)).map (·.1) = namesH := by
    rw [List.map_map]
    exact List.map_id _
  have many : (namesH.map fun n => (n, Ty.number)).length = 100 := by rw [List.length_map, namesH, List.length_map, List.length_range]
  refine .rcd (fun e => ?_) (by rw [firsts]; exact namesH_apart) (by rw [firsts]; exact names_sorted) (by rw [many]; decide) (fun q m => ?_) (fun q m => ?_)
  · rw [e] at many
    cases many
  · obtain ⟨n, mn, rfl⟩ := List.mem_map.mp m
    have h := List.all_eq_true.mp names_fine n mn
    simpa only [Bool.and_eq_true, decide_eq_true_eq] using h
  · obtain ⟨n, mn, rfl⟩ := List.mem_map.mp m
    exact .plain rfl
theorem ten_at {i : Int} {j : Nat} (e : i = (j : Int)) (h : j < 10) : atI ("abcdefghij" : Str).cps.toList i = some (97 + j) := by
  subst e
  rcases (by omega : j = 0 ∨ j = 1 ∨ j = 2 ∨ j = 3 ∨ j = 4 ∨ j = 5 ∨ j = 6 ∨ j = 7 ∨ j = 8 ∨ j = 9) with rfl | rfl | rfl | rfl | rfl | rfl | rfl | rfl | rfl | rfl <;> rfl
theorem names_len : namesH.length = 100 := by rw [namesH, List.length_map, List.length_range]
theorem names_at {i : Nat} (h : i < 100) : namesH[i]? = some (nameH i) := by
  rw [namesH, List.getElem?_map, List.getElem?_range h]
  rfl
theorem names_take {i : Nat} (h : i < 100) : namesH.take (i + 1) = namesH.take i ++ [nameH i] := by
  rw [List.take_succ, names_at h]
  rfl
theorem names_all : namesH.take 100 = namesH := by
  have := List.take_length (l := namesH)
  rw [names_len] at this
  exact this
theorem name_of (k : Nat) : (⟨#[97 + k / 10]⟩ : Str) ++ (⟨#[97 + k % 10]⟩ : Str) = nameH k := rfl
theorem wide_sum : ((namesH.map fun n => n ++ (": number" : Str)).map (·.length)).sum + (namesH.map fun n => n ++ (": number" : Str)).length * 2 ≤ 3000 := by
  have jl := join_len (namesH.map fun n => n ++ (": number" : Str))
  have wj := wide_join
  omega
theorem wide_deep : DeepT 1 wideT := .rcd (by rw [List.length_map, names_len]; decide) fun q m => by
  obtain ⟨n, mn, rfl⟩ := List.mem_map.mp m
  exact .plain rfl
theorem DeepT.upTo {t : Ty} : ∀ {n : Nat} (k : Nat), DeepT n t → DeepT (n + k) t
  | _, 0, g => g
  | _, k + 1, g => (DeepT.upTo k g).up
theorem wide_hand : HandT ("{" ++ Txt.join ", " (namesH.map fun n => n ++ (": number" : Str)) ++ "}") wideT := ⟨wide_text, GoodT.upTo 5 wide_good, DeepT.upTo 5 wide_deep, Nat.le_trans wide_len (by decide)⟩
def keyO : PyData → Option Key
  | .str z => some (.inr z)
  | .int i => some (.inl i)
  | _ => none
def keyB : PyData → Bool
  | .str z => isNmB z
  | .int _ => true
  | _ => false
def vdB : Nat → PyData → Bool
  | n + 1, .tuple ds => decide (ds.length ≤ 100) && ds.all (vdB n)
  | n + 1, .dict kvs => decide (kvs.length ≤ 100) && (decide ((kvs.map fun kv => keyO kv.1).Nodup) && kvs.all fun kv => keyB kv.1 && vdB n kv.2)
  | _, .int i => decide (i.natAbs ≤ 10 ^ 40)
  | _, .str z => decide (z = "")
  | _, .none => true
  | _, .bool _ => true
  | _, _ => false
theorem tx_nil : TxV "" := ⟨by decide, fun c m => by cases m⟩
theorem vd_of : ∀ (n : Nat) (d : PyData), vdB n d = true → Vd n d
  | n + 1, .tuple ds, h => by
    simp only [vdB, Bool.and_eq_true, decide_eq_true_eq, List.all_eq_true] at h
    simp only [Vd]
    exact ⟨h.1, fun x m => vd_of n x (h.2 x m)⟩
  | n + 1, .dict kvs, h => by
    simp only [vdB, Bool.and_eq_true, decide_eq_true_eq, List.all_eq_true] at h
    simp only [Vd]
    refine ⟨⟨h.1, ?_, fun kv m => ?_⟩, fun kv m => vd_of n kv.2 (h.2.2 kv m).2⟩
    · refine List.Pairwise.of_map (S := (· ≠ ·)) keyO (fun a b ne e => ne (congrArg keyO e)) ?_
      rw [List.map_map]
      exact h.2.1
    · have z := (h.2.2 kv m).1
      generalize kv.1 = k at z
      cases k <;> simp only [keyB, Bool.false_eq_true] at z
      · trivial
      · exact isNm_of z
  | 0, .int i, h => by simpa [vdB, Vd] using h
  | n + 1, .int i, h => by simpa [vdB, Vd] using h
  | 0, .str z, h => by
    obtain rfl : z = "" := by simpa [vdB] using h
    simp only [Vd]
    exact tx_nil
  | n + 1, .str z, h => by
    obtain rfl : z = "" := by simpa [vdB] using h
    simp only [Vd]
    exact tx_nil
  | 0, .tuple _, h => by simp [vdB] at h
  | 0, .dict _, h => by simp [vdB] at h
  | 0, .none, _ => by simp [Vd]
  | n + 1, .none, _ => by simp [Vd]
  | 0, .bool _, _ => by simp [Vd]
  | n + 1, .bool _, _ => by simp [Vd]
  | 0, .list _, h => by simp [vdB] at h
  | n + 1, .list _, h => by simp [vdB] at h
def rowsTy : Ty := .keyed (.rcd [("id", .number), ("t", .opt .text)]) "id"
def oneTy : Ty := .rcd [("id", .number), ("t", .opt .text)]
def rowD (k : Nat) : PyData := .dict [(.str "id", .int ((0 : Int) + (k : Int))), (.str "t", .none)]
def goodDs : List PyData := (List.range 60).map rowD
def wideDs : List (PyData × PyData) := namesH.map fun n => (.str n, .int 1)
def isJJ : Option (List PyData) → Bool
  | some [.str z] => decide (z = "jj")
  | _ => false
theorem isJJ_of {o : Option (List PyData)} (h : isJJ o = true) : o = some [.str "jj"] := by
  unfold isJJ at h
  split at h
  · rw [of_decide_eq_true h]
  · cases h
theorem sixty_one {t : Ty} {k : Str} {ds : List PyData} (h : 60 < ds.length) : (tr (.keyed t k) (.tuple ds) []).isNone = false := by
  simp only [tr]
  rw [if_neg (by omega)]
  rfl
/-- the things of the law, of which no more is asked than what is told here -/
structure Hands where
  names : List Str
  name : Nat → Str
  hundred : names.length = 100
  at' : ∀ {i : Nat}, i < 100 → names[i]? = some (name i)
  take' : ∀ {i : Nat}, i < 100 → names.take (i + 1) = names.take i ++ [name i]
  whole : names.take 100 = names
  apart : names.Nodup
  two : ∀ i, (name i).length = 2
  made : ∀ k : Nat, (⟨#[97 + k / 10]⟩ : Str) ++ (⟨#[97 + k % 10]⟩ : Str) = name k
  sum : ((names.map fun n => n ++ (": number" : Str)).map (·.length)).sum + (names.map fun n => n ++ (": number" : Str)).length * 2 ≤ 3000
  join : (Txt.join ", " (names.map fun n => n ++ (": number" : Str))).length ≤ 2000
  wide : Ty
  wideH : HandT ("{" ++ Txt.join ", " (names.map fun n => n ++ (": number" : Str)) ++ "}") wide
  wideFits : tr wide (.dict (names.map fun n => (.str n, .int 1))) [] = none
  spoilt : tr wide (.dict (putDs (names.map fun n => (.str n, .int 1)) "jj" (.str ""))) [] = some [.str "jj"]
  wideV : Vd 8 (.dict (names.map fun n => (.str n, .int 1)))
  spoiltV : Vd 8 (.dict (putDs (names.map fun n => (.str n, .int 1)) "jj" (.str "")))
  rows : Ty
  rowsH : HandT "[{id: number, t: text?} by id]" rows
  one : Ty
  oneH : HandT "{id: number, t: text?}" one
  ds : List PyData
  dsLen : ds.length = 60
  dsTake : ∀ {i : Nat}, i < 60 → ds.take (i + 1) = ds.take i ++ [.dict [(.str "id", .int ((0 : Int) + (i : Int))), (.str "t", .none)]]
  g1 : (tr rows (.tuple ds) []).isNone = true
  g2 : ∀ d, (tr rows (.tuple (ds ++ [d])) []).isNone = false
  g3 : (tr rows (.tuple (ds.take 5 ++ ds.take 1)) []).isNone = false
  g4 : (tr rows (.tuple []) []).isNone = true
  g9 : (tr one (.dict [(.str "id", .int 1)]) []).isNone = false
  v1 : Vd 8 (.tuple ds)
  v2 : Vd 8 (.tuple (ds ++ [.dict [(.str "id", .int 60), (.str "t", .str "")]]))
  v3 : Vd 8 (.tuple (ds.take 5 ++ ds.take 1))
  l60 : (tr (.list .number) (.tuple (List.replicate 60 (.int 1))) []).isNone = true
  l61 : (tr (.list .number) (.tuple (List.replicate 61 (.int 1))) []).isNone = false
theorem ds_take {i : Nat} (h : i < 60) : goodDs.take (i + 1) = goodDs.take i ++ [.dict [(.str "id", .int ((0 : Int) + (i : Int))), (.str "t", .none)]] := by
  rw [List.take_succ]
  congr 1
  rw [goodDs, List.getElem?_map, List.getElem?_range h]
  rfl
theorem hands : Nonempty Hands := ⟨{ names := namesH, name := nameH, hundred := names_len, at' := names_at, take' := names_take, whole := names_all, apart := namesH_apart, two := nameH_len, made := name_of, sum := wide_sum, join := wide_join, wide := wideT, wideH := wide_hand, wideFits := Option.isNone_iff_eq_none.mp (show (tr wideT (.dict wideDs) []).isNone = true by decide +kernel), spoilt := isJJ_of (show isJJ (tr wideT (.dict (putDs wideDs "jj" (.str ""))) []) = true by decide +kernel), wideV := vd_of 8 _ (show vdB 8 (.dict wideDs) = true by decide +kernel), spoiltV := vd_of 8 _ (show vdB 8 (.dict (putDs wideDs "jj" (.str ""))) = true by decide +kernel), rows := rowsTy, rowsH := hand_of (by decide +kernel), one := oneTy, oneH := hand_of (by decide +kernel), ds := goodDs, dsLen := (by rw [goodDs, List.length_map, List.length_range]), dsTake := ds_take, g1 := (by decide +kernel), g2 := fun d => sixty_one (by rw [List.length_append, goodDs, List.length_map, List.length_range]; show 60 < 60 + 1; decide), g3 := (by decide +kernel), g4 := (by decide +kernel), g9 := (by decide +kernel), v1 := vd_of 8 _ (by decide +kernel), v2 := vd_of 8 _ (by decide +kernel), v3 := vd_of 8 _ (by decide +kernel), l60 := (by decide +kernel), l61 := (by decide +kernel) }⟩
end KX

namespace KX
open PySem PySem.Spec L2 PyProof.Rows
theorem pool_after {H1 H2 H3 : Hp} {p : Addr} (s : Same H1 H2) (new : H1 p = none) (k : Keep p H2 H3) : Same H1 H3 := fun b o e => k b o (ne_of_none e new) (s b o e)
theorem minmax (c : Int) (n : Nat) (hc : 2 ≤ c) : ∃ m : Nat, (if (if c < (n : Int) then c else (n : Int)) > 2 then (if c < (n : Int) then c else (n : Int)) else 2) = (m : Int) ∧ (m : Int) ≤ c := by
  by_cases h : c < (n : Int)
  · by_cases h2 : c > 2
    · exact ⟨c.toNat, by rw [if_pos h, if_pos h2]; omega, by omega⟩
    · exact ⟨2, by rw [if_pos h, if_neg h2]; rfl, hc⟩
  · by_cases h2 : (n : Int) > 2
    · exact ⟨n, by rw [if_neg h, if_pos h2], by omega⟩
    · exact ⟨2, by rw [if_neg h, if_neg h2]; rfl, hc⟩
theorem merge_apart : ∀ {more kvs : List (Key × V)}, (kvs.map (·.1) ++ more.map (·.1)).Nodup → mergeK kvs more = kvs ++ more
  | [], kvs, _ => by
    show kvs = _
    rw [List.append_nil]
  | (k, v) :: more, kvs, nd => by
    have nd' : (kvs.map (·.1) ++ [k] ++ more.map (·.1)).Nodup := by
      rw [List.append_assoc]
      exact nd
    have new : ¬ (kvs.any fun kv => decide (kv.1 = k)) = true := fun h => by
      obtain ⟨kv, m, e⟩ := List.any_eq_true.mp h
      rw [List.map_cons, List.nodup_append] at nd
      exact nd.2.2 k (List.mem_map.mpr ⟨kv, m, of_decide_eq_true e⟩) k List.mem_cons_self rfl
    have one : putK kvs k v = kvs ++ [(k, v)] := by
      unfold putK
      rw [if_neg new]
    show mergeK (putK kvs k v) more = _
    rw [one, merge_apart (by rw [List.map_append]; exact nd'), List.append_assoc]
    rfl
section
variable {base : Heap} {P : Program} {w : World} {K : PySem.W.Frag} {mg : Str → Option Value} {tk : Str → Tok} {TC ED RC : Addr} {mc : Value} {rp rf : Addr} {rd : FuncData}
theorem reps_dq {H : Hp} (n : Nat) : DqAll K H (List.replicate n [V.int 1]).flatten (List.replicate n (.int 1)) := by
  induction n with
  | zero => exact .nil
  | succ n ih =>
    rw [List.replicate_succ, List.replicate_succ, List.flatten_cons]
    exact .cons (.int 1) ih
theorem take_dq {H : Hp} : ∀ {xs : List V} {ds : List PyData} (n : Nat), DqAll K H xs ds → DqAll K H (xs.take n) (ds.take n)
  | _, _, 0, _ => by
    rw [List.take_zero, List.take_zero]
    exact .nil
  | _, _, n + 1, .nil => by
    rw [List.take_nil, List.take_nil]
    exact .nil
  | _, _, n + 1, .cons h r => by
    rw [List.take_succ_cons, List.take_succ_cons]
    exact .cons h (take_dq n r)
theorem reps_vd {n : Nat} (h : n ≤ 100) : Vd 8 (.tuple (List.replicate n (.int 1))) := by
  simp only [Vd]
  refine ⟨by rw [List.length_replicate]; exact h, fun x m => ?_⟩
  rw [List.eq_of_mem_replicate m]
  simp only [Vd]
  decide
/-- in, of whatever the law asks about -/
def spHas2 (K : PySem.W.Frag) (TC ED : Addr) : Sp := fun vs H Q E => spHas K TC ED vs H Q E ∨ spHasN K TC ED vs H Q E
theorem in_type2 {H : Hp} {a : Addr} {t : Ty} {v : V} {d : PyData} {n m : Nat} {flip : Bool → Bool} {Q : VK} (at' : TyAt TC ED H (.ref a) t) (deep : DeepT n t) (few : n < 8) (dv : Dq K H v d) (vd : Vd m d)
    (q : ∀ H', Same H H' → Q (.bl (flip (tr t d []).isNone)) H') : rOwn TC (spHas2 K TC ED) flip (.ref a) v H Q := by
  obtain ⟨a0, dx, vi, vf, e, row, _⟩ := at'.obj
  obtain rfl := V.ref.inj e
  exact ⟨a, dx, _, rfl, row, .inl ⟨a, t, v, d, n, m, rfl, few, deep, at', dv, vd, fun H' s => ⟨_, rfl, q H' s⟩⟩⟩
theorem in_odd {H : Hp} {a b : Addr} {ks : List V} {fs : List (Str × Ty)} {flip : Bool → Bool} {Q : VK} (at' : TyAt TC ED H (.ref a) (.rcd fs) ∨ TyAt TC ED H (.ref a) (.opt (.rcd fs))) (hb : H b = some (RawD b ks)) (odd : OddK H ks) (q : ∀ H', Same H H' → Q (.bl (flip false)) H') : rOwn TC (spHas2 K TC ED) flip (.ref a) (.ref b) H Q := by
  have row : ∃ dx fs, H a = some (.ins TC dx fs) := by
    rcases at' with h | h
    · obtain ⟨dx, vi, vf, row⟩ := h.has
      exact ⟨dx, _, row⟩
    · obtain ⟨dx, vi, vf, row⟩ := h.has
      exact ⟨dx, _, row⟩
  obtain ⟨dx, fs', row⟩ := row
  exact ⟨a, dx, _, rfl, row, .inr ⟨a, b, ks, fs, rfl, at', hb, odd, fun H' s => ⟨_, rfl, q H' s⟩⟩⟩
def numTy : Ty := .list .number
theorem num_hand : HandT "[number]" (.list .number) := hand_of (by decide +kernel)
theorem number_hand : HandT "number" .number := hand_of (by decide +kernel)
theorem flag_hand : HandT "flag" .flag := hand_of (by decide +kernel)
theorem opt_hand : HandT "[text]?" (.opt (.list .text)) := hand_of (by decide +kernel)
theorem a_hand : HandT "{a: number}" (.rcd [("a", .number)]) := hand_of (by decide +kernel)
theorem aopt_hand : HandT "{a: number}?" (.opt (.rcd [("a", .number)])) := hand_of (by decide +kernel)
theorem hand_reads {H : Hp} {z : Str} {t : Ty} {Q : VK} {E : XK} (h : HandT z t) (q : ∀ (x : Addr) (H' : Hp), Same H H' → TyAt TC ED H' (.ref x) t → Q (.ref x) H') : spTread TC ED ([.ref TC, .str z] ++ []) H Q E := reads (by rw [h.text]) h.good h.few q
/-- a dict with values that are numbers or texts -/
theorem flat_kv {H : Hp} : ∀ (ns : List Str), DqKv K H (ns.map fun n => ((Sum.inr n : Key), V.int 1)) (ns.map fun n => (PyData.str n, PyData.int 1))
  | [] => .nil
  | n :: r => .cons (k := Sum.inr n) (.int 1) (flat_kv r)
/-- what is of neither type -/
def MixOk (K : PySem.W.Frag) (G : Hp) (v : V) : Prop := (∃ d, Dq K G v d ∧ Vd 8 d ∧ (tr (.rcd [("a", .number)]) d []).isNone = false ∧ (tr (.opt (.rcd [("a", .number)])) d []).isNone = false) ∨ ∃ (b : Addr) (ks : List V), v = .ref b ∧ G b = some (RawD b ks) ∧ OddK G ks
theorem MixOk.same {G G' : Hp} {v : V} (h : MixOk K G v) (s : Same G G') : MixOk K G' v := by
  rcases h with ⟨d, dq, r⟩ | ⟨b, ks, e, at', odd⟩
  · exact .inl ⟨d, Dq.same s _ _ dq, r⟩
  · exact .inr ⟨b, ks, e, s _ _ at', odd.same s⟩
theorem mix_in {G : Hp} {x : Addr} {v : V} {Q : VK} (h : MixOk K G v) (at' : TyAt TC ED G (.ref x) (.rcd [("a", .number)])) (q : ∀ G', Same G G' → Q (.bl false) G') : rOwn TC (spHas2 K TC ED) id (.ref x) v G Q := by
  rcases h with ⟨d, dq, vd, n1, n2⟩ | ⟨b, ks, rfl, hb, odd⟩
  · refine in_type2 at' a_hand.deep (by decide) dq vd fun G' s => ?_
    rw [n1]
    exact q G' s
  · exact in_odd (.inl at') hb odd q
theorem mix_opt {G : Hp} {x : Addr} {v : V} {Q : VK} (h : MixOk K G v) (at' : TyAt TC ED G (.ref x) (.opt (.rcd [("a", .number)]))) (q : ∀ G', Same G G' → Q (.bl false) G') : rOwn TC (spHas2 K TC ED) id (.ref x) v G Q := by
  rcases h with ⟨d, dq, vd, n1, n2⟩ | ⟨b, ks, rfl, hb, odd⟩
  · refine in_type2 at' aopt_hand.deep (by decide) dq vd fun G' s => ?_
    rw [n2]
    exact q G' s
  · exact in_odd (.inr at') hb odd q
abbrev s_law : Stmt := top 53
abbrev N_law : List Str := ["_law_script", "_law_rows", "_law_good", "_law_some", "_law_words_here", "_law_wide", "_law_word", "_law_many", "_law_spoilt", "_law_mixed", "_law_k", "_law_matter"]
abbrev P_law : List Str := ["_law_script"]
theorem sc_law : FnScope N_law P_law (defScope s_law) := ⟨rfl, rfl, rfl, by decide +kernel, rfl, by decide +kernel, by decide +kernel⟩
def spLaw (K : PySem.W.Frag) : Sp := fun vs H Q _ => ∃ (a : Addr) (ns : List Int), vs = [.ref a] ∧ SqL K H a (ns.map V.int) ∧ ns.length ≤ 63 ∧ ∀ H' : Hp, Q (.bl true) H'
theorem ok_law {f f1 f2 f3 f4 f5 f6 : Addr} {fd d1 d2 d3 d4 d5 d6 : FuncData} (F : Fun K "law" "law" s_law f fd) (T : BlT mg) (RT : ReadC P w K mg base TC ED mc rp rf rd) (hands : Nonempty Hands)
    (M_has : MtD P w K mg base TC "__contains__" 21 P_has (spHas2 K TC ED) f1 d1) (M_trouble : MtD P w K mg base TC "trouble" 21 P_trouble (spTrouble K TC ED) f2 d2)
    (DG_right : DefG P w K mg base "_law_right" 36 P_right spRight f3 d3) (DG_right_again : DefG P w K mg base "_law_right_again" 36 P_again spRight f4 d4)
    (D_pool : Def P w K mg base "_law_pool" 1 P_pool spPool f5 d5) (D_cell : Def P w K mg base "_law_cell" 1 P_cell (spCell K) f6 d6) : FnG P w K mg base 37 f fd P_law (spLaw K) := by
  obtain ⟨hh⟩ := hands
  refine Fun.g F sc_law (fun vs H Q h => ?_) (fun cdv A outer s H vs Q quiet hr h => ?_)
  · obtain ⟨a, ns, rfl, _⟩ := h
    rfl
  obtain ⟨a, ns, rfl, hS, h63, q⟩ := h
  have sizes : ∀ n : Nat, n ≤ 100 → n ≤ sizeLine := fun n h => big (by omega)
  refine ⟨_, (pss_cons (ps_set (i := 1) sc_law.nd rfl (Or.inl rfl) (ClX.pe_cmeth (pe_glob (v := .ref TC) rfl RT.g rfl) RT.r RT.m (FnOk.raw RT.ok RT.b .nil) (hr.mono (by first | decide | omega)) pass0 (pa_cons pe_str pa_nil)))
    (pss_cons (ps_set (i := 2) sc_law.nd rfl (Or.inl rfl) (pe_callTy call_tuple_of (by rfl) T.tuple (by decide +kernel) (pa_cons (pe_lc (own := [("_law_k", 10)]) (g := (gName 10)) (tt := tYes) rfl sc_law.nd (pi_range1 rfl T.range (pa_cons pe_int pa_nil)) (blkOk_by (own := [("_law_k", 10)]) (N := N_law) (sc := defScope s_law) (by decide +kernel)) (fun _ _ _ _ _ => (pg_name (i := 10) sc_law.nd rfl (Or.inl rfl))) (fun _ _ _ _ _ => pts_nil) (fun _ _ _ _ _ => (pe_disp (pps_cons pe_str (pv 10) (pps_cons pe_str pe_non pps_nil)) (by rfl) (by rfl) (fun z => by cases z) (by decide)))) pa_nil)))
    (pss_cons (ps_set (i := 3) sc_law.nd rfl (Or.inl rfl) (pe_lst (pa_cons (pe_cmpR (op_ownIn M_has (hr.mono (by first | decide | omega))) (pv 2) (pv 1) (by with_unfolding_all rfl)) (pa_cons (pe_cmpR (op_ownIn M_has (hr.mono (by first | decide | omega))) (pe_op op_catT (pv 2) (pe_tup (pa_cons (pe_disp (pps_cons pe_str pe_int (pps_cons pe_str pe_str pps_nil)) (by rfl) (by rfl) (fun z => by cases z) (by decide)) pa_nil))) (pv 1) (by with_unfolding_all rfl)) (pa_cons (pe_cmpR (op_ownIn M_has (hr.mono (by first | decide | omega))) (pe_op op_catT (pe_slice (sl_tupAK K rfl) (pv 2) po_none (po_some pe_int)) (pe_slice (sl_tupAK K rfl) (pv 2) po_none (po_some pe_int))) (pv 1) (by with_unfolding_all rfl)) (pa_cons (pe_cmpR (op_ownIn M_has (hr.mono (by first | decide | omega))) (pe_tup pa_nil) (pv 1) (by with_unfolding_all rfl)) pa_nil))))))
    (pss_cons (ps_set (i := 3) sc_law.nd rfl (Or.inl rfl) (pe_op op_cat (pv 3) (pe_lst (pa_cons (pe_cmpR (op_ownIn M_has (hr.mono (by first | decide | omega))) (pe_op op_repT (pe_tup (pa_cons pe_int pa_nil)) pe_int) (ClX.pe_cmeth (pe_glob (v := .ref TC) rfl RT.g rfl) RT.r RT.m (FnOk.raw RT.ok RT.b .nil) (hr.mono (by first | decide | omega)) pass0 (pa_cons pe_str pa_nil)) (by with_unfolding_all rfl)) (pa_cons (pe_cmpR (op_ownIn M_has (hr.mono (by first | decide | omega))) (pe_op op_repT (pe_tup (pa_cons pe_int pa_nil)) pe_int) (ClX.pe_cmeth (pe_glob (v := .ref TC) rfl RT.g rfl) RT.r RT.m (FnOk.raw RT.ok RT.b .nil) (hr.mono (by first | decide | omega)) pass0 (pa_cons pe_str pa_nil)) (by with_unfolding_all rfl)) (pa_cons (pe_cmpR (op_ownIn M_has (hr.mono (by first | decide | omega))) pe_bl (ClX.pe_cmeth (pe_glob (v := .ref TC) rfl RT.g rfl) RT.r RT.m (FnOk.raw RT.ok RT.b .nil) (hr.mono (by first | decide | omega)) pass0 (pa_cons pe_str pa_nil)) (by with_unfolding_all rfl)) pa_nil))))))
    (pss_cons (ps_set (i := 3) sc_law.nd rfl (Or.inl rfl) (pe_op op_cat (pv 3) (pe_lst (pa_cons (pe_cmpR (op_ownIn M_has (hr.mono (by first | decide | omega))) pe_int (ClX.pe_cmeth (pe_glob (v := .ref TC) rfl RT.g rfl) RT.r RT.m (FnOk.raw RT.ok RT.b .nil) (hr.mono (by first | decide | omega)) pass0 (pa_cons pe_str pa_nil)) (by with_unfolding_all rfl)) (pa_cons (pe_cmpR (op_ownIn M_has (hr.mono (by first | decide | omega))) (pe_disp (pps_cons pe_str pe_int pps_nil) (by rfl) (by rfl) (fun z => by cases z) (by decide)) (ClX.pe_cmeth (pe_glob (v := .ref TC) rfl RT.g rfl) RT.r RT.m (FnOk.raw RT.ok RT.b .nil) (hr.mono (by first | decide | omega)) pass0 (pa_cons pe_str pa_nil)) (by with_unfolding_all rfl)) pa_nil)))))
    (pss_cons (ps_expr (pe_bm PySem.F.plainAttrs_list PySem.F.slot_list_append PySem.F.type_list_append mt_append (pv 3) (pa_cons (pe_cmpR (op_ownIn M_has (hr.mono (by first | decide | omega))) pe_non (ClX.pe_cmeth (pe_glob (v := .ref TC) rfl RT.g rfl) RT.r RT.m (FnOk.raw RT.ok RT.b .nil) (hr.mono (by first | decide | omega)) pass0 (pa_cons pe_str pa_nil)) (by with_unfolding_all rfl)) pa_nil)))
    (pss_cons (ps_if (pt_cmpR (op_neF K rfl hr.units) (pv 3) (pe_lst (pa_cons pe_bl (pa_cons pe_bl (pa_cons pe_bl (pa_cons pe_bl (pa_cons pe_bl (pa_cons pe_bl (pa_cons pe_bl (pa_cons pe_bl (pa_cons pe_bl (pa_cons pe_bl pa_nil))))))))))) (nomark _))
      (pss_one (ps_ret pe_bl))
      pss_nil)
    (pss_cons (ps_par rfl sc_law.nd (i := 4) (j := 5) rfl rfl (by decide) rfl rfl (pa_cons (pe_lc (own := [("_law_k", 10)]) (g := (gName 10)) (tt := tYes) rfl sc_law.nd (pi_range1 rfl T.range (pa_cons pe_int pa_nil)) (blkOk_by (own := [("_law_k", 10)]) (N := N_law) (sc := defScope s_law) (by decide +kernel)) (fun _ _ _ _ _ => (pg_name (i := 10) sc_law.nd rfl (Or.inl rfl))) (fun _ _ _ _ _ => pts_nil) (fun _ _ _ _ _ => (pe_op op_add_str (pe_ix ix_str pe_str (pe_op op_fdiv (pv 10) pe_int) (fun _ _ => rfl)) (pe_ix ix_str pe_str (pe_op op_mod (pv 10) pe_int) (fun _ _ => rfl))))) (pa_cons pe_dnewK pa_nil)) (by rfl))
    (pss_cons (ps_for PassesOwn.never rfl (pi_list (pv 4)) (pg_name (i := 6) sc_law.nd rfl (Or.inl rfl))
      (pss_one (ps_dput (hu_of hr) (pv 5) (pv 6) pe_int rfl)))
    (pss_cons (ps_set (i := 7) sc_law.nd rfl (Or.inl rfl) (ClX.pe_cmeth (pe_glob (v := .ref TC) rfl RT.g rfl) RT.r RT.m (FnOk.raw RT.ok RT.b .nil) (hr.mono (by first | decide | omega)) pass0 (pa_cons (pe_op op_add_str (pe_op op_add_str pe_str (pe_join pe_str (pe_lc (own := [("_law_word", 6)]) (g := (gName 6)) (tt := tYes) rfl sc_law.nd (pi_list (pv 4)) (blkOk_by (own := [("_law_word", 6)]) (N := N_law) (sc := defScope s_law) (by decide +kernel)) (fun _ _ _ _ _ => (pg_name (i := 6) sc_law.nd rfl (Or.inl rfl))) (fun _ _ _ _ _ => pts_nil) (fun _ _ _ _ _ => (pe_op op_add_str (pv 6) pe_str))))) pe_str) pa_nil)))
    (pss_cons (ps_set (i := 8) sc_law.nd rfl (Or.inl rfl) (pe_callTy call_dictD (by rfl) T.dict (by decide +kernel) (pa_cons (pv 5) pa_nil)))
    (pss_cons (ps_dput (hu_of hr) (pv 8) pe_str pe_str rfl)
    (pss_cons (ps_if (PW.pt (pw_or (pt_cmpR (op_ownNotIn M_has (hr.mono (by first | decide | omega))) (pv 5) (pv 7) (by with_unfolding_all rfl)) (pw_or (pt_cmpR (op_ownIn M_has (hr.mono (by first | decide | omega))) (pv 8) (pv 7) (by with_unfolding_all rfl)) (pw_or (pt_cmpR op_notN (pe_meth (pv 7) M_trouble.cl M_trouble.me M_trouble.ok (hr.mono (by first | decide | omega)) M_trouble.b .nil pass0 (pa_cons (pv 5) pa_nil)) pe_non (nomark _)) (pw_or1 (pt_cmpR (op_neK K rfl hr.units) (pe_meth (pv 7) M_trouble.cl M_trouble.me M_trouble.ok (hr.mono (by first | decide | omega)) M_trouble.b .nil pass0 (pa_cons (pv 8) pa_nil)) (pe_tup (pa_cons pe_str pa_nil)) (nomark _)))))))
      (pss_one (ps_ret pe_bl))
      pss_nil)
    (pss_cons (ps_set (i := 9) sc_law.nd rfl (Or.inl rfl) (pe_lst (pa_cons (pe_disp (pps_cons pe_str pe_int (pps_cons pe_int pe_int pps_nil)) (by rfl) (by rfl) (fun z => by cases z) (by decide)) (pa_cons (pe_dispR hr.units0 (pps_cons pe_str pe_int (pps_cons pe_non pe_int pps_nil)) (by rfl) (by rfl) (fun z => by cases z) (by decide)) (pa_cons (pe_disp (pps_cons pe_int pe_int pps_nil) (by rfl) (by rfl) (fun z => by cases z) (by decide)) (pa_cons (pe_dispR hr.units0 (pps_cons (pe_tup pa_nil) pe_int (pps_cons pe_str pe_int (pps_cons pe_int pe_int pps_nil))) (by rfl) (by rfl) (fun z => by cases z) (by decide)) pa_nil))))))
    (pss_cons (ps_if (pt_val (pe_callB (cr_any rfl) (by rfl) T.any (by decide +kernel) (pa_cons (pe_lc (own := [("_law_matter", 11)]) (g := (gName 11)) (tt := tYes) rfl sc_law.nd (pi_list (pv 9)) (blkOk_by (own := [("_law_matter", 11)]) (N := N_law) (sc := defScope s_law) (by decide +kernel)) (fun _ _ _ _ _ => (pg_name (i := 11) sc_law.nd rfl (Or.inl rfl))) (fun _ _ _ _ _ => pts_nil) (fun _ _ _ _ _ => (pe_or (pe_cmpR (op_ownIn M_has (hr.mono (by first | decide | omega))) (pv 11) (ClX.pe_cmeth (pe_glob (v := .ref TC) rfl RT.g rfl) RT.r RT.m (FnOk.raw RT.ok RT.b .nil) (hr.mono (by first | decide | omega)) pass0 (pa_cons pe_str pa_nil)) (by with_unfolding_all rfl)) (pe_one (pe_cmpR (op_ownIn M_has (hr.mono (by first | decide | omega))) (pv 11) (ClX.pe_cmeth (pe_glob (v := .ref TC) rfl RT.g rfl) RT.r RT.m (FnOk.raw RT.ok RT.b .nil) (hr.mono (by first | decide | omega)) pass0 (pa_cons pe_str pa_nil)) (by with_unfolding_all rfl)))))) pa_nil)))
      (pss_one (ps_ret pe_bl))
      pss_nil)
    (pss_cons (ps_if (pt_not (pt_val (pe_callB (cr_all rfl) (by rfl) T.all (by decide +kernel) (pa_cons (pe_lc (own := [("_law_k", 10)]) (g := (gName 10)) (tt := tYes) rfl sc_law.nd (pi_range1 rfl T.range (pa_cons (pe_callB (call_max2 rfl) (by rfl) T.max (by decide +kernel) (pa_cons pe_int (pa_cons (pe_callB (call_min2 rfl) (by rfl) T.min (by decide +kernel) (pa_cons (pe_callB (call_lenK K rfl) (by rfl) T.len PySem.boot_len (pa_cons (pv 0) pa_nil)) (pa_cons pe_int pa_nil))) pa_nil))) pa_nil)) (blkOk_by (own := [("_law_k", 10)]) (N := N_law) (sc := defScope s_law) (by decide +kernel)) (fun _ _ _ _ _ => (pg_name (i := 10) sc_law.nd rfl (Or.inl rfl))) (fun _ _ _ _ _ => pts_nil) (fun _ _ _ _ _ => (pe_callG quiet DG_right (hr.mono (by first | decide | omega)) rfl (pa_cons (pe_call D_pool.ok (hr.mono (by first | decide | omega)) rfl D_pool.g D_pool.kp D_pool.b .nil pass0 (pa_cons (pe_call D_cell.ok (hr.mono (by first | decide | omega)) rfl D_cell.g D_cell.kp D_cell.b .nil pass0 (pa_cons (pv 0) (pa_cons (pv 10) pa_nil))) pa_nil)) pa_nil)))) pa_nil))))
      (pss_one (ps_ret pe_bl))
      pss_nil)
    (pss_one (ps_ret (pe_callB (cr_all rfl) (by rfl) T.all (by decide +kernel) (pa_cons (pe_lc (own := [("_law_k", 10)]) (g := (gName 10)) (tt := tYes) rfl sc_law.nd (pi_range1 rfl T.range (pa_cons (pe_callB (call_max2 rfl) (by rfl) T.max (by decide +kernel) (pa_cons pe_int (pa_cons (pe_callB (call_min2 rfl) (by rfl) T.min (by decide +kernel) (pa_cons (pe_callB (call_lenK K rfl) (by rfl) T.len PySem.boot_len (pa_cons (pv 0) pa_nil)) (pa_cons pe_int pa_nil))) pa_nil))) pa_nil)) (blkOk_by (own := [("_law_k", 10)]) (N := N_law) (sc := defScope s_law) (by decide +kernel)) (fun _ _ _ _ _ => (pg_name (i := 10) sc_law.nd rfl (Or.inl rfl))) (fun _ _ _ _ _ => pts_nil) (fun _ _ _ _ _ => (pe_callG quiet DG_right_again (hr.mono (by first | decide | omega)) rfl (pa_cons (pe_call D_pool.ok (hr.mono (by first | decide | omega)) rfl D_pool.g D_pool.kp D_pool.b .nil pass0 (pa_cons (pe_call D_cell.ok (hr.mono (by first | decide | omega)) rfl D_cell.g D_cell.kp D_cell.b .nil pass0 (pa_cons (pv 0) (pa_cons (pv 10) pa_nil))) pa_nil)) pa_nil)))) pa_nil)))))))))))))))))))), ?_⟩
  refine ⟨rfl, hand_reads hh.rowsH fun rx G1 s1 tr1 => ?_⟩
  refine ⟨60, rfl, by decide, by decide, fun D newD => ?_⟩
  have two : ∀ (x y : V), mergeK ([] : List (Key × V)) [((Sum.inr "id" : Key), x), ((Sum.inr "t" : Key), y)] = ([((Sum.inr "id" : Key), x), ((Sum.inr "t" : Key), y)] : List (Key × V)) := fun x y => merge_apart (kvs := []) (more := [((Sum.inr "id" : Key), x), ((Sum.inr "t" : Key), y)]) (by show ([Sum.inr "id", Sum.inr "t"] : List Key).Nodup; decide +kernel)
  refine lc_range (lo := 0) (n := 60) (fun i Z => Same G1 Z ∧ ∃ xs, Z D = some (.lst xs) ∧ DqAll K (hide D Z) xs (hh.ds.take i)) ⟨same_new newD _, [], upd_same, .nil⟩ ?_ ?_
  · rintro i Z hi ⟨kZ, xs, made, all⟩
    refine ⟨rfl, yesT ?_⟩
    intro d hd
    refine ⟨_, rfl, upd_same, [(.inr "id", _), (.inr "t", .non)], rfl, by simp, ?_⟩
    rw [two]
    have ne : d ≠ D := fun e => by
      rw [e, made] at hd
      cases hd
    have su : Same Z (upd (upd Z d (.dK [])) d (.dK [(.inr "id", .int ((0 : Int) + (i : Int))), (.inr "t", .non)])) := Same.updNew (same_new hd _) hd
    have fu : upd (upd Z d (.dK [])) d (.dK [(.inr "id", .int ((0 : Int) + (i : Int))), (.inr "t", .non)]) d = some (.dK [(.inr "id", .int ((0 : Int) + (i : Int))), (.inr "t", .non)]) := upd_same
    generalize upd (upd Z d (.dK [])) d (.dK [(.inr "id", .int ((0 : Int) + (i : Int))), (.inr "t", .non)]) = Z' at su fu ⊢
    have few : xs.length ≤ 60 := by
      rw [DqAll.length all, List.length_take]
      omega
    refine ⟨xs, su _ _ made, less_line (by omega), Same.updNew (kZ.trans su) newD, xs ++ [.ref d], upd_same, ?_⟩
    rw [hh.dsTake hi]
    refine DqAll.snoc (.dct (by rw [hide_ne ne, upd_ne ne]; exact fu) (.cons (k := .inr "id") (.int _) (.cons (k := .inr "t") .non .nil))) (DqAll.same ((Same.keep su).trans Keep.self).hide _ _ all)
  rintro G2 ⟨s2, xs, made, all⟩
  rw [show hh.ds.take 60 = hh.ds from by rw [← hh.dsLen, List.take_length]] at all
  refine ⟨D, xs, rfl, .inl ⟨SqL.of made, fun gt ht => ?_⟩⟩
  have s3 := same_new ht (.tup xs)
  have f3 : upd G2 gt (.tup xs) gt = some (.tup xs) := upd_same
  have all3 := DqAll.same (Same.trans (hide_sub _ _) s3) _ _ all
  generalize upd G2 gt (.tup xs) = G3 at s3 f3 all3 ⊢
  have len : xs.length = 60 := by rw [DqAll.length all, hh.dsLen]
  have dq3 : Dq K G3 (.ref gt) (.tuple hh.ds) := .tup f3 all3
  have s13 : Same G1 G3 := s2.trans s3
  have r3 := TyAt.same s13 _ _ tr1
  refine ⟨_, rfl, _, rfl, in_type2 r3 hh.rowsH.deep (by decide) dq3 hh.v1 fun G4 s4 => ?_⟩
  rw [hh.g1]
  have ne0 : xs ≠ [] := fun e => by
    rw [e] at len
    cases len
  refine ⟨_, rfl, ?_⟩
  intro d1 hd1
  refine ⟨upd_same, [(.inr "id", .int 60), (.inr "t", .str "")], rfl, by simp, ?_⟩
  rw [two]
  have s5 : Same G4 (upd (upd G4 d1 (.dK [])) d1 (.dK [(.inr "id", .int 60), (.inr "t", .str "")])) := Same.updNew (same_new hd1 _) hd1
  have f5 : upd (upd G4 d1 (.dK [])) d1 (.dK [(.inr "id", .int 60), (.inr "t", .str "")]) d1 = some (.dK [(.inr "id", .int 60), (.inr "t", .str "")]) := upd_same
  generalize upd (upd G4 d1 (.dK [])) d1 (.dK [(.inr "id", .int 60), (.inr "t", .str "")]) = G5 at s5 f5 ⊢
  refine ⟨sizes 1 (by decide), fun t6 ht6 => ?_⟩
  have s6 := same_new ht6 (.tup [.ref d1])
  have f6 : upd G5 t6 (.tup [.ref d1]) t6 = some (.tup [.ref d1]) := upd_same
  generalize upd G5 t6 (.tup [.ref d1]) = G6 at s6 f6 ⊢
  have s46 := s4.trans (s5.trans s6)
  refine ⟨gt, t6, xs, [.ref d1], rfl, rfl, SqT.of (s46 _ _ f3), SqT.of f6, ne0, sizes _ (by rw [len]; show 60 + 1 ≤ 100; decide), (fun e => nomatch e), fun _ p7 hp7 => ?_⟩
  have s7 := same_new hp7 (.tup (xs ++ [.ref d1]))
  have f7 : upd G6 p7 (.tup (xs ++ [.ref d1])) p7 = some (.tup (xs ++ [.ref d1])) := upd_same
  generalize upd G6 p7 (.tup (xs ++ [.ref d1])) = G7 at s7 f7 ⊢
  have s37 := s46.trans s7
  have dq7 : Dq K G7 (.ref p7) (.tuple (hh.ds ++ [.dict [(.str "id", .int 60), (.str "t", .str "")]])) := .tup f7 (DqAll.snoc (.dct (s7 _ _ (s6 _ _ f5)) (.cons (k := .inr "id") (.int 60) (.cons (k := .inr "t") (.str "") .nil))) (DqAll.same s37 _ _ all3))
  have r7 := TyAt.same s37 _ _ r3
  refine ⟨_, rfl, in_type2 r7 hh.rowsH.deep (by decide) dq7 hh.v2 fun G8 s8 => ?_⟩
  rw [hh.g2]
  have s38 := s37.trans s8
  have f8 : G8 gt = some (.tup xs) := s38 _ _ f3
  refine ⟨_, rfl, _, rfl, gt, xs, rfl, SqT.of f8, fun whole => ?_, fun _ p9 hp9 => ?_⟩
  · have := whole.2
    rw [show (5 : Int) = ((5 : Nat) : Int) from rfl, HT.sIx_nat, len] at this
    omega
  rw [show cutV xs none (some (5 : Int)) = xs.take 5 from cutV_upTo (i := 5) (by omega)]
  have s9 := same_new hp9 (.tup (xs.take 5))
  have f9 : upd G8 p9 (.tup (xs.take 5)) p9 = some (.tup (xs.take 5)) := upd_same
  generalize upd G8 p9 (.tup (xs.take 5)) = G9 at s9 f9 ⊢
  refine ⟨_, rfl, _, rfl, gt, xs, rfl, SqT.of (s9 _ _ f8), fun whole => ?_, fun _ pA hpA => ?_⟩
  · have := whole.2
    rw [show (1 : Int) = ((1 : Nat) : Int) from rfl, HT.sIx_nat, len] at this
    omega
  rw [show cutV xs none (some (1 : Int)) = xs.take 1 from cutV_upTo (i := 1) (by omega)]
  have sA := same_new hpA (.tup (xs.take 1))
  have fA : upd G9 pA (.tup (xs.take 1)) pA = some (.tup (xs.take 1)) := upd_same
  generalize upd G9 pA (.tup (xs.take 1)) = GA at sA fA ⊢
  have l5 : (xs.take 5).length = 5 := by rw [List.length_take, len]; decide
  have l1 : (xs.take 1).length = 1 := by rw [List.length_take, len]; decide
  refine ⟨p9, pA, xs.take 5, xs.take 1, rfl, rfl, SqT.of (sA _ _ f9), SqT.of fA, (fun e => by rw [e] at l5; cases l5), sizes _ (by rw [l5, l1]; decide), (fun e => by rw [e] at l1; cases l1), fun _ pB hpB => ?_⟩
  have sB := same_new hpB (.tup (xs.take 5 ++ xs.take 1))
  have fB : upd GA pB (.tup (xs.take 5 ++ xs.take 1)) pB = some (.tup (xs.take 5 ++ xs.take 1)) := upd_same
  generalize upd GA pB (.tup (xs.take 5 ++ xs.take 1)) = GB at sB fB ⊢
  have s3B := s38.trans (s9.trans (sA.trans sB))
  have allB := DqAll.same s3B _ _ all3
  have dqB : Dq K GB (.ref pB) (.tuple (hh.ds.take 5 ++ hh.ds.take 1)) := .tup fB (DqAll.app (take_dq 1 allB) (take_dq 5 allB))
  refine ⟨_, rfl, in_type2 (TyAt.same s3B _ _ r3) hh.rowsH.deep (by decide) dqB hh.v3 fun GC sC => ?_⟩
  rw [hh.g3]
  have s3C := s3B.trans sC
  refine ⟨sizes 0 (by decide), fun tD htD => ?_⟩
  have sD := same_new htD (.tup [])
  have fD : upd GC tD (.tup []) tD = some (.tup []) := upd_same
  generalize upd GC tD (.tup []) = GD at sD fD ⊢
  refine ⟨_, rfl, in_type2 (TyAt.same (s3C.trans sD) _ _ r3) hh.rowsH.deep (by decide) (d := .tuple []) (m := 8) (.tup fD .nil) (by simp only [Vd]; exact ⟨by decide, fun x m => by cases m⟩) fun GE sE => ?_⟩
  rw [hh.g4]
  have s3E := s3C.trans (sD.trans sE)
  refine ⟨sizes 4 (by decide), fun L1 hL1 => ?_⟩
  have sF := same_new hL1 (.lst [.bl (id true), .bl (id false), .bl (id false), .bl (id true)])
  have fF : upd GE L1 (.lst [.bl (id true), .bl (id false), .bl (id false), .bl (id true)]) L1 = some (.lst [.bl (id true), .bl (id false), .bl (id false), .bl (id true)]) := upd_same
  generalize upd GE L1 (.lst [.bl (id true), .bl (id false), .bl (id false), .bl (id true)]) = GF at sF fF ⊢
  have s1F := s13.trans (s3E.trans sF)
  clear s9 sA sB sC sD sE sF f9 fA fB fD allB dqB s3B s3C s3E hp9 hpA hpB htD hL1 dq7 r7 s37 s38 f8 s7 f7 s5 f5 s6 f6 s46 hd1 ht6 hp7 all3 dq3 f3
  refine ⟨_, rfl, ?_⟩
  refine ⟨sizes 1 (by decide), fun ta hta => ?_⟩
  have ua := same_new hta (.tup [.int 1])
  have wa : upd GF ta (.tup [.int 1]) ta = some (.tup [.int 1]) := upd_same
  generalize upd GF ta (.tup [.int 1]) = Xa at ua wa ⊢
  refine ⟨ta, 60, [.int 1], rfl, rfl, SqT.of wa, (fun e => nomatch e), by decide, by decide, by decide, fun pa hpa => ?_⟩
  rw [show (60 : Int).toNat = 60 from rfl]
  have va := same_new hpa (.tup (List.replicate 60 [V.int 1]).flatten)
  have ya : upd Xa pa (.tup (List.replicate 60 [V.int 1]).flatten) pa = some (.tup (List.replicate 60 [V.int 1]).flatten) := upd_same
  generalize upd Xa pa (.tup (List.replicate 60 [V.int 1]).flatten) = Ya at va ya ⊢
  refine ⟨rfl, hand_reads num_hand fun xa Za za tya => ?_⟩
  refine in_type2 tya num_hand.deep (by decide) (.tup (za _ _ ya) (reps_dq 60)) (reps_vd (n := 60) (by decide)) fun A1 ka => ?_
  rw [hh.l60]
  have qa := ua.trans (va.trans (za.trans ka))
  clear ua wa va ya za hta hpa
  refine ⟨sizes 1 (by decide), fun tb htb => ?_⟩
  have ub := same_new htb (.tup [.int 1])
  have wb : upd A1 tb (.tup [.int 1]) tb = some (.tup [.int 1]) := upd_same
  generalize upd A1 tb (.tup [.int 1]) = Xb at ub wb ⊢
  refine ⟨tb, 61, [.int 1], rfl, rfl, SqT.of wb, (fun e => nomatch e), by decide, by decide, by decide, fun pb hpb => ?_⟩
  rw [show (61 : Int).toNat = 61 from rfl]
  have vb := same_new hpb (.tup (List.replicate 61 [V.int 1]).flatten)
  have yb : upd Xb pb (.tup (List.replicate 61 [V.int 1]).flatten) pb = some (.tup (List.replicate 61 [V.int 1]).flatten) := upd_same
  generalize upd Xb pb (.tup (List.replicate 61 [V.int 1]).flatten) = Yb at vb yb ⊢
  refine ⟨rfl, hand_reads num_hand fun xb Zb zb tyb => ?_⟩
  refine in_type2 tyb num_hand.deep (by decide) (.tup (zb _ _ yb) (reps_dq 61)) (reps_vd (n := 61) (by decide)) fun A2 kb => ?_
  rw [hh.l61]
  have qb := ub.trans (vb.trans (zb.trans kb))
  clear ub wb vb yb zb htb hpb
  refine ⟨rfl, hand_reads number_hand fun x3 A3 z3 ty3 => ?_⟩
  refine in_type2 ty3 number_hand.deep (by decide) (.bl true) (m := 8) (by simp [Vd]) fun A4 z4 => ?_
  rw [show (tr .number (.bool true) []).isNone = false from rfl]
  have q14 := qa.trans (qb.trans (z3.trans z4))
  refine ⟨sizes 3 (by decide), fun l2 hl2 => ⟨L1, l2, _, _, rfl, rfl, (same_new hl2 _) _ _ (q14 _ _ fF), upd_same, sizes _ (by show 4 + 3 ≤ 100; decide), fun L2' hL2 => ?_⟩⟩
  have sG := (same_new hl2 (.lst [.bl (id true), .bl (id false), .bl (id false)])).trans (same_new hL2 (.lst ([.bl (id true), .bl (id false), .bl (id false), .bl (id true)] ++ [.bl (id true), .bl (id false), .bl (id false)])))
  have fG : upd (upd A4 l2 (.lst [.bl (id true), .bl (id false), .bl (id false)])) L2' (.lst ([.bl (id true), .bl (id false), .bl (id false), .bl (id true)] ++ [.bl (id true), .bl (id false), .bl (id false)])) L2' = some (.lst ([.bl (id true), .bl (id false), .bl (id false), .bl (id true)] ++ [.bl (id true), .bl (id false), .bl (id false)])) := upd_same
  generalize upd (upd A4 l2 (.lst [.bl (id true), .bl (id false), .bl (id false)])) L2' (.lst ([.bl (id true), .bl (id false), .bl (id false), .bl (id true)] ++ [.bl (id true), .bl (id false), .bl (id false)])) = B0 at sG fG ⊢
  have s1G := s1F.trans (q14.trans sG)
  clear qa qb ka kb z3 z4 q14 sG hl2 hL2 fF
  refine ⟨_, rfl, ?_⟩
  refine ⟨rfl, hand_reads flag_hand fun x4 B1 z5 ty4 => ?_⟩
  refine in_type2 ty4 flag_hand.deep (by decide) (.int 1) (m := 8) (by simp only [Vd]; decide) fun B2 z6 => ?_
  rw [show (tr .flag (.int 1) []).isNone = false from rfl]
  intro d2 hd2
  refine ⟨upd_same, [(.inr "id", .int 1)], rfl, by simp, ?_⟩
  rw [show mergeK ([] : List (Key × V)) [((Sum.inr "id" : Key), V.int 1)] = [((Sum.inr "id" : Key), V.int 1)] from rfl]
  have z7 : Same B2 (upd (upd B2 d2 (.dK [])) d2 (.dK [(.inr "id", .int 1)])) := Same.updNew (same_new hd2 _) hd2
  have f7' : upd (upd B2 d2 (.dK [])) d2 (.dK [(.inr "id", .int 1)]) d2 = some (.dK [(.inr "id", .int 1)]) := upd_same
  generalize upd (upd B2 d2 (.dK [])) d2 (.dK [(.inr "id", .int 1)]) = B3 at z7 f7' ⊢
  refine ⟨rfl, hand_reads hh.oneH fun x5 B4 z8 ty5 => ?_⟩
  refine in_type2 ty5 hh.oneH.deep (by decide) (d := .dict [(.str "id", .int 1)]) (m := 8) (.dct (z8 _ _ f7') (.cons (k := .inr "id") (.int 1) .nil)) (vd_of 8 _ (by decide +kernel)) fun B5 z9 => ?_
  rw [hh.g9]
  have q59 := z5.trans (z6.trans (z7.trans (z8.trans z9)))
  refine ⟨sizes 2 (by decide), fun l3 hl3 => ⟨L2', l3, _, _, rfl, rfl, (same_new hl3 _) _ _ (q59 _ _ fG), upd_same, sizes _ (by show 7 + 2 ≤ 100; decide), fun L3 hL3 => ?_⟩⟩
  obtain ⟨B6, e6⟩ : ∃ Z, Z = upd (upd B5 l3 (.lst [.bl (id false), .bl (id false)])) L3 (.lst ([.bl (id true), .bl (id false), .bl (id false), .bl (id true)] ++ [.bl (id true), .bl (id false), .bl (id false)] ++ [.bl (id false), .bl (id false)])) := ⟨_, rfl⟩
  have sH : Same B5 B6 := by
    rw [e6]
    exact (same_new hl3 _).trans (same_new hL3 _)
  have fH : B6 L3 = some (.lst ([.bl (id true), .bl (id false), .bl (id false), .bl (id true)] ++ [.bl (id true), .bl (id false), .bl (id false)] ++ [.bl (id false), .bl (id false)])) := by
    rw [e6]
    exact upd_same
  rw [← e6]
  have newL3 : H L3 = none := (s1.trans (s1G.trans (q59.trans (same_new hl3 (.lst [.bl (id false), .bl (id false)]))))).free hL3
  have s06 : Same H B6 := s1.trans (s1G.trans (q59.trans sH))
  clear e6 sH hl3 hL3 q59 z5 z6 z7 z8 z9 hd2 f7' fG s1G
  refine ⟨_, rfl, .inl ⟨rfl, _, SqL.of fH⟩, rfl, hand_reads opt_hand fun x6 B7 zA ty6 => ?_⟩
  refine in_type2 ty6 opt_hand.deep (by decide) .non (m := 8) (by simp [Vd]) fun B8 zB => ?_
  rw [show (tr (.opt (.list .text)) .none []).isNone = true from rfl]
  have zAB := zA.trans zB
  refine ⟨L3, _, _, rfl, rfl, zAB _ _ fH, less_line (by show 9 ≤ 1000; decide), ?_⟩
  have s08 : Same H (upd B8 L3 (.lst ([.bl (id true), .bl (id false), .bl (id false), .bl (id true)] ++ [.bl (id true), .bl (id false), .bl (id false)] ++ [.bl (id false), .bl (id false)] ++ [.bl (id true)]))) := Same.updNew (s06.trans zAB) newL3
  have f08 : upd B8 L3 (.lst ([.bl (id true), .bl (id false), .bl (id false), .bl (id true)] ++ [.bl (id true), .bl (id false), .bl (id false)] ++ [.bl (id false), .bl (id false)] ++ [.bl (id true)])) L3 = some (.lst [.bl true, .bl false, .bl false, .bl true, .bl true, .bl false, .bl false, .bl false, .bl false, .bl true]) := upd_same
  generalize upd B8 L3 (.lst ([.bl (id true), .bl (id false), .bl (id false), .bl (id true)] ++ [.bl (id true), .bl (id false), .bl (id false)] ++ [.bl (id false), .bl (id false)] ++ [.bl (id true)])) = C0 at s08 f08 ⊢
  refine ⟨_, rfl, sizes 10 (by decide), fun l4 hl4 => ?_⟩
  have zC := same_new hl4 (.lst [.bl true, .bl false, .bl false, .bl true, .bl true, .bl false, .bl false, .bl false, .bl false, .bl true])
  refine ⟨L3, l4, [.bl true, .bl false, .bl false, .bl true, .bl true, .bl false, .bl false, .bl false, .bl false, .bl true], rfl, rfl, SqL.of (zC _ _ f08), SqL.of upd_same, (fun v m => ?_), _, rfl, if_ff rfl ?_⟩
  · simp only [List.mem_cons, List.not_mem_nil, or_false] at m
    rcases m with rfl | rfl | rfl | rfl | rfl | rfl | rfl | rfl | rfl | rfl <;> rfl
  have s0C := s08.trans zC
  generalize upd C0 l4 (.lst [.bl true, .bl false, .bl false, .bl true, .bl true, .bl false, .bl false, .bl false, .bl false, .bl true]) = C1 at s0C ⊢
  clear zC s08 f08 zAB zA zB s06 fH hl4 newL3
  refine ⟨100, rfl, by decide, by decide, fun D2 newD2 => ?_⟩
  refine lc_range (lo := 0) (n := 100) (fun i Z => Same C1 Z ∧ Z D2 = some (.lst ((hh.names.take i).map V.str))) ⟨same_new newD2 _, upd_same⟩ ?_ ?_
  · rintro i Z hi ⟨kZ, made⟩
    have q10 : ((0 : Int) + (i : Int)) / 10 = ((i / 10 : Nat) : Int) := by omega
    have r10 : ((0 : Int) + (i : Int)) % 10 = ((i % 10 : Nat) : Int) := by omega
    refine ⟨rfl, yesT ⟨_, rfl, _, _, rfl, rfl, ⟨by decide, by decide⟩, _, _, _, rfl, rfl, big (by decide +kernel), ten_at q10 (by omega), _, rfl, _, _, rfl, rfl, (by show (0 : Int) < 10; decide), _, _, _, rfl, rfl, big (by decide +kernel), ten_at r10 (by omega), _, _, rfl, rfl, big (by show 1 + 1 ≤ _; decide), ?_⟩⟩
    rw [hh.made]
    refine ⟨_, made, ?_, Same.updNew kZ newD2, ?_⟩
    · rw [List.length_map, List.length_take]
      exact less_line (by omega)
    · rw [upd_same, hh.take' hi, List.map_append]
      rfl
  rintro C2 ⟨sC2, madeD⟩
  rw [hh.whole] at madeD
  intro wd hwd
  refine ⟨_, _, rfl, ?_⟩
  have s0C2 := s0C.trans sC2
  refine ⟨_, rfl, D2, rfl, ⟨_, SqL.of ((same_new hwd _) _ _ madeD)⟩, ?_⟩
  refine for_it (walk_list (K := K) (a := D2) (xs := hh.names.map V.str)) (fun i σ G => (∃ o6 : Option V, σ = [some (.ref a), some (.ref rx), some (.ref gt), some (.ref L3), some (.ref D2), some (.ref wd), o6, none, none, none, none, none]) ∧ Same C2 G ∧ G wd = some (.dK ((hh.names.take i).map fun n => ((Sum.inr n : Key), V.int 1)))) ⟨⟨none, rfl⟩, same_new hwd _, by rw [List.take_zero]; exact upd_same⟩ (fun i σ G _ z => SqL.of (z.2.1 _ _ madeD)) ?_ ?_
  · rintro i x σ G G' hi ⟨⟨o6, rfl⟩, sG, dG⟩ ⟨rfl, at'⟩
    rw [List.length_map, hh.hundred] at hi
    rw [List.getElem?_map, hh.at' hi] at at'
    obtain rfl := Option.some.inj at'
    have fresh : (Sum.inr (hh.name i) : Key) ∉ ((hh.names.take i).map fun n => ((Sum.inr n : Key), V.int 1)).map (·.1) := fun m => by
      have nd : (hh.names.take (i + 1)).Nodup := hh.apart.sublist (List.take_sublist _ _)
      rw [hh.take' hi, List.nodup_append] at nd
      rw [List.map_map] at m
      obtain ⟨n, mn, e⟩ := List.mem_map.mp m
      have e : n = hh.name i := Sum.inr.inj e
      exact nd.2.2 n mn _ (List.mem_singleton_self _) e
    refine ⟨_, rfl, _, rfl, wd, _, rfl, DPut.k (k := Sum.inr (hh.name i)) dG (by rw [List.length_map, List.length_take]; exact less_line (by omega)), ?_⟩
    rw [put_new _ fresh]
    refine ⟨⟨_, rfl⟩, Same.updNew sG hwd, ?_⟩
    rw [upd_same, hh.take' hi, List.map_append]
    rfl
  rintro σ C3 ⟨⟨o6, rfl⟩, sC3, dC3⟩
  rw [List.length_map, hh.hundred, hh.whole] at dC3
  have atD := sC3 _ _ madeD
  refine ⟨rfl, ⟨_, rfl⟩, _, rfl, D2, rfl, ⟨_, SqL.of atD⟩, fun D3 newD3 => ?_⟩
  refine lc_it (walk_list (K := K) (a := D2) (xs := hh.names.map V.str)) (fun i Z => Same C3 Z ∧ Z D3 = some (.lst (((hh.names.take i).map fun n => n ++ (": number" : Str)).map V.str))) ⟨same_new newD3 _, upd_same⟩ (fun i Z _ z => SqL.of (z.1 _ _ atD)) ?_ ?_
  · rintro i x Z Z' hi ⟨kZ, made⟩ ⟨rfl, at'⟩
    rw [List.length_map, hh.hundred] at hi
    rw [List.getElem?_map, hh.at' hi] at at'
    obtain rfl := Option.some.inj at'
    have two' : (hh.name i).length = 2 := hh.two i
    refine ⟨rfl, yesT ⟨_, rfl, _, _, rfl, rfl, big (by rw [two']; decide), _, made, ?_, Same.updNew kZ newD3, ?_⟩⟩
    · rw [List.length_map, List.length_map, List.length_take]
      exact less_line (by omega)
    · rw [upd_same, hh.take' hi, List.map_append, List.map_append]
      rfl
  rintro C4 ⟨sC4, made4⟩
  rw [List.length_map, hh.hundred, hh.whole] at made4
  have wj := hh.join
  refine ⟨", ", D3, _, rfl, rfl, .inl (SqL.of made4), Nat.le_trans hh.sum (by decide), _, _, rfl, rfl, big ?_, _, _, rfl, rfl, big ?_, hand_reads hh.wideH fun mx C5 sC5 tm => ?_⟩
  · have e1 : ("{" : Str).length = 1 := rfl
    omega
  · have e1 : ("{" : Str).length = 1 := rfl
    have e2 : ("}" : Str).length = 1 := rfl
    rw [len_app]
    omega
  have dC5 := (sC4.trans sC5) _ _ dC3
  refine ⟨_, rfl, wd, _, rfl, .inl dC5, fun sd hsd => ?_⟩
  refine ⟨_, rfl, sd, _, rfl, DPut.k (k := Sum.inr "jj") upd_same (by rw [List.length_map, hh.hundred]; exact less_line (by decide)), ?_⟩
  obtain ⟨C6, e6⟩ : ∃ Z, Z = upd (upd C5 sd (.dK (hh.names.map fun n => ((Sum.inr n : Key), V.int 1)))) sd (.dK (putK (hh.names.map fun n => ((Sum.inr n : Key), V.int 1)) (Sum.inr "jj") (.str ""))) := ⟨_, rfl⟩
  have s6 : Same C5 C6 := by
    rw [e6]
    exact Same.updNew (same_new hsd _) hsd
  have f6 : C6 sd = some (.dK (putK (hh.names.map fun n => ((Sum.inr n : Key), V.int 1)) (Sum.inr "jj") (.str ""))) := by
    rw [e6]
    exact upd_same
  rw [← e6]
  clear e6 hsd
  have dqW : Dq K C6 (.ref wd) (.dict (hh.names.map fun n => (.str n, .int 1))) := .dct (s6 _ _ dC5) (flat_kv hh.names)
  have dqS : Dq K C6 (.ref sd) (.dict (putDs (hh.names.map fun n => (.str n, .int 1)) "jj" (.str ""))) := .dct f6 (kv_putAny (n := "jj") (.str "") (flat_kv hh.names))
  have tm6 := TyAt.same s6 _ _ tm
  refine ⟨_, rfl, _, rfl, in_type2 tm6 hh.wideH.deep (by decide) dqW hh.wideV fun C7 s7 => ?_⟩
  rw [hh.wideFits]
  refine ⟨_, rfl, if_ff rfl ?_⟩
  refine ⟨_, rfl, _, rfl, in_type2 (TyAt.same s7 _ _ tm6) hh.wideH.deep (by decide) (Dq.same s7 _ _ dqS) hh.spoiltV fun C8 s8 => ?_⟩
  rw [hh.spoilt]
  refine ⟨_, rfl, if_ff rfl ?_⟩
  have s68 := s7.trans s8
  have tm8 := TyAt.same s68 _ _ tm6
  obtain ⟨dx, vi, vf, row⟩ := tm8.has
  refine ⟨_, rfl, mx, dx, _, rfl, row, rfl, _, rfl, asks_trouble (E := E0) tm8 hh.wideH.deep (by decide) (Dq.same s68 _ _ dqW) hh.wideV fun C9 y9 s9 told => ?_⟩
  rw [hh.wideFits] at told
  cases told
  refine ⟨rfl, _, rfl, if_ff rfl ?_⟩
  have s69 := s68.trans s9
  refine ⟨_, rfl, mx, dx, _, rfl, s9 _ _ row, rfl, _, rfl, asks_trouble (E := E0) (TyAt.same s9 _ _ tm8) hh.wideH.deep (by decide) (Dq.same s69 _ _ dqS) hh.spoiltV fun E1 yE sE told => ?_⟩
  rw [hh.spoilt] at told
  cases told with
  | some dq =>
  refine ⟨sizes 1 (by decide), fun e0 he0 => ?_⟩
  have sF := same_new he0 (.tup [.str "jj"])
  refine ⟨_, _, dp_str (Dq.same sF _ _ dq), .tup (SqT.of upd_same) (.cons (.str "jj") .nil), (by decide +kernel), (by decide +kernel), _, rfl, if_ff (by decide +kernel) ?_⟩
  have s0F : Same H (upd E1 e0 (.tup [.str "jj"])) := s0C2.trans (sC3.trans (sC4.trans (sC5.trans (s6.trans (s69.trans (sE.trans sF))))))
  generalize upd E1 e0 (.tup [.str "jj"]) = E2 at s0F ⊢
  clear dq dqW dqS tm6 tm8 row s6 f6 s7 s8 s68 s9 s69 sE sF he0 dC5 tm sC5 made4 sC4 newD3 atD dC3 sC3 s0C2 hwd madeD sC2 newD2 s0C
  intro d1 hd1
  refine ⟨upd_same, [(.inr "a", .int 1), (.inl 1, .int 2)], rfl, by simp, ?_⟩
  have m1 : Same E2 (upd (upd E2 d1 (.dK [])) d1 (.dK (mergeK [] [((.inr "a" : Key), V.int 1), (.inl 1, .int 2)]))) := Same.updNew (same_new hd1 _) hd1
  have o1 : MixOk K (upd (upd E2 d1 (.dK [])) d1 (.dK (mergeK [] [((.inr "a" : Key), V.int 1), (.inl 1, .int 2)]))) (.ref d1) := .inl ⟨.dict [(.str "a", .int 1), (.int 1, .int 2)], .dct upd_same (.cons (k := .inr "a") (.int 1) (.cons (k := .inl 1) (.int 2) .nil)), vd_of 8 _ (by decide +kernel), by decide +kernel, by decide +kernel⟩
  generalize upd (upd E2 d1 (.dK [])) d1 (.dK (mergeK [] [((.inr "a" : Key), V.int 1), (.inl 1, .int 2)])) = E3 at m1 o1 ⊢
  intro d2 hd2
  refine ⟨upd_same, [some (some (.inr "a")), some none], .cons rfl (.cons rfl .nil), by decide, ?_⟩
  have m2 : Same E3 (upd (upd E3 d2 (.dK [])) d2 (RawD d2 [.str "a", .non])) := Same.updNew (same_new hd2 _) hd2
  have o2 : MixOk K (upd (upd E3 d2 (.dK [])) d2 (RawD d2 [.str "a", .non])) (.ref d2) := .inr ⟨d2, _, rfl, upd_same, ⟨.non, by simp, rfl⟩, by decide, fun k m => by
    rcases List.mem_cons.mp m with rfl | m
    · exact .inl ⟨"a", rfl, isNm_of (by decide +kernel)⟩
    · rw [List.mem_singleton.mp m]
      exact .inr (.inr (.inl rfl))⟩
  obtain ⟨E4, e4⟩ : ∃ Z, Z = upd (upd E3 d2 (.dK [])) d2 (RawD d2 [.str "a", .non]) := ⟨_, rfl⟩
  rw [← e4] at m2 o2
  intro d3 hd3
  refine ⟨upd_same, [(.inl 1, .int 2)], rfl, by simp, ?_⟩
  have hd3' : E4 d3 = none := by rw [e4]; exact hd3
  have m3 : Same E4 (upd (upd E4 d3 (.dK [])) d3 (.dK (mergeK [] [((.inl 1 : Key), V.int 2)]))) := Same.updNew (same_new hd3' _) hd3'
  have o3 : MixOk K (upd (upd E4 d3 (.dK [])) d3 (.dK (mergeK [] [((.inl 1 : Key), V.int 2)]))) (.ref d3) := .inl ⟨.dict [(.int 1, .int 2)], .dct upd_same (.cons (k := .inl 1) (.int 2) .nil), vd_of 8 _ (by decide +kernel), by decide +kernel, by decide +kernel⟩
  obtain ⟨E5, e5⟩ : ∃ Z, Z = upd (upd E4 d3 (.dK [])) d3 (.dK (mergeK [] [((.inl 1 : Key), V.int 2)])) := ⟨_, rfl⟩
  rw [← e5] at m3 o3
  intro d4 hd4
  refine ⟨sizes 0 (by decide), fun t ht => ?_⟩
  have hd4' : E5 d4 = none := by rw [e5, e4]; exact hd4
  have ht' : upd E5 d4 (.dK []) t = none := by rw [e5, e4]; exact ht
  have ne4 : t ≠ d4 := fun e => by
    rw [e, upd_same] at ht'
    cases ht'
  have m4 : Same E5 (upd (upd (upd E5 d4 (.dK [])) t (.tup [])) d4 (RawD d4 [.ref t, .str "a", .int 0])) := Same.updNew ((same_new hd4' _).trans (same_new ht' _)) hd4'
  have o4 : MixOk K (upd (upd (upd E5 d4 (.dK [])) t (.tup [])) d4 (RawD d4 [.ref t, .str "a", .int 0])) (.ref d4) := .inr ⟨d4, _, rfl, upd_same, ⟨.int 0, by simp, rfl⟩, (by show 3 ≤ 15; decide), fun k m => by
    simp only [List.mem_cons, List.not_mem_nil, or_false] at m
    rcases m with rfl | rfl | rfl
    · exact .inr (.inr (.inr ⟨t, rfl, by rw [upd_ne ne4]; exact upd_same⟩))
    · exact .inl ⟨"a", rfl, isNm_of (by decide +kernel)⟩
    · exact .inr (.inl ⟨0, rfl⟩)⟩
  refine ⟨by rw [upd_ne (Ne.symm ne4)]; exact upd_same, [none, some (some (.inr "a")), some (some (.inl 0))], .cons ⟨t, rfl, upd_same⟩ (.cons rfl (.cons rfl .nil)), by decide, ?_⟩
  obtain ⟨E6, e6⟩ : ∃ Z, Z = upd (upd (upd E5 d4 (.dK [])) t (.tup [])) d4 (RawD d4 [.ref t, .str "a", .int 0]) := ⟨_, rfl⟩
  rw [← e6] at m4 o4
  refine ⟨sizes 4 (by decide), fun ml hml => ?_⟩
  have hml' : E6 ml = none := by rw [e6, e5, e4]; exact hml
  have m5 := same_new hml' (.lst [.ref d1, .ref d2, .ref d3, .ref d4])
  have f5 : upd E6 ml (.lst [.ref d1, .ref d2, .ref d3, .ref d4]) ml = some (.lst [.ref d1, .ref d2, .ref d3, .ref d4]) := upd_same
  obtain ⟨M, eM⟩ : ∃ Z, Z = upd E6 ml (.lst [.ref d1, .ref d2, .ref d3, .ref d4]) := ⟨_, rfl⟩
  rw [← eM] at m5 f5
  have each : ∀ y ∈ [V.ref d1, .ref d2, .ref d3, .ref d4], MixOk K M y := fun y m => by
    simp only [List.mem_cons, List.not_mem_nil, or_false] at m
    rcases m with rfl | rfl | rfl | rfl
    · exact o1.same (m2.trans (m3.trans (m4.trans m5)))
    · exact o2.same (m3.trans (m4.trans m5))
    · exact o3.same (m4.trans m5)
    · exact o4.same m5
  have s0M : Same H M := s0F.trans (m1.trans (m2.trans (m3.trans (m4.trans m5))))
  have back : upd (upd (upd (upd (upd (upd (upd (upd E3 d2 (.dK [])) d2 (RawD d2 [.str "a", .non])) d3 (.dK [])) d3 (.dK (mergeK [] [((.inl 1 : Key), V.int 2)]))) d4 (.dK [])) t (.tup [])) d4 (RawD d4 [.ref t, .str "a", .int 0])) ml (.lst [.ref d1, .ref d2, .ref d3, .ref d4]) = M := by rw [eM, e6, e5, e4]
  refine ⟨_, rfl, ml, rfl, ⟨_, SqL.of (show _ = _ from back ▸ f5)⟩, fun D5 new5 => ?_⟩
  have new5' : M D5 = none := by rw [← back]; exact new5
  refine lc_it (walk_list (K := K) (a := ml) (xs := [V.ref d1, .ref d2, .ref d3, .ref d4])) (fun i Z => Same M Z ∧ Z D5 = some (.lst ((List.replicate i false).map V.bl))) ⟨by rw [← back]; exact same_new new5 _, upd_same⟩ (fun i Z _ z => SqL.of (z.1 _ _ f5)) ?_ ?_
  · rintro i x Z Z' hi ⟨kept, made⟩ ⟨rfl, at'⟩
    have ok := (each x (List.mem_of_getElem? at')).same kept
    refine ⟨rfl, yesT ⟨_, rfl, rfl, hand_reads a_hand fun x1 Z1 z1 ty1 => mix_in (ok.same z1) ty1 fun Z2 z2 => ?_⟩⟩
    refine ⟨_, rfl, if_ff rfl ⟨_, rfl, rfl, hand_reads aopt_hand fun x2 Z3 z3 ty2 => mix_opt (ok.same (z1.trans (z2.trans z3))) ty2 fun Z4 z4 => ?_⟩⟩
    have z14 := z1.trans (z2.trans (z3.trans z4))
    refine ⟨_, z14 _ _ made, ?_, Same.updNew (kept.trans z14) new5', ?_⟩
    · rw [List.length_map, List.length_replicate]
      have : i < 4 := hi
      exact less_line (by omega)
    · rw [upd_same, List.replicate_succ', List.map_append]
      rfl
  rintro GF ⟨sF, madeF⟩
  refine ⟨D5, _, rfl, SqL.of madeF, ?_⟩
  refine ⟨_, rfl, if_ff (by rfl) ?_⟩
  have s0G := s0M.trans sF
  have hG := s0G.seq hS
  obtain ⟨n6, e6n, m6⟩ := minmax 6 (ns.map V.int).length (by decide)
  refine ⟨_, rfl, _, _, rfl, .inl ⟨_, hG, rfl⟩, _, _, rfl, _, _, rfl, _, rfl, ?_⟩
  rw [e6n]
  refine ⟨by omega, by omega, fun D6 new6 => ?_⟩
  rw [show ((n6 : Int).toNat) = n6 from rfl]
  refine lc_range (lo := 0) (n := n6) (fun i Z => Same GF Z ∧ Z D6 = some (.lst (trues i))) ⟨same_new new6 _, upd_same⟩ ?_ ?_
  · rintro i Z hi ⟨kept, made⟩
    refine ⟨rfl, yesT ⟨_, rfl, _, rfl, a, ns, _, rfl, kept.seq hG, h63, by omega, by omega, fun T1 j sT1 => ⟨j, rfl, fun T2 p np sT2 pool => ⟨p, rfl, pool, fun T3 k3 => ?_⟩⟩⟩⟩
    have ST : Same Z T3 := sT1.trans (pool_after sT2 np k3)
    refine ⟨_, ST _ _ made, ?_, Same.updNew (kept.trans ST) new6, ?_⟩
    · rw [trues_len]
      exact less_line (by omega)
    · rw [upd_same, trues_more]
  rintro GH ⟨sH, madeH⟩
  refine ⟨D6, _, rfl, SqL.of madeH, ?_⟩
  rw [trues_all]
  refine ⟨_, rfl, if_ff rfl ?_⟩
  have hH := sH.seq hG
  obtain ⟨n4, e4n, m4'⟩ := minmax 4 (ns.map V.int).length (by decide)
  refine ⟨_, rfl, _, _, rfl, .inl ⟨_, hH, rfl⟩, _, _, rfl, _, _, rfl, _, rfl, ?_⟩
  rw [e4n]
  refine ⟨by omega, by omega, fun D7 new7 => ?_⟩
  rw [show ((n4 : Int).toNat) = n4 from rfl]
  refine lc_range (lo := 0) (n := n4) (fun i Z => Same GH Z ∧ Z D7 = some (.lst (trues i))) ⟨same_new new7 _, upd_same⟩ ?_ ?_
  · rintro i Z hi ⟨kept, made⟩
    refine ⟨rfl, yesT ⟨_, rfl, _, rfl, a, ns, _, rfl, kept.seq hH, h63, by omega, by omega, fun T1 j sT1 => ⟨j, rfl, fun T2 p np sT2 pool => ⟨p, rfl, pool, fun T3 k3 => ?_⟩⟩⟩⟩
    have ST : Same Z T3 := sT1.trans (pool_after sT2 np k3)
    refine ⟨_, ST _ _ made, ?_, Same.updNew (kept.trans ST) new7, ?_⟩
    · rw [trues_len]
      exact less_line (by omega)
    · rw [upd_same, trues_more]
  rintro GI ⟨sI, madeI⟩
  refine ⟨D7, _, rfl, SqL.of madeI, ?_⟩
  rw [trues_all]
  exact q _
end
end KX

namespace KX
open PySem PySem.Spec L2 PyProof.Rows
/-! the head -/
def dd0 : He5.DefA := ⟨fun K => He.ga K "is_sign", "is_sign", "is_sign", defArgs (top 12), defBody (top 12), defScope (top 12), [], []⟩
def dd1 : He5.DefA := ⟨fun K => He.ga K "is_text", "is_text", "is_text", defArgs (top 13), defBody (top 13), defScope (top 13), [], []⟩
def dd2 : He5.DefA := ⟨fun K => He.ga K "is_letter", "is_letter", "is_letter", defArgs (top 14), defBody (top 14), defScope (top 14), [], []⟩
def dd3 : He5.DefA := ⟨fun K => He.ga K "is_name", "is_name", "is_name", defArgs (top 17), defBody (top 17), defScope (top 17), [], []⟩
def dd4 : He5.DefA := ⟨fun K => He.ga K "is_value", "is_value", "is_value", defArgs (top 21), defBody (top 21), defScope (top 21), [], []⟩
def dd5 : He5.DefA := ⟨fun K => He.ga K "same", "same", "same", defArgs (top 22), defBody (top 22), defScope (top 22), [], []⟩
def dd6 : He5.DefA := ⟨fun K => He.ga K "kind_of", "kind_of", "kind_of", defArgs (top 24), defBody (top 24), defScope (top 24), [], []⟩
def dd7 : He5.DefA := ⟨fun K => He.ga K "_is_value_within", "_is_value_within", "_is_value_within", defArgs (top 25), defBody (top 25), defScope (top 25), [], []⟩
def dd8 : He5.DefA := ⟨fun K => He.ga K "agree", "agree", "agree", defArgs (top 26), defBody (top 26), defScope (top 26), [], []⟩
def dd9 : He5.DefA := ⟨fun K => He.ga K "_writing_of", "_writing_of", "_writing_of", defArgs (top 27), defBody (top 27), defScope (top 27), [], []⟩
def dd10 : He5.DefA := ⟨fun K => He.ga K "_read_whole", "_read_whole", "_read_whole", defArgs (top 28), defBody (top 28), defScope (top 28), [], []⟩
def dd11 : He5.DefA := ⟨fun K => He.ga K "_read_part", "_read_part", "_read_part", defArgs (top 29), defBody (top 29), defScope (top 29), [], []⟩
def dd12 : He5.DefA := ⟨fun K => He.ga K "_read_required", "_read_required", "_read_required", defArgs (top 30), defBody (top 30), defScope (top 30), [], []⟩
def dd13 : He5.DefA := ⟨fun K => He.ga K "_read_list", "_read_list", "_read_list", defArgs (top 31), defBody (top 31), defScope (top 31), [], []⟩
def dd14 : He5.DefA := ⟨fun K => He.ga K "_can_be_key", "_can_be_key", "_can_be_key", defArgs (top 32), defBody (top 32), defScope (top 32), [], []⟩
def dd15 : He5.DefA := ⟨fun K => He.ga K "_read_record", "_read_record", "_read_record", defArgs (top 33), defBody (top 33), defScope (top 33), [], []⟩
def dd16 : He5.DefA := ⟨fun K => He.ga K "_read_field", "_read_field", "_read_field", defArgs (top 34), defBody (top 34), defScope (top 34), [], []⟩
def dd17 : He5.DefA := ⟨fun K => He.ga K "_first_trouble", "_first_trouble", "_first_trouble", defArgs (top 35), defBody (top 35), defScope (top 35), [], []⟩
def dd18 : He5.DefA := ⟨fun K => He.ga K "_trouble_in_list", "_trouble_in_list", "_trouble_in_list", defArgs (top 36), defBody (top 36), defScope (top 36), [], []⟩
def dd19 : He5.DefA := ⟨fun K => He.ga K "_trouble_in_record", "_trouble_in_record", "_trouble_in_record", defArgs (top 37), defBody (top 37), defScope (top 37), [], []⟩
def dd20 : He5.DefA := ⟨fun K => He.ga K "_law_cell", "_law_cell", "_law_cell", defArgs (top 39), defBody (top 39), defScope (top 39), [], []⟩
def dd21 : He5.DefA := ⟨fun K => He.ga K "_law_pool", "_law_pool", "_law_pool", defArgs (top 40), defBody (top 40), defScope (top 40), [], []⟩
def dd22 : He5.DefA := ⟨fun K => He.ga K "_law_draw", "_law_draw", "_law_draw", defArgs (top 41), defBody (top 41), defScope (top 41), [], []⟩
def dd23 : He5.DefA := ⟨fun K => He.ga K "_law_words", "_law_words", "_law_words", defArgs (top 42), defBody (top 42), defScope (top 42), [], []⟩
def dd24 : He5.DefA := ⟨fun K => He.ga K "_law_chars", "_law_chars", "_law_chars", defArgs (top 43), defBody (top 43), defScope (top 43), [], []⟩
def dd25 : He5.DefA := ⟨fun K => He.ga K "_law_form", "_law_form", "_law_form", defArgs (top 44), defBody (top 44), defScope (top 44), [], []⟩
def dd26 : He5.DefA := ⟨fun K => He.ga K "_law_form_text", "_law_form_text", "_law_form_text", defArgs (top 45), defBody (top 45), defScope (top 45), [], []⟩
def dd27 : He5.DefA := ⟨fun K => He.ga K "_law_thing_of", "_law_thing_of", "_law_thing_of", defArgs (top 46), defBody (top 46), defScope (top 46), [], []⟩
def dd28 : He5.DefA := ⟨fun K => He.ga K "_law_fits", "_law_fits", "_law_fits", defArgs (top 47), defBody (top 47), defScope (top 47), [], []⟩
def dd29 : He5.DefA := ⟨fun K => He.ga K "_law_bent", "_law_bent", "_law_bent", defArgs (top 48), defBody (top 48), defScope (top 48), [], []⟩
def dd30 : He5.DefA := ⟨fun K => He.ga K "_law_right", "_law_right", "_law_right", defArgs (top 49), defBody (top 49), defScope (top 49), [], []⟩
def dd31 : He5.DefA := ⟨fun K => He.ga K "_law_twins", "_law_twins", "_law_twins", defArgs (top 50), defBody (top 50), defScope (top 50), [], []⟩
def dd32 : He5.DefA := ⟨fun K => He.ga K "_law_pair_right", "_law_pair_right", "_law_pair_right", defArgs (top 51), defBody (top 51), defScope (top 51), [], []⟩
def dd33 : He5.DefA := ⟨fun K => He.ga K "_law_right_again", "_law_right_again", "_law_right_again", defArgs (top 52), defBody (top 52), defScope (top 52), [], []⟩
def dd34 : He5.DefA := ⟨fun K => He.ga K "law", "law", "law", defArgs (top 53), defBody (top 53), defScope (top 53), [], []⟩
def dd35 : He5.DefA := ⟨fun K => He.ma K (He.ga K "Reader") "__init__", "__init__", "Reader.__init__", defArgs (inClass (top 19) 0), defBody (inClass (top 19) 0), defScope (inClass (top 19) 0), [], []⟩
def dd36 : He5.DefA := ⟨fun K => He.ma K (He.ga K "Reader") "skips", "skips", "Reader.skips", defArgs (inClass (top 19) 1), defBody (inClass (top 19) 1), defScope (inClass (top 19) 1), [], []⟩
def dd37 : He5.DefA := ⟨fun K => He.ma K (He.ga K "Reader") "starts", "starts", "Reader.starts", defArgs (inClass (top 19) 2), defBody (inClass (top 19) 2), defScope (inClass (top 19) 2), [], []⟩
def dd38 : He5.DefA := ⟨fun K => He.ma K (He.ga K "Reader") "needs", "needs", "Reader.needs", defArgs (inClass (top 19) 3), defBody (inClass (top 19) 3), defScope (inClass (top 19) 3), [], []⟩
def dd39 : He5.DefA := ⟨fun K => He.ma K (He.ga K "Reader") "letters", "letters", "Reader.letters", defArgs (inClass (top 19) 7), defBody (inClass (top 19) 7), defScope (inClass (top 19) 7), [], []⟩
def dd40 : He5.DefA := ⟨fun K => He.ma K (He.ga K "Reader") "ended", "ended", "Reader.ended", defArgs (inClass (top 19) 9), defBody (inClass (top 19) 9), defScope (inClass (top 19) 9), [], []⟩
def dd41 : He5.DefA := ⟨fun K => He.ma K (He.ga K "Type") "__init__", "__init__", "Type.__init__", defArgs (inClass (top 23) 0), defBody (inClass (top 23) 0), defScope (inClass (top 23) 0), [.non, .non, .adr (He.dflAt ("Type", some "__init__") 2)], []⟩
def dd42 : He5.DefA := ⟨fun K => He5.wf K (He.ga K "Type") "classmethod" "read", "read", "Type.read", defArgs (inClass (top 23) 1), defBody (inClass (top 23) 1), defScope (inClass (top 23) 1), [], []⟩
def dd43 : He5.DefA := ⟨fun K => He.ma K (He.ga K "Type") "trouble", "trouble", "Type.trouble", defArgs (inClass (top 23) 2), defBody (inClass (top 23) 2), defScope (inClass (top 23) 2), [], []⟩
def dd44 : He5.DefA := ⟨fun K => He.ma K (He.ga K "Type") "__contains__", "__contains__", "Type.__contains__", defArgs (inClass (top 23) 3), defBody (inClass (top 23) 3), defScope (inClass (top 23) 3), [], []⟩
def dd45 : He5.DefA := ⟨fun K => He.ma K (He.ga K "Type") "__str__", "__str__", "Type.__str__", defArgs (inClass (top 23) 5), defBody (inClass (top 23) 5), defScope (inClass (top 23) 5), [], []⟩
def dd46 : He5.DefA := ⟨fun K => He.ma K (He.ga K "Type") "__repr__", "__repr__", "Type.__repr__", defArgs (inClass (top 23) 6), defBody (inClass (top 23) 6), defScope (inClass (top 23) 6), [], []⟩
def fn0 : List He5.DefA := [dd0, dd1, dd2, dd3, dd4, dd5, dd6, dd7, dd8, dd9, dd10, dd11, dd12, dd13, dd14, dd15, dd16, dd17, dd18, dd19]
def fn1 : List He5.DefA := [dd20, dd21, dd22, dd23, dd24, dd25, dd26, dd27, dd28, dd29, dd30, dd31, dd32, dd33, dd34, dd35, dd36, dd37, dd38, dd39]
def fn2 : List He5.DefA := [dd40, dd41, dd42, dd43, dd44, dd45, dd46]
def fn : List He5.DefA := fn0 ++ fn1 ++ fn2
def fa0 : List He.Fa := [.glo "is_sign", .glo "is_text", .glo "is_letter", .glo "is_name", .glo "is_value", .glo "same", .glo "kind_of", .glo "_is_value_within", .glo "agree", .glo "_writing_of", .glo "_read_whole", .glo "_read_part", .glo "_read_required", .glo "_read_list", .glo "_can_be_key", .glo "_read_record", .glo "_read_field", .glo "_first_trouble", .glo "_trouble_in_list", .glo "_trouble_in_record"]
def fa1 : List He.Fa := [.glo "_law_cell", .glo "_law_pool", .glo "_law_draw", .glo "_law_words", .glo "_law_chars", .glo "_law_form", .glo "_law_form_text", .glo "_law_thing_of", .glo "_law_fits", .glo "_law_bent", .glo "_law_right", .glo "_law_twins", .glo "_law_pair_right", .glo "_law_right_again", .glo "law", .glo "Reader", .glo "Type", .free "len", .free "abs", .free "divmod"]
def fa2 : List He.Fa := [.free "min", .free "max", .free "all", .free "sorted", .free "isinstance", .free "repr", .free "ord", .free "range", .free "zip", .free "tuple", .free "list", .free "str", .free "int", .free "bool", .free "dict", .free "any", .free "set", .free "enumerate", .int "MAX_ELEMENTS" 60, .int "MAX_LEVELS" 6]
def fa3 : List He.Fa := [.int "NEWLINE" 10, .int "SPACE" 32, .int "PERCENT" 37, .int "TILDE" 126, .int "MAX_LETTERS" 12, .cls "Reader", .cls "Type", .mkr "Reader", .mkr "Type", .noat "Reader" "written", .noat "Reader" "at", .noat "Type" "kind", .noat "Type" "inner", .noat "Type" "key", .noat "Type" "fields", .noat "Type" "_writing", .meth "Reader" "skips", .meth "Reader" "starts", .meth "Reader" "needs", .meth "Reader" "letters"]
def fa4 : List He.Fa := [.meth "Reader" "ended", .meth "Type" "trouble", .meth "Type" "__contains__", .meth "Type" "__str__", .meth "Type" "__repr__"]
def fa : List He.Fa := fa0 ++ fa1 ++ fa2 ++ fa3 ++ fa4
def loose0 : List PySem.Str := ["_wall", "ShapeError", "InvalidText", "InvalidValue", "MAX_ELEMENTS", "MAX_LEVELS", "NEWLINE", "SPACE", "PERCENT", "TILDE", "is_sign", "is_text", "is_letter", "MAX_LETTERS", "is_name", "Reader", "is_value", "same", "Type", "kind_of"]
def loose1 : List PySem.Str := ["_is_value_within", "agree", "_writing_of", "_read_whole", "_read_part", "_read_required", "_read_list", "_can_be_key", "_read_record", "_read_field", "_first_trouble", "_trouble_in_list", "_trouble_in_record", "_law_cell", "_law_pool", "_law_draw", "_law_words", "_law_chars", "_law_form", "_law_form_text"]
def loose2 : List PySem.Str := ["_law_thing_of", "_law_fits", "_law_bent", "_law_right", "_law_twins", "_law_pair_right", "_law_right_again"]
def loose : List PySem.Str := loose0 ++ loose1 ++ loose2
/-- what else is found at the class of types -/
def tyA (K : PySem.W.Frag) : Addr := He.ga K "Type"
def edA (K : PySem.W.Frag) : Addr := He.dflAt ("Type", some "__init__") 2 K
def atType (K : PySem.W.Frag) (n b : String) : Bool := He.eqO (PySem.W.findIn K (.ref (tyA K)) n) (some (some (.builtin b)))
def exObj (K : PySem.W.Frag) : Bool := atType K "__format__" "object.__format__" && (atType K "__ne__" "object.__ne__" && (atType K "__class__" "object.__class__" && decide (PySem.W.mroIn K (tyA K) (.type "object") = some true)))
def exRead (K : PySem.W.Frag) : Bool := He5.wrapB K (tyA K) "classmethod" "classmethod.__get__" "read" && (PySem.W.fnIn K (He5.wf K (tyA K) "classmethod" "read") && (PySem.W.readsIn K (tyA K) (.type "type") && He.eqO (PySem.W.specialIn K (.ref (tyA K)) "__getattribute__") (some (some (.builtin "type.__getattribute__")))))
def nilB (K : PySem.W.Frag) (a : Addr) : Bool := match K.lookup a with
  | some o => decide (o.cls = .type "tuple") && (match o.data with
    | .seq its _ => decide (its.size = 0)
    | _ => false)
  | none => false
theorem nil_of {K : PySem.W.Frag} {a : Addr} (h : nilB K a = true) : ∀ H, SqT K H a [] := by
  intro H
  unfold nilB at h
  split at h
  · rename_i o e
    obtain ⟨h1, h2⟩ := He.ba h
    split at h2
    · rename_i its n ed
      have z : its = #[] := Array.size_eq_zero_iff.mp (of_decide_eq_true h2)
      subst z
      exact .inr ⟨o, #[], n, e, of_decide_eq_true h1, ed, Nat.zero_le _, .nil⟩
    · cases h2
  · cases h
def ex (K : PySem.W.Frag) : Bool := exObj K && (exRead K && (He.dictB K sysModules && nilB K (edA K)))
/-- the written part -/
def partOf (g : Addr → Option Obj) : PySem.W.Frag := He.frT g (sysModules :: He5.asA g 6)
structure Told (K : PySem.W.Frag) : Prop where
  facts : He5.SaysA fa fn K
  more : ex K = true
abbrev seen (g : Addr → Option Obj) : He.AlD × Bool := (He5.obsA fa fn (partOf g), ex (partOf g))
def hk : PySem.W.Hook where
  α := He.AlD × Bool
  obs := fun s => seen s.heap.get?
  val := fun _ => (He5.valA fn, true)
  says := fun _ h => ∃ K : PySem.W.Frag, K.In h ∧ Told K
  of := fun _ _ e => ⟨partOf _, He.frT_in, (Prod.mk.inj e).1, (Prod.mk.inj e).2⟩
  keeps := fun _ _ _ h k => h.imp fun _ t => ⟨t.1.keeps k, t.2⟩
def ob (s : PySem.W.SharedT) : He.AlD × Bool := seen (HandSHeadRun.getT s)
theorem ob_eq (s : PySem.W.SharedT) : ob s = hk.obs s.abs := by
  have e : HandSHeadRun.getT s = s.abs.heap.get? := funext (HandSHeadRun.getT_eq s)
  unfold ob
  rw [e]
  rfl
abbrev R : PySem.W.OpenRow := PySem.W.OpenLaw.row PySem.Challenge.rw_shapekeep_k05_values_in_types
theorem topRun (w : World) : HandSHeadRun.RunEq R (PySem.W.view R.prog [53]) hk ob 6000 loose w := by
  intro os
  kernel_rfl
end KX

namespace KX
open PySem PySem.Spec L2 PyProof.Rows
theorem FnG.mono {P : Program} {w : World} {K : PySem.W.Frag} {mg : Str → Option Value} {base : Heap} {j k : Nat} {f : Addr} {fd : FuncData} {ps : List Str} {sp : Sp} (F : FnG P w K mg base j f fd ps sp) (le : j ≤ k) : FnG P w K mg base k f fd ps sp :=
  ⟨F.long, fun A outer s H args us vs Q guards room => F.does A outer s H args us vs Q guards (room.mono le)⟩
/-- the tokens of the module's numbers -/
def tkOf (mg : Str → Option Value) (x : Str) : Tok := match mg x with
  | some (.int _ t) => t
  | _ => 0
theorem tk_of {mg : Str → Option Value} {x : Str} {i : Int} (h : ∃ t, mg x = some (.int i t)) : mg x = some (.int i (tkOf mg x)) := by
  obtain ⟨t, e⟩ := h
  unfold tkOf
  rw [e]
theorem vals_take {vs : List V} {us : List Value} (h : Vals vs us) : ∀ n, Vals (vs.take n) (us.take n) := by
  induction h with
  | nil => intro n; rw [List.take_nil, List.take_nil]; exact .nil
  | cons r _ ih =>
    intro n
    cases n with
    | zero => exact .nil
    | succ n => exact .cons r (ih n)
abbrev InitD (K : PySem.W.Frag) (E f : Addr) (fd : FuncData) : Prop := FunD K "__init__" "Type.__init__" (defArgs s_tinit) (defBody s_tinit) (defScope s_tinit) [.non, .non, .ref E] [] f fd
section
variable {K : PySem.W.Frag} {E f : Addr} {fd : FuncData}
theorem init_0 (F : InitD K E f fd) : ∃ ds, L2.Binds K fd P_tinit ds ∧ Vals [V.non, V.non, V.ref E] ds := by
  obtain ⟨ds, a, b⟩ := F.binds1 (ps := P_tinit) 2 0 (by simp) rfl fun T kV doc pm an cdv ct us its l1 l2 => match us, l1, its, l2 with
    | [_, _], _, [_, _, _], _ => ⟨_, rfl, rfl⟩
  exact ⟨ds, b, a⟩
theorem init_inner (F : InitD K E f fd) : ∃ g : List Value → List Value → List Value, KBn K fd P_tinit 2 ["inner"] g fun vs zs => vs ++ zs ++ [.non, .ref E] := by
  obtain ⟨its, h⟩ := F.kbindsD (ps := P_tinit) 2 ["inner"] (fun us ds ws => us ++ ws ++ ds.drop 1) (by simp) (fun a b c => (a.append c).append (b.drop 1)) fun T kV doc pm an cdv ct us its ws l1 l2 l3 => match us, l1, its, l2, ws, l3 with
    | [_, _], _, [_, _, _], _, [_], _ => ⟨_, rfl, rfl⟩
  exact ⟨_, h⟩
theorem init_key (F : InitD K E f fd) : ∃ g : List Value → List Value → List Value, KBn K fd P_tinit 2 ["inner", "key"] g fun vs zs => vs ++ zs ++ [.ref E] := by
  obtain ⟨its, h⟩ := F.kbindsD (ps := P_tinit) 2 ["inner", "key"] (fun us ds ws => us ++ ws ++ ds.drop 2) (by simp) (fun a b c => (a.append c).append (b.drop 2)) fun T kV doc pm an cdv ct us its ws l1 l2 l3 => match us, l1, its, l2, ws, l3 with
    | [_, _], _, [_, _, _], _, [_, _], _ => ⟨_, rfl, rfl⟩
  exact ⟨_, h⟩
theorem init_fields (F : InitD K E f fd) : ∃ g : List Value → List Value → List Value, KBn K fd P_tinit 2 ["fields"] g fun vs zs => vs ++ [.non, .non] ++ zs := by
  obtain ⟨its, h⟩ := F.kbindsD (ps := P_tinit) 2 ["fields"] (fun us ds ws => us ++ ds.take 2 ++ ws) (by simp) (fun a b c => (a.append (vals_take b 2)).append c) fun T kV doc pm an cdv ct us its ws l1 l2 l3 => match us, l1, its, l2, ws, l3 with
    | [_, _], _, [_, _, _], _, [_], _ => ⟨_, rfl, rfl⟩
  exact ⟨_, h⟩
end

theorem facts {P : Program} {w : World} {K : PySem.W.Frag} {h : Heap} {mg : Str → Option Value} {f : Addr} (X : K.In h) (G : h.Ns mainGlobals mg) (hfa : mg ("law" : Str) = some (.ref f)) (c : Told K) :
    ∃ fd : FuncData, (∀ (s : Shared) (v : Value), BindsTo s fd ⟨[v], []⟩ [("_law_script", v)]) ∧ ∀ base : Heap, K.In base → base.Ns mainGlobals mg → FnG P w K mg base 37 f fd P_law (spLaw K) := by
  have d := c.facts
  obtain ⟨exO, exMore⟩ := He.ba c.more
  obtain ⟨exR, exS⟩ := He.ba exMore
  obtain ⟨exD, exN⟩ := He.ba exS
  have nilE := nil_of exN
  have SK : SysK K := by
    obtain ⟨es, n, sl, e⟩ := He.dictB_ok exD
    exact ⟨_, e, rfl⟩
  obtain ⟨o1, o⟩ := He.ba exO
  obtain ⟨o2, o⟩ := He.ba o
  obtain ⟨o3, o4⟩ := He.ba o
  obtain ⟨r1, r⟩ := He.ba exR
  obtain ⟨r2, r⟩ := He.ba r
  obtain ⟨r3, r4⟩ := He.ba r
  have T0 : Bl mg := by
    constructor
    · exact He.free_ok X G (d.fact 37 (f := .free "len") rfl)
    · exact He.free_ok X G (d.fact 38 (f := .free "abs") rfl)
    · exact He.free_ok X G (d.fact 39 (f := .free "divmod") rfl)
    · exact He.free_ok X G (d.fact 40 (f := .free "min") rfl)
    · exact He.free_ok X G (d.fact 41 (f := .free "max") rfl)
    · exact He.free_ok X G (d.fact 42 (f := .free "all") rfl)
    · exact He.free_ok X G (d.fact 43 (f := .free "sorted") rfl)
    · exact He.free_ok X G (d.fact 44 (f := .free "isinstance") rfl)
    · exact He.free_ok X G (d.fact 45 (f := .free "repr") rfl)
    · exact He.free_ok X G (d.fact 46 (f := .free "ord") rfl)
    · exact He.free_ok X G (d.fact 47 (f := .free "range") rfl)
    · exact He.free_ok X G (d.fact 48 (f := .free "zip") rfl)
    · exact He.free_ok X G (d.fact 49 (f := .free "tuple") rfl)
    · exact He.free_ok X G (d.fact 50 (f := .free "list") rfl)
    · exact He.free_ok X G (d.fact 51 (f := .free "str") rfl)
    · exact He.free_ok X G (d.fact 52 (f := .free "int") rfl)
    · exact He.free_ok X G (d.fact 53 (f := .free "bool") rfl)
    · exact He.free_ok X G (d.fact 54 (f := .free "dict") rfl)
  have T : BlT mg := { toBl := T0, any := He.free_ok X G (d.fact 55 (f := .free "any") rfl), set := He.free_ok X G (d.fact 56 (f := .free "set") rfl), enumerate := He.free_ok X G (d.fact 57 (f := .free "enumerate") rfl) }
  have Lm : Lm mg (tkOf mg) := by
    constructor
    · exact tk_of (He.int_ok X G (d.fact 60 (f := .int "NEWLINE" 10) rfl))
    · exact tk_of (He.int_ok X G (d.fact 61 (f := .int "SPACE" 32) rfl))
    · exact tk_of (He.int_ok X G (d.fact 62 (f := .int "PERCENT" 37) rfl))
    · exact tk_of (He.int_ok X G (d.fact 63 (f := .int "TILDE" 126) rfl))
    · exact tk_of (He.int_ok X G (d.fact 58 (f := .int "MAX_ELEMENTS" 60) rfl))
    · exact tk_of (He.int_ok X G (d.fact 59 (f := .int "MAX_LEVELS" 6) rfl))
    · exact tk_of (He.int_ok X G (d.fact 64 (f := .int "MAX_LETTERS" 12) rfl))
  have gReader : mg "Reader" = some (.ref (He.ga K "Reader")) := He.glo_ok X G (d.fact 35 (f := .glo "Reader") rfl)
  have clReader : Cls K (He.ga K "Reader") := He.cls_ok (d.fact 65 (f := .cls "Reader") rfl)
  have mkReader : Mk K (He.ga K "Reader") (He.ma K (He.ga K "Reader") "__init__") := He.mkr_ok (d.fact 67 (f := .mkr "Reader") rfl)
  have gType : mg "Type" = some (.ref (He.ga K "Type")) := He.glo_ok X G (d.fact 36 (f := .glo "Type") rfl)
  have clType : Cls K (He.ga K "Type") := He.cls_ok (d.fact 66 (f := .cls "Type") rfl)
  have mkType : Mk K (He.ga K "Type") (He.ma K (He.ga K "Type") "__init__") := He.mkr_ok (d.fact 68 (f := .mkr "Type") rfl)
  have RC : RdC K (He.ga K "Reader") := ⟨clReader, He.noat_ok (d.fact 69 (f := .noat "Reader" "written") rfl), He.noat_ok (d.fact 70 (f := .noat "Reader" "at") rfl)⟩
  have TC : TyC K (He.ga K "Type") := ⟨clType, He.noat_ok (d.fact 71 (f := .noat "Type" "kind") rfl), He.noat_ok (d.fact 72 (f := .noat "Type" "inner") rfl), He.noat_ok (d.fact 73 (f := .noat "Type" "key") rfl), He.noat_ok (d.fact 74 (f := .noat "Type" "fields") rfl), He.noat_ok (d.fact 75 (f := .noat "Type" "_writing") rfl), He.eqO_ok o1, of_decide_eq_true o4⟩
  obtain ⟨f_is_value, U_is_value⟩ := d.def_ 4 (d := dd4) rfl
  have F_is_value : Fun K "is_value" "is_value" s_is_value (He.ga K "is_value") f_is_value := He5.fun_of U_is_value
  have G_is_value : mg "is_value" = some (.ref (He.ga K "is_value")) := He.glo_ok X G (d.fact 4 (f := .glo "is_value") rfl)
  have B_is_value : L2.Binds K f_is_value P_is_value [] := F_is_value.binds fun _ _ _ _ _ _ us hl => match us, hl with | [_], _ => rfl
  obtain ⟨f__is_value_within, U__is_value_within⟩ := d.def_ 7 (d := dd7) rfl
  have F__is_value_within : Fun K "_is_value_within" "_is_value_within" s_within (He.ga K "_is_value_within") f__is_value_within := He5.fun_of U__is_value_within
  have G__is_value_within : mg "_is_value_within" = some (.ref (He.ga K "_is_value_within")) := He.glo_ok X G (d.fact 7 (f := .glo "_is_value_within") rfl)
  have B__is_value_within : L2.Binds K f__is_value_within P_within [] := F__is_value_within.binds fun _ _ _ _ _ _ us hl => match us, hl with | [_, _], _ => rfl
  obtain ⟨f_same, U_same⟩ := d.def_ 5 (d := dd5) rfl
  have F_same : Fun K "same" "same" s_same (He.ga K "same") f_same := He5.fun_of U_same
  have G_same : mg "same" = some (.ref (He.ga K "same")) := He.glo_ok X G (d.fact 5 (f := .glo "same") rfl)
  have B_same : L2.Binds K f_same P_same [] := F_same.binds fun _ _ _ _ _ _ us hl => match us, hl with | [_, _], _ => rfl
  obtain ⟨f_agree, U_agree⟩ := d.def_ 8 (d := dd8) rfl
  have F_agree : Fun K "agree" "agree" s_agree (He.ga K "agree") f_agree := He5.fun_of U_agree
  have G_agree : mg "agree" = some (.ref (He.ga K "agree")) := He.glo_ok X G (d.fact 8 (f := .glo "agree") rfl)
  have B_agree : L2.Binds K f_agree P_agree [] := F_agree.binds fun _ _ _ _ _ _ us hl => match us, hl with | [_, _], _ => rfl
  obtain ⟨f_is_sign, U_is_sign⟩ := d.def_ 0 (d := dd0) rfl
  have F_is_sign : Fun K "is_sign" "is_sign" s_is_sign (He.ga K "is_sign") f_is_sign := He5.fun_of U_is_sign
  have G_is_sign : mg "is_sign" = some (.ref (He.ga K "is_sign")) := He.glo_ok X G (d.fact 0 (f := .glo "is_sign") rfl)
  have B_is_sign : L2.Binds K f_is_sign P_is_sign [] := F_is_sign.binds fun _ _ _ _ _ _ us hl => match us, hl with | [_], _ => rfl
  obtain ⟨f_is_text, U_is_text⟩ := d.def_ 1 (d := dd1) rfl
  have F_is_text : Fun K "is_text" "is_text" s_is_text (He.ga K "is_text") f_is_text := He5.fun_of U_is_text
  have G_is_text : mg "is_text" = some (.ref (He.ga K "is_text")) := He.glo_ok X G (d.fact 1 (f := .glo "is_text") rfl)
  have B_is_text : L2.Binds K f_is_text P_is_text [] := F_is_text.binds fun _ _ _ _ _ _ us hl => match us, hl with | [_], _ => rfl
  obtain ⟨f_is_letter, U_is_letter⟩ := d.def_ 2 (d := dd2) rfl
  have F_is_letter : Fun K "is_letter" "is_letter" s_is_letter (He.ga K "is_letter") f_is_letter := He5.fun_of U_is_letter
  have G_is_letter : mg "is_letter" = some (.ref (He.ga K "is_letter")) := He.glo_ok X G (d.fact 2 (f := .glo "is_letter") rfl)
  have B_is_letter : L2.Binds K f_is_letter P_is_letter [] := F_is_letter.binds fun _ _ _ _ _ _ us hl => match us, hl with | [_], _ => rfl
  obtain ⟨f_is_name, U_is_name⟩ := d.def_ 3 (d := dd3) rfl
  have F_is_name : Fun K "is_name" "is_name" s_is_name (He.ga K "is_name") f_is_name := He5.fun_of U_is_name
  have G_is_name : mg "is_name" = some (.ref (He.ga K "is_name")) := He.glo_ok X G (d.fact 3 (f := .glo "is_name") rfl)
  have B_is_name : L2.Binds K f_is_name P_is_name [] := F_is_name.binds fun _ _ _ _ _ _ us hl => match us, hl with | [_], _ => rfl
  obtain ⟨f_kind_of, U_kind_of⟩ := d.def_ 6 (d := dd6) rfl
  have F_kind_of : Fun K "kind_of" "kind_of" s_kind_of (He.ga K "kind_of") f_kind_of := He5.fun_of U_kind_of
  have G_kind_of : mg "kind_of" = some (.ref (He.ga K "kind_of")) := He.glo_ok X G (d.fact 6 (f := .glo "kind_of") rfl)
  have B_kind_of : L2.Binds K f_kind_of P_kind_of [] := F_kind_of.binds fun _ _ _ _ _ _ us hl => match us, hl with | [_], _ => rfl
  obtain ⟨f__writing_of, U__writing_of⟩ := d.def_ 9 (d := dd9) rfl
  have F__writing_of : Fun K "_writing_of" "_writing_of" s_wof (He.ga K "_writing_of") f__writing_of := He5.fun_of U__writing_of
  have G__writing_of : mg "_writing_of" = some (.ref (He.ga K "_writing_of")) := He.glo_ok X G (d.fact 9 (f := .glo "_writing_of") rfl)
  have B__writing_of : L2.Binds K f__writing_of P_wof [] := F__writing_of.binds fun _ _ _ _ _ _ us hl => match us, hl with | [_, _, _, _], _ => rfl
  obtain ⟨f__read_whole, U__read_whole⟩ := d.def_ 10 (d := dd10) rfl
  have F__read_whole : Fun K "_read_whole" "_read_whole" s_whole (He.ga K "_read_whole") f__read_whole := He5.fun_of U__read_whole
  have G__read_whole : mg "_read_whole" = some (.ref (He.ga K "_read_whole")) := He.glo_ok X G (d.fact 10 (f := .glo "_read_whole") rfl)
  have B__read_whole : L2.Binds K f__read_whole P_whole [] := F__read_whole.binds fun _ _ _ _ _ _ us hl => match us, hl with | [_], _ => rfl
  obtain ⟨f__read_part, U__read_part⟩ := d.def_ 11 (d := dd11) rfl
  have F__read_part : Fun K "_read_part" "_read_part" s_part (He.ga K "_read_part") f__read_part := He5.fun_of U__read_part
  have G__read_part : mg "_read_part" = some (.ref (He.ga K "_read_part")) := He.glo_ok X G (d.fact 11 (f := .glo "_read_part") rfl)
  have B__read_part : L2.Binds K f__read_part P_part [] := F__read_part.binds fun _ _ _ _ _ _ us hl => match us, hl with | [_, _], _ => rfl
  obtain ⟨f__read_required, U__read_required⟩ := d.def_ 12 (d := dd12) rfl
  have F__read_required : Fun K "_read_required" "_read_required" s_req (He.ga K "_read_required") f__read_required := He5.fun_of U__read_required
  have G__read_required : mg "_read_required" = some (.ref (He.ga K "_read_required")) := He.glo_ok X G (d.fact 12 (f := .glo "_read_required") rfl)
  have B__read_required : L2.Binds K f__read_required P_req [] := F__read_required.binds fun _ _ _ _ _ _ us hl => match us, hl with | [_, _], _ => rfl
  obtain ⟨f__read_list, U__read_list⟩ := d.def_ 13 (d := dd13) rfl
  have F__read_list : Fun K "_read_list" "_read_list" s_rlist (He.ga K "_read_list") f__read_list := He5.fun_of U__read_list
  have G__read_list : mg "_read_list" = some (.ref (He.ga K "_read_list")) := He.glo_ok X G (d.fact 13 (f := .glo "_read_list") rfl)
  have B__read_list : L2.Binds K f__read_list P_rlist [] := F__read_list.binds fun _ _ _ _ _ _ us hl => match us, hl with | [_, _], _ => rfl
  obtain ⟨f__can_be_key, U__can_be_key⟩ := d.def_ 14 (d := dd14) rfl
  have F__can_be_key : Fun K "_can_be_key" "_can_be_key" s_can (He.ga K "_can_be_key") f__can_be_key := He5.fun_of U__can_be_key
  have G__can_be_key : mg "_can_be_key" = some (.ref (He.ga K "_can_be_key")) := He.glo_ok X G (d.fact 14 (f := .glo "_can_be_key") rfl)
  have B__can_be_key : L2.Binds K f__can_be_key P_can [] := F__can_be_key.binds fun _ _ _ _ _ _ us hl => match us, hl with | [_, _], _ => rfl
  obtain ⟨f__read_record, U__read_record⟩ := d.def_ 15 (d := dd15) rfl
  have F__read_record : Fun K "_read_record" "_read_record" s_rrec (He.ga K "_read_record") f__read_record := He5.fun_of U__read_record
  have G__read_record : mg "_read_record" = some (.ref (He.ga K "_read_record")) := He.glo_ok X G (d.fact 15 (f := .glo "_read_record") rfl)
  have B__read_record : L2.Binds K f__read_record P_rrec [] := F__read_record.binds fun _ _ _ _ _ _ us hl => match us, hl with | [_, _], _ => rfl
  obtain ⟨f__read_field, U__read_field⟩ := d.def_ 16 (d := dd16) rfl
  have F__read_field : Fun K "_read_field" "_read_field" s_field (He.ga K "_read_field") f__read_field := He5.fun_of U__read_field
  have G__read_field : mg "_read_field" = some (.ref (He.ga K "_read_field")) := He.glo_ok X G (d.fact 16 (f := .glo "_read_field") rfl)
  have B__read_field : L2.Binds K f__read_field P_field [] := F__read_field.binds fun _ _ _ _ _ _ us hl => match us, hl with | [_, _], _ => rfl
  obtain ⟨f__first_trouble, U__first_trouble⟩ := d.def_ 17 (d := dd17) rfl
  have F__first_trouble : Fun K "_first_trouble" "_first_trouble" s_first (He.ga K "_first_trouble") f__first_trouble := He5.fun_of U__first_trouble
  have G__first_trouble : mg "_first_trouble" = some (.ref (He.ga K "_first_trouble")) := He.glo_ok X G (d.fact 17 (f := .glo "_first_trouble") rfl)
  have B__first_trouble : L2.Binds K f__first_trouble P_first [] := F__first_trouble.binds fun _ _ _ _ _ _ us hl => match us, hl with | [_, _, _], _ => rfl
  obtain ⟨f__trouble_in_list, U__trouble_in_list⟩ := d.def_ 18 (d := dd18) rfl
  have F__trouble_in_list : Fun K "_trouble_in_list" "_trouble_in_list" s_inlist (He.ga K "_trouble_in_list") f__trouble_in_list := He5.fun_of U__trouble_in_list
  have G__trouble_in_list : mg "_trouble_in_list" = some (.ref (He.ga K "_trouble_in_list")) := He.glo_ok X G (d.fact 18 (f := .glo "_trouble_in_list") rfl)
  have B__trouble_in_list : L2.Binds K f__trouble_in_list P_inlist [] := F__trouble_in_list.binds fun _ _ _ _ _ _ us hl => match us, hl with | [_, _, _], _ => rfl
  obtain ⟨f__trouble_in_record, U__trouble_in_record⟩ := d.def_ 19 (d := dd19) rfl
  have F__trouble_in_record : Fun K "_trouble_in_record" "_trouble_in_record" s_inrec (He.ga K "_trouble_in_record") f__trouble_in_record := He5.fun_of U__trouble_in_record
  have G__trouble_in_record : mg "_trouble_in_record" = some (.ref (He.ga K "_trouble_in_record")) := He.glo_ok X G (d.fact 19 (f := .glo "_trouble_in_record") rfl)
  have B__trouble_in_record : L2.Binds K f__trouble_in_record P_inrec [] := F__trouble_in_record.binds fun _ _ _ _ _ _ us hl => match us, hl with | [_, _, _], _ => rfl
  obtain ⟨f__law_cell, U__law_cell⟩ := d.def_ 20 (d := dd20) rfl
  have F__law_cell : Fun K "_law_cell" "_law_cell" s_cell (He.ga K "_law_cell") f__law_cell := He5.fun_of U__law_cell
  have G__law_cell : mg "_law_cell" = some (.ref (He.ga K "_law_cell")) := He.glo_ok X G (d.fact 20 (f := .glo "_law_cell") rfl)
  have B__law_cell : L2.Binds K f__law_cell P_cell [] := F__law_cell.binds fun _ _ _ _ _ _ us hl => match us, hl with | [_, _], _ => rfl
  obtain ⟨f__law_pool, U__law_pool⟩ := d.def_ 21 (d := dd21) rfl
  have F__law_pool : Fun K "_law_pool" "_law_pool" s_pool (He.ga K "_law_pool") f__law_pool := He5.fun_of U__law_pool
  have G__law_pool : mg "_law_pool" = some (.ref (He.ga K "_law_pool")) := He.glo_ok X G (d.fact 21 (f := .glo "_law_pool") rfl)
  have B__law_pool : L2.Binds K f__law_pool P_pool [] := F__law_pool.binds fun _ _ _ _ _ _ us hl => match us, hl with | [_], _ => rfl
  obtain ⟨f__law_draw, U__law_draw⟩ := d.def_ 22 (d := dd22) rfl
  have F__law_draw : Fun K "_law_draw" "_law_draw" s_draw (He.ga K "_law_draw") f__law_draw := He5.fun_of U__law_draw
  have G__law_draw : mg "_law_draw" = some (.ref (He.ga K "_law_draw")) := He.glo_ok X G (d.fact 22 (f := .glo "_law_draw") rfl)
  have B__law_draw : L2.Binds K f__law_draw P_draw [] := F__law_draw.binds fun _ _ _ _ _ _ us hl => match us, hl with | [_, _], _ => rfl
  obtain ⟨f__law_words, U__law_words⟩ := d.def_ 23 (d := dd23) rfl
  have F__law_words : Fun K "_law_words" "_law_words" s_words (He.ga K "_law_words") f__law_words := He5.fun_of U__law_words
  have G__law_words : mg "_law_words" = some (.ref (He.ga K "_law_words")) := He.glo_ok X G (d.fact 23 (f := .glo "_law_words") rfl)
  have B__law_words : L2.Binds K f__law_words P_words [] := F__law_words.binds fun _ _ _ _ _ _ us hl => match us, hl with | [_, _], _ => rfl
  obtain ⟨f__law_chars, U__law_chars⟩ := d.def_ 24 (d := dd24) rfl
  have F__law_chars : Fun K "_law_chars" "_law_chars" s_chars (He.ga K "_law_chars") f__law_chars := He5.fun_of U__law_chars
  have G__law_chars : mg "_law_chars" = some (.ref (He.ga K "_law_chars")) := He.glo_ok X G (d.fact 24 (f := .glo "_law_chars") rfl)
  have B__law_chars : L2.Binds K f__law_chars P_chars [] := F__law_chars.binds fun _ _ _ _ _ _ us hl => match us, hl with | [_], _ => rfl
  obtain ⟨f__law_form, U__law_form⟩ := d.def_ 25 (d := dd25) rfl
  have F__law_form : Fun K "_law_form" "_law_form" s_form (He.ga K "_law_form") f__law_form := He5.fun_of U__law_form
  have G__law_form : mg "_law_form" = some (.ref (He.ga K "_law_form")) := He.glo_ok X G (d.fact 25 (f := .glo "_law_form") rfl)
  have B__law_form : L2.Binds K f__law_form P_form [] := F__law_form.binds fun _ _ _ _ _ _ us hl => match us, hl with | [_, _], _ => rfl
  obtain ⟨f__law_form_text, U__law_form_text⟩ := d.def_ 26 (d := dd26) rfl
  have F__law_form_text : Fun K "_law_form_text" "_law_form_text" s_ftext (He.ga K "_law_form_text") f__law_form_text := He5.fun_of U__law_form_text
  have G__law_form_text : mg "_law_form_text" = some (.ref (He.ga K "_law_form_text")) := He.glo_ok X G (d.fact 26 (f := .glo "_law_form_text") rfl)
  have B__law_form_text : L2.Binds K f__law_form_text P_ftext [] := F__law_form_text.binds fun _ _ _ _ _ _ us hl => match us, hl with | [_], _ => rfl
  obtain ⟨f__law_thing_of, U__law_thing_of⟩ := d.def_ 27 (d := dd27) rfl
  have F__law_thing_of : Fun K "_law_thing_of" "_law_thing_of" s_thing (He.ga K "_law_thing_of") f__law_thing_of := He5.fun_of U__law_thing_of
  have G__law_thing_of : mg "_law_thing_of" = some (.ref (He.ga K "_law_thing_of")) := He.glo_ok X G (d.fact 27 (f := .glo "_law_thing_of") rfl)
  have B__law_thing_of : L2.Binds K f__law_thing_of P_thing [] := F__law_thing_of.binds fun _ _ _ _ _ _ us hl => match us, hl with | [_, _], _ => rfl
  obtain ⟨f__law_fits, U__law_fits⟩ := d.def_ 28 (d := dd28) rfl
  have F__law_fits : Fun K "_law_fits" "_law_fits" s_fits (He.ga K "_law_fits") f__law_fits := He5.fun_of U__law_fits
  have G__law_fits : mg "_law_fits" = some (.ref (He.ga K "_law_fits")) := He.glo_ok X G (d.fact 28 (f := .glo "_law_fits") rfl)
  have B__law_fits : L2.Binds K f__law_fits P_fits [] := F__law_fits.binds fun _ _ _ _ _ _ us hl => match us, hl with | [_, _], _ => rfl
  obtain ⟨f__law_bent, U__law_bent⟩ := d.def_ 29 (d := dd29) rfl
  have F__law_bent : Fun K "_law_bent" "_law_bent" s_bent (He.ga K "_law_bent") f__law_bent := He5.fun_of U__law_bent
  have G__law_bent : mg "_law_bent" = some (.ref (He.ga K "_law_bent")) := He.glo_ok X G (d.fact 29 (f := .glo "_law_bent") rfl)
  have B__law_bent : L2.Binds K f__law_bent P_bent [] := F__law_bent.binds fun _ _ _ _ _ _ us hl => match us, hl with | [_, _], _ => rfl
  obtain ⟨f__law_right, U__law_right⟩ := d.def_ 30 (d := dd30) rfl
  have F__law_right : Fun K "_law_right" "_law_right" s_right (He.ga K "_law_right") f__law_right := He5.fun_of U__law_right
  have G__law_right : mg "_law_right" = some (.ref (He.ga K "_law_right")) := He.glo_ok X G (d.fact 30 (f := .glo "_law_right") rfl)
  have B__law_right : L2.Binds K f__law_right P_right [] := F__law_right.binds fun _ _ _ _ _ _ us hl => match us, hl with | [_], _ => rfl
  obtain ⟨f__law_twins, U__law_twins⟩ := d.def_ 31 (d := dd31) rfl
  have F__law_twins : Fun K "_law_twins" "_law_twins" s_twins (He.ga K "_law_twins") f__law_twins := He5.fun_of U__law_twins
  have G__law_twins : mg "_law_twins" = some (.ref (He.ga K "_law_twins")) := He.glo_ok X G (d.fact 31 (f := .glo "_law_twins") rfl)
  have B__law_twins : L2.Binds K f__law_twins P_twins [] := F__law_twins.binds fun _ _ _ _ _ _ us hl => match us, hl with | [_], _ => rfl
  obtain ⟨f__law_pair_right, U__law_pair_right⟩ := d.def_ 32 (d := dd32) rfl
  have F__law_pair_right : Fun K "_law_pair_right" "_law_pair_right" s_pair (He.ga K "_law_pair_right") f__law_pair_right := He5.fun_of U__law_pair_right
  have G__law_pair_right : mg "_law_pair_right" = some (.ref (He.ga K "_law_pair_right")) := He.glo_ok X G (d.fact 32 (f := .glo "_law_pair_right") rfl)
  have B__law_pair_right : L2.Binds K f__law_pair_right P_pair [] := F__law_pair_right.binds fun _ _ _ _ _ _ us hl => match us, hl with | [_, _, _, _], _ => rfl
  obtain ⟨f__law_right_again, U__law_right_again⟩ := d.def_ 33 (d := dd33) rfl
  have F__law_right_again : Fun K "_law_right_again" "_law_right_again" s_again (He.ga K "_law_right_again") f__law_right_again := He5.fun_of U__law_right_again
  have G__law_right_again : mg "_law_right_again" = some (.ref (He.ga K "_law_right_again")) := He.glo_ok X G (d.fact 33 (f := .glo "_law_right_again") rfl)
  have B__law_right_again : L2.Binds K f__law_right_again P_again [] := F__law_right_again.binds fun _ _ _ _ _ _ us hl => match us, hl with | [_], _ => rfl
  obtain ⟨f_law, U_law⟩ := d.def_ 34 (d := dd34) rfl
  have F_law : Fun K "law" "law" s_law (He.ga K "law") f_law := He5.fun_of U_law
  obtain ⟨f_Reader___init__, U_Reader___init__⟩ := d.def_ 35 (d := dd35) rfl
  have F_Reader___init__ : Fun K "__init__" "Reader.__init__" s_rinit (He.ma K (He.ga K "Reader") "__init__") f_Reader___init__ := He5.fun_of U_Reader___init__
  have B_Reader___init__ : L2.Binds K f_Reader___init__ P_rinit [] := F_Reader___init__.binds fun _ _ _ _ _ _ us hl => match us, hl with | [_, _], _ => rfl
  obtain ⟨f_Reader_skips, U_Reader_skips⟩ := d.def_ 36 (d := dd36) rfl
  have F_Reader_skips : Fun K "skips" "Reader.skips" s_skips (He.ma K (He.ga K "Reader") "skips") f_Reader_skips := He5.fun_of U_Reader_skips
  have B_Reader_skips : L2.Binds K f_Reader_skips P_skips [] := F_Reader_skips.binds fun _ _ _ _ _ _ us hl => match us, hl with | [_, _], _ => rfl
  obtain ⟨f_Reader_starts, U_Reader_starts⟩ := d.def_ 37 (d := dd37) rfl
  have F_Reader_starts : Fun K "starts" "Reader.starts" s_starts (He.ma K (He.ga K "Reader") "starts") f_Reader_starts := He5.fun_of U_Reader_starts
  have B_Reader_starts : L2.Binds K f_Reader_starts P_starts [] := F_Reader_starts.binds fun _ _ _ _ _ _ us hl => match us, hl with | [_, _], _ => rfl
  obtain ⟨f_Reader_needs, U_Reader_needs⟩ := d.def_ 38 (d := dd38) rfl
  have F_Reader_needs : Fun K "needs" "Reader.needs" s_needs (He.ma K (He.ga K "Reader") "needs") f_Reader_needs := He5.fun_of U_Reader_needs
  have B_Reader_needs : L2.Binds K f_Reader_needs P_needs [] := F_Reader_needs.binds fun _ _ _ _ _ _ us hl => match us, hl with | [_, _], _ => rfl
  obtain ⟨f_Reader_letters, U_Reader_letters⟩ := d.def_ 39 (d := dd39) rfl
  have F_Reader_letters : Fun K "letters" "Reader.letters" s_letters (He.ma K (He.ga K "Reader") "letters") f_Reader_letters := He5.fun_of U_Reader_letters
  have B_Reader_letters : L2.Binds K f_Reader_letters P_letters [] := F_Reader_letters.binds fun _ _ _ _ _ _ us hl => match us, hl with | [_], _ => rfl
  obtain ⟨f_Reader_ended, U_Reader_ended⟩ := d.def_ 40 (d := dd40) rfl
  have F_Reader_ended : Fun K "ended" "Reader.ended" s_ended (He.ma K (He.ga K "Reader") "ended") f_Reader_ended := He5.fun_of U_Reader_ended
  have B_Reader_ended : L2.Binds K f_Reader_ended P_ended [] := F_Reader_ended.binds fun _ _ _ _ _ _ us hl => match us, hl with | [_], _ => rfl
  obtain ⟨f_Type_read, U_Type_read⟩ := d.def_ 42 (d := dd42) rfl
  have F_Type_read : Fun K "read" "Type.read" s_tread (He5.wf K (He.ga K "Type") "classmethod" "read") f_Type_read := He5.fun_of U_Type_read
  have B_Type_read : L2.Binds K f_Type_read P_tread [] := F_Type_read.binds fun _ _ _ _ _ _ us hl => match us, hl with | [_, _], _ => rfl
  obtain ⟨f_Type_trouble, U_Type_trouble⟩ := d.def_ 43 (d := dd43) rfl
  have F_Type_trouble : Fun K "trouble" "Type.trouble" s_trouble (He.ma K (He.ga K "Type") "trouble") f_Type_trouble := He5.fun_of U_Type_trouble
  have B_Type_trouble : L2.Binds K f_Type_trouble P_trouble [] := F_Type_trouble.binds fun _ _ _ _ _ _ us hl => match us, hl with | [_, _], _ => rfl
  obtain ⟨f_Type___contains__, U_Type___contains__⟩ := d.def_ 44 (d := dd44) rfl
  have F_Type___contains__ : Fun K "__contains__" "Type.__contains__" s_has (He.ma K (He.ga K "Type") "__contains__") f_Type___contains__ := He5.fun_of U_Type___contains__
  have B_Type___contains__ : L2.Binds K f_Type___contains__ P_has [] := F_Type___contains__.binds fun _ _ _ _ _ _ us hl => match us, hl with | [_, _], _ => rfl
  obtain ⟨f_Type___str__, U_Type___str__⟩ := d.def_ 45 (d := dd45) rfl
  have F_Type___str__ : Fun K "__str__" "Type.__str__" s_tstr (He.ma K (He.ga K "Type") "__str__") f_Type___str__ := He5.fun_of U_Type___str__
  have B_Type___str__ : L2.Binds K f_Type___str__ P_tstr [] := F_Type___str__.binds fun _ _ _ _ _ _ us hl => match us, hl with | [_], _ => rfl
  obtain ⟨f_Type___repr__, U_Type___repr__⟩ := d.def_ 46 (d := dd46) rfl
  have F_Type___repr__ : Fun K "__repr__" "Type.__repr__" s_repr (He.ma K (He.ga K "Type") "__repr__") f_Type___repr__ := He5.fun_of U_Type___repr__
  have B_Type___repr__ : L2.Binds K f_Type___repr__ P_repr [] := F_Type___repr__.binds fun _ _ _ _ _ _ us hl => match us, hl with | [_], _ => rfl
  obtain ⟨f_init, U_init⟩ := d.def_ 41 (d := dd41) rfl
  have el := hfa.symm.trans (He.glo_ok X G (d.fact 34 (f := .glo "law") rfl))
  cases el
  refine ⟨f_law, fun s v => U_law.bindsA (ps := ["_law_script"]) (fun _ _ _ _ _ _ us hl => match us, hl with | [_], _ => rfl) s [v] rfl, fun base _ _ => ?_⟩
  have D_is_sign : Def P w K mg base "is_sign" 1 P_is_sign spSign (He.ga K "is_sign") f_is_sign := ⟨G_is_sign, F_is_sign.kp, B_is_sign, ok_is_sign F_is_sign T0 Lm⟩
  have D_is_text : Def P w K mg base "is_text" 2 P_is_text spText (He.ga K "is_text") f_is_text := ⟨G_is_text, F_is_text.kp, B_is_text, ok_is_text F_is_text T0 D_is_sign⟩
  have D_is_letter : Def P w K mg base "is_letter" 1 P_is_letter (spBetween 97 122) (He.ga K "is_letter") f_is_letter := ⟨G_is_letter, F_is_letter.kp, B_is_letter, ok_is_letter F_is_letter⟩
  have D_is_name : Def P w K mg base "is_name" 2 P_is_name spIsName (He.ga K "is_name") f_is_name := ⟨G_is_name, F_is_name.kp, B_is_name, ok_is_name F_is_name T0 Lm D_is_letter⟩
  have D_is_name2 : Def P w K mg base "is_name" 2 P_is_name spName2 (He.ga K "is_name") f_is_name := ⟨G_is_name, F_is_name.kp, B_is_name, FnOk.or (ok_is_name F_is_name T0 Lm D_is_letter) (ok_no_name F_is_name T0 Lm D_is_letter)⟩
  have D_is_name3 : Def P w K mg base "is_name" 2 P_is_name spName3 (He.ga K "is_name") f_is_name := ⟨G_is_name, F_is_name.kp, B_is_name, FnOk.or D_is_name2.ok (ok_tupname F_is_name T0 Lm D_is_letter)⟩
  have D_is_textN : Def P w K mg base "is_text" 2 P_is_textN spTextN (He.ga K "is_text") f_is_text := ⟨G_is_text, F_is_text.kp, B_is_text, ok_textN F_is_text T0 D_is_sign⟩
  have D_kind_of : Def P w K mg base "kind_of" 3 P_kind_of (spKind K) (He.ga K "kind_of") f_kind_of := ⟨G_kind_of, F_kind_of.kp, B_kind_of, ok_kind_of F_kind_of T0 Lm D_is_text D_is_name2⟩
  have D_kind_ofN : Def P w K mg base "kind_of" 3 P_kindN spKindN (He.ga K "kind_of") f_kind_of := ⟨G_kind_of, F_kind_of.kp, B_kind_of, ok_kindN F_kind_of T0 Lm D_is_textN D_is_name3⟩
  have M_Type___str__ : MtD P w K mg base (He.ga K "Type") "__str__" 1 P_tstr (spTStr (He.ga K "Type")) (He.ma K (He.ga K "Type") "__str__") f_Type___str__ := ⟨clType, He.meth_ok (d.fact 83 (f := .meth "Type" "__str__") rfl), B_Type___str__, ok_tstr F_Type___str__ T0 TC⟩
  have D_writing_of : Def P w K mg base "_writing_of" 3 P_wof (spWof (He.ga K "Type") (edA K)) (He.ga K "_writing_of") f__writing_of := ⟨G__writing_of, F__writing_of.kp, B__writing_of, ok_wof F__writing_of TC M_Type___str__⟩
  have TD : TyD P w K mg base (He.ga K "Type") (edA K) (He.ma K (He.ga K "Type") "__init__") f_init := ⟨gType, mkType, ok_tinit U_init TC D_writing_of, init_0 U_init, init_inner U_init, init_key U_init, init_fields U_init⟩
  have D_can_be_key : Def P w K mg base "_can_be_key" 1 P_can (spCan (He.ga K "Type") (edA K)) (He.ga K "_can_be_key") f__can_be_key := ⟨G__can_be_key, F__can_be_key.kp, B__can_be_key, ok_can F__can_be_key T TC⟩
  have M_Reader_ended : MtD P w K mg base (He.ga K "Reader") "ended" 1 P_ended (spEnded (He.ga K "Reader")) (He.ma K (He.ga K "Reader") "ended") f_Reader_ended := ⟨clReader, He.meth_ok (d.fact 80 (f := .meth "Reader" "ended") rfl), B_Reader_ended, ok_ended F_Reader_ended T0 RC⟩
  have M_Reader_skips : MtD P w K mg base (He.ga K "Reader") "skips" 1 P_skips (spSkips (He.ga K "Reader")) (He.ma K (He.ga K "Reader") "skips") f_Reader_skips := ⟨clReader, He.meth_ok (d.fact 76 (f := .meth "Reader" "skips") rfl), B_Reader_skips, ok_skips F_Reader_skips T0 RC⟩
  have M_Reader_starts : MtD P w K mg base (He.ga K "Reader") "starts" 2 P_starts (spStarts (He.ga K "Reader") (He.ga K "is_letter")) (He.ma K (He.ga K "Reader") "starts") f_Reader_starts := ⟨clReader, He.meth_ok (d.fact 77 (f := .meth "Reader" "starts") rfl), B_Reader_starts, ok_starts F_Reader_starts RC M_Reader_ended D_is_letter⟩
  have M_Reader_letters : MtD P w K mg base (He.ga K "Reader") "letters" 3 P_letters (spLetters (He.ga K "Reader")) (He.ma K (He.ga K "Reader") "letters") f_Reader_letters := ⟨clReader, He.meth_ok (d.fact 79 (f := .meth "Reader" "letters") rfl), B_Reader_letters, ok_letters F_Reader_letters RC M_Reader_starts D_is_letter⟩
  have M_Reader_needs : MtD P w K mg base (He.ga K "Reader") "needs" 2 P_needs (spNeeds (He.ga K "Reader")) (He.ma K (He.ga K "Reader") "needs") f_Reader_needs := ⟨clReader, He.meth_ok (d.fact 78 (f := .meth "Reader" "needs") rfl), B_Reader_needs, ok_needs F_Reader_needs M_Reader_skips⟩
  have RDd : RdD P w K mg base (He.ga K "Reader") (He.ma K (He.ga K "Reader") "__init__") f_Reader___init__ := ⟨gReader, mkReader, B_Reader___init__, ok_rinit F_Reader___init__ RC⟩
  have RR : Reads P w K mg base (He.ga K "Type") (edA K) (He.ga K "Reader") _ _ _ _ _ _ _ _ _ _ _ _ _ _ _ _ _ _ _ _ _ _ := { part := ⟨G__read_part, F__read_part.kp, B__read_part, F__read_part⟩, req := ⟨G__read_required, F__read_required.kp, B__read_required, F__read_required⟩, list := ⟨G__read_list, F__read_list.kp, B__read_list, F__read_list⟩, rec' := ⟨G__read_record, F__read_record.kp, B__read_record, F__read_record⟩, field := ⟨G__read_field, F__read_field.kp, B__read_field, F__read_field⟩, can := D_can_be_key, TD := TD, skips := M_Reader_skips, letters := M_Reader_letters, needs := M_Reader_needs, name := D_is_name, T := T }
  have D_read_part := RR.all 7
  have D_read_whole : Def P w K mg base "_read_whole" 33 P_whole (spWhole (He.ga K "Type") (edA K)) (He.ga K "_read_whole") f__read_whole := ⟨G__read_whole, F__read_whole.kp, B__read_whole, ok_whole F__read_whole T Lm RDd M_Reader_ended D_read_part⟩
  have RT : ReadC P w K mg base (He.ga K "Type") (edA K) (.type "type") (He.ma K (He.ga K "Type") "read") (He5.wf K (He.ga K "Type") "classmethod" "read") f_Type_read := ⟨gType, ⟨r3, He.eqO_ok r4⟩, He5.cmet_of r1 r2, B_Type_read, ok_tread F_Type_read D_read_whole⟩
  have TR : Troubles P w K mg base (He.ga K "Type") _ _ _ _ _ _ _ _ := { first := ⟨G__first_trouble, F__first_trouble.kp, B__first_trouble, F__first_trouble⟩, list := ⟨G__trouble_in_list, F__trouble_in_list.kp, B__trouble_in_list, F__trouble_in_list⟩, rec' := ⟨G__trouble_in_record, F__trouble_in_record.kp, B__trouble_in_record, F__trouble_in_record⟩, kind := D_kind_of, C := TC, T := T }
  have D_first_trouble := TR.all (ED := (edA K)) 8
  have D_firstN12 : Def P w K mg base "_first_trouble" 18 P_firstN (spFirstN (He.ga K "Type") (edA K)) (He.ga K "_first_trouble") f__first_trouble := ⟨G__first_trouble, F__first_trouble.kp, B__first_trouble, ok_firstN (n := 12) F__first_trouble TC D_kind_ofN (TR.all (ED := (edA K)) 6) (TR.list.def (ok_inlist (n := 12) TR.list.F T TC (TR.all (ED := (edA K)) 6))) (TR.rec'.def (ok_inrec (n := 12) TR.rec'.F T (TR.all (ED := (edA K)) 6)))⟩
  have D_first2 : Def P w K mg base "_first_trouble" 20 P_firstN (spFirst2 (He.ga K "Type") (edA K)) (He.ga K "_first_trouble") f__first_trouble := ⟨G__first_trouble, F__first_trouble.kp, B__first_trouble, FnOk.or (ok_firstN (n := 14) F__first_trouble TC D_kind_ofN (TR.all (ED := (edA K)) 7) (TR.list.def (ok_inlist (n := 14) TR.list.F T TC (TR.all (ED := (edA K)) 7))) (TR.rec'.def (ok_inrec (n := 14) TR.rec'.F T (TR.all (ED := (edA K)) 7)))) (ok_firstO (n := 14) F__first_trouble TC D_kind_ofN D_firstN12 (TR.list.def (ok_inlist (n := 14) TR.list.F T TC (TR.all (ED := (edA K)) 7))) (TR.rec'.def (ok_inrec (n := 14) TR.rec'.F T (TR.all (ED := (edA K)) 7))))⟩
  have M_Type_trouble : MtD P w K mg base (He.ga K "Type") "trouble" 21 P_trouble (spTrouble K (He.ga K "Type") (edA K)) (He.ma K (He.ga K "Type") "trouble") f_Type_trouble := ⟨clType, He.meth_ok (d.fact 81 (f := .meth "Type" "trouble") rfl), B_Type_trouble, ok_trouble F_Type_trouble D_first_trouble⟩
  have M_Type___contains__ : MtD P w K mg base (He.ga K "Type") "__contains__" 21 P_has (spHas K (He.ga K "Type") (edA K)) (He.ma K (He.ga K "Type") "__contains__") f_Type___contains__ := ⟨clType, He.meth_ok (d.fact 82 (f := .meth "Type" "__contains__") rfl), B_Type___contains__, ok_has F_Type___contains__ D_first_trouble⟩
  have M_has2 : MtD P w K mg base (He.ga K "Type") "__contains__" 21 P_has (spHas2 K (He.ga K "Type") (edA K)) (He.ma K (He.ga K "Type") "__contains__") f_Type___contains__ := ⟨M_Type___contains__.cl, M_Type___contains__.me, B_Type___contains__, FnOk.or (ok_has F_Type___contains__ D_first_trouble) (ok_hasN F_Type___contains__ D_first2)⟩
  have M_Type___repr__ : MtD P w K mg base (He.ga K "Type") "__repr__" 1 P_repr (spRepr (He.ga K "Type")) (He.ma K (He.ga K "Type") "__repr__") f_Type___repr__ := ⟨clType, He.meth_ok (d.fact 84 (f := .meth "Type" "__repr__") rfl), B_Type___repr__, ok_repr F_Type___repr__ TC⟩
  have D_is_value_within : Def P w K mg base "_is_value_within" 10 P_within (spWithin K 7) (He.ga K "_is_value_within") f__is_value_within := ⟨G__is_value_within, F__is_value_within.kp, B__is_value_within, ok_within F__is_value_within T0 G__is_value_within B__is_value_within D_kind_of 7⟩
  have D_is_value : Def P w K mg base "is_value" 11 P_is_value (spIsValue K) (He.ga K "is_value") f_is_value := ⟨G_is_value, F_is_value.kp, B_is_value, ok_is_value F_is_value Lm D_is_value_within⟩
  have D_agree : Def P w K mg base "agree" 10 P_agree (spAgree K 7) (He.ga K "agree") f_agree := ⟨G_agree, F_agree.kp, B_agree, ok_agree F_agree T0 G_agree B_agree 7⟩
  have D_same : Def P w K mg base "same" 12 P_same (spSame1 K) (He.ga K "same") f_same := ⟨G_same, F_same.kp, B_same, ok_same1 F_same T0 D_is_value D_agree⟩
  have D_law_cell : Def P w K mg base "_law_cell" 1 P_cell (spCell K) (He.ga K "_law_cell") f__law_cell := ⟨G__law_cell, F__law_cell.kp, B__law_cell, ok_cell F__law_cell T0⟩
  have D_law_pool : Def P w K mg base "_law_pool" 1 P_pool spPool (He.ga K "_law_pool") f__law_pool := ⟨G__law_pool, F__law_pool.kp, B__law_pool, ok_pool F__law_pool T0⟩
  have D_law_draw : Def P w K mg base "_law_draw" 1 P_draw spDraw (He.ga K "_law_draw") f__law_draw := ⟨G__law_draw, F__law_draw.kp, B__law_draw, ok_draw F__law_draw T0⟩
  have D_law_words : Def P w K mg base "_law_words" 2 P_words spWords (He.ga K "_law_words") f__law_words := ⟨G__law_words, F__law_words.kp, B__law_words, ok_words F__law_words T0 D_law_draw⟩
  have D_law_chars : Def P w K mg base "_law_chars" 2 P_chars spChars (He.ga K "_law_chars") f__law_chars := ⟨G__law_chars, F__law_chars.kp, B__law_chars, ok_chars F__law_chars T0 D_law_draw⟩
  have D_law_form : Def P w K mg base "_law_form" 6 P_form (fun vs H Q E => spFormL K 3 vs H Q E ∨ spFormL K 4 vs H Q E) (He.ga K "_law_form") f__law_form := ⟨G__law_form, F__law_form.kp, B__law_form, FnOk.or (FnOk.mono (ok_form F__law_form T0 G__law_form B__law_form D_law_draw D_law_words 3) (by decide)) (ok_form F__law_form T0 G__law_form B__law_form D_law_draw D_law_words 4)⟩
  have D_law_form_text : Def P w K mg base "_law_form_text" 8 P_ftext (spFText K 7) (He.ga K "_law_form_text") f__law_form_text := ⟨G__law_form_text, F__law_form_text.kp, B__law_form_text, ok_ftext F__law_form_text T0 G__law_form_text B__law_form_text 7⟩
  have D_law_thing_of : Def P w K mg base "_law_thing_of" 9 P_thing (spThingL K 7) (He.ga K "_law_thing_of") f__law_thing_of := ⟨G__law_thing_of, F__law_thing_of.kp, B__law_thing_of, ok_thing F__law_thing_of T0 G__law_thing_of B__law_thing_of D_law_draw D_law_chars 7⟩
  have D_law_bent : Def P w K mg base "_law_bent" 11 P_bent (spBent K 10) (He.ga K "_law_bent") f__law_bent := ⟨G__law_bent, F__law_bent.kp, B__law_bent, ok_bent F__law_bent T0 G__law_bent B__law_bent D_law_draw 10⟩
  have D_law_fits : Def P w K mg base "_law_fits" 9 P_fits (spFits K 8) (He.ga K "_law_fits") f__law_fits := ⟨G__law_fits, F__law_fits.kp, B__law_fits, ok_fits F__law_fits G__law_fits B__law_fits T 8⟩
  have D_law_twins : Def P w K mg base "_law_twins" 1 P_twins (spTwins K) (He.ga K "_law_twins") f__law_twins := ⟨G__law_twins, F__law_twins.kp, B__law_twins, ok_twins F__law_twins⟩
  have D_law_pair_right : Def P w K mg base "_law_pair_right" 23 P_pair (spPair K (He.ga K "Type") (edA K)) (He.ga K "_law_pair_right") f__law_pair_right := ⟨G__law_pair_right, F__law_pair_right.kp, B__law_pair_right, ok_pair F__law_pair_right T M_Type___contains__ M_Type_trouble⟩
  have DG_right : DefG P w K mg base "_law_right" 36 P_right spRight (He.ga K "_law_right") f__law_right := ⟨G__law_right, F__law_right.kp, B__law_right, FnG.mono (ok_right F__law_right T SK RT M_Type___contains__ D_law_form D_law_form_text D_law_thing_of D_law_bent D_law_fits) (by decide)⟩
  have DG_again : DefG P w K mg base "_law_right_again" 36 P_again spRight (He.ga K "_law_right_again") f__law_right_again := ⟨G__law_right_again, F__law_right_again.kp, B__law_right_again, FnG.mono (ok_again F__law_right_again T SK TC nilE RT M_Type___contains__ M_Type_trouble M_Type___str__ M_Type___repr__ D_law_form D_law_form_text D_law_twins D_law_pair_right D_law_thing_of D_same) (by decide)⟩
  exact ok_law F_law T RT hands M_has2 M_Type_trouble DG_right DG_again D_law_pool D_law_cell
end KX
open PySem PySem.W PySem.Calls PyProof.Rows
theorem PySem.Challenge.cw_shapekeep_k05_values_in_types_holds : PySem.Challenge.rw_shapekeep_k05_values_in_types.Holds := by
  w_on; o_law
  refine HandSHeadRun.head_any (r := KX.R) (q := view KX.R.prog [53]) (H := KX.hk) (ob := KX.ob) (M := 6000) (loose := KX.loose) (d := HandSHeadRun.topDef KX.R.prog 53) (kwd := []) KX.ob_eq
    (by kernel_rfl) (fun s => by kernel_rfl) KX.topRun (by kernel_rfl) (by kernel_rfl) (by kernel_rfl) (by rfl) (by first | assumption | decide +kernel) (by decide +kernel) ⟨rfl, rfl, rfl, rfl, rfl, by decide +kernel⟩ ?hw ?hc
  case hw => w_witness2
  case hc =>
    refine KX.walk_g (l := PySem.Challenge.rw_shapekeep_k05_values_in_types) (n := 63) (k := 37) (x := "_law_script") rfl (by decide) (by kernel_rfl) ⟨rfl, by decide, by decide⟩ ?_
    intro w mg fa h Y G hmg0
    obtain ⟨K, KI, c⟩ := Y
    have hmg : mg ("law" : PySem.Str) = some (.ref fa) := by
      have e : (HandSHeadRun.topDef KX.R.prog 53).name = ("law" : PySem.Str) := by kernel_rfl
      rw [← e]
      exact hmg0
    obtain ⟨fd, hb, hF⟩ := KX.facts (P := PySem.Challenge.rw_shapekeep_k05_values_in_types.prog) (w := w) KI G hmg c
    exact ⟨K, fd, KX.spLaw K, KI, hb, fun H a ns hl hS => ⟨a, ns, rfl, hS, hl, fun _ => rfl⟩, hF⟩

