import PyProof.Rows.All
import Wide.All
import OpenK.AllK
import Wide.FinOn
import HandS.ForMost
import HandS.Flow
import HandS.IsInst
import HandS.Ends
import HandS.Walk
import HandS.ReplaceLit
import HandS.ReplaceDef
import HandS.FStr
import HandS.Style
import HandS.NoneIn
import HandS.Defaults
import HandS.Zip
import HandS.More
import KE.DataEq
import HandS.StrMore
import KE.KFmtOwn
import HandS.MakeKw
import HandS.RaiseMore
import HandS.Set
import HandS.SetTxt0
import HandS.SetFor
import HandS.Strs
import PyProof.Rows.SortShellAny
import KE.GoesMore
import HandS.ClsMeth
import PyProof.InstEq
import HandS.Head0
import HandS.Head1
import HandS.Head2
import HandS.HeadEnd
import HandS.HeadHook1
import HandS.HeadHook2
import HandS.HeadHook3
import HandS.HeadHook4
import HandS.HeadNt
import PySem.Challenge.RW_shapekeep_k02_types_read_and_written
set_option Elab.async false
set_option linter.all false
set_option maxRecDepth 100000
set_option maxHeartbeats 0
namespace KX
open PySem L2 PyProof.Rows
def top (i : Nat) : Stmt := PySem.Challenge.pw_shapekeep_k02_types_read_and_written.main.body.getD i (.Pass ⟨0, 0, 0, 0⟩)
/-- all but p is as it was -/
def Keep (p : Addr) (H H' : Hp) : Prop := ∀ b o, b ≠ p → H b = some o → H' b = some o
theorem Keep.refl (p : Addr) (H : Hp) : Keep p H H := fun _ _ _ h => h
theorem Keep.trans {p : Addr} {H H1 H2 : Hp} (a : Keep p H H1) (b : Keep p H1 H2) : Keep p H H2 := fun c o n h => b c o n (a c o n h)
theorem Keep.new {p q : Addr} {H : Hp} (h : H q = none) (o : HO) : Keep p H (upd H q o) := fun b u _ e => by
  rw [upd_ne (ne_of_none e h)]
  exact e
theorem Keep.self {p : Addr} {H : Hp} {o : HO} : Keep p H (upd H p o) := fun b u n e => by
  rw [upd_ne n]
  exact e
theorem Keep.at' {p q : Addr} {H H' : Hp} {o : HO} (k : Keep p H H') (e : H q = some o) (n : q ≠ p) : H' q = some o := k q o n e
theorem Keep.seq {K : PySem.W.Frag} {p a : Addr} {H H' : Hp} {xs : List V} (k : Keep p H H') (n : a ≠ p) (h : SqL K H a xs) : SqL K H' a xs := by
  rcases h with (h | ⟨o, h⟩) | h
  · exact .inl (.inl (k _ _ n h))
  · exact .inl (.inr ⟨o, k _ _ n h⟩)
  · exact .inr h
theorem same_new {q : Addr} {G : Hp} (fresh : G q = none) (what : HO) : Same G (upd G q what) := by
  intro b u there
  have other : b ≠ q := by
    rintro rfl
    exact absurd (there.symm.trans fresh) (Option.some_ne_none u)
  exact (upd_ne other).trans there
theorem Same.keep {p : Addr} {H H' : Hp} (s : Same H H') : Keep p H H' := fun b o _ e => s b o e

/-- the pool of draws -/
def PoolAt (H : Hp) (p : Addr) : Prop := ∃ s d c : Int, H p = some (.lst [.int s, .int d, .int c]) ∧ 0 ≤ s ∧ s < 1000000007 ∧ 0 ≤ d
theorem PoolAt.same {H H' : Hp} {p : Addr} (h : PoolAt H p) (s : Same H H') : PoolAt H' p := by
  obtain ⟨a, d, c, e, r⟩ := h
  exact ⟨a, d, c, s _ _ e, r⟩
theorem PoolAt.ne {H : Hp} {p q : Addr} (h : PoolAt H p) (n : H q = none) : q ≠ p := by
  obtain ⟨a, d, c, e, r⟩ := h
  exact (ne_of_none e n).symm

theorem Keep.upd {p D : Addr} {H H' : Hp} {o : HO} (k : Keep p H H') (n : H D = none) : Keep p H (upd H' D o) := fun b u nb e => by
  rw [upd_ne (ne_of_none e n)]
  exact k b u nb e
theorem PoolAt.upd {H : Hp} {p D : Addr} {o : HO} (h : PoolAt H p) (n : D ≠ p) : PoolAt (upd H D o) p := by
  obtain ⟨a, d, c, e, r⟩ := h
  exact ⟨a, d, c, by rw [upd_ne (Ne.symm n)]; exact e, r⟩
theorem Keep.gone {p r : Addr} {H H' : Hp} (k : Keep p H H') (n : r ≠ p) (h : H' r = Option.none) : H r = Option.none := by
  cases e : H r with
  | none => rfl
  | some o =>
    rw [k r o n e] at h
    cases h
theorem map_snoc {α : Type} (g : Nat → α) (i : Nat) : (List.range i).map g ++ [g i] = (List.range (i + 1)).map g := by
  rw [List.range_succ, List.map_append]
  rfl
theorem yesT {σ : L2.St} {H : Hp} {F G : Hp → Prop} (h : F H) : tYes σ H (fun b H3 => if b = true then F H3 else G H3) := by
  show (if true = true then F H else G H)
  rw [if_pos rfl]
  exact h
structure Bl (mg : Str → Option Value) : Prop where
  len : mg "len" = none
  abs : mg "abs" = none
  divmod : mg "divmod" = none
  min : mg "min" = none
  max : mg "max" = none
  all : mg "all" = none
  sorted : mg "sorted" = none
  isinstance : mg "isinstance" = none
  repr : mg "repr" = none
  ord : mg "ord" = none
  range : mg "range" = none
  zip : mg "zip" = none
  tuple : mg "tuple" = none
  list : mg "list" = none
  str : mg "str" = none
  int : mg "int" = none
  bool : mg "bool" = none
  dict : mg "dict" = none
section
variable {X : Cx}
theorem op_inK (K : PySem.W.Frag) (h : X.K = K) : OpR X (compareOp .In) (rIn K false) := by subst h; exact op_in_seq
theorem op_notInK (K : PySem.W.Frag) (h : X.K = K) : OpR X (compareOp .NotIn) (rIn K true) := by subst h; exact op_notIn_seq
theorem op_eqK (K : PySem.W.Frag) (h : X.K = K) (hu : X.A.units + 64 < cLine) : OpR X (compareOp .Eq) (rEqD K) := by subst h; exact op_eqD hu
theorem op_neK (K : PySem.W.Frag) (h : X.K = K) (hu : X.A.units + 64 < cLine) : OpR X (compareOp .NotEq) (rNeD K) := by subst h; exact op_neD hu
theorem ix_listK (K : PySem.W.Frag) (h : X.K = K) : IxR X (rIxL K) := by subst h; exact ix_list
theorem ix_tupK (K : PySem.W.Frag) (h : X.K = K) : IxR X (rIxT K) := by subst h; exact ix_tup
theorem sl_listK (K : PySem.W.Frag) (h : X.K = K) : SlR X (rSlL K) := by subst h; exact sl_list
theorem sl_tupK (K : PySem.W.Frag) (h : X.K = K) : SlR X (rSlT K) := by subst h; exact sl_tup
def rLenV (K : PySem.W.Frag) : List V → Hp → VK → Prop := fun xs H Q => ∃ x n, xs = [x] ∧ LenV K x H n ∧ Q (.int n) H
theorem call_lenK (K : PySem.W.Frag) (h : X.K = K) : CallR X (.builtin "len") (rLenV K) := by subst h; exact call_len
end
end KX

namespace KX
open PySem L2 PyProof.Rows
section
variable {base : Heap} {P : Program} {w : World} {K : PySem.W.Frag} {mg : Str → Option Value}

/-! ### _law_cell -/
abbrev s_cell : Stmt := top 34
abbrev N_cell : List Str := ["_law_script", "_law_k", "_law_state", "_law_cell_here"]
abbrev P_cell : List Str := ["_law_script", "_law_k"]
theorem sc_cell : FnScope N_cell P_cell (defScope s_cell) := ⟨rfl, rfl, rfl, by decide +kernel, rfl, by decide +kernel, by decide +kernel⟩
def spCell (K : PySem.W.Frag) : Sp := fun vs H Q _ => ∃ (a : Addr) (ns : List Int) (k : Int), vs = [.ref a, .int k] ∧ SqL K H a (ns.map V.int) ∧ ns.length ≤ 63 ∧ 0 ≤ k ∧ k ≤ 63 ∧ ∀ (H' : Hp) (i : Int), Same H H' → Q (.int i) H'
theorem int_item {ns : List Int} {i : Nat} {x : V} (h : (ns.map V.int)[i]? = some x) : ∃ z, x = .int z := by
  rw [List.getElem?_map] at h
  cases e : ns[i]? with
  | none => rw [e] at h; cases h
  | some z => rw [e] at h; exact ⟨z, (Option.some.inj h).symm⟩
theorem cutV_int {ns : List Int} {lo hi : Option Int} : ∃ ms : List Int, cutV (ns.map V.int) lo hi = ms.map V.int := by
  unfold cutV
  rw [← List.map_drop, ← List.map_take]
  exact ⟨_, rfl⟩
theorem ok_cell {f : Addr} {fd : FuncData} (F : Fun K "_law_cell" "_law_cell" s_cell f fd) (T : Bl mg) : FnOk P w K mg base CX0 1 f fd P_cell (spCell K) := by
  refine F.ok sc_cell (fun vs H Q E h => ?_) (fun cdv A outer s H vs Q E hr h => ?_)
  · obtain ⟨a, ns, k, rfl, _⟩ := h
    rfl
  obtain ⟨a, ns, k, rfl, hS, h63, h0, h1, q⟩ := h
  have hl : (ns.map V.int).length = ns.length := List.length_map _
  refine ⟨_, (pss_cons (ps_if (pt_cmpR op_lt (pv 1) (pe_callB (call_lenK K rfl) (by rfl) T.len PySem.boot_len (pa_cons (pv 0) pa_nil)) (nomark _))
      (pss_one (ps_ret (pe_ix (ix_listK K rfl) (pv 0) (pv 1) (fun _ _ => rfl))))
      pss_nil)
    (pss_cons (ps_set (i := 2) sc_cell.nd rfl (Or.inl rfl) (pe_op op_mod (pe_op op_mul pe_int (pe_op op_add (pe_op op_add (pe_op op_mul (pv 1) (pv 1)) (pe_op op_mul pe_int (pv 1))) pe_int)) pe_int))
    (pss_cons (ps_for PassesOwn.never rfl (pi_list (pe_slice (sl_listK K rfl) (pv 0) po_none (po_some pe_int))) (pg_name (i := 3) sc_cell.nd rfl (Or.inl rfl))
      (pss_one (ps_set (i := 2) sc_cell.nd rfl (Or.inl rfl) (pe_op op_mod (pe_op op_add (pe_op op_mul (pv 2) pe_int) (pv 3)) pe_int))))
    (pss_one (ps_ret (pv 2)))))), ?_⟩
  refine ⟨_, rfl, _, rfl, .ref a, ns.length, rfl, .inl ⟨_, hS, hl.symm⟩, _, _, rfl, rfl, _, rfl, ?_⟩
  refine ite2 (fun c => ?_) (fun c => ?_)
  · have c' : k < (ns.length : Int) := of_decide_eq_true c
    have hk : k.toNat < ns.length := by omega
    have ek : k = ((k.toNat : Nat) : Int) := by omega
    refine ⟨_, rfl, _, rfl, a, _, k, _, rfl, rfl, hS, at_of (v := .int ns[k.toNat]) ek ?_, ?_⟩
    · rw [List.getElem?_map, List.getElem?_eq_getElem hk] <;> rfl
    · exact q H _ (Same.refl H)
  · refine ⟨_, rfl, _, rfl, _, _, rfl, rfl, .inl ⟨by omega, by omega⟩, _, rfl, _, _, rfl, rfl, .inl ⟨by decide, by decide⟩, _, _, rfl, rfl, _, _, rfl, rfl, _, _, rfl, rfl, .inl ⟨by decide, by decide⟩, _, _, rfl, rfl, (by show (0 : Int) < 1000000007; decide), ?_⟩
    refine ⟨_, rfl, _, rfl, a, _, rfl, hS, fun p hp => ?_⟩
    obtain ⟨ms, hms⟩ := cutV_int (ns := ns) (lo := none) (hi := some 3)
    rw [hms]
    refine ⟨p, rfl, ⟨_, SqL.of upd_same⟩, for_list (K := K) (a := p) (xs := ms.map V.int) (fun i σ H' => ∃ (z : Int) (v : Option V), σ = [some (.ref a), some (.int k), some (.int z), v] ∧ 0 ≤ z ∧ z < 1000000007 ∧ H' = upd H p (.lst (ms.map V.int)))
      ⟨_, none, rfl, by omega, by omega, rfl⟩ (fun i σ H' _ ⟨_, _, _, _, _, e⟩ => by rw [e]; exact SqL.of upd_same) ?_ ?_⟩
    · rintro i x σ H' hx ⟨z, v, rfl, z0, z1, rfl⟩
      obtain ⟨y, rfl⟩ := int_item hx
      refine ⟨_, rfl, _, _, rfl, rfl, .inl ⟨by omega, by omega⟩, _, rfl, _, _, rfl, rfl, _, _, rfl, rfl, (by show (0 : Int) < 1000000007; decide), ?_⟩
      exact ⟨_, _, rfl, by omega, by omega, rfl⟩
    · rintro σ H' ⟨z, v, rfl, z0, z1, rfl⟩
      exact ⟨_, rfl, q _ _ (same_new hp _)⟩

/-! ### _law_pool -/
abbrev s_pool : Stmt := top 35
abbrev N_pool : List Str := ["_law_cell_here", "_law_digits"]
abbrev P_pool : List Str := ["_law_cell_here"]
theorem sc_pool : FnScope N_pool P_pool (defScope s_pool) := ⟨rfl, rfl, rfl, by decide +kernel, rfl, by decide +kernel, by decide +kernel⟩
def spPool : Sp := fun vs H Q _ => ∃ i : Int, vs = [.int i] ∧ ∀ (H' : Hp) (p : Addr), H p = none → Same H H' → PoolAt H' p → Q (.ref p) H'
theorem ok_pool {f : Addr} {fd : FuncData} (F : Fun K "_law_pool" "_law_pool" s_pool f fd) (T : Bl mg) : FnOk P w K mg base CX0 1 f fd P_pool spPool := by
  refine F.ok sc_pool (fun vs H Q E h => ?_) (fun cdv A outer s H vs Q E hr h => ?_)
  · obtain ⟨i, rfl, _⟩ := h
    rfl
  obtain ⟨i, rfl, q⟩ := h
  refine ⟨_, (pss_cons (ps_set (i := 1) sc_pool.nd rfl (Or.inl rfl) pe_int)
    (pss_cons (ps_if (PW.pt (pw_or (pt_cmpR op_lt (pv 0) pe_int (nomark _)) (pw_or1 (pt_cmpR op_ge (pv 0) (pe_op op_pow pe_int pe_int) (nomark _)))))
      (pss_one (ps_set (i := 1) sc_pool.nd rfl (Or.inl rfl) (pe_callB call_abs (by rfl) T.abs (by decide +kernel) (pa_cons (pv 0) pa_nil))))
      pss_nil)
    (pss_one (ps_ret (pe_lst (pa_cons (pe_op op_mod (pv 0) pe_int) (pa_cons (pv 1) (pa_cons pe_int pa_nil)))))))), ?_⟩
  have fin : ∀ d : Int, 0 ≤ d → ∀ p, H p = none → Q (.ref p) (upd H p (.lst [.int (i % 1000000007), .int d, .int 0])) := fun d hd p hp =>
    q _ p hp (same_new hp _) ⟨_, _, _, upd_same, by omega, by omega, hd⟩
  refine ⟨_, rfl, _, _, rfl, rfl, _, rfl, ?_⟩
  refine ite2 (fun c => ?_) (fun c => ?_)
  · have c' : i < 0 := of_decide_eq_true c
    refine iteT ⟨_, rfl, _, rfl, ?_⟩
    refine ⟨_, rfl, _, _, rfl, rfl, (by show (0 : Int) < 1000000007; decide), _, rfl, (by show 3 ≤ sizeLine; decide), fun p hp => fin _ (by split <;> omega) p hp⟩
  · have c' : ¬ i < 0 := of_decide_eq_false (Bool.eq_false_iff.mpr c)
    refine ⟨_, rfl, _, _, rfl, rfl, ⟨by decide, by decide, by decide⟩, _, _, rfl, rfl, _, rfl, ?_⟩
    refine ite2 (fun c2 => ?_) (fun c2 => ?_)
    · refine ⟨_, rfl, _, rfl, ?_⟩
      refine ⟨_, rfl, _, _, rfl, rfl, (by show (0 : Int) < 1000000007; decide), _, rfl, (by show 3 ≤ sizeLine; decide), fun p hp => fin _ (by split <;> omega) p hp⟩
    · exact ⟨_, rfl, _, _, rfl, rfl, (by show (0 : Int) < 1000000007; decide), _, rfl, (by show 3 ≤ sizeLine; decide), fun p hp => fin _ (by omega) p hp⟩

/-! ### _law_draw -/
abbrev s_draw : Stmt := top 36
abbrev N_draw : List Str := ["_law_pool_here", "_law_many", "_law_state", "_law_digit"]
abbrev P_draw : List Str := ["_law_pool_here", "_law_many"]
theorem sc_draw : FnScope N_draw P_draw (defScope s_draw) := ⟨rfl, rfl, rfl, by decide +kernel, rfl, by decide +kernel, by decide +kernel⟩
def spDraw : Sp := fun vs H Q _ => ∃ (p : Addr) (m : Int), vs = [.ref p, .int m] ∧ PoolAt H p ∧ 0 < m ∧ m < 1073741824 ∧ ∀ (H' : Hp) (r : Int), Keep p H H' → PoolAt H' p → 0 ≤ r → r < m → Q (.int r) H'
theorem ok_draw {f : Addr} {fd : FuncData} (F : Fun K "_law_draw" "_law_draw" s_draw f fd) (T : Bl mg) : FnOk P w K mg base CX0 1 f fd P_draw spDraw := by
  refine F.ok sc_draw (fun vs H Q E h => ?_) (fun cdv A outer s H vs Q E hr h => ?_)
  · obtain ⟨p, m, rfl, _⟩ := h
    rfl
  obtain ⟨p, m, rfl, ⟨st, d, c, hp, s0, s1, d0⟩, m0, m1, q⟩ := h
  refine ⟨_, (pss_cons (ps_asg (pe_op op_add (pe_ix (ix_listK K rfl) (pv 0) pe_int (fun _ _ => rfl)) pe_int) (pg_sub (pv 0) pe_int set_list))
    (pss_cons (ps_set (i := 2) sc_draw.nd rfl (Or.inl rfl) (pe_ix (ix_listK K rfl) (pv 0) pe_int (fun _ _ => rfl)))
    (pss_cons (ps_asg (pe_op op_mod (pe_op op_add (pe_op op_add (pe_op op_mul (pv 2) (pe_op op_add (pe_op op_mod (pv 2) pe_int) pe_int)) (pe_op op_mul pe_int (pe_ix (ix_listK K rfl) (pv 0) pe_int (fun _ _ => rfl)))) pe_int) pe_int) (pg_sub (pv 0) pe_int set_list))
    (pss_cons (ps_if (pt_cmpR op_gt (pe_ix (ix_listK K rfl) (pv 0) pe_int (fun _ _ => rfl)) pe_int (nomark _))
      (pss_cons (ps_asg (pe_callB call_divmod (by rfl) T.divmod (by decide +kernel) (pa_cons (pe_ix (ix_listK K rfl) (pv 0) pe_int (fun _ _ => rfl)) (pa_cons (pv 1) pa_nil))) (pg_tup rfl (pgs_cons (pg_sub (pv 0) pe_int set_list) (pgs_cons (pg_name (i := 3) sc_draw.nd rfl (Or.inl rfl)) pgs_nil))))
    (pss_one (ps_ret (pv 3))))
      pss_nil)
    (pss_one (ps_ret (pe_op op_mod (pe_op op_fdiv (pe_ix (ix_listK K rfl) (pv 0) pe_int (fun _ _ => rfl)) pe_int) (pv 1)))))))), ?_⟩
  have at0 : ∀ {x y z : V}, atI [x, y, z] 0 = some x := fun {x y z} => rfl
  have at1 : ∀ {x y z : V}, atI [x, y, z] 1 = some y := fun {x y z} => rfl
  have at2 : ∀ {x y z : V}, atI [x, y, z] 2 = some z := fun {x y z} => rfl
  refine ⟨_, rfl, p, _, _, _, rfl, rfl, SqL.of hp, at2, _, _, rfl, rfl, _, rfl, p, _, _, 2, rfl, rfl, hp, rfl, ?_⟩
  have e1 : (upd H p (.lst ([V.int st, .int d, .int c].set 2 (.int (c + 1))))) p = some (.lst [.int st, .int d, .int (c + 1)]) := upd_same
  generalize hH1 : upd H p (.lst ([V.int st, .int d, .int c].set 2 (.int (c + 1)))) = H1 at e1 ⊢
  have k1 : Keep p H H1 := by rw [← hH1]; exact Keep.self
  refine ⟨_, rfl, p, _, _, _, rfl, rfl, SqL.of e1, at0, ?_⟩
  refine ⟨_, rfl, _, rfl, _, _, rfl, rfl, (by show (0 : Int) < 46007; decide), _, _, rfl, rfl, _, _, rfl, rfl, .inl ⟨by omega, by omega⟩, ?_⟩
  refine ⟨_, rfl, p, _, _, _, rfl, rfl, SqL.of e1, at2, _, _, rfl, rfl, .inl ⟨by decide, by decide⟩, _, _, rfl, rfl, _, _, rfl, rfl, _, _, rfl, rfl, (by show (0 : Int) < 1000000007; decide), ?_⟩
  generalize hz : (st * (st % 46007 + 20011) + 60013 * (c + 1) + 5) % 1000000007 = z
  have z0 : 0 ≤ z := by omega
  have z1 : z < 1000000007 := by omega
  refine ⟨_, rfl, p, _, _, 0, rfl, rfl, e1, rfl, ?_⟩
  generalize hH2 : upd H1 p _ = H2
  have e2 : H2 p = some (.lst [.int z, .int d, .int (c + 1)]) := by rw [← hH2, ← hz]; exact upd_same
  have k2 : Keep p H H2 := k1.trans (by rw [← hH2]; exact Keep.self)
  refine ⟨_, rfl, p, _, _, _, rfl, rfl, SqL.of e2, at1, _, _, rfl, rfl, _, rfl, ?_⟩
  refine ite2 (fun cc => ?_) (fun cc => ?_)
  · refine ⟨_, rfl, p, _, _, _, rfl, rfl, SqL.of e2, at1, _, rfl, _, _, rfl, ⟨m0, by omega⟩, fun t ht => ?_⟩
    have npt : p ≠ t := ne_of_none e2 ht
    refine ⟨t, _, rfl, SqT.of upd_same, rfl, _, _, rfl, _, rfl, p, _, _, 1, rfl, rfl, (by rw [upd_ne npt]; exact e2), rfl, ?_⟩
    refine ⟨_, _, rfl, rfl, _, rfl, ?_⟩
    refine q _ _ (k2.trans ((Keep.new ht _).trans Keep.self)) ⟨_, _, _, upd_same, z0, z1, ?_⟩ (Int.emod_nonneg _ (by omega)) (Int.emod_lt_of_pos _ m0)
    exact Int.ediv_nonneg d0 (by omega)
  · refine ⟨_, rfl, p, _, _, _, rfl, rfl, SqL.of e2, at0, _, _, rfl, rfl, ⟨by decide, by decide⟩, _, rfl, _, _, rfl, rfl, m0, ?_⟩
    exact q _ _ k2 ⟨_, _, _, e2, z0, z1, d0⟩ (Int.emod_nonneg _ (by omega)) (Int.emod_lt_of_pos _ m0)
end
end KX

namespace KX
open PySem L2 PyProof.Rows
/-! ### texts as lists of codes -/
abbrev ql (x : Str) : List Nat := x.cps.toList
theorem ql_len (x : Str) : x.length = (ql x).length := by simp [Str.length]
theorem ql_ext {a b : Str} (h : ql a = ql b) : a = b := Str.ext' (Array.toList_inj.mp h)
theorem ql_app (x y : Str) : ql (x ++ y) = ql x ++ ql y := TL.tl_append x y
theorem ql_one (c : Nat) : ql ⟨#[c]⟩ = [c] := rfl
/-- a name: one to twelve small letters -/
def IsNm (z : Str) : Prop := 1 ≤ z.length ∧ z.length ≤ 12 ∧ ∀ c ∈ ql z, 97 ≤ c ∧ c ≤ 122
def isNmB (z : Str) : Bool := decide (1 ≤ z.length) && decide (z.length ≤ 12) && (ql z).all fun c => decide (97 ≤ c) && decide (c ≤ 122)
theorem isNm_of {z : Str} (h : isNmB z = true) : IsNm z := by
  unfold isNmB at h
  simp only [Bool.and_eq_true, decide_eq_true_eq, List.all_eq_true] at h
  exact ⟨h.1.1, h.1.2, fun c hc => h.2 c hc⟩
/-- text * int -/
def repS (z : Str) (n : Nat) : Str := ⟨(List.replicate n (ql z)).flatten.toArray⟩
theorem ql_rep (z : Str) (n : Nat) : ql (repS z n) = (List.replicate n (ql z)).flatten := rfl
theorem foldl_app (a : Array Nat) : ∀ (n : Nat) (acc : Array Nat), ((List.replicate n a).foldl (· ++ ·) acc).toList = acc.toList ++ (List.replicate n a.toList).flatten
  | 0, acc => by simp
  | n + 1, acc => by
    rw [List.replicate_succ, List.replicate_succ, List.foldl_cons, foldl_app a n, List.flatten_cons, Array.toList_append, List.append_assoc]
section
variable {X : Cx}
theorem op_mulS : OpR X (binaryOp .Mult) (fun x y H Q => ∃ (z : Str) (n : Int), x = .str z ∧ y = .int n ∧ 1 ≤ n ∧ n ≤ 1000 ∧ 1 ≤ z.length ∧ z.length ≤ 1000 ∧ Q (.str (repS z n.toNat)) H) := by
  intro pins s σ H x y v u Q I rx ry h
  obtain ⟨z, n, rfl, rfl, n1, n2, z1, z2, q⟩ := h
  obtain ⟨t, rfl⟩ := rx
  obtain ⟨t', rfl⟩ := ry
  have hs : sizeLine = 16777216 := sizeLine_eq
  have e1 : decide (n < -(2 ^ 63 : Int)) = false := decide_eq_false (by omega)
  have e2 : decide (n ≥ 2 ^ 63) = false := decide_eq_false (by omega)
  have hmul : z.length * n.toNat ≤ 1000 * 1000 := Nat.mul_le_mul z2 (by omega)
  have hz : (z.length == 0) = false := by
    rw [beq_eq_false_iff_ne]
    omega
  refine P.mul_str (by rw [e1, e2]; rfl) (fun _ _ => ?_) (fun _ _ => ?_) ?_
  · have : (1000 : Int) ≤ (2 ^ 63 - 1) / n := by
      refine (Int.le_ediv_iff_mul_le (by omega)).mpr ?_
      omega
    omega
  · show decide (z.length * n.toNat > sizeLine) = false
    exact decide_eq_false (by omega)
  · rw [if_neg (by omega), hz, Bool.or_false]
    by_cases h1 : n = 1
    · subst h1
      rw [if_pos (by rfl)]
      have e : repS z (Int.toNat 1) = z := ql_ext (by rw [ql_rep]; simp)
      rw [e] at q
      exact ⟨.str z, H, I, ⟨t, rfl⟩, q⟩
    · have hb : (n == 1) = false := beq_eq_false_iff_ne.mpr h1
      rw [hb, if_neg Bool.false_ne_true]
      have e : (⟨(List.replicate n.toNat z.cps).foldl (· ++ ·) #[]⟩ : Str) = repS z n.toNat := ql_ext (by
        show ((List.replicate n.toNat z.cps).foldl (· ++ ·) #[]).toList = _
        rw [foldl_app]
        rfl)
      rw [e]
      refine ⟨?_, .str _, H, I.tok _, ⟨_, rfl⟩, q⟩
      have el : (repS z n.toNat).length = n.toNat * z.length := by
        rw [ql_len, ql_rep, List.length_flatten, List.map_replicate, List.sum_replicate_nat, ← ql_len]
      show (repS z n.toNat).length ≤ sizeLine
      rw [el, Nat.mul_comm]
      omega
end
end KX

namespace KX
open PySem L2 PyProof.Rows
/-! ### the mathematics of the names -/
def menuW : List Str := ["data", "href", "text", "part", "page", "use", "for", "end", "else", "slot", "size", "has", "sum", "equal", "name", "x", "y", "items", "id", "link", "null", "by", "let", "if"]
theorem menuW_len : menuW.length = 24 := rfl
theorem menuW_nd : menuW.Nodup := by decide +kernel
theorem menuW_nm : ∀ z ∈ menuW, IsNm z := by
  have h : menuW.all isNmB = true := by decide +kernel
  exact fun z hz => isNm_of (List.all_eq_true.mp h z hz)
def alpha : Str := "abcdefghijklmnopqrstuvwxyz"
theorem alpha_ql : ql alpha = (List.range 26).map (· + 97) := by decide +kernel
theorem alpha_at {j : Int} (h0 : 0 ≤ j) (h1 : j < 26) : atI alpha.cps.toList j = some (97 + j.toNat) := by
  have e : (ql alpha)[j.toNat]? = some (97 + j.toNat) := by
    rw [alpha_ql, List.getElem?_map, List.getElem?_range (by omega)]
    exact congrArg some (Nat.add_comm _ _)
  have ej : j = ((j.toNat : Nat) : Int) := by omega
  rw [ej]
  exact atI_nat e
/-- names that differ -/
def Names (zs : List Str) : Prop := zs.Nodup ∧ ∀ z ∈ zs, IsNm z
theorem nodup_map_range {α : Type} {n : Nat} {g : Nat → α} (h : ∀ i j, i < j → j < n → g i ≠ g j) : ((List.range n).map g).Nodup := by
  unfold List.Nodup
  rw [List.pairwise_map]
  have hp : (List.range n).Pairwise (· < ·) := List.pairwise_lt_range
  refine List.Pairwise.imp_of_mem (fun {a b} ha hb hab => ?_) hp
  exact h a b hab (List.mem_range.mp hb)
/-- 0 -/
def g0 (b : Int) (k : Nat) : Str := menuW.getD ((b + 5 * (k : Int)) % 24).toNat ""
theorem names0 {b : Int} (h0 : 0 ≤ b) (h1 : b < 24) {n : Nat} (hn : n ≤ 24) : Names ((List.range n).map (g0 b)) := by
  refine ⟨nodup_map_range fun i j hij hj e => ?_, fun z hz => ?_⟩
  · have hi' : ((b + 5 * (i : Int)) % 24).toNat < menuW.length := by rw [menuW_len]; omega
    have hj' : ((b + 5 * (j : Int)) % 24).toNat < menuW.length := by rw [menuW_len]; omega
    unfold g0 at e
    rw [List.getD_eq_getElem?_getD, List.getD_eq_getElem?_getD, List.getElem?_eq_getElem hi', List.getElem?_eq_getElem hj'] at e
    have q := (List.getElem_inj menuW_nd).mp (show menuW[((b + 5 * (i : Int)) % 24).toNat] = menuW[((b + 5 * (j : Int)) % 24).toNat] from e)
    omega
  · obtain ⟨k, hk, rfl⟩ := List.mem_map.mp hz
    have hk' : ((b + 5 * (k : Int)) % 24).toNat < menuW.length := by rw [menuW_len]; omega
    refine menuW_nm _ ?_
    unfold g0
    rw [List.getD_eq_getElem?_getD, List.getElem?_eq_getElem hk']
    exact List.getElem_mem hk'
/-- 1 -/
def g1 (b : Int) (k : Nat) : Str := repS ⟨#[97 + ((b + 7 * (k : Int)) % 26).toNat]⟩ (1 + (k : Int) % 12).toNat
theorem names1 {b : Int} (h0 : 0 ≤ b) (h1 : b < 24) {n : Nat} (hn : n ≤ 24) : Names ((List.range n).map (g1 b)) := by
  have e1 : ∀ k, ql (g1 b k) = List.replicate (1 + (k : Int) % 12).toNat (97 + ((b + 7 * (k : Int)) % 26).toNat) := fun k => by
    unfold g1
    rw [ql_rep]
    show (List.replicate _ [_]).flatten = _
    rw [List.flatten_replicate_singleton]
  refine ⟨nodup_map_range fun i j hij hj e => ?_, fun z hz => ?_⟩
  · have q : ql (g1 b i) = ql (g1 b j) := by rw [e]
    rw [e1, e1] at q
    have hd : (List.replicate (1 + (i : Int) % 12).toNat (97 + ((b + 7 * (i : Int)) % 26).toNat)).head? = (List.replicate (1 + (j : Int) % 12).toNat (97 + ((b + 7 * (j : Int)) % 26).toNat)).head? := by rw [q]
    rw [List.head?_replicate, List.head?_replicate, if_neg (by omega), if_neg (by omega)] at hd
    have := Option.some.inj hd
    omega
  · obtain ⟨k, hk, rfl⟩ := List.mem_map.mp hz
    refine ⟨?_, ?_, fun c hc => ?_⟩
    · rw [ql_len, e1, List.length_replicate]
      omega
    · rw [ql_len, e1, List.length_replicate]
      omega
    · rw [e1] at hc
      have := List.eq_of_mem_replicate hc
      omega
/-- 2 -/
def g2 (stem : Str) (a b : Int) (k : Nat) : Str := cutS stem none (some a) ++ ⟨#[97 + ((b + 5 * (k : Int)) % 26).toNat]⟩ ++ cutS stem (some a) none
theorem ql_cut_to {z : Str} {a : Int} (h0 : 0 ≤ a) (h1 : a ≤ (z.length : Int)) : ql (cutS z none (some a)) = (ql z).take a.toNat := by
  have e : a = ((a.toNat : Nat) : Int) := by omega
  show ((z.cps.toList.drop (HT.sIx z.length 0 none)).take (HT.sIx z.length z.length (some a) - HT.sIx z.length 0 none)) = _
  rw [HT.sIx_none, e, HT.sIx_nat, List.drop_zero, Nat.sub_zero, Int.toNat_natCast, Nat.min_eq_left (by omega)]
theorem ql_cut_from {z : Str} {a : Int} (h0 : 0 ≤ a) (h1 : a ≤ (z.length : Int)) : ql (cutS z (some a) none) = (ql z).drop a.toNat := by
  have e : a = ((a.toNat : Nat) : Int) := by omega
  show ((z.cps.toList.drop (HT.sIx z.length 0 (some a))).take (HT.sIx z.length z.length none - HT.sIx z.length 0 (some a))) = _
  rw [HT.sIx_none, e, HT.sIx_nat, Int.toNat_natCast, Nat.min_eq_left (by omega)]
  have hl := ql_len z
  exact List.take_of_length_le (by rw [List.length_drop]; show (ql z).length - _ ≤ _; omega)
theorem ql_g2 {stem : Str} {a b : Int} (h0 : 0 ≤ a) (h1 : a ≤ (stem.length : Int)) (k : Nat) : ql (g2 stem a b k) = (ql stem).take a.toNat ++ [97 + ((b + 5 * (k : Int)) % 26).toNat] ++ (ql stem).drop a.toNat := by
  unfold g2
  rw [ql_app, ql_app, ql_cut_to h0 h1, ql_cut_from h0 h1]
theorem len_g2 {stem : Str} {a b : Int} (h0 : 0 ≤ a) (h1 : a ≤ (stem.length : Int)) (k : Nat) : (g2 stem a b k).length = stem.length + 1 := by
  have hl := ql_len stem
  rw [ql_len, ql_g2 h0 h1, List.length_append, List.length_append, List.length_take, List.length_drop, List.length_singleton, ql_len]
  omega
theorem g2_ne {stem : Str} {a b : Int} (h0 : 0 ≤ a) (h1 : a ≤ (stem.length : Int)) {i j : Nat} (hij : i < j) (hj : j < 24) : g2 stem a b i ≠ g2 stem a b j := fun e => by
  have q : ql (g2 stem a b i) = ql (g2 stem a b j) := by rw [e]
  rw [ql_g2 h0 h1, ql_g2 h0 h1] at q
  have q1 := List.append_inj_left q (by simp)
  have q2 := List.append_cancel_left q1
  have q3 := List.singleton_inj.mp q2
  omega
theorem g2_nm {stem : Str} {a b : Int} (h0 : 0 ≤ a) (h1 : a ≤ (stem.length : Int)) (hs : stem.length ≤ 11) (hc : ∀ c ∈ ql stem, 97 ≤ c ∧ c ≤ 122) (k : Nat) : IsNm (g2 stem a b k) := by
  refine ⟨by rw [len_g2 h0 h1]; omega, by rw [len_g2 h0 h1]; omega, fun c h => ?_⟩
  rw [ql_g2 h0 h1] at h
  rcases List.mem_append.mp h with h | h
  · rcases List.mem_append.mp h with h | h
    · exact hc c (List.mem_of_mem_take h)
    · have := List.mem_singleton.mp h
      omega
  · exact hc c (List.mem_of_mem_drop h)
/-- true, false, self are put aside -/
def g3 (z : Str) : Str := if z = "true" ∨ z = "false" ∨ z = "self" then z ++ "x" else z
theorem g3_nm {z : Str} (h : IsNm z) : IsNm (g3 z) := by
  unfold g3
  by_cases c : z = "true" ∨ z = "false" ∨ z = "self"
  · rw [if_pos c]
    rcases c with rfl | rfl | rfl <;> exact isNm_of (by decide +kernel)
  · rw [if_neg c]
    exact h
theorem g3_ne {y z : Str} (hl : y.length = z.length) (h : y ≠ z) : g3 y ≠ g3 z := fun e => by
  have l1 : ∀ x : Str, (x ++ "x").length = x.length + 1 := fun x => by rw [ql_len, ql_app, List.length_append, ← ql_len]; rfl
  unfold g3 at e
  by_cases cy : y = "true" ∨ y = "false" ∨ y = "self"
  · by_cases cz : z = "true" ∨ z = "false" ∨ z = "self"
    · rw [if_pos cy, if_pos cz] at e
      have q : ql (y ++ "x") = ql (z ++ "x") := by rw [e]
      rw [ql_app, ql_app] at q
      exact h (ql_ext (List.append_cancel_right q))
    · rw [if_pos cy, if_neg cz] at e
      have := congrArg Str.length e
      rw [l1] at this
      omega
  · by_cases cz : z = "true" ∨ z = "false" ∨ z = "self"
    · rw [if_neg cy, if_pos cz] at e
      have := congrArg Str.length e
      rw [l1] at this
      omega
    · rw [if_neg cy, if_neg cz] at e
      exact h e
theorem names2 {stem : Str} {a b : Int} (h0 : 0 ≤ a) (h1 : a ≤ (stem.length : Int)) (hs : stem.length ≤ 11) (hc : ∀ c ∈ ql stem, 97 ≤ c ∧ c ≤ 122) {n : Nat} (hn : n ≤ 24) : Names ((List.range n).map fun k => g3 (g2 stem a b k)) := by
  refine ⟨nodup_map_range fun i j hij hj => g3_ne (by rw [len_g2 h0 h1, len_g2 h0 h1]) (g2_ne h0 h1 hij (by omega)), fun z hz => ?_⟩
  obtain ⟨k, _, rfl⟩ := List.mem_map.mp hz
  exact g3_nm (g2_nm h0 h1 hs hc k)
/-! ### joined one-letter texts -/
def One (z : Str) : Prop := ∃ c, ql z = [c] ∧ 97 ≤ c ∧ c ≤ 122
theorem one_len {z : Str} (h : One z) : z.length = 1 := by
  obtain ⟨c, e, _⟩ := h
  rw [ql_len, e]
  rfl
theorem sum_len : ∀ {zs : List Str}, (∀ z ∈ zs, One z) → (zs.map (·.length)).sum = zs.length
  | [], _ => rfl
  | z :: r, h => by
    have q := sum_len (zs := r) fun x hx => h x (List.mem_cons_of_mem _ hx)
    rw [List.map_cons, List.sum_cons, q, one_len (h z List.mem_cons_self), List.length_cons]
    omega
theorem joinL_nil : ∀ ls : List (List Nat), TL.joinL [] ls = ls.flatten
  | [] => rfl
  | [p] => by simp [TL.joinL]
  | p :: q :: r => by
    have ih := joinL_nil (q :: r)
    show p ++ ([] ++ TL.joinL [] (q :: r)) = _
    rw [ih]
    rfl
theorem ql_join0 (zs : List Str) : ql (Txt.join "" zs) = (zs.map ql).flatten := by
  rw [TL.join_eq]
  have q := TL.tl_join "" zs
  show TL.tl (Str.join "" zs) = _
  rw [q]
  exact joinL_nil _
theorem stem_len : ∀ {zs : List Str}, (∀ z ∈ zs, One z) → ((zs.map ql).flatten).length = zs.length
  | [], _ => rfl
  | z :: r, h => by
    have q := stem_len (zs := r) fun x hx => h x (List.mem_cons_of_mem _ hx)
    obtain ⟨c, e, _⟩ := h z List.mem_cons_self
    rw [List.map_cons, List.flatten_cons, List.length_append, q, e]
    show 1 + r.length = r.length + 1
    omega
theorem stem_in {zs : List Str} (h : ∀ z ∈ zs, One z) : ∀ c ∈ (zs.map ql).flatten, 97 ≤ c ∧ c ≤ 122 := fun c hc => by
  obtain ⟨l, hl, hc⟩ := List.mem_flatten.mp hc
  obtain ⟨z, hz, rfl⟩ := List.mem_map.mp hl
  obtain ⟨d, e, h1, h2⟩ := h z hz
  rw [e] at hc
  have := List.mem_singleton.mp hc
  omega
theorem inV3 (z a b c : Str) : inV (.str z) [.str a, .str b, .str c] = true ↔ (z = a ∨ z = b ∨ z = c) := by
  show ((a == z) || ((b == z) || ((c == z) || false))) = true ↔ _
  simp only [Bool.or_eq_true, beq_iff_eq, Bool.false_eq_true, or_false]
  constructor
  · rintro (h | h | h)
    · exact .inl h.symm
    · exact .inr (.inl h.symm)
    · exact .inr (.inr h.symm)
  · rintro (h | h | h)
    · exact .inl h.symm
    · exact .inr (.inl h.symm)
    · exact .inr (.inr h.symm)
end KX

namespace KX
open PySem L2 PyProof.Rows
/-- a def of the module that keeps a promise -/
structure Def (P : Program) (w : World) (K : PySem.W.Frag) (mg : Str → Option Value) (base : Heap) (x : Str) (n : Nat) (ps : List Str) (sp : Sp) (f : Addr) (fd : FuncData) : Prop where
  g : mg x = some (.ref f)
  kp : PySem.W.keepIn K (.ref f) = true
  b : Binds K fd ps []
  ok : FnOk P w K mg base CX0 n f fd ps sp
section
variable {base : Heap} {P : Program} {w : World} {K : PySem.W.Frag} {mg : Str → Option Value}
abbrev s_words : Stmt := top 37
abbrev N_words : List Str := ["_law_pool_here", "_law_many", "_law_letters", "_law_menu", "_law_way", "_law_begin", "_law_stem", "_law_at", "_law_found", "_law_k", "_law_word"]
abbrev P_words : List Str := ["_law_pool_here", "_law_many"]
theorem sc_words : FnScope N_words P_words (defScope s_words) := ⟨rfl, rfl, rfl, by decide +kernel, rfl, by decide +kernel, by decide +kernel⟩
def spWords : Sp := fun vs H Q _ => ∃ (p : Addr) (m : Int), vs = [.ref p, .int m] ∧ PoolAt H p ∧ 0 ≤ m ∧ m ≤ 24 ∧
  ∀ (H' : Hp) (r : Addr) (zs : List Str), Keep p H H' → PoolAt H' p → H r = none → H' r = some (.lst (zs.map V.str)) → zs.length = m.toNat → Names zs → Q (.ref r) H'
theorem ok_words {f fdr : Addr} {fd fdd : FuncData} (F : Fun K "_law_words" "_law_words" s_words f fd) (T : Bl mg) (D_draw : Def P w K mg base "_law_draw" 1 P_draw spDraw fdr fdd) : FnOk P w K mg base CX0 2 f fd P_words spWords := by
  refine F.ok sc_words (fun vs H Q E h => ?_) (fun cdv A outer s H vs Q E hr h => ?_)
  · obtain ⟨p, m, rfl, _⟩ := h
    rfl
  obtain ⟨p, m, rfl, hp, m1, m2, q⟩ := h
  refine ⟨_, (pss_cons (ps_set (i := 2) sc_words.nd rfl (Or.inr rfl) pe_str)
    (pss_cons (ps_set (i := 3) sc_words.nd rfl (Or.inr rfl) (pe_lst (pa_cons pe_str (pa_cons pe_str (pa_cons pe_str (pa_cons pe_str (pa_cons pe_str (pa_cons pe_str (pa_cons pe_str (pa_cons pe_str (pa_cons pe_str (pa_cons pe_str (pa_cons pe_str (pa_cons pe_str pa_nil))))))))))))))
    (pss_cons (ps_set (i := 3) sc_words.nd rfl (Or.inr rfl) (pe_op op_cat (pv 3) (pe_lst (pa_cons pe_str (pa_cons pe_str (pa_cons pe_str (pa_cons pe_str (pa_cons pe_str (pa_cons pe_str (pa_cons pe_str (pa_cons pe_str (pa_cons pe_str (pa_cons pe_str (pa_cons pe_str (pa_cons pe_str pa_nil)))))))))))))))
    (pss_cons (ps_asg (pe_tup (pa_cons (pe_call D_draw.ok (hr.mono (by first | decide | omega)) rfl D_draw.g D_draw.kp D_draw.b .nil pass0 (pa_cons (pv 0) (pa_cons pe_int pa_nil))) (pa_cons (pe_call D_draw.ok (hr.mono (by first | decide | omega)) rfl D_draw.g D_draw.kp D_draw.b .nil pass0 (pa_cons (pv 0) (pa_cons pe_int pa_nil))) pa_nil))) (pg_tup rfl (pgs_cons (pg_name (i := 4) sc_words.nd rfl (Or.inl rfl)) (pgs_cons (pg_name (i := 5) sc_words.nd rfl (Or.inr rfl)) pgs_nil))))
    (pss_cons (ps_if (pt_cmpR op_eq (pv 4) pe_int (nomark _))
      (pss_one (ps_ret (pe_lc (own := [("_law_k", 9)]) (g := (gName 9)) (tt := tYes) rfl sc_words.nd (pi_range1 rfl T.range (pa_cons (pv 1) pa_nil)) (blkOk_by (own := [("_law_k", 9)]) (N := N_words) (sc := defScope s_words) (by decide +kernel)) (fun _ _ _ _ _ => (pg_name (i := 9) sc_words.nd rfl (Or.inl rfl))) (fun _ _ _ _ _ => pts_nil) (fun _ _ _ _ _ => (pe_ix (ix_listK K rfl) (pv 3) (pe_op op_mod (pe_op op_add (pv 5) (pe_op op_mul pe_int (pv 9))) pe_int) (fun _ _ => rfl))))))
      pss_nil)
    (pss_cons (ps_if (pt_cmpR op_eq (pv 4) pe_int (nomark _))
      (pss_one (ps_ret (pe_lc (own := [("_law_k", 9)]) (g := (gName 9)) (tt := tYes) rfl sc_words.nd (pi_range1 rfl T.range (pa_cons (pv 1) pa_nil)) (blkOk_by (own := [("_law_k", 9)]) (N := N_words) (sc := defScope s_words) (by decide +kernel)) (fun _ _ _ _ _ => (pg_name (i := 9) sc_words.nd rfl (Or.inl rfl))) (fun _ _ _ _ _ => pts_nil) (fun _ _ _ _ _ => (pe_op op_mulS (pe_ix ix_str (pv 2) (pe_op op_mod (pe_op op_add (pv 5) (pe_op op_mul pe_int (pv 9))) pe_int) (fun _ _ => rfl)) (pe_op op_add pe_int (pe_op op_mod (pv 9) pe_int)))))))
      pss_nil)
    (pss_cons (ps_set (i := 6) sc_words.nd rfl (Or.inr rfl) (pe_join pe_str (pe_lc (own := [("_law_k", 9)]) (g := (gName 9)) (tt := tYes) rfl sc_words.nd (pi_range1 rfl T.range (pa_cons (pe_call D_draw.ok (hr.mono (by first | decide | omega)) rfl D_draw.g D_draw.kp D_draw.b .nil pass0 (pa_cons (pv 0) (pa_cons pe_int pa_nil))) pa_nil)) (blkOk_by (own := [("_law_k", 9)]) (N := N_words) (sc := defScope s_words) (by decide +kernel)) (fun _ _ _ _ _ => (pg_name (i := 9) sc_words.nd rfl (Or.inl rfl))) (fun _ _ _ _ _ => pts_nil) (fun _ _ _ _ _ => (pe_ix ix_str (pv 2) (pe_call D_draw.ok (hr.mono (by first | decide | omega)) rfl D_draw.g D_draw.kp D_draw.b .nil pass0 (pa_cons (pv 0) (pa_cons pe_int pa_nil))) (fun _ _ => rfl))))))
    (pss_cons (ps_set (i := 7) sc_words.nd rfl (Or.inr rfl) (pe_call D_draw.ok (hr.mono (by first | decide | omega)) rfl D_draw.g D_draw.kp D_draw.b .nil pass0 (pa_cons (pv 0) (pa_cons (pe_op op_add (pe_callB (call_lenK K rfl) (by rfl) T.len PySem.boot_len (pa_cons (pv 6) pa_nil)) pe_int) pa_nil))))
    (pss_cons (ps_setLc (i := 8) (own := [("_law_k", 9)]) (g := (gName 9)) (tt := tYes) rfl sc_words.nd rfl rfl (sw_true rfl rfl rfl (by decide +kernel)) (pi_range1 rfl T.range (pa_cons (pv 1) pa_nil)) (blkOk_by (own := [("_law_k", 9)]) (N := N_words) (sc := defScope s_words) (by decide +kernel)) (fun _ _ _ _ _ => (pg_name (i := 9) sc_words.nd rfl (Or.inl rfl))) (fun _ _ _ _ _ => pts_nil) (fun _ _ _ _ _ => (pe_op op_add_str (pe_op op_add_str (pe_slice sl_str (pv 6) po_none (po_some (pv 7))) (pe_ix ix_str (pv 2) (pe_op op_mod (pe_op op_add (pv 5) (pe_op op_mul pe_int (pv 9))) pe_int) (fun _ _ => rfl))) (pe_slice sl_str (pv 6) (po_some (pv 7)) po_none))))
    (pss_one (ps_ret (pe_lc (own := [("_law_word", 10)]) (g := (gName 10)) (tt := tYes) rfl sc_words.nd (pi_list (pv 8)) (blkOk_by (own := [("_law_word", 10)]) (N := N_words) (sc := defScope s_words) (by decide +kernel)) (fun _ _ _ _ _ => (pg_name (i := 10) sc_words.nd rfl (Or.inl rfl))) (fun _ _ _ _ _ => pts_nil) (fun _ _ _ _ _ => (pe_ifExp (pt_cmpR (op_inK K rfl) (pv 10) (pe_lst (pa_cons pe_str (pa_cons pe_str (pa_cons pe_str pa_nil)))) (by with_unfolding_all rfl)) (pe_op op_add_str (pv 10) pe_str) (pv 10))))))))))))))), ?_⟩
  have small : ∀ n : Nat, n ≤ 1000 → n ≤ sizeLine := fun n h => Nat.le_of_lt (small1000 h)
  refine ⟨(by show 12 ≤ sizeLine; decide), fun l1 hl1 => ?_⟩
  refine ⟨_, rfl, (by show 12 ≤ sizeLine; decide), fun l2 hl2 => ?_⟩
  have n12 : l1 ≠ l2 := ne_of_none upd_same hl2
  refine ⟨l1, l2, _, _, rfl, rfl, Eq.trans (upd_ne n12) upd_same, upd_same, (by show 24 ≤ sizeLine; decide), fun l hl => ?_⟩
  generalize hH3 : upd (upd (upd H l1 _) l2 _) l _ = H3
  have e3 : H3 l = some (.lst (menuW.map V.str)) := by rw [← hH3]; exact upd_same
  have s3 : Same H H3 := by rw [← hH3]; exact (same_new hl1 _).trans ((same_new hl2 _).trans (same_new hl _))
  have k3 : Keep p H H3 := Same.keep s3
  have p3 := hp.same s3
  have nlp : l ≠ p := (hp.same ((same_new hl1 _).trans (same_new hl2 _))).ne hl
  clear hH3 hl hl1 hl2 n12
  refine ⟨_, rfl, p, 3, rfl, p3, by decide, by decide, fun H4 r1 k4 p4 a0 a1 => ?_⟩
  refine ⟨_, rfl, p, 24, rfl, p4, by decide, by decide, fun H5 r2 k5 p5 b0 b1 => ?_⟩
  refine ⟨(by show 2 ≤ sizeLine; decide), fun t ht => ?_⟩
  refine ⟨t, _, rfl, SqT.of upd_same, rfl, _, _, rfl, _, _, rfl, rfl, ?_⟩
  generalize hH6 : upd H5 t _ = H6
  have s6 : Same H5 H6 := by rw [← hH6]; exact same_new ht _
  have k6 : Keep p H H6 := k3.trans (k4.trans (k5.trans (Same.keep s6)))
  have p6 := p5.same s6
  have e6 : H6 l = some (.lst (menuW.map V.str)) := s6 _ _ (k5 _ _ nlp (k4 _ _ nlp e3))
  clear hH6 ht k3 p3 e3 k4 p4 k5 p5 s6 s3
  have fin : ∀ (Hx H' : Hp) (D : Addr) (g : Nat → Str), Keep p H Hx → Hx D = none → D ≠ p → Keep p Hx H' → PoolAt H' p → H' D = some (.lst ((List.range m.toNat).map fun k => V.str (g k))) → Names ((List.range m.toNat).map g) → Q (.ref D) H' :=
    fun Hx H' D g k1 n1 nD k2 pp e z => q H' D _ (k1.trans k2) pp (k1.gone nD n1) (by rw [List.map_map]; exact e) (by rw [List.length_map, List.length_range]) z
  have hm : ((m.toNat : Nat) : Int) = m := by omega
  refine ⟨_, rfl, rfl, _, rfl, ?_⟩
  refine ite2 (fun c => ?_) (fun c => ?_)
  · refine ⟨_, rfl, m, rfl, by omega, by omega, fun D hD => ?_⟩
    have nD := p6.ne hD
    refine lc_range (lo := 0) (n := m.toNat) (fun i H' => Keep p H6 H' ∧ PoolAt H' p ∧ H' D = some (.lst ((List.range i).map fun k => V.str (g0 r2 k)))) ⟨Keep.new hD _, p6.upd nD, upd_same⟩ ?_ (fun H' ⟨k7, p7, e7⟩ => fin H6 H' D _ k6 hD nD k7 p7 e7 (names0 b0 b1 (by omega)))
    rintro i H' hi ⟨k7, p7, e7⟩
    refine ⟨rfl, yesT ?_⟩
    refine ⟨_, rfl, _, rfl, _, rfl, _, _, rfl, rfl, .inl ⟨by decide, by decide⟩, _, _, rfl, rfl, _, _, rfl, rfl, (by show (0 : Int) < 24; decide), ?_⟩
    have hj : ((r2 + 5 * (i : Int)) % 24).toNat < menuW.length := by rw [menuW_len]; omega
    refine ⟨l, _, _, .str (g0 r2 i), rfl, rfl, SqL.of (k7 _ _ nlp e6), at_of (j := ((r2 + 5 * (i : Int)) % 24).toNat) (by show (r2 + 5 * (0 + (i : Int))) % 24 = _; omega) ?_, _, e7, ?_, ?_⟩
    · rw [List.getElem?_map, List.getElem?_eq_getElem hj]
      unfold g0
      rw [List.getD_eq_getElem?_getD, List.getElem?_eq_getElem hj]
      rfl
    · rw [List.length_map, List.length_range]
      exact small1000 (by omega)
    · exact ⟨k7.upd hD, p7.upd nD, by rw [upd_same, map_snoc (fun k => V.str (g0 r2 k))]⟩
  · refine ⟨_, rfl, rfl, _, rfl, ?_⟩
    refine ite2 (fun c2 => ?_) (fun c2 => ?_)
    · refine ⟨_, rfl, m, rfl, by omega, by omega, fun D hD => ?_⟩
      have nD := p6.ne hD
      refine lc_range (lo := 0) (n := m.toNat) (fun i H' => Keep p H6 H' ∧ PoolAt H' p ∧ H' D = some (.lst ((List.range i).map fun k => V.str (g1 r2 k)))) ⟨Keep.new hD _, p6.upd nD, upd_same⟩ ?_ (fun H' ⟨k7, p7, e7⟩ => fin H6 H' D _ k6 hD nD k7 p7 e7 (names1 b0 b1 (by omega)))
      rintro i H' hi ⟨k7, p7, e7⟩
      refine ⟨rfl, yesT ?_⟩
      refine ⟨_, rfl, _, rfl, _, rfl, _, _, rfl, rfl, .inl ⟨by decide, by decide⟩, _, _, rfl, rfl, _, _, rfl, rfl, (by show (0 : Int) < 26; decide), ?_⟩
      have z : (0 : Int) + (i : Int) = i := Int.zero_add _
      rw [z]
      refine ⟨alpha, _, _, rfl, rfl, (by show 26 ≤ sizeLine; decide), alpha_at (j := (r2 + 7 * (i : Int)) % 26) (by omega) (by omega), ?_⟩
      refine ⟨_, rfl, _, _, rfl, rfl, (by show (0 : Int) < 12; decide), _, _, rfl, rfl, ?_⟩
      refine ⟨_, _, rfl, rfl, by omega, by omega, (by show 1 ≤ 1; decide), (by show 1 ≤ 1000; decide), _, e7, ?_, ?_⟩
      · rw [List.length_map, List.length_range]
        exact small1000 (by omega)
      · exact ⟨k7.upd hD, p7.upd nD, by rw [upd_same]; exact congrArg (fun x => some (HO.lst x)) (map_snoc (fun k => V.str (g1 r2 k)) i)⟩
    · -- stem
      refine ⟨⟨_, rfl⟩, _, rfl, p, 12, rfl, p6, by decide, by decide, fun H7 r3 k7 p7 c0 c1 => ⟨r3, rfl, by omega, by omega, fun D hD => ?_⟩⟩
      have nD := p7.ne hD
      refine lc_range (lo := 0) (n := r3.toNat) (fun i H' => Keep p H7 H' ∧ PoolAt H' p ∧ ∃ zs : List Str, H' D = some (.lst (zs.map V.str)) ∧ zs.length = i ∧ ∀ z ∈ zs, One z) ⟨Keep.new hD _, p7.upd nD, [], upd_same, rfl, fun z hz => by cases hz⟩ ?_ ?_
      · rintro i H' hi ⟨k8, p8, zs, e8, l8, o8⟩
        refine ⟨rfl, yesT ?_⟩
        refine ⟨_, rfl, _, rfl, p, 26, rfl, p8, by decide, by decide, fun H9 r4 k9 p9 d0 d1 => ?_⟩
        refine ⟨alpha, _, _, rfl, rfl, (by show 26 ≤ sizeLine; decide), alpha_at d0 d1, _, k9 _ _ nD e8, ?_, ?_⟩
        · rw [List.length_map]
          exact small1000 (by omega)
        · refine ⟨(k8.trans k9).upd hD, p9.upd nD, zs ++ [⟨#[97 + r4.toNat]⟩], ?_, ?_, fun z hz => ?_⟩
          · rw [upd_same, List.map_append]
            rfl
          · rw [List.length_append, l8]
            rfl
          · rcases List.mem_append.mp hz with hz | hz
            · exact o8 z hz
            · rw [List.mem_singleton.mp hz]
              exact ⟨97 + r4.toNat, rfl, by omega, by omega⟩
      rintro H8 ⟨k8, p8, zs, e8, l8, o8⟩
      refine ⟨"", D, zs, rfl, rfl, .inl (SqL.of e8), ?_, ?_⟩
      · rw [sum_len o8]
        show zs.length + zs.length * 0 ≤ 16777216
        omega
      have hst : ql (Txt.join "" zs) = (zs.map ql).flatten := ql_join0 zs
      have hsl : (Txt.join "" zs).length ≤ 11 := by
        rw [ql_len, hst, stem_len o8]
        omega
      have hsc : ∀ c ∈ ql (Txt.join "" zs), 97 ≤ c ∧ c ≤ 122 := by
        rw [hst]
        exact stem_in o8
      generalize Txt.join "" zs = stem at hsl hsc
      have ks : Keep p H6 H8 := k7.trans k8
      have hz1 : stem.length ≤ sizeLine := small _ (by omega)
      clear hst e8 k8 k7 hD l8 o8
      -- at
      refine ⟨_, rfl, _, rfl, .str stem, stem.length, rfl, ⟨hz1, rfl⟩, _, _, rfl, rfl, p, ((stem.length : Int) + 1), rfl, p8, by omega, by omega, fun H9 a k9 p9 f0 f1 => ?_⟩
      have f1' : a ≤ (stem.length : Int) := by omega
      -- found
      refine ⟨_, rfl, m, rfl, by omega, by omega, fun D2 hD2 => ?_⟩
      have nD2 := p9.ne hD2
      refine lc_range (lo := 0) (n := m.toNat) (fun i H' => Keep p H9 H' ∧ PoolAt H' p ∧ H' D2 = some (.lst ((List.range i).map fun k => V.str (g2 stem a r2 k)))) ⟨Keep.new hD2 _, p9.upd nD2, upd_same⟩ ?_ ?_
      · rintro i H' hi ⟨k10, p10, e10⟩
        refine ⟨rfl, yesT ?_⟩
        have z : (0 : Int) + (i : Int) = i := Int.zero_add _
        rw [z]
        have l1 := cutS_length stem none (some a)
        have l2 := cutS_length stem (some a) none
        refine ⟨_, rfl, _, rfl, _, rfl, stem, rfl, hz1, _, rfl, _, rfl, _, rfl, _, _, rfl, rfl, .inl ⟨by decide, by decide⟩, _, _, rfl, rfl, _, _, rfl, rfl, (by show (0 : Int) < 26; decide), ?_⟩
        refine ⟨alpha, _, _, rfl, rfl, (by show 26 ≤ sizeLine; decide), alpha_at (j := (r2 + 5 * (i : Int)) % 26) (by omega) (by omega), _, _, rfl, rfl, ?_, ?_⟩
        · exact small _ (by show _ + 1 ≤ 1000; omega)
        refine ⟨_, rfl, _, rfl, _, rfl, stem, rfl, hz1, _, _, rfl, rfl, ?_, ?_⟩
        · have l3 : (cutS stem none (some a) ++ (⟨#[97 + ((r2 + 5 * (i : Int)) % 26).toNat]⟩ : Str)).length = (cutS stem none (some a)).length + 1 := by
            rw [ql_len, ql_app, List.length_append, ← ql_len]
            rfl
          exact small _ (by omega)
        · refine ⟨_, e10, ?_, k10.upd hD2, p10.upd nD2, by rw [upd_same]; exact congrArg (fun x => some (HO.lst x)) (map_snoc (fun k => V.str (g2 stem a r2 k)) i)⟩
          rw [List.length_map, List.length_range]
          exact small1000 (by omega)
      rintro H10 ⟨k10, p10, e10⟩
      refine ⟨_, rfl, D2, rfl, ⟨_, SqL.of e10⟩, fun D3 hD3 => ?_⟩
      have nD3 := p10.ne hD3
      refine lc_list (K := K) (a := D2) (xs := (List.range m.toNat).map fun k => V.str (g2 stem a r2 k)) (fun i H' => Keep p H10 H' ∧ PoolAt H' p ∧ H' D3 = some (.lst ((List.range i).map fun k => V.str (g3 (g2 stem a r2 k))))) ⟨Keep.new hD3 _, p10.upd nD3, upd_same⟩
        (fun i H' _ ⟨k11, p11, e11⟩ => SqL.of (k11 _ _ nD2 e10)) ?_ (fun H' ⟨k11, p11, e11⟩ => fin H10 H' D3 (fun k => g3 (g2 stem a r2 k)) (k6.trans (ks.trans (k9.trans k10))) hD3 nD3 k11 p11 (by rw [List.length_map, List.length_range] at e11; exact e11) (names2 f0 f1' hsl hsc (by omega)))
      rintro i x H' hx ⟨k11, p11, e11⟩
      obtain ⟨hi, rfl⟩ : i < m.toNat ∧ x = V.str (g2 stem a r2 i) := by
        have hlt := (List.getElem?_eq_some_iff.mp hx).1
        rw [List.length_map, List.length_range] at hlt
        rw [List.getElem?_map, List.getElem?_range hlt] at hx
        exact ⟨hlt, (Option.some.inj hx).symm⟩
      refine ⟨rfl, yesT ?_⟩
      refine ⟨_, rfl, (by show 3 ≤ sizeLine; decide), fun l3 hl3 => ⟨l3, _, rfl, .inl (SqL.of upd_same), rfl, rfl, _, rfl, ?_⟩⟩
      have e12 : (upd H' l3 (.lst [V.str "true", V.str "false", V.str "self"])) D3 = some (.lst ((List.range i).map fun k => V.str (g3 (g2 stem a r2 k)))) := by
        rw [upd_ne (ne_of_none e11 hl3)]
        exact e11
      have nl3 := p11.ne hl3
      have wl : (g2 stem a r2 i).length ≤ 12 := by rw [len_g2 f0 f1']; omega
      have step : ∀ z : Str, g3 (g2 stem a r2 i) = z → ∃ acc, (upd H' l3 (.lst [V.str "true", V.str "false", V.str "self"])) D3 = some (.lst acc) ∧ acc.length < sizeLine ∧ (Keep p H10 (upd (upd H' l3 (.lst [V.str "true", V.str "false", V.str "self"])) D3 (.lst (acc ++ [V.str z]))) ∧ PoolAt (upd (upd H' l3 (.lst [V.str "true", V.str "false", V.str "self"])) D3 (.lst (acc ++ [V.str z]))) p ∧ (upd (upd H' l3 (.lst [V.str "true", V.str "false", V.str "self"])) D3 (.lst (acc ++ [V.str z]))) D3 = some (.lst ((List.range (i + 1)).map fun k => V.str (g3 (g2 stem a r2 k))))) := fun z ez => by
        refine ⟨_, e12, ?_, (k11.trans (Keep.new hl3 _)).upd hD3, (p11.upd nl3).upd nD3, ?_⟩
        · rw [List.length_map, List.length_range]
          exact small1000 (by omega)
        · rw [upd_same, ← ez]
          exact congrArg (fun x => some (HO.lst x)) (map_snoc (fun k => V.str (g3 (g2 stem a r2 k))) i)
      refine ite2 (fun cc => ?_) (fun cc => ?_)
      · have cc' := (inV3 _ _ _ _).mp cc
        refine ⟨_, rfl, _, _, rfl, rfl, small _ (by show _ + 1 ≤ 1000; omega), ?_⟩
        exact step _ (by unfold g3; rw [if_pos cc'])
      · refine ⟨_, rfl, ?_⟩
        exact step _ (by unfold g3; rw [if_neg (fun h => cc ((inV3 _ _ _ _).mpr h))])
end
end KX

namespace KX
open PySem PySem.Spec L2 PyProof.Rows
/-! ### defs whose calls want to know that nothing is being shown -/
/-- what a def does where no repr is under way -/
structure FnG (P : Program) (w : World) (K : PySem.W.Frag) (mg : Str → Option Value) (base : Heap) (k : Nat) (f : Addr) (fd : FuncData) (ps : List Str) (sp : Sp) : Prop where
  long : ∀ vs H Q, sp vs H Q E0 → vs.length = ps.length
  does : ∀ (A : Around) (outer : List Env) (s : Shared) (H : Hp) (args : Args) (us : List Value) (vs : List V) (Q : VK), A.guards = some [] → Room k A → Env0 P w K mg base A outer s H → BindsTo s fd args (ps.zip us) → Vals vs us → sp vs H Q E0 →
    codeAny (model P w) A (.call (.ref f) args) (CR CX0 outer P w H s Q E0) s
structure DefG (P : Program) (w : World) (K : PySem.W.Frag) (mg : Str → Option Value) (base : Heap) (x : Str) (n : Nat) (ps : List Str) (sp : Sp) (f : Addr) (fd : FuncData) : Prop where
  named : mg x = some (.ref f)
  kept : PySem.W.keepIn K (.ref f) = true
  binds : Binds K fd ps []
  fn : FnG P w K mg base n f fd ps sp
theorem FnOk.g {P : Program} {w : World} {K : PySem.W.Frag} {mg : Str → Option Value} {base : Heap} {k : Nat} {f : Addr} {fd : FuncData} {ps : List Str} {sp : Sp} (F : FnOk P w K mg base CX0 k f fd ps sp) : FnG P w K mg base k f fd ps sp :=
  ⟨fun vs H Q => F.len vs H Q E0, fun A outer s H args us vs Q _ => F.run A outer s H args us vs Q E0⟩
section
variable {X : Cx}
/-- f(e, ..) of such a def -/
theorem pe_callG {k : Nat} {f : Addr} {fd : FuncData} {ps : List Str} {sp : Sp} {x : Str} {p pos : Pos} {e : Expr} {es : List Expr} {t : TA} (quiet : X.A.guards = some []) (D : DefG X.prog X.w X.K X.mg X.base x k ps sp f fd) (room : Room k X.A) (isG : Gl X x) (args : PA X (e :: es) t)
    (noDebug : (x == ("__debug__" : Str)) = false := by decide) (stars : starEach (e :: es) X.env = (false, eval e X.env) :: starEach es X.env := by rfl) (noStar : (backTo pos (starEach es X.env)).any (·.1) = false := by rfl) :
    PE X (.Call (.Name x p) (e :: es) [] pos) (tCall sp [] E0 t) := by
  constructor
  intro pins s σ H Q I want
  refine wpAny_Call_Name_kw (ld_glob I isG D.named ?_ noDebug)
  refine PySem.W.callWith_K (h₀ := X.base) I.ok.mod.kin D.kept (thn (args.run pos pins s σ H _ I want) ?_) stars noStar
  rintro us s1 ⟨vs, H1, J, rel, want1⟩
  have asked : sp vs H1 Q E0 := by
    have q : sp (vs ++ []) H1 Q E0 := want1
    rwa [List.append_nil] at q
  have ul : us.length = ps.length := rel.length.symm.trans (D.fn.long _ _ _ asked)
  have bound : BindsTo s1 fd ⟨us, []⟩ (ps.zip us) := by
    have q := D.binds s1 us J.kIn (by rw [List.append_nil]; exact ul)
    rwa [List.append_nil] at q
  refine ⟨J.kIn, wpAny_call (codeAny_mono (D.fn.does X.A X.stack s1 H1 ⟨us, []⟩ us vs Q quiet room J.env0 bound rel asked) ?_)⟩
  rintro (e | fl) s' h
  · exact h.elim
  · cases fl with
    | ret u => exact J.after h
    | next => exact h.elim
    | brk => exact h.elim
    | cont => exact h.elim
end
section
variable {base : Heap} {P : Program} {w : World} {K : PySem.W.Frag} {mg : Str → Option Value}
/-- a def's body, walked where nothing is being shown -/
theorem Fun.g {x qual : Str} {st : Stmt} {f : Addr} {fd : FuncData} {N ps : List Str} {k : Nat} {sp : Sp} (F : Fun K x qual st f fd) (S : FnScope N ps (defScope st)) (long : ∀ vs H Q, sp vs H Q E0 → vs.length = ps.length)
    (body : ∀ (cdv : Value) (A : Around) (outer : List Env) (s : Shared) (H : Hp) (vs : List V) (Q : VK), (cxOf CX0 P w K mg base N qual (defScope st) f cdv A outer s H E0).nox.A.guards = some [] → Room k (A.deeper (envOfC qual (defScope st) s.heap.objs.size f cdv)) → sp vs H Q E0 →
      ∃ t, PSs (cxOf CX0 P w K mg base N qual (defScope st) f cdv A outer s H E0).nox (defBody st) t ∧ t { nx := fun _ H' => Q .non H', rt := Q } (start N vs) H) : FnG P w K mg base (k + 1) f fd ps sp := by
  obtain ⟨oc, od, kV, doc, pm, an, cdv, ct, osl, rfl, lk, code⟩ := F.ex
  refine ⟨long, ?_⟩
  intro A outer s H args us vs Q quiet room e0 bound rel want
  have given := long _ _ _ want
  have here : ∀ b o, base.get? b = some o → s.heap.get? b = some o := fun b o e => (e0.bs b o e).1
  have kIn : K.In s.heap := e0.mod.kin.keeps here
  have kinds : ∀ y ∈ ps.zip us, (defScope st).names.lookup y.1 = some .local ∨ ((defScope st).names.lookup y.1 = some .cell ∧ ((cellsFrom (s.heap.objs.size + 1) (defScope st).names []).lookup y.1).isSome = true) := by
    rintro ⟨n, v⟩ hy
    exact (S.par n (List.of_mem_zip hy).1).imp id fun q => ⟨q, PySem.W.cellsFrom_some _ _ _ (.inl q)⟩
  refine codeAny_call_function room.depth (kIn _ _ lk) rfl S.co S.gen rfl (PySem.W.codeRec_of kIn code) (bound _ _ _ _ (wpAny_newFunctionEnv_cells S.kind kinds ?_))
  rintro env rfl s1 at1
  refine ⟨(e0.mod.nolimit.keeps here).keeps at1.toInCall.keep, codeAny_func ?_⟩
  obtain ⟨t, run, wish⟩ := body cdv A outer s H vs Q quiet (room.deeper _) want
  refine wpAny_mono (run.nox.run [] s1 (start N vs) H _ (inv_start S room.hd e0 given rel at1) wish) ?_ fun _ _ z => z
  rintro fl s' h
  cases fl with
  | ret u =>
    obtain ⟨v, σ', H', J', r, q⟩ := h
    exact ⟨v, H', J'.os, J'.bare, J'.base, J'.hok, r, q⟩
  | next =>
    obtain ⟨σ', H', J', q⟩ := h
    exact ⟨V.non, H', J'.os, J'.bare, J'.base, J'.hok, rfl, q⟩
  | brk => exact h.elim fun _ z => z.elim fun _ z => z.2.elim
  | cont => exact h.elim fun _ z => z.elim fun _ z => z.2.elim
/-- how a law's script may be seen: a list apart from all else, or one of the module's own -/
structure Seen (P : Program) (w : World) (K : PySem.W.Frag) (h : Heap) (a : Addr) (xs : List V) (H : Hp) : Prop where
  none' : ∀ b, b ≠ a → H b = none
  frozen : H a = none ∨ ∃ o ys, H a = some (.frz o (.lst ys))
  free : H a = none ∨ K.lookup a = none
  hok : HOk P w H h
  seq : SqL K H a xs
theorem seen_of {h : Heap} {a : Addr} {vs : List Value} {xs : List V} (kIn : K.In h) (at' : h.get? a = some { cls := .type "list", data := .seq vs.toArray }) (rel : Vals xs vs) (short : xs.length ≤ sizeLine) : ∃ H, Seen P w K h a xs H := by
  have short' : vs.toArray.size ≤ sizeLine := by
    rw [List.size_toArray, ← rel.length]
    exact short
  cases known : K.lookup a with
  | some o =>
    have e := (kIn a o known).symm.trans at'
    obtain rfl := Option.some.inj e
    exact ⟨fun _ => none, fun _ _ => rfl, .inl rfl, .inl rfl, fun _ _ z => (nomatch z), .inr ⟨_, _, _, known, rfl, rfl, rfl, short', rel⟩⟩
  | none =>
    have one : ∀ {b u}, (fun b => if b = a then some (HO.frz { cls := .type "list", data := .seq vs.toArray } (.lst xs)) else none) b = some u → b = a ∧ u = .frz { cls := .type "list", data := .seq vs.toArray } (.lst xs) := by
      intro b u z
      by_cases hb : b = a
      · exact ⟨hb, (Option.some.inj ((if_pos hb).symm.trans z)).symm⟩
      · exact nomatch (if_neg hb).symm.trans z
    refine ⟨fun b => if b = a then some (.frz { cls := .type "list", data := .seq vs.toArray } (.lst xs)) else none, fun b hb => if_neg hb, .inr ⟨_, xs, if_pos rfl⟩, .inr known, ?_, .inl (.inr ⟨_, if_pos rfl⟩)⟩
    intro b u z
    obtain ⟨rfl, rfl⟩ := one z
    exact ⟨at', short, vs, _, rel, at'⟩
/-- the law's def is called with its script -/
theorem script_call {mb : Str → Option Value} {k : Nat} {fa a : Addr} {fd : FuncData} {x : Str} {sp : Sp} {s : Shared} {vs : List Value} {ns : List Int} (kIn : K.In s.heap) (ns' : s.heap.Ns mainGlobals mg) (nb : s.heap.Ns builtinsNs mb)
    (boot : ∀ x : Str, x ≠ "__name__" → mb x = bootBuiltins x) (free : s.heap.NoLimit) (gens : s.gens = #[]) (at' : s.heap.get? a = some { cls := .type "list", data := .seq vs.toArray }) (whole : IntsAre vs ns) (short : ns.length ≤ sizeLine) (room : Room k callerA)
    (fn : ∀ base : Heap, K.In base → base.Ns mainGlobals mg → FnG P w K mg base k fa fd [x] sp) (binds : ∀ (s : Shared) (u : Value), BindsTo s fd ⟨[u], []⟩ [(x, u)]) (asked : ∀ H : Hp, SqL K H a (ns.map V.int) → sp [.ref a] H (fun v _ => v = .bl true) E0) :
    codeAny (model P w) callerA (.call (.ref fa) ⟨[.ref a], []⟩) (fun r s' => r = .ok (.ret (.bool true)) ∧ OldK s.heap s'.heap ∧ s'.os = s.os ∧ AllBare s'.gens) s := by
  obtain ⟨H, S⟩ := seen_of (P := P) (w := w) kIn at' (vals_ints whole) (by rw [List.length_map]; exact short)
  have keeps : ∀ {b o}, s.heap.get? b = some o → (b = a → H a = none) → (hidT s.heap H).get? b = some o := fun {b o} e q => hidT_get e (by
    by_cases hb : b = a
    · rw [hb]
      exact q hb
    · exact S.none' b hb)
  have spaces : ∀ {b m}, s.heap.Ns b m → (hidT s.heap H).Ns b m := by
    rintro b m ⟨o, es, ep, e, d, r⟩
    refine ⟨o, es, ep, keeps e fun hb => ?_, d, r⟩
    subst hb
    obtain rfl := Option.some.inj (e.symm.trans at')
    exact nomatch (show Data.seq vs.toArray _ = Data.dict es ep from d)
  have kIn' : K.In (hidT s.heap H) := fun b o e => keeps (kIn b o e) fun hb => S.free.resolve_right fun z => by
    subst hb
    rw [z] at e
    cases e
  have e0 : Env0 P w K mg (hidT s.heap H) callerA [] s H := by
    obtain ⟨mc, f1, f2⟩ := free
    refine ⟨rfl, ⟨kIn', spaces ns', ⟨mb, spaces nb, boot⟩, ⟨mc, spaces f1, f2⟩⟩, fun b o e => of_hidT e, ?_, trivial, fun b hb => (nomatch hb), S.hok, .of_eq gens⟩
    rw [hidT_size]
    exact Nat.le_refl _
  refine codeAny_mono ((fn _ kIn' (spaces ns')).does callerA [] s H ⟨[.ref a], []⟩ [.ref a] [.ref a] _ rfl room e0 (binds s _) (.cons rfl .nil) (asked H S.seq)) ?_
  rintro (e | fl) s' h
  · exact h.elim
  cases fl with
  | next => exact h.elim
  | brk => exact h.elim
  | cont => exact h.elim
  | ret u =>
    obtain ⟨v, H', os, bare, un, hok', rv, rfl⟩ := h
    obtain rfl : u = Value.bool true := rv
    refine ⟨rfl, OldK.of_keep fun b o e => ?_, os, bare⟩
    by_cases hb : H b = none
    · exact un.keep b o e hb (fun z => nomatch z) (fun z => nomatch z)
    · have ha : b = a := Classical.byContradiction fun z => hb (S.none' b z)
      subst ha
      obtain ⟨ob, ys, fz⟩ := S.frozen.resolve_left hb
      have old := (S.hok b _ fz).1
      exact (hok' b _ (un.frzs b ob _ fz)).1.trans (old.symm.trans e)
end
/-- the end of a law whose defs show nested values -/
theorem walk_g {l : PySem.W.OpenLaw} {n k : Nat} {q : Program} {loose : List Str} {XP : (Str → Option Value) → Heap → Prop} {YP : World → Heap → Prop} {d : DefRec} {x : Str} (most : l.most = some n) (small : n ≤ sizeLine) (plain : d.params.defaults = []) (room : Room k callerA)
    (law : ∀ (w : World) (mg : Str → Option Value) (fa : Addr) (h : Heap), YP w h → h.Ns mainGlobals mg → mg d.name = some (.ref fa) → ∃ (K : PySem.W.Frag) (fd : FuncData) (sp : Sp), K.In h ∧ (∀ (s : Shared) (u : Value), BindsTo s fd ⟨[u], []⟩ [(x, u)]) ∧
      (∀ (H : Hp) (a : Addr) (ns : List Int), ns.length ≤ n → SqL K H a (ns.map V.int) → sp [.ref a] H (fun v _ => v = .bl true) E0) ∧ ∀ base : Heap, K.In base → base.Ns mainGlobals mg → FnG l.prog w K mg base k fa fd [x] sp) :
    PySem.W.WalkO q loose XP YP l.row.toRowW d [] (fun f vs => PySem.call f vs) := by
  apply Att.attach_call most plain
  intro w s0 s1 mg mb fa o pm cd doc a vs ns G Y ho hd hcd named script whole long gens
  obtain ⟨K, fd, sp, kIn, binds, asked, fn⟩ := law w mg fa _ Y G.T.g named
  exact script_call kIn G.T.g G.T.b G.T.builtins G.T.nolimit gens script whole (Nat.le_trans long small) room fn binds fun H => asked H a ns long
end KX

namespace KX
open PySem PySem.Spec L2 PyProof.Rows
/-! ### data on the abstract heap, dicts too -/
def keyD : Key → PyData
  | .inl i => .int i
  | .inr x => .str x
mutual
inductive Dq (K : PySem.W.Frag) (H : Hp) : V → PyData → Prop
  | non : Dq K H .non .none
  | bl (b : Bool) : Dq K H (.bl b) (.bool b)
  | int (i : Int) : Dq K H (.int i) (.int i)
  | str (x : Str) : Dq K H (.str x) (.str x)
  | lst {a : Addr} {xs : List V} {ds : List PyData} : H a = some (.lst xs) → DqAll K H xs ds → Dq K H (.ref a) (.list ds)
  | tup {a : Addr} {xs : List V} {ds : List PyData} : H a = some (.tup xs) → DqAll K H xs ds → Dq K H (.ref a) (.tuple ds)
  | dct {a : Addr} {kvs : List (Key × V)} {ds : List (PyData × PyData)} : H a = some (.dK kvs) → DqKv K H kvs ds → Dq K H (.ref a) (.dict ds)
inductive DqAll (K : PySem.W.Frag) (H : Hp) : List V → List PyData → Prop
  | nil : DqAll K H [] []
  | cons {v : V} {vs : List V} {d : PyData} {ds : List PyData} : Dq K H v d → DqAll K H vs ds → DqAll K H (v :: vs) (d :: ds)
inductive DqKv (K : PySem.W.Frag) (H : Hp) : List (Key × V) → List (PyData × PyData) → Prop
  | nil : DqKv K H [] []
  | cons {k : Key} {v : V} {r : List (Key × V)} {d : PyData} {ds : List (PyData × PyData)} : Dq K H v d → DqKv K H r ds → DqKv K H ((k, v) :: r) ((keyD k, d) :: ds)
end
theorem Same.seqT {K : PySem.W.Frag} {H H' : Hp} {a : Addr} {xs : List V} (e : Same H H') (h : SqT K H a xs) : SqT K H' a xs := by
  rcases h with (h | ⟨o, h⟩) | h
  · exact .inl (.inl (e _ _ h))
  · exact .inl (.inr ⟨o, e _ _ h⟩)
  · exact .inr h
mutual
theorem Dq.same {K : PySem.W.Frag} {H H' : Hp} (e : Same H H') : ∀ (d : PyData) (v : V), Dq K H v d → Dq K H' v d
  | .none, _, .non => .non
  | .bool _, _, .bl b => .bl b
  | .int _, _, .int i => .int i
  | .str _, _, .str x => .str x
  | .list ds, _, .lst hs ha => .lst (e _ _ hs) (DqAll.same e ds _ ha)
  | .tuple ds, _, .tup hs ha => .tup (e _ _ hs) (DqAll.same e ds _ ha)
  | .dict ds, _, .dct hs ha => .dct (e _ _ hs) (DqKv.same e ds _ ha)
theorem DqAll.same {K : PySem.W.Frag} {H H' : Hp} (e : Same H H') : ∀ (ds : List PyData) (vs : List V), DqAll K H vs ds → DqAll K H' vs ds
  | [], _, .nil => .nil
  | d :: ds, _, .cons h1 h2 => .cons (Dq.same e d _ h1) (DqAll.same e ds _ h2)
theorem DqKv.same {K : PySem.W.Frag} {H H' : Hp} (e : Same H H') : ∀ (ds : List (PyData × PyData)) (vs : List (Key × V)), DqKv K H vs ds → DqKv K H' vs ds
  | [], _, .nil => .nil
  | (_, d) :: ds, _, .cons h1 h2 => .cons (Dq.same e d _ h1) (DqKv.same e ds _ h2)
end
/-- the heap without p -/
def hide (p : Addr) (H : Hp) : Hp := fun b => if b = p then none else H b
theorem hide_ne {p b : Addr} {H : Hp} (h : b ≠ p) : hide p H b = H b := if_neg h
theorem hide_sub (p : Addr) (H : Hp) : Same (hide p H) H := fun b o e => by
  by_cases h : b = p
  · subst h
    rw [show hide b H b = none from if_pos rfl] at e
    cases e
  · rw [hide_ne h] at e
    exact e
theorem Keep.hide {p : Addr} {H H' : Hp} (k : Keep p H H') : Same (hide p H) (hide p H') := fun b o e => by
  by_cases h : b = p
  · subst h
    rw [show KX.hide b H b = none from if_pos rfl] at e
    cases e
  · rw [hide_ne h] at e
    rw [hide_ne h]
    exact k b o h e
/-- what is new in H' -/
def sub (H H' : Hp) : Hp := fun b => match H b with
  | none => H' b
  | some _ => none
theorem sub_new {H H' : Hp} {b : Addr} (h : H b = none) : sub H H' b = H' b := by
  unfold sub
  rw [h]
theorem sub_old {H H' : Hp} {b : Addr} {o : HO} (h : H b = some o) : sub H H' b = none := by
  unfold sub
  rw [h]
theorem sub_same (H H' : Hp) : Same (sub H H') H' := fun b o e => by
  cases h : H b with
  | none => rw [sub_new h] at e; exact e
  | some u => rw [sub_old h] at e; cases e
/-- what was there is there -/
def Dom (H H' : Hp) : Prop := ∀ b, H' b = none → H b = none
theorem Dom.trans {H H1 H2 : Hp} (a : Dom H H1) (b : Dom H1 H2) : Dom H H2 := fun c h => a c (b c h)
theorem Same.dom {H H' : Hp} (s : Same H H') : Dom H H' := fun b h => s.free h
theorem dom_upd {H : Hp} {a : Addr} {o : HO} : Dom H (upd H a o) := fun b h => by
  by_cases e : b = a
  · subst e
    rw [upd_same] at h
    cases h
  · rw [upd_ne e] at h
    exact h
theorem Keep.dom {p : Addr} {H H' : Hp} (k : Keep p H H') (pp : PoolAt H' p) : Dom H H' := fun b h => by
  by_cases e : b = p
  · subst e
    obtain ⟨_, _, _, q, _⟩ := pp
    rw [q] at h
    cases h
  · exact k.gone e h
theorem sub_left {H0 H1 H2 : Hp} (d : Dom H0 H1) : Same (sub H1 H2) (sub H0 H2) := fun b o e => by
  cases h : H1 b with
  | none => rw [sub_new h] at e; rw [sub_new (d b h)]; exact e
  | some u => rw [sub_old h] at e; cases e
theorem sub_keep {p : Addr} {H0 H2 H3 : Hp} (k : Keep p H2 H3) (hp : ∃ o, H0 p = some o) : Same (sub H0 H2) (sub H0 H3) := fun b o e => by
  cases h : H0 b with
  | none =>
    rw [sub_new h] at e
    rw [sub_new h]
    refine k b o (fun z => ?_) e
    obtain ⟨u, hu⟩ := hp
    rw [z, hu] at h
    cases h
  | some u => rw [sub_old h] at e; cases e
theorem sub_upd {H0 H2 : Hp} {a : Addr} {o : HO} (h : ∃ u, H0 a = some u) : Same (sub H0 H2) (sub H0 (upd H2 a o)) := fun b u e => by
  cases q : H0 b with
  | none =>
    rw [sub_new q] at e
    rw [sub_new q, upd_ne (fun z => by
      obtain ⟨x, hx⟩ := h
      rw [z, hx] at q
      cases q)]
    exact e
  | some x => rw [sub_old q] at e; cases e
theorem sub_fresh {H0 H : Hp} {t : Addr} {o : HO} (h : H t = none) : Same (sub H0 H) (sub H0 (upd H t o)) := fun b u e => by
  cases q : H0 b with
  | none =>
    rw [sub_new q] at e
    rw [sub_new q, upd_ne (ne_of_none e h)]
    exact e
  | some x => rw [sub_old q] at e; cases e
theorem sub_hide {p : Addr} {H H' : Hp} (h : ∃ o, H p = some o) : Same (sub H H') (hide p H') := fun b o e => by
  cases q : H b with
  | none =>
    rw [sub_new q] at e
    rw [hide_ne (fun z => by
      obtain ⟨x, hx⟩ := h
      rw [z, hx] at q
      cases q)]
    exact e
  | some u => rw [sub_old q] at e; cases e
theorem PoolAt.has {H : Hp} {p : Addr} (h : PoolAt H p) : ∃ o, H p = some o := by
  obtain ⟨_, _, _, e, _⟩ := h
  exact ⟨_, e⟩
mutual
theorem Dq.det {K : PySem.W.Frag} {H : Hp} : ∀ (d : PyData) (v : V) (e : PyData), Dq K H v d → Dq K H v e → d = e
  | .none, _, _, .non, .non => rfl
  | .bool _, _, _, .bl b, .bl _ => rfl
  | .int _, _, _, .int i, .int _ => rfl
  | .str _, _, _, .str x, .str _ => rfl
  | .list ds, _, _, .lst hs ha, h2 => by
    cases h2 with
    | lst hs2 ha2 =>
      rw [hs] at hs2
      cases hs2
      rw [DqAll.det ds _ _ ha ha2]
    | tup hs2 _ => rw [hs] at hs2; cases hs2
    | dct hs2 _ => rw [hs] at hs2; cases hs2
  | .tuple ds, _, _, .tup hs ha, h2 => by
    cases h2 with
    | tup hs2 ha2 =>
      rw [hs] at hs2
      cases hs2
      rw [DqAll.det ds _ _ ha ha2]
    | lst hs2 _ => rw [hs] at hs2; cases hs2
    | dct hs2 _ => rw [hs] at hs2; cases hs2
  | .dict ds, _, _, .dct hs ha, h2 => by
    cases h2 with
    | dct hs2 ha2 =>
      rw [hs] at hs2
      cases hs2
      rw [DqKv.det ds _ _ ha ha2]
    | lst hs2 _ => rw [hs] at hs2; cases hs2
    | tup hs2 _ => rw [hs] at hs2; cases hs2
theorem DqAll.det {K : PySem.W.Frag} {H : Hp} : ∀ (ds : List PyData) (vs : List V) (es : List PyData), DqAll K H vs ds → DqAll K H vs es → ds = es
  | [], _, _, .nil, .nil => rfl
  | d :: ds, _, _, .cons h1 h2, .cons g1 g2 => by rw [Dq.det d _ _ h1 g1, DqAll.det ds _ _ h2 g2]
theorem DqKv.det {K : PySem.W.Frag} {H : Hp} : ∀ (ds : List (PyData × PyData)) (vs : List (Key × V)) (es : List (PyData × PyData)), DqKv K H vs ds → DqKv K H vs es → ds = es
  | [], _, _, .nil, .nil => rfl
  | (_, d) :: ds, _, _, .cons h1 h2, .cons g1 g2 => by rw [Dq.det d _ _ h1 g1, DqKv.det ds _ _ h2 g2]
end
/-! what is less deep than the thing at q does not hold it -/
mutual
theorem Dq.avoid {K : PySem.W.Frag} {H : Hp} {q : Addr} {D : PyData} (hD : Dq K H (.ref q) D) : ∀ (d : PyData) (v : V), Dq K H v d → d.depth < D.depth → Dq K (hide q H) v d
  | .none, _, .non, _ => .non
  | .bool _, _, .bl b, _ => .bl b
  | .int _, _, .int i, _ => .int i
  | .str _, _, .str x, _ => .str x
  | .list ds, _, .lst (a := a) hs ha, hd => by
    have ne : a ≠ q := fun z => by
      have := Dq.det _ _ _ (Dq.lst hs ha) (z ▸ hD)
      rw [this] at hd
      exact Nat.lt_irrefl _ hd
    refine .lst (by rw [hide_ne ne]; exact hs) (DqAll.avoid hD ds _ ha ?_)
    simp only [PyData.depth] at hd
    omega
  | .tuple ds, _, .tup (a := a) hs ha, hd => by
    have ne : a ≠ q := fun z => by
      have := Dq.det _ _ _ (Dq.tup hs ha) (z ▸ hD)
      rw [this] at hd
      exact Nat.lt_irrefl _ hd
    refine .tup (by rw [hide_ne ne]; exact hs) (DqAll.avoid hD ds _ ha ?_)
    simp only [PyData.depth] at hd
    omega
  | .dict ds, _, .dct (a := a) hs ha, hd => by
    have ne : a ≠ q := fun z => by
      have := Dq.det _ _ _ (Dq.dct hs ha) (z ▸ hD)
      rw [this] at hd
      exact Nat.lt_irrefl _ hd
    refine .dct (by rw [hide_ne ne]; exact hs) (DqKv.avoid hD ds _ ha ?_)
    simp only [PyData.depth] at hd
    omega
theorem DqAll.avoid {K : PySem.W.Frag} {H : Hp} {q : Addr} {D : PyData} (hD : Dq K H (.ref q) D) : ∀ (ds : List PyData) (vs : List V), DqAll K H vs ds → PyData.depthAll ds < D.depth → DqAll K (hide q H) vs ds
  | [], _, .nil, _ => .nil
  | d :: ds, _, .cons h1 h2, hd => by
    simp only [PyData.depthAll] at hd
    exact .cons (Dq.avoid hD d _ h1 (by omega)) (DqAll.avoid hD ds _ h2 (by omega))
theorem DqKv.avoid {K : PySem.W.Frag} {H : Hp} {q : Addr} {D : PyData} (hD : Dq K H (.ref q) D) : ∀ (ds : List (PyData × PyData)) (vs : List (Key × V)), DqKv K H vs ds → PyData.depthKv ds < D.depth → DqKv K (hide q H) vs ds
  | [], _, .nil, _ => .nil
  | (_, d) :: ds, _, .cons h1 h2, hd => by
    simp only [PyData.depthKv] at hd
    exact .cons (Dq.avoid hD d _ h1 (by omega)) (DqKv.avoid hD ds _ h2 (by omega))
end
theorem DqAll.snoc {K : PySem.W.Frag} {H : Hp} {v : V} {d : PyData} (h : Dq K H v d) : ∀ {vs : List V} {ds : List PyData}, DqAll K H vs ds → DqAll K H (vs ++ [v]) (ds ++ [d])
  | _, _, .nil => .cons h .nil
  | _, _, .cons h1 h2 => .cons h1 (DqAll.snoc h h2)
theorem DqKv.snoc {K : PySem.W.Frag} {H : Hp} {k : Key} {v : V} {d : PyData} (h : Dq K H v d) : ∀ {vs : List (Key × V)} {ds : List (PyData × PyData)}, DqKv K H vs ds → DqKv K H (vs ++ [(k, v)]) (ds ++ [(keyD k, d)])
  | _, _, .nil => .cons h .nil
  | _, _, .cons h1 h2 => .cons h1 (DqKv.snoc h h2)
theorem DqAll.length {K : PySem.W.Frag} {H : Hp} : ∀ {vs : List V} {ds : List PyData}, DqAll K H vs ds → vs.length = ds.length
  | _, _, .nil => rfl
  | _, _, .cons _ h2 => by rw [List.length_cons, List.length_cons, DqAll.length h2]
theorem DqAll.get {K : PySem.W.Frag} {H : Hp} : ∀ {vs : List V} {ds : List PyData} {i : Nat} {v : V}, DqAll K H vs ds → vs[i]? = some v → ∃ d, ds[i]? = some d ∧ Dq K H v d
  | _, _, _, _, .nil, e => by simp at e
  | _, _, 0, _, .cons h _, e => by simp at e; subst e; exact ⟨_, rfl, h⟩
  | _, _, i + 1, _, .cons _ t, e => by
    obtain ⟨d, h1, h2⟩ := DqAll.get (i := i) t (by simpa using e)
    exact ⟨d, by simpa using h1, h2⟩
/-- the system's table of modules stands in the written part -/
def SysK (K : PySem.W.Frag) : Prop := ∃ o, K.lookup sysModules = some o ∧ o.cls = .type "dict"
section
variable {X : Cx} {pins : List (Addr × Obj)} {σ : L2.St} {H : Hp} {s : Shared}
theorem sys_ne (I : Inv X pins σ H s) (S : SysK X.K) {a : Addr} {u : HO} (h : H a = some u) : a ≠ sysModules := by
  obtain ⟨o, e, _⟩ := S
  rintro rfl
  rw [(I.bs _ _ (I.ok.mod.kin _ _ e)).2] at h
  cases h
theorem keys_of {kvs : List (Key × V)} {ds : List (PyData × PyData)} {vs : List (Key × Value)} {es : List DictEntry} {prog : Program} {w : World} (h : DqKv X.K H kvs ds) (r : KV kvs vs) (p : Pairs (mixKind prog w) es vs) :
    ReadsAll s.heap (es.map (·.key)) (ds.map (·.1)) [] := by
  induction p generalizing kvs ds with
  | nil =>
    cases r
    cases h
    exact .nil
  | cons hk hv hp ih =>
    cases r with
    | cons r1 r2 =>
      cases h with
      | cons h1 h2 =>
        have q := ih h2 r2
        have e := r1.1
        simp only at e
        rw [← e] at hk
        refine ReadsAll.cons (as := []) ?_ q
        rcases keyIs_shape hk with ⟨i, t, z, ek⟩ | ⟨x, t, z, ek⟩
        · show Reads s.heap (DictEntry.key _) (keyD _) []
          rw [z, ek]
          exact Reads.int i t
        · show Reads s.heap (DictEntry.key _) (keyD _) []
          rw [z, ek]
          exact Reads.str x t
mutual
theorem Dq.reads (I : Inv X pins σ H s) (S : SysK X.K) : ∀ (d : PyData) (v : V) (u : Value), Dq X.K H v d → RelV v u → ∃ as, Reads s.heap u d as ∧ sysModules ∉ as
  | .none, _, _, .non, r => by
    cases r
    exact ⟨_, Reads.none, by simp⟩
  | .bool _, _, _, .bl b, r => by
    cases r
    exact ⟨_, Reads.bool b, by simp⟩
  | .int _, _, _, .int i, r => by
    obtain ⟨t, rfl⟩ := r
    exact ⟨_, Reads.int i t, by simp⟩
  | .str _, _, _, .str x, r => by
    obtain ⟨t, rfl⟩ := r
    exact ⟨_, Reads.str x t, by simp⟩
  | .list ds, _, _, .lst hs ha, r => by
    cases r
    have ne := sys_ne I S hs
    obtain ⟨its, rv, ⟨o, n, ho, hc, _, hd⟩, _⟩ := I.list (SqL.of hs)
    obtain ⟨as, hr, na⟩ := DqAll.reads I S ds _ its ha rv
    exact ⟨_, Reads.list ho hc hd hr, fun z => (List.mem_cons.mp z).elim (fun e => ne e.symm) na⟩
  | .tuple ds, _, _, .tup hs ha, r => by
    cases r
    obtain ⟨its, rv, ⟨o, ho, hc, n, hd⟩, _⟩ := I.tuple (SqT.of hs)
    obtain ⟨as, hr, na⟩ := DqAll.reads I S ds _ its ha rv
    exact ⟨_, Reads.tuple ho hc hd hr, na⟩
  | .dict ds, _, _, .dct hs ha, r => by
    cases r
    have ne := sys_ne I S hs
    obtain ⟨hz, _, vs, rv, o, es, ep, ho, hx, hd, _, hp, _⟩ := (show ObjOk X.prog X.w H s.heap _ (.dK _) from I.hok _ _ hs)
    have hk := keys_of (X := X) (s := s) ha rv hp
    obtain ⟨bs, hr, nb⟩ := DqKv.reads I S ds _ _ _ ha rv hp
    refine ⟨_, Reads.dict ho hx.1 hd hk hr, fun z => ?_⟩
    rcases List.mem_append.mp z with z | z
    · rcases List.mem_cons.mp z with e | z
      · exact ne e.symm
      · cases z
    · exact nb z
theorem DqAll.reads (I : Inv X pins σ H s) (S : SysK X.K) : ∀ (ds : List PyData) (vs : List V) (us : List Value), DqAll X.K H vs ds → Vals vs us → ∃ as, ReadsAll s.heap us ds as ∧ sysModules ∉ as
  | [], _, _, .nil, r => by
    cases r
    exact ⟨_, ReadsAll.nil, by simp⟩
  | d :: ds, _, _, .cons h1 h2, r => by
    cases r with
    | cons r1 r2 =>
      obtain ⟨as, q1, n1⟩ := Dq.reads I S d _ _ h1 r1
      obtain ⟨bs, q2, n2⟩ := DqAll.reads I S ds _ _ h2 r2
      exact ⟨_, ReadsAll.cons q1 q2, fun z => (List.mem_append.mp z).elim n1 n2⟩
theorem DqKv.reads (I : Inv X pins σ H s) (S : SysK X.K) : ∀ (ds : List (PyData × PyData)) (kvs : List (Key × V)) (vs : List (Key × Value)) (es : List DictEntry), DqKv X.K H kvs ds → KV kvs vs → Pairs (mixKind X.prog X.w) es vs →
    ∃ as, ReadsAll s.heap (es.map (·.val)) (ds.map (·.2)) as ∧ sysModules ∉ as
  | [], _, _, _, .nil, r, p => by
    cases r
    cases p
    exact ⟨_, ReadsAll.nil, by simp⟩
  | (_, d) :: ds, _, _, _, .cons h1 h2, r, p => by
    cases r with
    | cons r1 r2 =>
      cases p with
      | cons hk hv hp =>
        have rv := r1.2
        simp only at rv
        rw [← hv] at rv
        obtain ⟨as, q1, n1⟩ := Dq.reads I S d _ _ h1 rv
        obtain ⟨bs, q2, n2⟩ := DqKv.reads I S ds _ _ _ h2 r2 hp
        exact ⟨_, ReadsAll.cons q1 q2, fun z => (List.mem_append.mp z).elim n1 n2⟩
end
end
/-! ### repr -/
/-- data whose text may be made -/
structure Shows (d : PyData) : Prop where
  ok : d.showable = true
  deep : d.depth ≤ 60
  size : d.shown.length ≤ sizeLine
def rRepr (K : PySem.W.Frag) : List V → Hp → VK → Prop := fun xs H Q => ∃ v d, xs = [v] ∧ Dq K H v d ∧ Shows d ∧ Q (.str d.shown) H
theorem call_reprK {X : Cx} {n : Nat} (K : PySem.W.Frag) (hK : X.K = K) (S : SysK X.K) (g : X.A.guards = some []) (room : Room n X.A) : CallR X (.builtin "repr") (rRepr K) := by
  subst hK
  intro pins s σ H xs us Q I r h
  obtain ⟨v, d, rfl, hd, sh, q⟩ := h
  obtain ⟨u, rfl, ru⟩ := vals1 r
  have hu := room.un
  have sz := sh.size
  have ok := sh.ok
  have big : ∀ a, v = .ref a → wpAny (model X.prog X.w) X.A (call (.builtin "repr") [u]) (EP X pins σ Q) X.xe s := by
    rintro a rfl
    cases ru
    obtain ⟨as, rd, na⟩ := Dq.reads I S d _ _ hd rfl
    have dp := sh.deep
    exact repr_of_reads' (h₀ := s.heap) rd ok (fun _ => na) g (by omega) (fun _ _ e => e) (fun h' u tk k => ⟨.str _, H, I.kept k, ⟨_, rfl⟩, q⟩) sz
  cases hd with
  | non =>
    cases ru
    exact P.repr_of_none ⟨.str _, H, I.tok _, ⟨_, rfl⟩, by simpa only [PyData.shown] using q⟩
  | bl b =>
    cases ru
    exact P.repr_of_bool ⟨.str _, H, I.tok _, ⟨_, rfl⟩, by simpa only [PyData.shown] using q⟩
  | int i =>
    obtain ⟨t, rfl⟩ := ru
    simp only [PyData.showable, decide_eq_true_eq] at ok
    exact P.repr_of_int ok ⟨.str _, H, I.tok _, ⟨_, rfl⟩, by simpa only [PyData.shown] using q⟩
  | str x =>
    obtain ⟨t, rfl⟩ := ru
    simp only [PyData.shown] at sz
    exact P.repr_of_str ⟨.str _, H, I.tok _, ⟨_, rfl⟩, by simpa only [PyData.shown] using q⟩ sz
  | lst => exact big _ rfl
  | tup => exact big _ rfl
  | dct => exact big _ rfl
end KX

namespace KX
open PySem PySem.Spec L2 PyProof.Rows
/-! ### the forms of types -/
inductive Fm where
  | text | number | flag
  | list (f : Fm)
  | opt (f : Fm)
  | rcd (fs : List (Str × Fm))
  | keyed (k : Str) (num : Bool) (w : Str) (f : Fm)
def kword : Bool → Str
  | true => "number"
  | false => "text"
mutual
def enc : Fm → PyData
  | .text => .tuple [.str "text"]
  | .number => .tuple [.str "number"]
  | .flag => .tuple [.str "flag"]
  | .list f => .tuple [.str "list", enc f]
  | .opt f => .tuple [.str "optional", enc f]
  | .rcd fs => .tuple [.str "record", .tuple (encFs fs)]
  | .keyed k num w f => .tuple [.str "keyed", .tuple [.str "record", .tuple [.tuple [.str k, .tuple [.str (kword num)]], .tuple [.str w, enc f]]], .str k]
def encFs : List (Str × Fm) → List PyData
  | [] => []
  | (w, f) :: r => .tuple [.str w, enc f] :: encFs r
end
def Fm.isOpt : Fm → Bool
  | .opt _ => true
  | _ => false
/-- a form of at most this many levels -/
def okF : Nat → Fm → Prop
  | _, .text => True
  | _, .number => True
  | _, .flag => True
  | 0, _ => False
  | n + 1, .list f => okF n f
  | n + 1, .opt f => okF n f ∧ f.isOpt = false
  | n + 1, .rcd fs => Names (fs.map (·.1)) ∧ sortedS (fs.map (·.1)) = true ∧ 1 ≤ fs.length ∧ fs.length ≤ 3 ∧ ∀ q ∈ fs, okF n q.2
  | n + 1, .keyed k _ w f => Names [k, w] ∧ sortedS [k, w] = true ∧ okF n f
theorem okF_up : ∀ (n : Nat) (f : Fm), okF n f → okF (n + 1) f
  | _, .text, _ => by simp [okF]
  | _, .number, _ => by simp [okF]
  | _, .flag, _ => by simp [okF]
  | 0, .list _, h => by simp [okF] at h
  | 0, .opt _, h => by simp [okF] at h
  | 0, .rcd _, h => by simp [okF] at h
  | 0, .keyed _ _ _ _, h => by simp [okF] at h
  | n + 1, .list f, h => by
    have h' : okF n f := by simpa [okF] using h
    show okF (n + 1 + 1) (.list f)
    simp only [okF]
    exact okF_up n f h'
  | n + 1, .opt f, h => by
    have h' : okF n f ∧ f.isOpt = false := by simpa [okF] using h
    show okF (n + 1 + 1) (.opt f)
    simp only [okF]
    exact ⟨okF_up n f h'.1, h'.2⟩
  | n + 1, .rcd fs, h => by
    have h' : Names (fs.map (·.1)) ∧ sortedS (fs.map (·.1)) = true ∧ 1 ≤ fs.length ∧ fs.length ≤ 3 ∧ ∀ q ∈ fs, okF n q.2 := by simpa only [okF] using h
    show okF (n + 1 + 1) (.rcd fs)
    simp only [okF]
    exact ⟨h'.1, h'.2.1, h'.2.2.1, h'.2.2.2.1, fun q hq => okF_up n q.2 (h'.2.2.2.2 q hq)⟩
  | n + 1, .keyed k num w f, h => by
    have h' : Names [k, w] ∧ sortedS [k, w] = true ∧ okF n f := by simpa only [okF] using h
    show okF (n + 1 + 1) (.keyed k num w f)
    simp only [okF]
    exact ⟨h'.1, h'.2.1, okF_up n f h'.2.2⟩
theorem encFs_snoc (w : Str) (f : Fm) : ∀ fs : List (Str × Fm), encFs (fs ++ [(w, f)]) = encFs fs ++ [.tuple [.str w, enc f]]
  | [] => by simp [encFs]
  | (w', f') :: r => by simp [encFs, encFs_snoc w f r]
theorem Names.perm {ys zs : List Str} (h : Names zs) (p : ys.Perm zs) : Names ys := ⟨p.nodup_iff.mpr h.1, fun z hz => h.2 z (p.mem_iff.mp hz)⟩
/-- the first word of a form -/
def Fm.word : Fm → Str
  | .text => "text"
  | .number => "number"
  | .flag => "flag"
  | .list _ => "list"
  | .opt _ => "optional"
  | .rcd _ => "record"
  | .keyed _ _ _ _ => "keyed"
theorem enc_head {K : PySem.W.Frag} {H : Hp} {v : V} (f : Fm) (h : Dq K H v (enc f)) : ∃ a xs, v = .ref a ∧ H a = some (.tup xs) ∧ xs[0]? = some (.str f.word) := by
  cases f <;> (simp only [enc] at h; cases h with | tup hs ha => cases ha with | cons h1 h2 => cases h1; exact ⟨_, _, rfl, hs, rfl⟩)
section
variable {base : Heap} {P : Program} {w : World} {K : PySem.W.Frag} {mg : Str → Option Value}
abbrev s_form : Stmt := top 38
abbrev N_form : List Str := ["_law_pool_here", "_law_deep", "_law_way", "_law_words_here", "_law_fields", "_law_key", "_law_inner", "_law_word"]
abbrev P_form : List Str := ["_law_pool_here", "_law_deep"]
theorem sc_form : FnScope N_form P_form (defScope s_form) := ⟨rfl, rfl, rfl, by decide +kernel, rfl, by decide +kernel, by decide +kernel⟩
/-- with that many levels less one (with none: it is not asked) -/
def spFormL (K : PySem.W.Frag) : Nat → Sp
  | 0 => fun _ _ _ _ => False
  | n + 1 => fun vs H Q _ => ∃ p : Addr, vs = [.ref p, .int (n : Int)] ∧ PoolAt H p ∧
    ∀ (H' : Hp) (v : V) (f : Fm), Keep p H H' → PoolAt H' p → Dq K (sub H H') v (enc f) → okF n f → Q v H'
theorem ok_formS {f fdr fwo : Addr} {fd fdd fdw : FuncData} {n : Nat} (F : Fun K "_law_form" "_law_form" s_form f fd) (T : Bl mg) (D_draw : Def P w K mg base "_law_draw" 1 P_draw spDraw fdr fdd) (D_words : Def P w K mg base "_law_words" 2 P_words spWords fwo fdw)
    (D_form : Def P w K mg base "_law_form" (n + 2) P_form (spFormL K n) f fd) : FnOk P w K mg base CX0 (n + 3) f fd P_form (spFormL K (n + 1)) := by
  refine F.ok sc_form (fun vs H Q E h => ?_) (fun cdv A outer s H vs Q E hr h => ?_)
  · obtain ⟨p, rfl, _⟩ := h
    rfl
  obtain ⟨p, rfl, hp, q⟩ := h
  refine ⟨_, (pss_cons (ps_set (i := 2) sc_form.nd rfl (Or.inl rfl) (pe_call D_draw.ok (hr.mono (by first | decide | omega)) rfl D_draw.g D_draw.kp D_draw.b .nil pass0 (pa_cons (pv 0) (pa_cons pe_int pa_nil))))
    (pss_cons (ps_if (PW.pt (pw_or (pt_cmpR op_eq (pv 1) pe_int (nomark _)) (pw_or1 (pt_cmpR op_lt (pv 2) pe_int (nomark _)))))
      (pss_one (ps_ret (pe_ix (ix_listK K rfl) (pe_lst (pa_cons (pe_tup (pa_cons pe_str pa_nil)) (pa_cons (pe_tup (pa_cons pe_str pa_nil)) (pa_cons (pe_tup (pa_cons pe_str pa_nil)) (pa_cons (pe_tup (pa_cons pe_str pa_nil)) pa_nil))))) (pe_op op_mod (pv 2) pe_int) (fun _ _ => rfl))))
      pss_nil)
    (pss_cons (ps_if (pt_cmpR op_eq (pv 2) pe_int (nomark _))
      (pss_one (ps_ret (pe_tup (pa_cons pe_str (pa_cons (pe_call D_form.ok (hr.mono (by first | decide | omega)) rfl D_form.g D_form.kp D_form.b .nil pass0 (pa_cons (pv 0) (pa_cons (pe_op op_sub (pv 1) pe_int) pa_nil))) pa_nil)))))
      pss_nil)
    (pss_cons (ps_if (pt_cmpR (op_inK K rfl) (pv 2) (pe_lst (pa_cons pe_int (pa_cons pe_int pa_nil))) (by with_unfolding_all rfl))
      (pss_cons (ps_set (i := 3) sc_form.nd rfl (Or.inl rfl) (pe_callB cr_sortedS (by rfl) T.sorted (by decide +kernel) (pa_cons (pe_call D_words.ok (hr.mono (by first | decide | omega)) rfl D_words.g D_words.kp D_words.b .nil pass0 (pa_cons (pv 0) (pa_cons (pe_op op_add pe_int (pe_call D_draw.ok (hr.mono (by first | decide | omega)) rfl D_draw.g D_draw.kp D_draw.b .nil pass0 (pa_cons (pv 0) (pa_cons pe_int pa_nil)))) pa_nil))) pa_nil)))
    (pss_cons (ps_setLc (i := 4) (own := [("_law_word", 7)]) (g := (gName 7)) (tt := tYes) rfl sc_form.nd rfl rfl (sw_true rfl rfl rfl (by decide +kernel)) (pi_list (pv 3)) (blkOk_by (own := [("_law_word", 7)]) (N := N_form) (sc := defScope s_form) (by decide +kernel)) (fun _ _ _ _ _ => (pg_name (i := 7) sc_form.nd rfl (Or.inl rfl))) (fun _ _ _ _ _ => pts_nil) (fun _ _ _ _ _ => (pe_tup (pa_cons (pv 7) (pa_cons (pe_call D_form.ok (hr.mono (by first | decide | omega)) rfl D_form.g D_form.kp D_form.b .nil pass0 (pa_cons (pv 0) (pa_cons (pe_op op_sub (pv 1) pe_int) pa_nil))) pa_nil)))))
    (pss_one (ps_ret (pe_tup (pa_cons pe_str (pa_cons (pe_callTy call_tuple_of (by rfl) T.tuple (by decide +kernel) (pa_cons (pv 4) pa_nil)) pa_nil)))))))
      pss_nil)
    (pss_cons (ps_if (pt_cmpR op_eq (pv 2) pe_int (nomark _))
      (pss_cons (ps_set (i := 3) sc_form.nd rfl (Or.inl rfl) (pe_callB cr_sortedS (by rfl) T.sorted (by decide +kernel) (pa_cons (pe_call D_words.ok (hr.mono (by first | decide | omega)) rfl D_words.g D_words.kp D_words.b .nil pass0 (pa_cons (pv 0) (pa_cons pe_int pa_nil))) pa_nil)))
    (pss_cons (ps_set (i := 5) sc_form.nd rfl (Or.inl rfl) (pe_ix (ix_listK K rfl) (pe_lst (pa_cons pe_str (pa_cons pe_str pa_nil))) (pe_call D_draw.ok (hr.mono (by first | decide | omega)) rfl D_draw.g D_draw.kp D_draw.b .nil pass0 (pa_cons (pv 0) (pa_cons pe_int pa_nil))) (fun _ _ => rfl)))
    (pss_one (ps_ret (pe_tup (pa_cons pe_str (pa_cons (pe_tup (pa_cons pe_str (pa_cons (pe_tup (pa_cons (pe_tup (pa_cons (pe_ix (ix_listK K rfl) (pv 3) pe_int (fun _ _ => rfl)) (pa_cons (pe_tup (pa_cons (pv 5) pa_nil)) pa_nil))) (pa_cons (pe_tup (pa_cons (pe_ix (ix_listK K rfl) (pv 3) pe_int (fun _ _ => rfl)) (pa_cons (pe_call D_form.ok (hr.mono (by first | decide | omega)) rfl D_form.g D_form.kp D_form.b .nil pass0 (pa_cons (pv 0) (pa_cons (pe_op op_sub (pv 1) pe_int) pa_nil))) pa_nil))) pa_nil))) pa_nil))) (pa_cons (pe_ix (ix_listK K rfl) (pv 3) pe_int (fun _ _ => rfl)) pa_nil))))))))
      pss_nil)
    (pss_cons (ps_set (i := 6) sc_form.nd rfl (Or.inl rfl) (pe_call D_form.ok (hr.mono (by first | decide | omega)) rfl D_form.g D_form.kp D_form.b .nil pass0 (pa_cons (pv 0) (pa_cons (pe_op op_sub (pv 1) pe_int) pa_nil))))
    (pss_one (ps_ret (pe_ifExp (pt_cmpR op_eq (pe_ix (ix_tupK K rfl) (pv 6) pe_int (fun _ _ => rfl)) pe_str (nomark _)) (pv 6) (pe_tup (pa_cons pe_str (pa_cons (pv 6) pa_nil)))))))))))), ?_⟩
  have small : ∀ n : Nat, n ≤ 1000 → n ≤ sizeLine := fun n h => Nat.le_of_lt (small1000 h)
  refine ⟨_, rfl, p, 10, rfl, hp, by decide, by decide, fun H1 r k1 p1 a0 a1 => ?_⟩
  have d1 : Dom H H1 := k1.dom p1
  have hasP := hp.has
  -- the forms without parts
  have leaf : ∀ (t1 t2 t3 t4 l : Addr), H1 t1 = none → (upd H1 t1 (.tup [.str "text"])) t2 = none → (upd (upd H1 t1 (.tup [.str "text"])) t2 (.tup [.str "text"])) t3 = none →
      (upd (upd (upd H1 t1 (.tup [.str "text"])) t2 (.tup [.str "text"])) t3 (.tup [.str "number"])) t4 = none →
      (upd (upd (upd (upd H1 t1 (.tup [.str "text"])) t2 (.tup [.str "text"])) t3 (.tup [.str "number"])) t4 (.tup [.str "flag"])) l = none →
      ∀ H2 : Hp, H2 = upd (upd (upd (upd (upd H1 t1 (.tup [.str "text"])) t2 (.tup [.str "text"])) t3 (.tup [.str "number"])) t4 (.tup [.str "flag"])) l (.lst [.ref t1, .ref t2, .ref t3, .ref t4]) →
      ∃ x : V, atI [V.ref t1, .ref t2, .ref t3, .ref t4] (r % 4) = some x ∧ Q x H2 := by
    intro t1 t2 t3 t4 l h1 h2 h3 h4 hl H2 e2
    have n1 : t1 ≠ t2 := ne_of_none upd_same h2
    have g1 : H t1 = none := d1 _ h1
    have g2 : H t2 = none := (d1.trans dom_upd) _ h2
    have g3 : H t3 = none := (d1.trans (dom_upd.trans dom_upd)) _ h3
    have g4 : H t4 = none := (d1.trans (dom_upd.trans (dom_upd.trans dom_upd))) _ h4
    have s1 := same_new h1 (.tup [.str "text"])
    have s2 := same_new h2 (.tup [.str "text"])
    have s3 := same_new h3 (.tup [.str "number"])
    have s4 := same_new h4 (.tup [.str "flag"])
    have s5 := same_new hl (.lst [.ref t1, .ref t2, .ref t3, .ref t4])
    have kk : Same H1 H2 := by rw [e2]; exact s1.trans (s2.trans (s3.trans (s4.trans s5)))
    have f1 : H2 t1 = some (.tup [.str "text"]) := by rw [e2]; exact (s2.trans (s3.trans (s4.trans s5))) _ _ upd_same
    have f2 : H2 t2 = some (.tup [.str "text"]) := by rw [e2]; exact (s3.trans (s4.trans s5)) _ _ upd_same
    have f3 : H2 t3 = some (.tup [.str "number"]) := by rw [e2]; exact (s4.trans s5) _ _ upd_same
    have f4 : H2 t4 = some (.tup [.str "flag"]) := by rw [e2]; exact s5 _ _ upd_same
    have f5 : H2 l = some (.lst [.ref t1, .ref t2, .ref t3, .ref t4]) := by rw [e2]; exact upd_same
    have fin : ∀ (t : Addr) (z : Str) (f : Fm), H t = none → H2 t = some (.tup [.str z]) → enc f = .tuple [.str z] → okF n f → Q (.ref t) H2 := fun t z f gt ft ef okf =>
      q H2 _ f (k1.trans (Same.keep kk)) (p1.same kk) (by rw [ef]; exact .tup (by rw [sub_new gt]; exact ft) (.cons (.str z) .nil)) okf
    rcases (show r % 4 = 0 ∨ r % 4 = 1 ∨ r % 4 = 2 ∨ r % 4 = 3 by omega) with e | e | e | e
    · exact ⟨.ref t1, by rw [e]; rfl, fin t1 "text" .text g1 f1 (by simp [enc]) (by simp [okF])⟩
    · exact ⟨.ref t2, by rw [e]; rfl, fin t2 "text" .text g2 f2 (by simp [enc]) (by simp [okF])⟩
    · exact ⟨.ref t3, by rw [e]; rfl, fin t3 "number" .number g3 f3 (by simp [enc]) (by simp [okF])⟩
    · exact ⟨.ref t4, by rw [e]; rfl, fin t4 "flag" .flag g4 f4 (by simp [enc]) (by simp [okF])⟩
  refine ⟨_, rfl, rfl, _, rfl, ?_⟩
  refine ite2 (fun c => iteT ?_) (fun c => ?_)
  · refine ⟨(by show 1 ≤ sizeLine; decide), fun t1 h1 => ⟨(by show 1 ≤ sizeLine; decide), fun t2 h2 => ⟨(by show 1 ≤ sizeLine; decide), fun t3 h3 => ⟨(by show 1 ≤ sizeLine; decide), fun t4 h4 => ⟨(by show 4 ≤ sizeLine; decide), fun l hl => ?_⟩⟩⟩⟩⟩
    obtain ⟨x, ex, qx⟩ := leaf t1 t2 t3 t4 l h1 h2 h3 h4 hl _ rfl
    exact ⟨_, rfl, _, _, rfl, rfl, (by show (0 : Int) < 4; decide), l, _, _, x, rfl, rfl, SqL.of upd_same, ex, qx⟩
  refine ⟨_, rfl, _, _, rfl, rfl, _, rfl, ?_⟩
  refine ite2 (fun c2 => ?_) (fun c2 => ?_)
  · refine ⟨(by show 1 ≤ sizeLine; decide), fun t1 h1 => ⟨(by show 1 ≤ sizeLine; decide), fun t2 h2 => ⟨(by show 1 ≤ sizeLine; decide), fun t3 h3 => ⟨(by show 1 ≤ sizeLine; decide), fun t4 h4 => ⟨(by show 4 ≤ sizeLine; decide), fun l hl => ?_⟩⟩⟩⟩⟩
    obtain ⟨x, ex, qx⟩ := leaf t1 t2 t3 t4 l h1 h2 h3 h4 hl _ rfl
    exact ⟨_, rfl, _, _, rfl, rfl, (by show (0 : Int) < 4; decide), l, _, _, x, rfl, rfl, SqL.of upd_same, ex, qx⟩
  clear leaf
  -- from here on there is a level left
  obtain ⟨n', rfl⟩ : ∃ n', n = n' + 1 := by
    cases n with
    | zero => exact absurd (show decide (V.int ((0 : Nat) : Int) = V.int 0) = true by decide) c
    | succ n' => exact ⟨n', rfl⟩
  have hn : ((n' + 1 : Nat) : Int) - 1 = (n' : Int) := by omega
  have arg : ([V.ref p, V.int (((n' + 1 : Nat) : Int) - 1)] : List V) ++ [] = [.ref p, .int (n' : Int)] := by rw [hn]; rfl
  refine ⟨_, rfl, rfl, _, rfl, ?_⟩
  refine ite2 (fun c3 => ?_) (fun c3 => ?_)
  · refine ⟨_, rfl, _, rfl, _, _, rfl, rfl, p, arg, p1, fun H2 v f k2 p2 dv okf => ⟨(by show 2 ≤ sizeLine; decide), fun t ht => ?_⟩⟩
    have gt : H t = none := d1 _ (k2.dom p2 _ ht)
    refine q _ _ (.list f) (k1.trans (k2.trans (Keep.new ht _))) (p2.same (same_new ht _)) ?_ (by simpa only [okF] using okf)
    simp only [enc]
    refine .tup (by rw [sub_new gt]; exact upd_same) (.cons (.str _) (.cons ?_ .nil))
    exact Dq.same ((sub_left d1).trans (sub_fresh ht)) _ _ dv
  refine ⟨_, rfl, (by show 2 ≤ sizeLine; decide), fun l56 hl56 => ⟨l56, _, rfl, .inl (SqL.of upd_same), rfl, rfl, _, rfl, ?_⟩⟩
  generalize hH2 : upd H1 l56 _ = H2
  have s2 : Same H1 H2 := by rw [← hH2]; exact same_new hl56 _
  have k2 : Keep p H H2 := k1.trans (Same.keep s2)
  have p2 := p1.same s2
  have d2 : Dom H H2 := d1.trans (Same.dom s2)
  clear hH2 hl56 s2
  refine ite2 (fun c4 => ?_) (fun c4 => ?_)
  · -- a record
    refine ⟨_, rfl, _, rfl, p, 3, rfl, p2, by decide, by decide, fun H3 r3 k3 p3 b0 b1 => ⟨_, _, rfl, rfl, p, 1 + r3, rfl, p3, by omega, by omega, fun H4 lw zs k4 p4 n4 e4 z4 nm4 => ?_⟩⟩
    refine ⟨lw, zs, rfl, SqL.of e4, by omega, fun ys l5 perm srt n5 => ?_⟩
    have ylen : ys.length = zs.length := perm.length_eq
    have ynm : Names ys := nm4.perm perm
    generalize hH5 : upd H4 l5 _ = H5
    have s5 : Same H4 H5 := by rw [← hH5]; exact same_new n5 _
    have e5 : H5 l5 = some (.lst (ys.map V.str)) := by rw [← hH5]; exact upd_same
    have k5 : Keep p H H5 := k2.trans (k3.trans (k4.trans (Same.keep s5)))
    have p5 := p4.same s5
    have n5p : l5 ≠ p := p4.ne n5
    clear hH5 s5 n5 e4 n4 k3 p3 k4 p4
    refine ⟨_, rfl, l5, rfl, ⟨_, SqL.of e5⟩, fun D hD => ?_⟩
    have nD := p5.ne hD
    obtain ⟨H6, hH6⟩ : ∃ H6, H6 = upd H5 D (.lst []) := ⟨_, rfl⟩
    have s6 : Same H5 H6 := by rw [hH6]; exact same_new hD _
    have e6 : H6 D = some (.lst []) := by rw [hH6]; exact upd_same
    have p6 := p5.same s6
    have l6 : H6 l5 = some (.lst (ys.map V.str)) := s6 _ _ e5
    have nl : l5 ≠ D := ne_of_none e5 hD
    have has6 : ∃ u, H6 p = some u := p6.has
    have hasD : ∃ u, H6 D = some u := ⟨_, e6⟩
    have d56 : Dom H H6 := (k5.trans (Same.keep s6)).dom p6
    refine lc_list (K := K) (a := l5) (xs := ys.map V.str) (fun i H' => Keep p H5 H' ∧ PoolAt H' p ∧ Dom H6 H' ∧ ∃ (vs : List V) (fs : List (Str × Fm)), H' D = some (.lst vs) ∧ DqAll K (sub H6 H') vs (encFs fs) ∧ fs.map (·.1) = ys.take i ∧ vs.length = i ∧ ∀ g ∈ fs, okF n' g.2)
      (by rw [← hH6]; exact ⟨Same.keep s6, p6, fun _ z => z, [], [], e6, .nil, rfl, rfl, fun _ z => by cases z⟩) (fun i H' _ ⟨k, _⟩ => SqL.of (k _ _ n5p e5)) ?_ ?_
    · rintro i x H' hx ⟨k7, p7, d67, vs, fs, e7, dv7, m7, z7, o7⟩
      obtain ⟨hi, rfl⟩ : ∃ hi : i < ys.length, x = V.str ys[i] := by
        have hlt := (List.getElem?_eq_some_iff.mp hx).1
        rw [List.length_map] at hlt
        rw [List.getElem?_map, List.getElem?_eq_getElem hlt] at hx
        exact ⟨hlt, (Option.some.inj hx).symm⟩
      refine ⟨rfl, yesT ?_⟩
      refine ⟨_, rfl, _, rfl, _, rfl, _, _, rfl, rfl, p, arg, p7, fun H8 v f k8 p8 dv okf => ⟨(by show 2 ≤ sizeLine; decide), fun t ht => ?_⟩⟩
      have e8 : H8 D = some (.lst vs) := k8 _ _ nD e7
      have ntD : t ≠ D := (ne_of_none e8 ht).symm
      have d68 : Dom H6 H8 := d67.trans (k8.dom p8)
      have g6 : H6 t = none := d68 _ ht
      refine ⟨vs, by rw [upd_ne ntD.symm]; exact e8, by rw [z7]; exact small1000 (by omega), ?_⟩
      refine ⟨(k7.trans (k8.trans (Keep.new ht _))).upd hD, (p8.same (same_new ht _)).upd nD, d68.trans (dom_upd.trans dom_upd), vs ++ [.ref t], fs ++ [(ys[i], f)], upd_same, ?_, ?_, ?_, ?_⟩
      · rw [encFs_snoc]
        have carry : Same (sub H6 H8) (sub H6 (upd (upd H8 t (.tup [.str ys[i], v])) D (.lst (vs ++ [.ref t])))) := (sub_fresh ht).trans (sub_upd hasD)
        refine DqAll.snoc ?_ (DqAll.same ((sub_keep k8 has6).trans carry) _ _ dv7)
        refine .tup ?_ (.cons (.str _) (.cons (Dq.same ((sub_left d67).trans carry) _ _ dv) .nil))
        rw [sub_new g6, upd_ne ntD]
        exact upd_same
      · rw [List.map_append, m7, List.take_succ, List.getElem?_eq_getElem hi]
        rfl
      · rw [List.length_append, z7]
        rfl
      · intro g hg
        rcases List.mem_append.mp hg with hg | hg
        · exact o7 g hg
        · rw [List.mem_singleton.mp hg]
          exact okf
    rintro H7 ⟨k7, p7, d67, vs, fs, e7, dv7, m7, z7, o7⟩
    rw [List.length_map] at m7 z7
    rw [List.take_length] at m7
    refine ⟨_, rfl, D, vs, rfl, .inl ⟨SqL.of e7, fun l8 hl8 => ⟨(by show 2 ≤ sizeLine; decide), fun t ht => ?_⟩⟩⟩
    have g8 : H l8 = none := d56 _ (d67 _ hl8)
    have gt : H t = none := (d56.trans d67) _ (dom_upd _ ht)
    have n8 : l8 ≠ t := ne_of_none upd_same ht
    refine q _ _ (.rcd fs) (k5.trans (k7.trans ((Keep.new hl8 _).trans (Keep.new ht _)))) (p7.same ((same_new hl8 _).trans (same_new ht _))) ?_ ?_
    · simp only [enc]
      refine .tup (by rw [sub_new gt]; exact upd_same) (.cons (.str _) (.cons (.tup (by rw [sub_new g8, upd_ne n8]; exact upd_same) ?_) .nil))
      exact DqAll.same ((sub_left d56).trans ((sub_fresh hl8).trans (sub_fresh ht))) _ _ dv7
    · have fl : fs.length = ys.length := by rw [← m7, List.length_map]
      simp only [okF]
      rw [m7]
      exact ⟨ynm, srt, by omega, by omega, o7⟩
  refine ⟨_, rfl, rfl, _, rfl, ?_⟩
  refine ite2 (fun c5 => ?_) (fun c5 => ?_)
  · -- a list by a key
    refine ⟨_, rfl, p, 2, rfl, p2, by decide, by decide, fun H4 lw zs k4 p4 n4 e4 z4 nm4 => ?_⟩
    refine ⟨lw, zs, rfl, SqL.of e4, by omega, fun ys l5 perm srt n5 => ?_⟩
    have ylen : ys.length = zs.length := perm.length_eq
    have ynm : Names ys := nm4.perm perm
    obtain ⟨y0, y1, rfl⟩ : ∃ y0 y1, ys = [y0, y1] := by
      match ys, (show ys.length = 2 by omega) with
      | [a, b], _ => exact ⟨a, b, rfl⟩
    generalize hH5 : upd H4 l5 _ = H5
    have s5 : Same H4 H5 := by rw [← hH5]; exact same_new n5 _
    have e5 : H5 l5 = some (.lst [.str y0, .str y1]) := by rw [← hH5]; exact upd_same
    have k5 : Keep p H H5 := k2.trans (k4.trans (Same.keep s5))
    have p5 := p4.same s5
    have n5p : l5 ≠ p := p4.ne n5
    clear hH5 s5 n5 e4 n4 k4 p4
    refine ⟨(by show 2 ≤ sizeLine; decide), fun lk hlk => ?_⟩
    have p6 := p5.same (same_new hlk (.lst [.str "text", .str "number"]))
    refine ⟨_, rfl, p, 2, rfl, p6, by decide, by decide, fun H7 r2 k7 p7 b0 b1 => ?_⟩
    obtain ⟨num, enum⟩ : ∃ num : Bool, atI [V.str "text", .str "number"] r2 = some (.str (kword num)) := by
      rcases (show r2 = 0 ∨ r2 = 1 by omega) with e | e
      · exact ⟨false, by rw [e]; rfl⟩
      · exact ⟨true, by rw [e]; rfl⟩
    refine ⟨lk, _, r2, _, rfl, rfl, SqL.of (k7 _ _ (p5.ne hlk) upd_same), enum, ?_⟩
    have e7 : H7 l5 = some (.lst [.str y0, .str y1]) := k7 _ _ n5p (same_new hlk _ _ _ e5)
    have kH7 : Keep p H H7 := k5.trans ((Keep.new hlk _).trans k7)
    have dH7 : Dom H H7 := kH7.dom p7
    clear k7 p6 hlk e5 k5 p5
    refine ⟨_, rfl, l5, _, 0, _, rfl, rfl, SqL.of e7, rfl, _, rfl, (by show 1 ≤ sizeLine; decide), fun t1 h1 => ⟨(by show 2 ≤ sizeLine; decide), fun t2 h2 => ?_⟩⟩
    obtain ⟨H8, hH8⟩ : ∃ H8, H8 = upd (upd H7 t1 (.tup [.str (kword num)])) t2 (.tup [.str y0, .ref t1]) := ⟨_, rfl⟩
    rw [← hH8]
    have n12 : t1 ≠ t2 := ne_of_none upd_same h2
    have s8 : Same H7 H8 := by rw [hH8]; exact (same_new h1 _).trans (same_new h2 _)
    have f1 : H8 t1 = some (.tup [.str (kword num)]) := by rw [hH8, upd_ne n12]; exact upd_same
    have f2 : H8 t2 = some (.tup [.str y0, .ref t1]) := by rw [hH8]; exact upd_same
    have g1 : H t1 = none := dH7 _ h1
    have g2 : H t2 = none := dH7 _ (dom_upd _ h2)
    have e8 := s8 _ _ e7
    have p8 := p7.same s8
    have d8 : Dom H H8 := dH7.trans (Same.dom s8)
    have k8 : Keep p H H8 := kH7.trans (Same.keep s8)
    have m1 : t1 ≠ p := p7.ne h1
    have m2 : t2 ≠ p := (p7.same (same_new h1 (.tup [.str (kword num)]))).ne h2
    clear hH8 h1 h2 s8 kH7 dH7
    refine ⟨_, rfl, l5, _, 1, _, rfl, rfl, SqL.of e8, rfl, _, rfl, _, rfl, _, _, rfl, rfl, p, arg, p8, fun H9 v f k9 p9 dv okf => ?_⟩
    have q1 := k9 _ _ m1 f1
    have q2 := k9 _ _ m2 f2
    have e9 := k9 _ _ n5p e8
    have d9 : Dom H H9 := d8.trans (k9.dom p9)
    refine ⟨(by show 2 ≤ sizeLine; decide), fun t3 h3 => ⟨(by show 2 ≤ sizeLine; decide), fun t4 h4 => ⟨(by show 2 ≤ sizeLine; decide), fun t5 h5 => ?_⟩⟩⟩
    have s3 := same_new h3 (.tup [.str y1, v])
    have s4 := same_new h4 (.tup [.ref t2, .ref t3])
    have s5 := same_new h5 (.tup [.str "record", .ref t4])
    refine ⟨_, rfl, l5, _, 0, _, rfl, rfl, SqL.of ((s3.trans (s4.trans s5)) _ _ e9), rfl, (by show 3 ≤ sizeLine; decide), fun t6 h6 => ?_⟩
    have s6 := same_new h6 (.tup [.str "keyed", .ref t5, .str y0])
    have g3 : H t3 = none := d9 _ h3
    have g4 : H t4 = none := (d9.trans dom_upd) _ h4
    have g5 : H t5 = none := (d9.trans (dom_upd.trans dom_upd)) _ h5
    have g6 : H t6 = none := (d9.trans (dom_upd.trans (dom_upd.trans dom_upd))) _ h6
    have all := s3.trans (s4.trans (s5.trans s6))
    refine q _ _ (.keyed y0 num y1 f) (k8.trans (k9.trans (Same.keep all))) (p9.same all) ?_ ?_
    · simp only [enc]
      refine .tup (by rw [sub_new g6]; exact upd_same) (.cons (.str _) (.cons ?_ (.cons (.str _) .nil)))
      refine .tup (by rw [sub_new g5]; exact s6 _ _ upd_same) (.cons (.str _) (.cons ?_ .nil))
      refine .tup (by rw [sub_new g4]; exact (s5.trans s6) _ _ upd_same) (.cons ?_ (.cons ?_ .nil))
      · refine .tup (by rw [sub_new g2]; exact all _ _ q2) (.cons (.str _) (.cons ?_ .nil))
        exact .tup (by rw [sub_new g1]; exact all _ _ q1) (.cons (.str _) .nil)
      · refine .tup (by rw [sub_new g3]; exact (s4.trans (s5.trans s6)) _ _ upd_same) (.cons (.str _) (.cons ?_ .nil))
        refine Dq.same ((sub_left d8).trans ?_) _ _ dv
        exact (sub_fresh h3).trans ((sub_fresh h4).trans ((sub_fresh h5).trans (sub_fresh h6)))
    · simp only [okF]
      exact ⟨ynm, srt, okf⟩
  · refine ⟨_, rfl, _, rfl, _, _, rfl, rfl, p, arg, p2, fun H3 v f k3 p3 dv okf => ?_⟩
    have d3 : Dom H2 H3 := k3.dom p3
    obtain ⟨a, xs, rfl, ea, e0⟩ := enc_head f (Dq.same (sub_same _ _) _ _ dv)
    refine ⟨_, rfl, a, xs, 0, .str f.word, rfl, rfl, SqT.of ea, at_of (j := 0) rfl e0, rfl, _, rfl, ?_⟩
    refine ite2 (fun c6 => ?_) (fun c6 => ?_)
    · exact ⟨_, rfl, q _ _ f (k2.trans k3) p3 (Dq.same (sub_left d2) _ _ dv) (okF_up _ _ okf)⟩
    · refine ⟨_, rfl, (by show 2 ≤ sizeLine; decide), fun t ht => ?_⟩
      have gt : H t = none := (d2.trans d3) _ ht
      refine q _ _ (.opt f) (k2.trans (k3.trans (Keep.new ht _))) (p3.same (same_new ht _)) ?_ ?_
      · simp only [enc]
        refine .tup (by rw [sub_new gt]; exact upd_same) (.cons (.str _) (.cons ?_ .nil))
        exact Dq.same ((sub_left d2).trans (sub_fresh ht)) _ _ dv
      · simp only [okF]
        refine ⟨okf, ?_⟩
        cases f with
        | opt g => exact absurd (show decide (V.str (Fm.opt g).word = V.str "optional") = true from decide_eq_true rfl) c6
        | _ => rfl
theorem ok_form {f fdr fwo : Addr} {fd fdd fdw : FuncData} (F : Fun K "_law_form" "_law_form" s_form f fd) (T : Bl mg) (g : mg "_law_form" = some (.ref f)) (b : Binds K fd P_form []) (D_draw : Def P w K mg base "_law_draw" 1 P_draw spDraw fdr fdd) (D_words : Def P w K mg base "_law_words" 2 P_words spWords fwo fdw) :
    ∀ n : Nat, FnOk P w K mg base CX0 (n + 2) f fd P_form (spFormL K n)
  | 0 => ⟨fun _ _ _ _ h => h.elim, fun _ _ _ _ _ _ _ _ _ _ _ _ _ h => h.elim⟩
  | n + 1 => ok_formS F T D_draw D_words ⟨g, F.kp, b, ok_form F T g b D_draw D_words n⟩
end
end KX

namespace KX
open PySem PySem.Spec L2 PyProof.Rows
/-! ### sorted texts are in one order -/
theorem rising_pw : ∀ (l : List Str) (p : Str), risingS p l = true → (∀ x ∈ l, p.cps.toList ≤ x.cps.toList) ∧ l.Pairwise (fun a b => a.cps.toList ≤ b.cps.toList)
  | [], _, _ => ⟨(fun _ h => nomatch h), List.Pairwise.nil⟩
  | x :: r, p, h => by
    unfold risingS at h
    simp only [Bool.and_eq_true, Bool.not_eq_true', ltCps_eq, decide_eq_false_iff_not] at h
    obtain ⟨h1, h2⟩ := rising_pw r x h.2
    have hp : p.cps.toList ≤ x.cps.toList := List.not_lt.mp h.1
    refine ⟨fun y hy => ?_, .cons h1 h2⟩
    rcases List.mem_cons.mp hy with rfl | hy
    · exact hp
    · exact List.le_trans hp (h1 y hy)
theorem sorted_pw {l : List Str} (h : sortedS l = true) : l.Pairwise (fun a b => a.cps.toList ≤ b.cps.toList) := by
  cases l with
  | nil => exact .nil
  | cons x r =>
    obtain ⟨h1, h2⟩ := rising_pw r x h
    exact .cons h1 h2
theorem if_ff {c : Bool} {A B : Prop} (hc : c = false) (h : B) : if c = true then A else B := by
  rw [hc]
  exact iteF h
theorem if_tt {c : Bool} {A B : Prop} (hc : c = true) (h : A) : if c = true then A else B := by
  rw [hc]
  exact iteT h
/-! ### signs -/
/-- the whole numbers of the module, each with its token -/
structure Lm (mg : Str → Option Value) (t : Str → Tok) : Prop where
  NEWLINE : mg "NEWLINE" = some (.int 10 (t "NEWLINE"))
  SPACE : mg "SPACE" = some (.int 32 (t "SPACE"))
  PERCENT : mg "PERCENT" = some (.int 37 (t "PERCENT"))
  TILDE : mg "TILDE" = some (.int 126 (t "TILDE"))
  MAX_ELEMENTS : mg "MAX_ELEMENTS" = some (.int 60 (t "MAX_ELEMENTS"))
  MAX_LEVELS : mg "MAX_LEVELS" = some (.int 6 (t "MAX_LEVELS"))
  MAX_LETTERS : mg "MAX_LETTERS" = some (.int 12 (t "MAX_LETTERS"))
theorem one_lt (c d : Nat) : (⟨#[c]⟩ : Str).cps.toList < (⟨#[d]⟩ : Str).cps.toList ↔ c < d := by
  show [c] < [d] ↔ c < d
  constructor
  · intro h
    rcases h with _ | h | h
    · assumption
    · cases h
  · exact List.Lex.rel
theorem one_le (c d : Nat) : (!decide ((⟨#[d]⟩ : Str).cps.toList < (⟨#[c]⟩ : Str).cps.toList)) = decide (c ≤ d) := by
  have e : decide ((⟨#[d]⟩ : Str).cps.toList < (⟨#[c]⟩ : Str).cps.toList) = decide (d < c) := by
    rw [decide_eq_decide]
    exact one_lt d c
  rw [e, Bool.eq_iff_iff]
  simp only [Bool.not_eq_true', decide_eq_false_iff_not, decide_eq_true_eq]
  omega
theorem Same.updNew {G G' : Hp} {D : Addr} {o : HO} (k : Same G G') (new : G D = none) : Same G (upd G' D o) := fun b u there =>
  (upd_ne (ne_of_none there new)).trans (k b u there)
theorem Same.unlock {G G' : Hp} {d : Addr} {f u : HO} (k : Same (upd G d f) G') (was : G d = some u) : Same G (upd G' d u) := by
  intro b o there
  rcases Classical.em (b = d) with rfl | other
  · exact upd_same.trans (was.symm.trans there)
  · exact (upd_ne other).trans (k b o ((upd_ne other).trans there))
theorem less_line {n : Nat} (h : n ≤ 1000) : n < sizeLine := small1000 h
def trues (n : Nat) : List V := (List.replicate n true).map V.bl
theorem trues_more (n : Nat) : trues n ++ [V.bl true] = trues (n + 1) := by
  simp [trues, List.replicate_succ']
theorem trues_len (n : Nat) : (trues n).length = n := by simp [trues]
theorem trues_all (n : Nat) : (List.replicate n true).all id = true := by simp
section
variable {base : Heap} {P : Program} {w : World} {K : PySem.W.Frag} {mg : Str → Option Value} {tk : Str → Tok}
abbrev s_is_letter : Stmt := top 13
abbrev N_is_letter : List Str := ["sign"]
abbrev P_is_letter : List Str := ["sign"]
theorem sc_is_letter : FnScope N_is_letter P_is_letter (defScope s_is_letter) := ⟨rfl, rfl, rfl, by decide +kernel, rfl, by decide +kernel, by decide +kernel⟩
def spBetween (lo hi : Nat) : Sp := fun vs H Q _ => ∃ c : Nat, vs = [.str ⟨#[c]⟩] ∧ Q (.bl (decide (lo ≤ c ∧ c ≤ hi))) H
theorem between_of {lo hi c : Nat} {Q : VK} {H : Hp} (q : Q (.bl (decide (lo ≤ c ∧ c ≤ hi))) H) : if decide (lo ≤ c) = true then Q (.bl (decide (c ≤ hi))) H else Q (.bl false) H := by
  refine ite2 (fun a => ?_) (fun a => ?_)
  · rw [decide_eq_true_eq] at a
    have e : decide (c ≤ hi) = decide (lo ≤ c ∧ c ≤ hi) := by
      rw [decide_eq_decide]
      exact ⟨fun b => ⟨a, b⟩, fun b => b.2⟩
    rw [e]
    exact q
  · rw [decide_eq_true_eq] at a
    rw [decide_eq_false (fun h => a h.1)] at q
    exact q
theorem ok_is_letter {f : Addr} {fd : FuncData} (F : Fun K "is_letter" "is_letter" s_is_letter f fd) : FnOk P w K mg base CX0 1 f fd P_is_letter (spBetween 97 122) := by
  refine F.ok sc_is_letter (fun vs H Q E h => ?_) (fun cdv A outer s H vs Q E hr h => ?_)
  · obtain ⟨c, rfl, _⟩ := h
    rfl
  obtain ⟨c, rfl, q⟩ := h
  refine ⟨_, (pss_one (ps_ret (pe_chain op_le_str op_le_str pe_str (pv 0) pe_str))), ?_⟩
  have lo : (!decide ((⟨#[c]⟩ : Str).cps.toList < (("a" : Str)).cps.toList)) = decide (97 ≤ c) := one_le 97 c
  have hi : (!decide ((("z" : Str)).cps.toList < (⟨#[c]⟩ : Str).cps.toList)) = decide (c ≤ 122) := one_le c 122
  have both := between_of q
  refine ⟨_, rfl, _, _, rfl, rfl, _, rfl, ?_⟩
  rw [lo]
  refine ite2 (fun a => ⟨_, _, rfl, rfl, ?_⟩) (fun a => ?_)
  · rw [if_pos a] at both
    rw [hi]
    exact both
  · rw [if_neg a] at both
    exact both
abbrev s_is_name : Stmt := top 16
abbrev N_is_name : List Str := ["thing", "letter"]
abbrev P_is_name : List Str := ["thing"]
theorem sc_is_name : FnScope N_is_name P_is_name (defScope s_is_name) := ⟨rfl, rfl, rfl, by decide +kernel, rfl, by decide +kernel, by decide +kernel⟩
def spIsName : Sp := fun vs H Q _ => ∃ z : Str, vs = [.str z] ∧ IsNm z ∧ ∀ H', Same H H' → Q (.bl true) H'
theorem ok_is_name {f g : Addr} {fd gd : FuncData} (F : Fun K "is_name" "is_name" s_is_name f fd) (T : Bl mg) (L : Lm mg tk) (D_is_letter : Def P w K mg base "is_letter" 1 P_is_letter (spBetween 97 122) g gd) : FnOk P w K mg base CX0 2 f fd P_is_name spIsName := by
  refine F.ok sc_is_name (fun vs H Q E h => ?_) (fun cdv A outer s H vs Q E hr h => ?_)
  · obtain ⟨c, rfl, _⟩ := h
    rfl
  obtain ⟨z, rfl, ⟨z1, z2, z3⟩, q⟩ := h
  have zs : z.length ≤ sizeLine := Nat.le_of_lt (less_line (by omega))
  refine ⟨_, (pss_cons (ps_if (PW.pt (pw_or (pt_not (pt_val (pe_callB call_isi (by rfl) T.isinstance (by decide +kernel) (pa_cons (pv 0) (pa_cons (pe_bltn (v := .ty "str") (by rfl) T.str (by decide +kernel) rfl) pa_nil))))) (pw_or1 (pt_not (pt_chain op_le op_le pe_int (pe_callB (call_lenK K rfl) (by rfl) T.len PySem.boot_len (pa_cons (pv 0) pa_nil)) (pe_glob (v := .int 12) rfl L.MAX_LETTERS ⟨_, rfl⟩))))))
      (pss_one (ps_ret pe_bl))
      pss_nil)
    (pss_one (ps_ret (pe_callB (cr_all rfl) (by rfl) T.all (by decide +kernel) (pa_cons (pe_lc (own := [("letter", 1)]) (g := (gName 1)) (tt := tYes) rfl sc_is_name.nd (pi_str (pv 0)) (blkOk_by (own := [("letter", 1)]) (N := N_is_name) (sc := defScope s_is_name) (by decide +kernel)) (fun _ _ _ _ _ => (pg_name (i := 1) sc_is_name.nd rfl (Or.inl rfl))) (fun _ _ _ _ _ => pts_nil) (fun _ _ _ _ _ => (pe_call D_is_letter.ok (hr.mono (by first | decide | omega)) rfl D_is_letter.g D_is_letter.kp D_is_letter.b .nil pass0 (pa_cons (pv 1) pa_nil)))) pa_nil))))), ?_⟩
  refine ⟨_, rfl, _, _, _, _, true, rfl, .ty _, .base (.str _), kit_ty (by decide +kernel), _, rfl, if_ff rfl ?_⟩
  refine ⟨_, rfl, _, z.length, rfl, ⟨zs, rfl⟩, _, _, rfl, rfl, _, rfl, if_tt (decide_eq_true (by omega)) ⟨_, _, rfl, rfl, _, rfl, if_ff ?_ ?_⟩⟩
  · rw [decide_eq_true (by omega)]
    rfl
  refine ⟨_, rfl, z, rfl, fun D new => ?_⟩
  refine lc_it walk_str (fun i G => Same H G ∧ G D = some (.lst (trues i))) ⟨same_new new _, upd_same⟩ (fun _ _ _ _ => trivial) ?_ ?_
  · rintro i x G2 G hi ⟨kept, made⟩ ⟨rfl, c, at', rfl⟩
    have cm : c ∈ ql z := List.mem_of_getElem? (by rw [← Array.getElem?_toList] at at'; exact at')
    have sz : z.cps.size = z.length := rfl
    refine ⟨rfl, yesT ⟨_, rfl, c, rfl, _, made, ?_, Same.updNew kept new, ?_⟩⟩
    · rw [trues_len]
      exact less_line (by omega)
    · rw [upd_same, decide_eq_true (z3 c cm), trues_more]
  · rintro G ⟨kept, made⟩
    refine ⟨D, _, rfl, SqL.of made, ?_⟩
    rw [trues_all]
    exact q G kept
end
end KX

namespace KX
open PySem PySem.Spec L2 PyProof.Rows
theorem sorted_one {ys zs : List Str} (p : ys.Perm zs) (h1 : sortedS ys = true) (h2 : sortedS zs = true) : ys = zs :=
  List.Perm.eq_of_pairwise (le := fun a b : Str => a.cps.toList ≤ b.cps.toList) (fun a b _ _ h h' => ql_ext (List.le_antisymm h h')) (sorted_pw h1) (sorted_pw h2) p
section
variable {base : Heap} {P : Program} {w : World} {K : PySem.W.Frag} {mg : Str → Option Value} {tk : Str → Tok}
theorem strs_dp {H : Hp} : ∀ (ys : List Str), DpAll K H (ys.map V.str) (ys.map PyData.str)
  | [] => .nil
  | y :: r => .cons (.str y) (strs_dp r)
theorem strs_eqv : ∀ ys : List Str, PyData.eqv (.list (ys.map PyData.str)) (.list (ys.map PyData.str)) = true := fun ys => by
  refine PySem.SeqAt.eqv_refl_plain _ ?_
  induction ys with
  | nil => rfl
  | cons y r ih => exact ih
theorem strs_shaped {ys : List Str} (h : ∀ z ∈ ys, IsNm z) : SeqAt.shaped (.list (ys.map PyData.str)) = true := by
  unfold SeqAt.shaped
  rw [Bool.and_eq_true, decide_eq_true_eq]
  constructor
  · show PyData.canLayAll0 (ys.map PyData.str) = true
    induction ys with
    | nil => rfl
    | cons y r ih =>
      have h1 := h y List.mem_cons_self
      rw [List.map_cons]
      simp only [PyData.canLayAll0, PyData.canLay0]
      rw [ih fun z hz => h z (List.mem_cons_of_mem _ hz), Bool.and_true]
      show (y.cps.all (· < 0x110000)) = true
      rw [Array.all_eq_true]
      intro i hi
      have := h1.2.2 y.cps[i] (List.mem_of_getElem? (i := i) (by rw [show ql y = y.cps.toList from rfl, Array.getElem?_toList]; exact Array.getElem?_eq_getElem hi))
      simp only [decide_eq_true_eq]
      omega
  · have d : PyData.depthAll (ys.map PyData.str) ≤ 1 := by
      induction ys with
      | nil => simp [PyData.depthAll]
      | cons y r ih =>
        have := ih fun z hz => h z (List.mem_cons_of_mem _ hz)
        simp only [List.map_cons, PyData.depthAll, PyData.depth]
        omega
    simp only [PyData.depth]
    omega
end
end KX

namespace KX
open PySem PySem.Spec L2 PyProof.Rows
/-! ### a reader of a text -/
/-- at r: a reader of z that stands at i -/
def Rd (RC : Addr) (H : Hp) (r : Addr) (z : Str) (i : Nat) : Prop := ∃ dx, H r = some (.ins RC dx [("written", .str z), ("at", .int (i : Int))])
theorem Rd.same {RC : Addr} {H H' : Hp} {r : Addr} {z : Str} {i : Nat} (h : Rd RC H r z i) (s : Same H H') : Rd RC H' r z i := h.imp fun _ e => s _ _ e
theorem Rd.has {RC : Addr} {H : Hp} {r : Addr} {z : Str} {i : Nat} (h : Rd RC H r z i) : ∃ o, H r = some o := let ⟨_, e⟩ := h; ⟨_, e⟩
/-- a reader goes on, nothing else is laid or changed -/
structure Goes (r : Addr) (H H' : Hp) : Prop where
  keep : Keep r H H'
  dom : ∀ b, H b = none → H' b = none
theorem Goes.refl (r : Addr) (H : Hp) : Goes r H H := ⟨Keep.refl _ _, fun _ h => h⟩
theorem Goes.trans {r : Addr} {H H1 H2 : Hp} (a : Goes r H H1) (b : Goes r H1 H2) : Goes r H H2 := ⟨a.keep.trans b.keep, fun c h => b.dom c (a.dom c h)⟩
theorem Goes.put {r : Addr} {H : Hp} {o u : HO} (h : H r = some u) : Goes r H (upd H r o) := ⟨Keep.self, fun b e => by
  rw [upd_ne (fun z => by rw [z, h] at e; cases e)]
  exact e⟩
/-- S stands at the beginning of L -/
def pre (S L : List Nat) : Bool := L.take S.length == S
theorem pre_fits {S L : List Nat} (h : pre S L = true) : S.length ≤ L.length := by
  have e : L.take S.length = S := eq_of_beq h
  have := congrArg List.length e
  rw [List.length_take] at this
  omega
/-- the text stands at i -/
theorem sw3_at {x y : Str} {i : Nat} (h : i ≤ x.length) : Txt.startswith3 x y (i : Int) = pre (ql y) ((ql x).drop i) := by
  have f : fromIndex x.length (i : Int) = i := by
    unfold fromIndex
    rw [if_neg (by omega)]
    omega
  unfold Txt.startswith3
  rw [f, PySem.StrLaws.subAt_eq]
  cases p : pre (ql y) ((ql x).drop i) with
  | true =>
    have l := pre_fits p
    rw [List.length_drop, ← ql_len, ← ql_len] at l
    have e : ((x.cps.toList.drop i).take y.length == y.cps.toList) = true := by
      rw [ql_len y]
      exact p
    rw [e, Bool.and_true, decide_eq_true]
    omega
  | false =>
    have e : ((x.cps.toList.drop i).take y.length == y.cps.toList) = false := by
      rw [ql_len y]
      exact p
    rw [e, Bool.and_false]
/-- a method and its promise -/
structure MtD (P : Program) (w : World) (K : PySem.W.Frag) (mg : Str → Option Value) (base : Heap) (C : Addr) (m : Str) (n : Nat) (ps : List Str) (sp : Sp) (f : Addr) (fd : FuncData) : Prop where
  cl : Cls K C
  me : Meth K C m f
  b : Binds K fd ps []
  ok : FnOk P w K mg base CX0 n f fd ps sp
/-- a def that a name of another def's own holds -/
theorem pe_held {X : Cx} {x : Str} {p pos : Pos} {e : Expr} {es : List Expr} {t : TA} {i k : Nat} {f : Addr} {fd : FuncData} {ps : List Str} {sp : Sp} (F : FnOk X.prog X.w X.K X.mg X.base CX0 k f fd ps sp) (kept : PySem.W.keepIn X.K (.ref f) = true) (binds : Binds X.K fd ps []) (room : Room k X.A)
    (slot : X.N[i]? = some x) (own : Vis X.env.scope x) (args : PA X (e :: es) t) (d1 : (x == ("__debug__" : Str)) = false := by decide) (d2 : (x == ("__classdict__" : Str)) = false := by decide)
    (stars : starEach (e :: es) X.env = (false, eval e X.env) :: starEach es X.env := by rfl) (noStar : (backTo pos (starEach es X.env)).any (·.1) = false := by rfl) :
    PE X (.Call (.Name x p) (e :: es) [] pos) (fun σ H Q => σ[i]? = some (some (.ref f)) ∧ t σ H fun vs H1 => sp vs H1 Q E0) := by
  constructor
  rintro pins s σ H Q I ⟨here, want⟩
  have name := (pe_var (pos := p) slot own d1 d2).run pins s σ H (fun v G => v = .ref f ∧ G = H) I ⟨_, here, rfl, rfl⟩
  refine wpAny_Call_Name_kw (thn name ?_)
  rintro u s1 ⟨v, G, J, rel, rfl, rfl⟩
  obtain rfl : u = Value.ref f := rel
  refine PySem.W.callWith_K (h₀ := X.base) J.ok.mod.kin kept (thn (args.run pos pins s1 σ _ _ J want) ?_) stars noStar
  rintro us s2 ⟨vs, G2, J2, rels, asked⟩
  exact ⟨J2.kIn, run_fn F room binds .nil pass0 J2 rels (by rw [List.append_nil]; exact asked)⟩
section
variable {base : Heap} {P : Program} {w : World} {K : PySem.W.Frag} {mg : Str → Option Value} {tk : Str → Tok} {RC : Addr}
/-- what the written part says of the class of readers -/
structure RdC (K : PySem.W.Frag) (RC : Addr) : Prop where
  cl : Cls K RC
  written : NoAttr K RC "written"
  at' : NoAttr K RC "at"
abbrev s_skips : Stmt := inClass (top 18) 1
abbrev N_skips : List Str := ["self", "word"]
abbrev P_skips : List Str := ["self", "word"]
theorem sc_skips : FnScope N_skips P_skips (defScope s_skips) := ⟨rfl, rfl, rfl, by decide +kernel, rfl, by decide +kernel, by decide +kernel⟩
def spSkips (RC : Addr) : Sp := fun vs H Q _ => ∃ (r : Addr) (z w : Str) (i : Nat), vs = [.ref r, .str w] ∧ Rd RC H r z i ∧ i ≤ z.length ∧ w.length ≤ 1000 ∧
  ∀ H' : Hp, Goes r H H' → Rd RC H' r z (if pre (ql w) ((ql z).drop i) = true then i + w.length else i) → Q (.bl (pre (ql w) ((ql z).drop i))) H'
theorem ok_skips {f : Addr} {fd : FuncData} (F : Fun K "skips" "Reader.skips" s_skips f fd) (T : Bl mg) (C : RdC K RC) : FnOk P w K mg base CX0 1 f fd P_skips (spSkips RC) := by
  refine F.ok sc_skips (fun vs H Q E h => ?_) (fun cdv A outer s H vs Q E hr h => ?_)
  · obtain ⟨r, z, w, i, rfl, _⟩ := h
    rfl
  obtain ⟨r, z, w, i, rfl, ⟨dx, at'⟩, hi, hw, q⟩ := h
  refine ⟨_, (pss_cons (ps_if (pt_not (pt_val (pe_bm PySem.F.plainAttrs_str PySem.F.slot_str_startswith PySem.F.type_str_startswith mt_startswith3 (pe_fld (pv 0) rfl) (pa_cons (pv 1) (pa_cons (pe_fld (pv 0) rfl) pa_nil)))))
      (pss_one (ps_ret pe_bl))
      pss_nil)
    (pss_cons (ps_fldaug (pv 0) (pe_callB (call_lenK K rfl) (by rfl) T.len PySem.boot_len (pa_cons (pv 1) pa_nil)) in_add)
    (pss_one (ps_ret pe_bl)))), ?_⟩
  refine ⟨_, rfl, r, RC, dx, _, _, rfl, at', C.cl, C.written, rfl, rfl, _, rfl, _, rfl, r, RC, dx, _, _, rfl, at', C.cl, C.at', rfl, z, w, (i : Int), rfl, rfl, _, rfl, ?_⟩
  rw [sw3_at hi]
  cases p : pre (ql w) ((ql z).drop i) with
  | false =>
    rw [p] at q
    exact if_tt rfl (q H (Goes.refl _ _) ⟨dx, at'⟩)
  | true =>
    rw [p] at q
    refine if_ff rfl ⟨_, rfl, r, RC, dx, _, _, rfl, at', C.cl, C.at', rfl, _, rfl, _, w.length, rfl, ⟨Nat.le_of_lt (less_line hw), rfl⟩, _, _, rfl, rfl, dx, _, at', (by show 2 < 1000; decide), ?_⟩
    refine q _ (Goes.put at') ⟨dx, ?_⟩
    rw [upd_same]
    show some (HO.ins RC dx [("written", .str z), ("at", .int ((i : Int) + (w.length : Int)))]) = _
    rw [if_pos rfl, Int.natCast_add]
abbrev s_ended : Stmt := inClass (top 18) 9
abbrev N_ended : List Str := ["self"]
abbrev P_ended : List Str := ["self"]
theorem sc_ended : FnScope N_ended P_ended (defScope s_ended) := ⟨rfl, rfl, rfl, by decide +kernel, rfl, by decide +kernel, by decide +kernel⟩
def spEnded (RC : Addr) : Sp := fun vs H Q _ => ∃ (r : Addr) (z : Str) (i : Nat), vs = [.ref r] ∧ Rd RC H r z i ∧ z.length ≤ sizeLine ∧ Q (.bl (decide (i = z.length))) H
theorem ok_ended {f : Addr} {fd : FuncData} (F : Fun K "ended" "Reader.ended" s_ended f fd) (T : Bl mg) (C : RdC K RC) : FnOk P w K mg base CX0 1 f fd P_ended (spEnded RC) := by
  refine F.ok sc_ended (fun vs H Q E h => ?_) (fun cdv A outer s H vs Q E hr h => ?_)
  · obtain ⟨r, z, i, rfl, _⟩ := h
    rfl
  obtain ⟨r, z, i, rfl, ⟨dx, at'⟩, hz, q⟩ := h
  refine ⟨_, (pss_one (ps_ret (pe_cmpR op_eq (pe_fld (pv 0) rfl) (pe_callB (call_lenK K rfl) (by rfl) T.len PySem.boot_len (pa_cons (pe_fld (pv 0) rfl) pa_nil)) (nomark _)))), ?_⟩
  refine ⟨_, rfl, r, RC, dx, _, _, rfl, at', C.cl, C.at', rfl, _, rfl, r, RC, dx, _, _, rfl, at', C.cl, C.written, rfl, _, z.length, rfl, ⟨hz, rfl⟩, rfl, ?_⟩
  have e : decide (V.int (i : Int) = V.int (z.length : Int)) = decide (i = z.length) := by
    rw [decide_eq_decide]
    exact ⟨fun h => by have := V.int.inj h; omega, fun h => by rw [h]⟩
  rw [e]
  exact q
abbrev s_starts : Stmt := inClass (top 18) 2
abbrev N_starts : List Str := ["self", "is_wanted"]
abbrev P_starts : List Str := ["self", "is_wanted"]
theorem sc_starts : FnScope N_starts P_starts (defScope s_starts) := ⟨rfl, rfl, rfl, by decide +kernel, rfl, by decide +kernel, by decide +kernel⟩
/-- the sign that stands here -/
def hereIs (z : Str) (i : Nat) : Bool := match (ql z)[i]? with
  | some c => decide (97 ≤ c ∧ c ≤ 122)
  | none => false
def spStarts (RC fl : Addr) : Sp := fun vs H Q _ => ∃ (r : Addr) (z : Str) (i : Nat), vs = [.ref r, .ref fl] ∧ Rd RC H r z i ∧ i ≤ z.length ∧ z.length ≤ sizeLine ∧ Q (.bl (hereIs z i)) H
theorem ok_starts {f fl fe : Addr} {fd dl de : FuncData} (F : Fun K "starts" "Reader.starts" s_starts f fd) (C : RdC K RC) (M_ended : MtD P w K mg base RC "ended" 1 P_ended (spEnded RC) fe de) (CL : Def P w K mg base "is_letter" 1 P_is_letter (spBetween 97 122) fl dl) : FnOk P w K mg base CX0 2 f fd P_starts (spStarts RC fl) := by
  refine F.ok sc_starts (fun vs H Q E h => ?_) (fun cdv A outer s H vs Q E hr h => ?_)
  · obtain ⟨r, z, i, rfl, _⟩ := h
    rfl
  obtain ⟨r, z, i, rfl, ⟨dx, at'⟩, hi, hz, q⟩ := h
  refine ⟨_, (pss_one (ps_ret (pe_and (pe_not (pe_meth0 (pv 0) M_ended.cl M_ended.me M_ended.ok (hr.mono (by first | decide | omega)) M_ended.b .nil pass0)) (pe_one (pe_held (i := 1) CL.ok CL.kp CL.b (hr.mono (by first | decide | omega)) rfl (.inl rfl) (pa_cons (pe_ix ix_str (pe_fld (pv 0) rfl) (pe_fld (pv 0) rfl) (fun _ _ => rfl)) pa_nil)))))), ?_⟩
  refine ⟨_, rfl, r, dx, _, rfl, at', rfl, r, z, i, rfl, ⟨dx, at'⟩, hz, _, rfl, _, rfl, ?_⟩
  by_cases e : i = z.length
  · have no : (ql z)[i]? = none := by
      rw [List.getElem?_eq_none_iff, ← ql_len]
      omega
    rw [decide_eq_true e]
    refine if_ff rfl ?_
    unfold hereIs at q
    rw [no] at q
    exact q
  · have lt : i < (ql z).length := by rw [← ql_len]; omega
    rw [decide_eq_false e]
    refine if_tt rfl ⟨rfl, ?_⟩
    have c := List.getElem?_eq_getElem lt
    refine ⟨_, rfl, r, RC, dx, _, _, rfl, at', C.cl, C.written, rfl, _, rfl, r, RC, dx, _, _, rfl, at', C.cl, C.at', rfl, z, (i : Int), (ql z)[i], rfl, rfl, hz, (atI_nat c), (ql z)[i], rfl, ?_⟩
    unfold hereIs at q
    rw [c] at q
    exact q
abbrev s_letters : Stmt := inClass (top 18) 7
abbrev N_letters : List Str := ["self", "start"]
abbrev P_letters : List Str := ["self"]
theorem sc_letters : FnScope N_letters P_letters (defScope s_letters) := ⟨rfl, rfl, rfl, by decide +kernel, rfl, by decide +kernel, by decide +kernel⟩
/-- how many letters stand here -/
def run (L : List Nat) : Nat := (L.takeWhile fun c => decide (97 ≤ c ∧ c ≤ 122)).length
def spLetters (RC : Addr) : Sp := fun vs H Q _ => ∃ (r : Addr) (z : Str) (i : Nat), vs = [.ref r] ∧ Rd RC H r z i ∧ i ≤ z.length ∧ z.length ≤ sizeLine ∧
  ∀ H' : Hp, Goes r H H' → Rd RC H' r z (i + run ((ql z).drop i)) → Q (.str ⟨(((ql z).drop i).take (run ((ql z).drop i))).toArray⟩) H'
theorem run_here {L : List Nat} {j : Nat} (h : j ≤ run L) : (match L[j]? with | some c => decide (97 ≤ c ∧ c ≤ 122) | none => false) = decide (j < run L) := by
  induction L generalizing j with
  | nil =>
    have : j = 0 := by simpa [run] using h
    subst this
    rfl
  | cons c L ih =>
    unfold run at h ⊢
    rw [List.takeWhile_cons] at h ⊢
    by_cases ok : decide (97 ≤ c ∧ c ≤ 122) = true
    · rw [if_pos ok] at h ⊢
      cases j with
      | zero => simpa using ok
      | succ j =>
        have := ih (j := j) (by unfold run; simpa using h)
        unfold run at this
        simpa using this
    · rw [if_neg ok] at h ⊢
      have : j = 0 := by simpa using h
      subst this
      simpa using ok
theorem run_le (L : List Nat) : run L ≤ L.length := by
  unfold run
  exact (List.takeWhile_prefix _).length_le
theorem cut_two {z : Str} {i j : Nat} (h : i ≤ j) (l : j ≤ z.length) : cutS z (some (i : Int)) (some (j : Int)) = ⟨(((ql z).drop i).take (j - i)).toArray⟩ := by
  unfold cutS
  rw [HT.sIx_nat, HT.sIx_nat]
  have a : min i z.length = i := by omega
  have b : min j z.length = j := by omega
  rw [a, b]
theorem ok_letters {f fl fs : Addr} {fd dl ds : FuncData} (F : Fun K "letters" "Reader.letters" s_letters f fd) (C : RdC K RC) (M_starts : MtD P w K mg base RC "starts" 2 P_starts (spStarts RC fl) fs ds) (CL : Def P w K mg base "is_letter" 1 P_is_letter (spBetween 97 122) fl dl) : FnOk P w K mg base CX0 3 f fd P_letters (spLetters RC) := by
  refine F.ok sc_letters (fun vs H Q E h => ?_) (fun cdv A outer s H vs Q E hr h => ?_)
  · obtain ⟨r, z, i, rfl, _⟩ := h
    rfl
  obtain ⟨r, z, i, rfl, ⟨dx, at'⟩, hi, hz, q⟩ := h
  refine ⟨_, (pss_cons (ps_set (i := 1) sc_letters.nd rfl (Or.inl rfl) (pe_fld (pv 0) rfl))
    (pss_cons (ps_while PassesOwn.never (pt_val (pe_meth (pv 0) M_starts.cl M_starts.me M_starts.ok (hr.mono (by first | decide | omega)) M_starts.b .nil pass0 (pa_cons (pe_glob (v := .ref fl) rfl CL.g rfl) pa_nil)))
      (pss_one (ps_fldaug (pv 0) pe_int in_add)))
    (pss_one (ps_ret (pe_slice sl_str (pe_fld (pv 0) rfl) (po_some (pv 1)) (po_some (pe_fld (pv 0) rfl))))))), ?_⟩
  refine ⟨_, rfl, r, RC, dx, _, _, rfl, at', C.cl, C.at', rfl, ?_⟩
  have full := run_le ((ql z).drop i)
  rw [List.length_drop, ← ql_len] at full
  refine while_by (fun σ G => ∃ j : Nat, σ = [some (.ref r), some (.int (i : Int))] ∧ j ≤ run ((ql z).drop i) ∧ Goes r H G ∧ Rd RC G r z (i + j)) (fun σ G => match G r with
    | some (.ins _ _ [_, (_, .int k)]) => (z.length : Nat) - k.toNat
    | _ => 0) ⟨0, rfl, Nat.zero_le _, Goes.refl _ _, ⟨dx, at'⟩⟩ ?_ ?_
  · rintro σ G ⟨j, rfl, hj, goes, ⟨dy, ag⟩⟩
    refine ⟨_, rfl, r, dy, _, rfl, ag, rfl, r, z, i + j, rfl, ⟨dy, ag⟩, by omega, hz, _, rfl, ?_⟩
    have e : hereIs z (i + j) = decide (j < run ((ql z).drop i)) := by
      have := run_here hj
      rw [List.getElem?_drop] at this
      exact this
    rw [e]
    by_cases lt : j < run ((ql z).drop i)
    · rw [decide_eq_true lt]
      refine if_tt rfl ?_
      refine ⟨_, rfl, r, RC, dy, _, _, rfl, ag, C.cl, C.at', rfl, _, _, rfl, rfl, dy, _, ag, (by show 2 < 1000; decide), ?_⟩
      have now : upd G r (.ins RC dy (putF "at" (.int (((i + j : Nat) : Int) + 1)) [("written", .str z), ("at", .int ((i + j : Nat) : Int))])) r = some (.ins RC dy [("written", .str z), ("at", .int ((i + (j + 1) : Nat) : Int))]) := by
        rw [upd_same]
        show some (HO.ins RC dy [("written", .str z), ("at", .int (((i + j : Nat) : Int) + 1))]) = _
        have e2 : (((i + j : Nat) : Int) + 1) = ((i + (j + 1) : Nat) : Int) := by omega
        rw [e2]
      refine ⟨⟨j + 1, rfl, lt, goes.trans (Goes.put ag), dy, now⟩, ?_⟩
      show (match (upd G r _) r with
        | some (.ins _ _ [_, (_, .int k)]) => (z.length : Nat) - k.toNat
        | _ => 0) < (match G r with
        | some (.ins _ _ [_, (_, .int k)]) => (z.length : Nat) - k.toNat
        | _ => 0)
      rw [now, ag]
      show z.length - (((i + (j + 1) : Nat) : Int)).toNat < z.length - (((i + j : Nat) : Int)).toNat
      omega
    · have ej : j = run ((ql z).drop i) := by omega
      rw [decide_eq_false lt]
      refine if_ff rfl ?_
      refine ⟨_, rfl, r, RC, dy, _, _, rfl, ag, C.cl, C.written, rfl, _, rfl, _, rfl, _, rfl, r, RC, dy, _, _, rfl, ag, C.cl, C.at', rfl, _, rfl, ?_⟩
      refine ⟨z, rfl, hz, ?_⟩
      rw [cut_two (by omega) (by omega), show i + j - i = run ((ql z).drop i) from by omega]
      exact q G goes (by rw [← ej]; exact ⟨dy, ag⟩)
  · rintro σ G Q1 Q2 imp ⟨v, e0, a, dy, fs, e1, e2, e3, r1, z1, i1, e4, e5, e6, e7, k, e8, q1⟩
    exact ⟨v, e0, a, dy, fs, e1, e2, e3, r1, z1, i1, e4, e5, e6, e7, k, e8, imp _ _ q1⟩
abbrev s_needs : Stmt := inClass (top 18) 3
abbrev N_needs : List Str := ["self", "word"]
abbrev P_needs : List Str := ["self", "word"]
theorem sc_needs : FnScope N_needs P_needs (defScope s_needs) := ⟨rfl, rfl, rfl, by decide +kernel, rfl, by decide +kernel, by decide +kernel⟩
/-- what must stand here does -/
def spNeeds (RC : Addr) : Sp := fun vs H Q _ => ∃ (r : Addr) (z w : Str) (i : Nat), vs = [.ref r, .str w] ∧ Rd RC H r z i ∧ i ≤ z.length ∧ w.length ≤ 1000 ∧ pre (ql w) ((ql z).drop i) = true ∧
  ∀ H' : Hp, Goes r H H' → Rd RC H' r z (i + w.length) → Q .non H'
theorem ok_needs {f fs : Addr} {fd ds : FuncData} (F : Fun K "needs" "Reader.needs" s_needs f fd) (M_skips : MtD P w K mg base RC "skips" 1 P_skips (spSkips RC) fs ds) : FnOk P w K mg base CX0 2 f fd P_needs (spNeeds RC) := by
  refine F.ok sc_needs (fun vs H Q E h => ?_) (fun cdv A outer s H vs Q E hr h => ?_)
  · obtain ⟨r, z, w, i, rfl, _⟩ := h
    rfl
  obtain ⟨r, z, w, i, rfl, ⟨dx, at'⟩, hi, hw, yes, q⟩ := h
  refine ⟨_, (pss_one (ps_if (pt_not (pt_val (pe_meth (pv 0) M_skips.cl M_skips.me M_skips.ok (hr.mono (by first | decide | omega)) M_skips.b .nil pass0 (pa_cons (pv 1) pa_nil))))
      (pss_one ps_never)
      pss_nil)), ?_⟩
  refine ⟨_, rfl, r, dx, _, rfl, at', rfl, _, rfl, r, z, w, i, rfl, ⟨dx, at'⟩, hi, hw, fun G goes now => ?_⟩
  rw [if_pos yes] at now
  exact ⟨_, rfl, by rw [yes]; exact if_ff rfl (q G goes now)⟩
abbrev s_rinit : Stmt := inClass (top 18) 0
abbrev N_rinit : List Str := ["self", "written"]
abbrev P_rinit : List Str := ["self", "written"]
theorem sc_rinit : FnScope N_rinit P_rinit (defScope s_rinit) := ⟨rfl, rfl, rfl, by decide +kernel, rfl, by decide +kernel, by decide +kernel⟩
def spRInit (RC : Addr) : Sp := fun vs H Q _ => ∃ (r dx : Addr) (z : Str), vs = [.ref r, .str z] ∧ H r = some (.ins RC dx []) ∧ Q .non (upd H r (.ins RC dx [("written", .str z), ("at", .int 0)]))
theorem ok_rinit {f : Addr} {fd : FuncData} (F : Fun K "__init__" "Reader.__init__" s_rinit f fd) (C : RdC K RC) : FnOk P w K mg base CX0 1 f fd P_rinit (spRInit RC) := by
  refine F.ok sc_rinit (fun vs H Q E h => ?_) (fun cdv A outer s H vs Q E hr h => ?_)
  · obtain ⟨r, dx, z, rfl, _⟩ := h
    rfl
  obtain ⟨r, dx, z, rfl, at', q⟩ := h
  refine ⟨_, (pss_cons (ps_fld (pv 0) (pv 1) rfl)
    (pss_one (ps_fld (pv 0) pe_int rfl))), ?_⟩
  refine ⟨_, rfl, _, rfl, r, RC, dx, _, rfl, at', C.cl, C.written, (by show 0 < 1000; decide), ?_⟩
  refine ⟨_, rfl, r, RC, dx, _, rfl, upd_same, C.cl, C.at', (by show 1 < 1000; decide), ?_⟩
  rw [upd_upd]
  exact q
end
end KX

namespace KX
open PySem PySem.Spec L2 PyProof.Rows
/-! ### types -/
inductive Ty where
  | text | number | flag
  | opt (t : Ty)
  | list (t : Ty)
  | keyed (t : Ty) (k : Str)
  | rcd (fs : List (Str × Ty))
def kindW : Ty → Str
  | .text => "text"
  | .number => "number"
  | .flag => "flag"
  | .opt _ => "optional"
  | .list _ => "list"
  | .keyed _ _ => "keyed"
  | .rcd _ => "record"
def plainT : Ty → Bool
  | .text => true
  | .number => true
  | .flag => true
  | _ => false
mutual
def wr : Ty → Str
  | .text => "text"
  | .number => "number"
  | .flag => "flag"
  | .opt t => wr t ++ "?"
  | .list t => "[" ++ wr t ++ "]"
  | .keyed t k => "[" ++ wr t ++ " by " ++ k ++ "]"
  | .rcd fs => "{" ++ Txt.join ", " (wrFs fs) ++ "}"
def wrFs : List (Str × Ty) → List Str
  | [] => []
  | (n, t) :: r => (n ++ ": " ++ wr t) :: wrFs r
end
theorem wrFs_map : ∀ fs : List (Str × Ty), wrFs fs = fs.map fun q => q.1 ++ ": " ++ wr q.2
  | [] => by simp [wrFs]
  | (n, t) :: r => by simp [wrFs, wrFs_map r]
theorem wr_plain {t : Ty} (h : plainT t = true) : wr t = kindW t := by
  cases t with
  | text => simp [wr, kindW]
  | number => simp [wr, kindW]
  | flag => simp [wr, kindW]
  | opt => cases h
  | list => cases h
  | keyed => cases h
  | rcd => cases h
/-- the fields of the object of a type -/
def rowT (kind : Str) (inner key fields : V) (z : Str) : List (Str × V) := [("kind", .str kind), ("inner", inner), ("key", key), ("fields", fields), ("_writing", .str z)]
mutual
inductive TyAt (TC E : Addr) (H : Hp) : V → Ty → Prop
  | plain {a dx : Addr} {t : Ty} : plainT t = true → H a = some (.ins TC dx (rowT (kindW t) .non .non (.ref E) (wr t))) → TyAt TC E H (.ref a) t
  | opt {a dx : Addr} {v : V} {t : Ty} : H a = some (.ins TC dx (rowT "optional" v .non (.ref E) (wr (.opt t)))) → TyAt TC E H v t → TyAt TC E H (.ref a) (.opt t)
  | list {a dx : Addr} {v : V} {t : Ty} : H a = some (.ins TC dx (rowT "list" v .non (.ref E) (wr (.list t)))) → TyAt TC E H v t → TyAt TC E H (.ref a) (.list t)
  | keyed {a dx : Addr} {v : V} {t : Ty} {k : Str} : H a = some (.ins TC dx (rowT "keyed" v (.str k) (.ref E) (wr (.keyed t k)))) → TyAt TC E H v t → TyAt TC E H (.ref a) (.keyed t k)
  | rcd {a dx b : Addr} {rows : List V} {fs : List (Str × Ty)} : H a = some (.ins TC dx (rowT "record" .non .non (.ref b) (wr (.rcd fs)))) → H b = some (.tup rows) → TyRows TC E H rows fs → TyAt TC E H (.ref a) (.rcd fs)
inductive TyRows (TC E : Addr) (H : Hp) : List V → List (Str × Ty) → Prop
  | nil : TyRows TC E H [] []
  | cons {c : Addr} {v : V} {n : Str} {t : Ty} {rows : List V} {fs : List (Str × Ty)} : H c = some (.tup [.str n, v]) → TyAt TC E H v t → TyRows TC E H rows fs → TyRows TC E H (.ref c :: rows) ((n, t) :: fs)
end
section
variable {TC E : Addr} {H H' : Hp}
mutual
theorem TyAt.same (s : Same H H') : ∀ (t : Ty) (v : V), TyAt TC E H v t → TyAt TC E H' v t
  | .text, _, .plain p h => .plain p (s _ _ h)
  | .number, _, .plain p h => .plain p (s _ _ h)
  | .flag, _, .plain p h => .plain p (s _ _ h)
  | .opt t, _, .opt h i => .opt (s _ _ h) (TyAt.same s t _ i)
  | .opt _, _, .plain p _ => nomatch p
  | .list t, _, .list h i => .list (s _ _ h) (TyAt.same s t _ i)
  | .list _, _, .plain p _ => nomatch p
  | .keyed t _, _, .keyed h i => .keyed (s _ _ h) (TyAt.same s t _ i)
  | .keyed _ _, _, .plain p _ => nomatch p
  | .rcd fs, _, .rcd h1 h2 r => .rcd (s _ _ h1) (s _ _ h2) (TyRows.same s fs _ r)
  | .rcd _, _, .plain p _ => nomatch p
theorem TyRows.same (s : Same H H') : ∀ (fs : List (Str × Ty)) (rows : List V), TyRows TC E H rows fs → TyRows TC E H' rows fs
  | [], _, .nil => .nil
  | (_, t) :: fs, _, .cons h i r => .cons (s _ _ h) (TyAt.same s t _ i) (TyRows.same s fs _ r)
end
/-- the object of a type: its inner one, its key, its fields -/
def partsT (t : Ty) : Option Ty × V := match t with
  | .opt u => (some u, .non)
  | .list u => (some u, .non)
  | .keyed u k => (some u, .str k)
  | _ => (none, .non)
theorem TyAt.obj {v : V} {t : Ty} (h : TyAt TC E H v t) : ∃ (a dx : Addr) (vi vf : V), v = .ref a ∧ H a = some (.ins TC dx (rowT (kindW t) vi (partsT t).2 vf (wr t))) ∧ (∀ u, (partsT t).1 = some u → TyAt TC E H vi u) ∧ ((partsT t).1 = none → vi = .non) ∧
    ((∃ fs b rows, t = .rcd fs ∧ vf = .ref b ∧ H b = some (.tup rows) ∧ TyRows TC E H rows fs) ∨ ((∀ fs, t ≠ .rcd fs) ∧ vf = .ref E)) := by
  cases h with
  | plain p e =>
    have q : partsT t = (none, .non) := by cases t <;> first | rfl | cases p
    refine ⟨_, _, _, _, rfl, by rw [q]; exact e, fun u z => ?_, fun _ => rfl, .inr ⟨fun fs z => ?_, rfl⟩⟩
    · rw [q] at z
      cases z
    · rw [z] at p
      cases p
  | opt e i => exact ⟨_, _, _, _, rfl, e, fun u z => by cases z; exact i, fun z => (nomatch z), .inr ⟨fun fs z => (nomatch z), rfl⟩⟩
  | list e i => exact ⟨_, _, _, _, rfl, e, fun u z => by cases z; exact i, fun z => (nomatch z), .inr ⟨fun fs z => (nomatch z), rfl⟩⟩
  | keyed e i => exact ⟨_, _, _, _, rfl, e, fun u z => by cases z; exact i, fun z => (nomatch z), .inr ⟨fun fs z => (nomatch z), rfl⟩⟩
  | rcd e eb r => exact ⟨_, _, _, _, rfl, e, fun u z => (nomatch z), fun _ => rfl, .inl ⟨_, _, _, rfl, rfl, eb, r⟩⟩
end
section
variable {base : Heap} {P : Program} {w : World} {K : PySem.W.Frag} {mg : Str → Option Value} {tk : Str → Tok} {TC E : Addr}
/-- what the written part says of the class of types -/
structure TyC (K : PySem.W.Frag) (TC : Addr) : Prop where
  cl : Cls K TC
  kind : NoAttr K TC "kind"
  inner : NoAttr K TC "inner"
  key : NoAttr K TC "key"
  fields : NoAttr K TC "fields"
  writing : NoAttr K TC "_writing"
  fmt : PySem.W.findIn K (.ref TC) "__format__" = some (some (.builtin "object.__format__"))
  obj : PySem.W.mroIn K TC (.type "object") = some true
/-- str(a text) -/
theorem call_strS {X : Cx} : CallR X (.type "str") (fun xs H Q => ∃ a : Str, xs = [.str a] ∧ Q (.str a) H) := fun pins s σ H xs us Q I r ⟨a, e, q⟩ => SkE.call_str_str pins s σ H xs us Q I r ⟨a, e, q⟩
abbrev s_tstr : Stmt := inClass (top 20) 5
abbrev N_tstr : List Str := ["self"]
abbrev P_tstr : List Str := ["self"]
theorem sc_tstr : FnScope N_tstr P_tstr (defScope s_tstr) := ⟨rfl, rfl, rfl, by decide +kernel, rfl, by decide +kernel, by decide +kernel⟩
def spTStr (TC : Addr) : Sp := fun vs H Q _ => ∃ (a dx : Addr) (fs : List (Str × V)) (z : Str), vs = [.ref a] ∧ H a = some (.ins TC dx fs) ∧ fs.lookup ("_writing" : Str) = some (.str z) ∧ Q (.str z) H
theorem ok_tstr {f : Addr} {fd : FuncData} (F : Fun K "__str__" "Type.__str__" s_tstr f fd) (T : Bl mg) (C : TyC K TC) : FnOk P w K mg base CX0 1 f fd P_tstr (spTStr TC) := by
  refine F.ok sc_tstr (fun vs H Q E h => ?_) (fun cdv A outer s H vs Q E hr h => ?_)
  · obtain ⟨r, dx, fs, z, rfl, _⟩ := h
    rfl
  obtain ⟨a, dx, fs, z, rfl, at', has, q⟩ := h
  refine ⟨_, (pss_one (ps_ret (pe_callTy call_strS (by rfl) T.str (by decide +kernel) (pa_cons (pe_fld (pv 0) rfl) pa_nil)))), ?_⟩
  exact ⟨_, rfl, a, TC, dx, fs, _, rfl, at', C.cl, C.writing, has, z, rfl, q⟩
end
section
variable {X : Cx} {e : Expr} {te : TE} {pos : Pos} {TC f : Addr} {fd : FuncData} {k : Nat} {ps : List Str} {sp : Sp}
/-- {x} in a text, x an object with a __str__ of its own -/
theorem pe_own (C : TyC X.K TC) (M : MtD X.prog X.w X.K X.mg X.base TC "__str__" k ps sp f fd) (room : Room (k + 1) X.A) (val : PE X e te) :
    PE X (.FormattedValue e (-1) none pos) (fun σ H Q => te σ H fun x G => ∃ (a dx : Addr) (fs : List (Str × V)), x = .ref a ∧ G a = some (.ins TC dx fs) ∧ sp [.ref a] G (fun v G2 => ∃ z, v = .str z ∧ Q (.str z) G2) E0) := by
  constructor
  intro pins s σ H Q I want
  refine wpAny_FormattedValue_plain (thn (val.run pins s σ H _ I want) ?_)
  rintro u s1 ⟨x, G, J, rel, a, dx, fs, rfl, at', asked⟩
  obtain rfl : u = Value.ref a := rel
  obtain ⟨mA, O, _⟩ := ins_get J.hok at'
  obtain ⟨od, inst, _⟩ := O.look
  refine PySem.W.kfo_fieldS room.in1.units0 J.kIn inst C.fmt C.obj M.me.at_ M.me.fn ?_
  have J1 := J.tok (s1.toks + 1)
  have bound := M.b _ [.ref a] J1.kIn (by rw [List.append_nil]; exact (M.ok.len _ _ _ _ asked).symm ▸ rfl)
  rw [List.append_nil] at bound
  refine wpAny_call (codeAny_mono (M.ok.run X.A.in1 X.stack _ G ⟨[.ref a], []⟩ [.ref a] [.ref a] _ E0 room.in1 J1.env0.in1 bound (.cons rfl .nil) asked) ?_)
  rintro (er | fl) s2 h
  · exact h.elim
  cases fl with
  | ret u =>
    obtain ⟨v, G2, J2, rv, z, rfl, q⟩ := J1.after h
    obtain ⟨t, rfl⟩ := rv
    exact ⟨.str z, G2, J2, ⟨t, rfl⟩, q⟩
  | next => exact h.elim
  | brk => exact h.elim
  | cont => exact h.elim
end
end KX

namespace KX
open PySem PySem.Spec L2 PyProof.Rows
section
variable {base : Heap} {P : Program} {w : World} {K : PySem.W.Frag} {mg : Str → Option Value} {tk : Str → Tok} {TC E0' : Addr}
theorem len_app (a b : Str) : (a ++ b).length = a.length + b.length := by rw [ql_len, ql_app, List.length_append, ← ql_len, ← ql_len]
theorem emp_app (a : Str) : Str.empty ++ a = a := ql_ext (by rw [ql_app]; rfl)
theorem word_ne {a b : Str} {A B : Prop} (ne : a ≠ b) (h : B) : if decide (V.str a = V.str b) = true then A else B := if_ff (decide_eq_false (by simpa using ne)) h
/-- what is known of the parts of a type that is being made -/
structure Given (TC ED : Addr) (H : Hp) (t : Ty) (vi vf : V) : Prop where
  inner : ∀ u, (partsT t).1 = some u → TyAt TC ED H vi u
  none' : (partsT t).1 = none → vi = .non
  rows : ∀ fs, t = .rcd fs → ∃ b rows, vf = .ref b ∧ H b = some (.tup rows) ∧ TyRows TC ED H rows fs
  plain : (∀ fs, t ≠ .rcd fs) → vf = .ref ED
theorem Given.same {TC ED : Addr} {H H' : Hp} {t : Ty} {vi vf : V} (g : Given TC ED H t vi vf) (s : Same H H') : Given TC ED H' t vi vf :=
  ⟨fun u e => TyAt.same s u _ (g.inner u e), g.none', fun fs e => let ⟨b, rows, h1, h2, h3⟩ := g.rows fs e; ⟨b, rows, h1, s _ _ h2, TyRows.same s fs _ h3⟩, g.plain⟩
theorem TyAt.of {TC ED : Addr} {H : Hp} {t : Ty} {vi vf : V} {a dx : Addr} (g : Given TC ED H t vi vf) (h : H a = some (.ins TC dx (rowT (kindW t) vi (partsT t).2 vf (wr t)))) : TyAt TC ED H (.ref a) t := by
  cases t with
  | text =>
    rw [g.none' rfl, g.plain (fun _ z => nomatch z)] at h
    exact .plain rfl h
  | number =>
    rw [g.none' rfl, g.plain (fun _ z => nomatch z)] at h
    exact .plain rfl h
  | flag =>
    rw [g.none' rfl, g.plain (fun _ z => nomatch z)] at h
    exact .plain rfl h
  | opt t =>
    rw [g.plain (fun _ z => nomatch z)] at h
    exact .opt h (g.inner t rfl)
  | list t =>
    rw [g.plain (fun _ z => nomatch z)] at h
    exact .list h (g.inner t rfl)
  | keyed t k =>
    rw [g.plain (fun _ z => nomatch z)] at h
    exact .keyed h (g.inner t rfl)
  | rcd fs =>
    obtain ⟨b, rows, rfl, h2, h3⟩ := g.rows fs rfl
    rw [g.none' rfl] at h
    exact .rcd h h2 h3
theorem TyRows.get {TC ED : Addr} {H : Hp} : ∀ {rows : List V} {fs : List (Str × Ty)} {i : Nat} {v : V}, TyRows TC ED H rows fs → rows[i]? = some v → ∃ c n u t, v = .ref c ∧ fs[i]? = some (n, t) ∧ H c = some (.tup [.str n, u]) ∧ TyAt TC ED H u t
  | _, _, _, _, .nil, e => by simp at e
  | _, _, 0, _, .cons h i _, e => by simp at e; subst e; exact ⟨_, _, _, _, rfl, rfl, h, i⟩
  | _, _, j + 1, _, .cons _ _ r, e => by
    obtain ⟨c, n, u, t, h1, h2, h3, h4⟩ := TyRows.get (i := j) r (by simpa using e)
    exact ⟨c, n, u, t, h1, by simpa using h2, h3, h4⟩
theorem TyRows.length {TC ED : Addr} {H : Hp} : ∀ {rows : List V} {fs : List (Str × Ty)}, TyRows TC ED H rows fs → rows.length = fs.length
  | _, _, .nil => rfl
  | _, _, .cons _ _ r => by rw [List.length_cons, List.length_cons, TyRows.length r]
theorem ql_join (zs : List Str) : ql (Txt.join ", " zs) = TL.joinL [44, 32] (zs.map ql) := by
  rw [TL.join_eq]
  exact TL.tl_join ", " zs
theorem joinL_len (zs : List (List Nat)) : (zs.map (·.length)).sum + zs.length * 2 ≤ (TL.joinL [44, 32] zs).length + 2 := by
  induction zs with
  | nil => simp
  | cons z zs ih =>
    cases zs with
    | nil =>
      show z.length + 0 + 1 * 2 ≤ z.length + 2
      omega
    | cons y r =>
      have e : (TL.joinL [44, 32] (z :: y :: r)).length = z.length + (2 + (TL.joinL [44, 32] (y :: r)).length) := by
        show (z ++ ([44, 32] ++ TL.joinL [44, 32] (y :: r))).length = _
        rw [List.length_append, List.length_append]
        rfl
      rw [e]
      simp only [List.map_cons, List.sum_cons, List.length_cons] at ih ⊢
      omega
theorem join_len (zs : List Str) : (zs.map (·.length)).sum + zs.length * 2 ≤ (Txt.join ", " zs).length + 2 := by
  have h := joinL_len (zs.map ql)
  rw [← ql_join, ← ql_len, List.map_map, List.length_map] at h
  have e : (zs.map ((·.length) ∘ ql)) = zs.map (·.length) := List.map_congr_left fun z _ => (ql_len z).symm
  rw [e] at h
  exact h
theorem mem_sum {l : List Nat} {n : Nat} (h : n ∈ l) : n ≤ l.sum := by
  induction l with
  | nil => cases h
  | cons a r ih =>
    rw [List.sum_cons]
    rcases List.mem_cons.mp h with rfl | h
    · omega
    · have := ih h
      omega
theorem big {n : Nat} (h : n ≤ 200000) : n ≤ sizeLine := by
  rw [sizeLine_eq]
  omega
def tOwn (TC : Addr) (te : TE) : TE := fun σ H Q => te σ H fun x G => ∃ (a dx : Addr) (fs : List (Str × V)), x = .ref a ∧ G a = some (.ins TC dx fs) ∧ spTStr TC [.ref a] G (fun v G2 => ∃ z, v = .str z ∧ Q (.str z) G2) E0
abbrev s_wof : Stmt := top 22
abbrev N_wof : List Str := ["kind", "inner", "key", "fields", "name", "part"]
abbrev P_wof : List Str := ["kind", "inner", "key", "fields"]
theorem sc_wof : FnScope N_wof P_wof (defScope s_wof) := ⟨rfl, rfl, rfl, by decide +kernel, rfl, by decide +kernel, by decide +kernel⟩
def spWof (TC ED : Addr) : Sp := fun vs H Q _ => ∃ (t : Ty) (vi vf : V), vs = [.str (kindW t), vi, (partsT t).2, vf] ∧ Given TC ED H t vi vf ∧ (wr t).length ≤ 100000 ∧ ∀ H', Same H H' → Q (.str (wr t)) H'
theorem ok_wof {f fs : Addr} {fd ds : FuncData} {ED : Addr} (F : Fun K "_writing_of" "_writing_of" s_wof f fd) (TCc : TyC K TC) (M_str : MtD P w K mg base TC "__str__" 1 P_tstr (spTStr TC) fs ds) : FnOk P w K mg base CX0 3 f fd P_wof (spWof TC ED) := by
  refine F.ok sc_wof (fun vs H Q E h => ?_) (fun cdv A outer s H vs Q E hr h => ?_)
  · obtain ⟨t, vi, vf, rfl, _⟩ := h
    rfl
  obtain ⟨t, vi, vf, rfl, g, len, q⟩ := h
  refine ⟨_, (pss_cons (ps_if (pt_cmpR op_eq (pv 0) pe_str (nomark _))
      (pss_one (ps_ret (pe_joined (PJ.cons pe_str (PJ.cons (pe_own TCc M_str (hr.mono (by first | decide | omega)) (pv 1)) (PJ.cons pe_str PJ.nil))))))
      pss_nil)
    (pss_cons (ps_if (pt_cmpR op_eq (pv 0) pe_str (nomark _))
      (pss_one (ps_ret (pe_joined (PJ.cons pe_str (PJ.cons (pe_own TCc M_str (hr.mono (by first | decide | omega)) (pv 1)) (PJ.cons pe_str (PJ.cons (pe_fmt (pv 2)) (PJ.cons pe_str PJ.nil))))))))
      pss_nil)
    (pss_cons (ps_if (pt_cmpR op_eq (pv 0) pe_str (nomark _))
      (pss_one (ps_ret (pe_joined (PJ.cons (pe_own TCc M_str (hr.mono (by first | decide | omega)) (pv 1)) (PJ.cons pe_str PJ.nil)))))
      pss_nil)
    (pss_cons (ps_if (pt_cmpR op_eq (pv 0) pe_str (nomark _))
      (pss_one (ps_ret (pe_op op_add_str (pe_op op_add_str pe_str (pe_join pe_str (pe_lc (own := [("name", 4), ("part", 5)]) (g := (gTup K 2 (gCons (gName 4) (gCons (gName 5) gNil)))) (tt := tYes) rfl sc_wof.nd (pi_tup (pv 3)) (blkOk_by (own := [("name", 4), ("part", 5)]) (N := N_wof) (sc := defScope s_wof) (by decide +kernel)) (fun _ _ _ _ _ => (pg_tup rfl (pgs_cons (pg_name (i := 4) sc_wof.nd rfl (Or.inl rfl)) (pgs_cons (pg_name (i := 5) sc_wof.nd rfl (Or.inl rfl)) pgs_nil)))) (fun _ _ _ _ _ => pts_nil) (fun _ _ _ _ _ => (pe_joined (PJ.cons (pe_fmt (pv 4)) (PJ.cons pe_str (PJ.cons (pe_own TCc M_str (hr.mono (by first | decide | omega)) (pv 5)) PJ.nil)))))))) pe_str)))
      pss_nil)
    (pss_one (ps_ret (pv 0))))))), ?_⟩
  refine ⟨_, rfl, rfl, _, rfl, ?_⟩
  cases t with
  | text =>
    refine word_ne (by simp only [kindW]; decide) ⟨_, rfl, rfl, _, rfl, word_ne (by simp only [kindW]; decide) ⟨_, rfl, rfl, _, rfl, word_ne (by simp only [kindW]; decide) ⟨_, rfl, rfl, _, rfl, word_ne (by simp only [kindW]; decide) ⟨_, rfl, ?_⟩⟩⟩⟩
    have z := q H (Same.refl H)
    simp only [wr] at z
    exact z
  | number =>
    refine word_ne (by simp only [kindW]; decide) ⟨_, rfl, rfl, _, rfl, word_ne (by simp only [kindW]; decide) ⟨_, rfl, rfl, _, rfl, word_ne (by simp only [kindW]; decide) ⟨_, rfl, rfl, _, rfl, word_ne (by simp only [kindW]; decide) ⟨_, rfl, ?_⟩⟩⟩⟩
    have z := q H (Same.refl H)
    simp only [wr] at z
    exact z
  | flag =>
    refine word_ne (by simp only [kindW]; decide) ⟨_, rfl, rfl, _, rfl, word_ne (by simp only [kindW]; decide) ⟨_, rfl, rfl, _, rfl, word_ne (by simp only [kindW]; decide) ⟨_, rfl, rfl, _, rfl, word_ne (by simp only [kindW]; decide) ⟨_, rfl, ?_⟩⟩⟩⟩
    have z := q H (Same.refl H)
    simp only [wr] at z
    exact z
  | list u =>
    obtain ⟨a, dx, vi', vf', rfl, at', _⟩ := (g.inner u rfl).obj
    have z := q H (Same.refl H)
    simp only [wr] at z len
    rw [len_app, len_app] at len
    refine if_tt rfl ⟨"[", rfl, big (by decide), _, rfl, a, dx, _, rfl, at', a, dx, _, wr u, rfl, at', rfl, _, rfl, wr u, rfl, big ?_, _, rfl, big ?_, z⟩
    · rw [len_app]
      show 1 + _ ≤ _
      omega
    · rw [len_app, len_app]
      show 1 + _ + 1 ≤ _
      omega
  | keyed u k =>
    obtain ⟨a, dx, vi', vf', rfl, at', _⟩ := (g.inner u rfl).obj
    have z := q H (Same.refl H)
    simp only [wr] at z len
    rw [len_app, len_app, len_app, len_app] at len
    refine word_ne (by simp only [kindW]; decide) ⟨_, rfl, rfl, _, rfl, if_tt rfl ⟨"[", rfl, big (by decide), _, rfl, a, dx, _, rfl, at', a, dx, _, wr u, rfl, at', rfl, _, rfl, wr u, rfl, big ?_, _, rfl, big ?_, _, rfl, .inl ⟨k, rfl, big ?_, _, rfl, big ?_, _, rfl, big ?_, z⟩⟩⟩
    · rw [len_app]
      show 1 + _ ≤ _
      omega
    · rw [len_app, len_app]
      show 1 + _ + 4 ≤ _
      omega
    · omega
    · rw [len_app, len_app, len_app]
      show 1 + _ + 4 + _ ≤ _
      omega
    · rw [len_app, len_app, len_app, len_app]
      show 1 + _ + 4 + _ + 1 ≤ _
      omega
  | opt u =>
    obtain ⟨a, dx, vi', vf', rfl, at', _⟩ := (g.inner u rfl).obj
    have z := q H (Same.refl H)
    simp only [wr] at z len
    rw [len_app] at len
    refine word_ne (by simp only [kindW]; decide) ⟨_, rfl, rfl, _, rfl, word_ne (by simp only [kindW]; decide) ⟨_, rfl, rfl, _, rfl, if_tt rfl ⟨_, rfl, a, dx, _, rfl, at', a, dx, _, wr u, rfl, at', rfl, _, rfl, wr u, rfl, big ?_, _, rfl, big ?_, ?_⟩⟩⟩
    · show (Str.empty ++ wr u).length ≤ _
      rw [len_app]
      show 0 + _ ≤ _
      omega
    · rw [len_app, len_app]
      show 0 + _ + 1 ≤ _
      omega
    · have e : Str.empty ++ wr u ++ "?" = wr u ++ "?" := ql_ext (by rw [ql_app, ql_app, ql_app]; rfl)
      rw [e]
      exact z
  | rcd fs =>
    obtain ⟨b, rows, rfl, hb, hr'⟩ := g.rows fs rfl
    simp only [wr] at len
    rw [len_app, len_app] at len
    have jl := join_len (wrFs fs)
    have wl : (wrFs fs).length = fs.length := by rw [wrFs_map, List.length_map]
    rw [wl] at jl
    refine word_ne (by simp only [kindW]; decide) ⟨_, rfl, rfl, _, rfl, word_ne (by simp only [kindW]; decide) ⟨_, rfl, rfl, _, rfl, word_ne (by simp only [kindW]; decide) ⟨_, rfl, rfl, _, rfl, if_tt rfl ?_⟩⟩⟩
    refine ⟨⟨_, rfl⟩, _, rfl, b, rfl, ⟨_, SqT.of hb⟩, fun D new => ?_⟩
    refine lc_it (g := gTup K 2 (gCons (gName 4) (gCons (gName 5) gNil))) (tt := tYes) (vs := [4, 5]) (te := fun σ H Q => tJs [tFmt (tVar 4), tC (V.str ": "), tOwn TC (tVar 5)] Str.empty σ H fun out H1 => Q (V.str out) H1) (walk_tup (K := K) (a := b) (xs := rows)) (fun i G => Same H G ∧ G D = some (.lst ((fs.take i).map fun q => .str (q.1 ++ ": " ++ wr q.2)))) ⟨same_new new _, upd_same⟩ (fun i G _ p => SqT.of (p.1 _ _ hb)) ?_ ?_
    · rintro i x G2 G hi ⟨kept, made⟩ ⟨rfl, hx⟩
      obtain ⟨c, n, u, t, rfl, ef, hc, ht⟩ := hr'.get hx
      obtain ⟨a, dx, vi', vf', rfl, at', _⟩ := (TyAt.same kept t _ ht).obj
      have one : (n ++ ": " ++ wr t).length ≤ (Txt.join ", " (wrFs fs)).length + 2 := by
        have m := mem_sum (List.mem_map.mpr ⟨_, List.mem_map.mpr ⟨(n, t), List.mem_of_getElem? ef, rfl⟩, rfl⟩ : (n ++ ": " ++ wr t).length ∈ ((fs.map fun q => q.1 ++ ": " ++ wr q.2).map (·.length)))
        rw [← wrFs_map] at m
        omega
      rw [len_app, len_app] at one
      refine ⟨c, _, rfl, SqT.of (kept _ _ hc), rfl, _, _, rfl, _, _, rfl, rfl, rfl, yesT ?_⟩
      refine ⟨_, rfl, .inl ⟨n, rfl, big ?_, _, rfl, big ?_, _, rfl, big ?_, _, rfl, a, dx, _, rfl, at', a, dx, _, wr t, rfl, at', rfl, _, rfl, wr t, rfl, big ?_, ?_⟩⟩
      · omega
      · rw [emp_app]
        omega
      · rw [emp_app, len_app]
        omega
      · rw [emp_app, len_app, len_app]
        omega
      · refine ⟨_, made, ?_, Same.updNew kept new, ?_⟩
        · rw [List.length_map, List.length_take]
          have hl := hr'.length
          rw [sizeLine_eq]
          omega
        · rw [upd_same, emp_app]
          have e : fs.take (i + 1) = fs.take i ++ [(n, t)] := by
            rw [List.take_succ, ef]
            rfl
          rw [e, List.map_append]
          rfl
    · rintro G ⟨kept, made⟩
      rw [hr'.length, List.take_length] at made
      have made2 : G D = some (.lst ((wrFs fs).map V.str)) := by
        rw [made, wrFs_map, List.map_map]
        rfl
      have z := q G kept
      simp only [wr] at z
      refine ⟨", ", D, wrFs fs, rfl, rfl, .inl (SqL.of made2), ?_, "{", _, rfl, rfl, big (by omega), _, _, rfl, rfl, big ?_, z⟩
      · rw [wl]
        show _ + fs.length * 2 ≤ _
        omega
      · rw [len_app]
        omega
end
end KX

namespace KX
open PySem PySem.Spec L2 PyProof.Rows
/-! ### sets of texts, unlike ones -/
/-- the set at a of the texts l -/
def TxSet (P : Program) (w : World) (h : Heap) (a : Addr) (l : List Str) : Prop :=
  ∃ D : Froz.SD, h.get? a = some (Froz.sObj "set" D) ∧ Froz.TxOk P w D l ∧ (l.length < 4000 ∧ l.Nodup) ∧ Ris D.2.2.place.toList ∧ (w.params.followText "set-order" = true ∨ D.2.2.led = true)
section
variable {P : Program} {w : World} {h h' : Heap} {a : Addr} {l : List Str}
theorem TxSet.at (R : TxSet P w h a l) (k : ∀ o, h.get? a = some o → h'.get? a = some o) : TxSet P w h' a l := R.imp fun _ r => ⟨k _ r.1, r.2⟩
theorem TxSet.perm {l' : List Str} (R : TxSet P w h a l) (p : l'.Perm l) : TxSet P w h a l' := by
  obtain ⟨D, h1, F, few, more⟩ := R
  refine ⟨D, h1, ⟨F.el, fun k => by rw [p.mem_iff]; exact F.mem k, by rw [p.length_eq]; exact F.sz, F.fit⟩, ⟨by rw [p.length_eq]; exact few.1, p.nodup_iff.mpr few.2⟩, more⟩
/-- what one more text leaves of the table's order -/
theorem tail_ris {ep : Nat} {es : Array (Int × Value)} {t : SetTable} {b : Bool} (r : Ris t.place.toList) : Ris (Froz.tailTx ep es t b).2.2.place.toList := by
  unfold Froz.tailTx
  split
  · exact relayAll_ris _ _ _
  · exact r
theorem tail_led {ep : Nat} {es : Array (Int × Value)} {t : SetTable} {b : Bool} (r : t.led = true) : (Froz.tailTx ep es t b).2.2.led = true := by
  unfold Froz.tailTx
  split
  · exact (relayAll_led _ _ _).trans r
  · exact r
theorem more_ris {D : Froz.SD} {n : Int} {v : Value} (r : Ris D.2.2.place.toList) : Ris (Froz.addTx n v D).2.2.place.toList := by
  refine tail_ris ?_
  split
  · exact layNew_ris D.2.2 D.1 n v r
  · exact layNew_ris D.2.2 D.1 n v r
theorem more_led {D : Froz.SD} {n : Int} {v : Value} (r : D.2.2.led = true) : (Froz.addTx n v D).2.2.led = true := by
  refine tail_led ?_
  split
  · exact (layNew_led D.2.2 D.1 n v).trans r
  · exact (layNew_led D.2.2 D.1 n v).trans r
theorem TxSet.fresh (h : Heap) : TxSet P w (h.push { cls := .type "set", dict := none, data := .set #[] 0 (.fresh 0 0 (!w.params.followText "set-order")) }) h.objs.size [] := by
  refine ⟨(#[], 0, .fresh 0 0 (!w.params.followText "set-order")), Heap.get?_push_size _ rfl, Froz.TxOk.nil (by rfl), ⟨by decide, List.nodup_nil⟩, by simp [SetTable.fresh, Ris], ?_⟩
  cases e : w.params.followText "set-order" with
  | true => exact .inl rfl
  | false => exact .inr rfl
variable {A : Around} {E : Value → Shared → Prop} {s : Shared}
/-- a text that is not there is added -/
theorem TxSet.add {k : Str} {u : Tok} {Q : Bool → Shared → Prop} (R : TxSet P w s.heap a l) (new : k ∉ l) (few : l.length + 1 < 4000)
    (q : ∀ h', TxSet P w h' a (k :: l) → (∀ b, b ≠ a → h'.get? b = s.heap.get? b) → Q true { s with heap := h' }) : wpAny (model P w) A (setAddHashed a (.str k u) (hashStr w k)) Q E s := by
  obtain ⟨D, h1, F, old, r1, r2⟩ := R
  refine Froz.add_x h1 F new (by unfold scanBound; omega) (q _ ⟨_, ?_, Froz.add_ok u F, ⟨few, List.nodup_cons.mpr ⟨new, old.2⟩⟩, more_ris r1, r2.imp id more_led⟩ fun b ne => ?_)
  · exact Froz.get_upd _ h1 rfl
  · exact Heap.get?_update_other _ _ (Ne.symm ne)
theorem fresh_at {xs : List Str} (nd : xs.Nodup) {i : Nat} {x : Str} (e : xs[i]? = some x) : x ∉ xs.take i := fun m => by
  obtain ⟨j, lt, ej⟩ := List.mem_take_iff_getElem.mp m
  obtain ⟨li, ei⟩ := List.getElem?_eq_some_iff.mp e
  have lj : j < i := by omega
  exact List.pairwise_iff_getElem.mp nd j i (by omega) li lj (ej.trans ei.symm)
theorem back_next {xs : List Str} {i : Nat} {x : Str} (e : xs[i]? = some x) : (xs.take (i + 1)).reverse = x :: (xs.take i).reverse := by
  rw [List.take_succ, e]
  show (xs.take i ++ [x]).reverse = _
  rw [List.reverse_append]
  rfl
/-! ### a loop of additions: J i holds of the heap when i things have gone in, whatever they are -/
structure Adds (P : Program) (w : World) (A : Around) (S : Addr) (n : Nat) (Pv : Nat → Value → Prop) (J : Nat → Heap → Prop) : Prop where
  stays : ∀ {i : Nat} {h h' : Heap}, J i h → (∀ o, h.get? S = some o → h'.get? S = some o) → J i h'
  adds : ∀ {i : Nat} {v : Value} {s : Shared} {Q : Bool → Shared → Prop} {E : Value → Shared → Prop}, i < n → Pv i v → J i s.heap →
    (∀ b h' tk, s.toks ≤ tk → J (i + 1) h' → (∀ c, c ≠ S → h'.get? c = s.heap.get? c) → Q b { s with heap := h', toks := tk }) → wpAny (model P w) A (holding [v] (setAdd S v)) Q E s
theorem Adds.loop {I S : Addr} {fp wr : List Addr} {G : Array GenState → Array GenState → Prop} {n : Nat} {Pv : Nat → Value → Prop} {St : Nat → Shared → Prop} {J : Nat → Heap → Prop} {R : Result → Shared → Prop} (T : Adds P w A.in1 S n Pv J)
    (W : WalksS P w A.in1 I fp wr G n Pv St) (out : S ∉ fp) : ∀ (k : Nat) {s : Shared}, k ≤ n → St (n - k) s → J (n - k) s.heap → (∀ s', Moved (S :: wr) G s s' → J n s'.heap → R (.ok (.ret .none)) s') →
    codeAny (model P w) A (.builtin "set.update.loop" ⟨[.ref S, .ref I], []⟩) R s := by
  have off : S ∉ wr := fun m => out (W.sub _ m)
  have wide : ∀ {x y : Shared}, Moved wr G x y → Moved (S :: wr) G x y := fun m => m.mono fun _ z => List.mem_cons_of_mem _ z
  have enter : ∀ {s : Shared}, wpAny (model P w) A.in1 (pyNext (.ref I)) (fun o s' => match o with
      | none => R (.ok (.ret .none)) s'
      | some v => wpAny (model P w) A.in1 (holding [v] (setAdd S v)) (fun _ s2 => codeAny (model P w) A (.builtin "set.update.loop" ⟨[.ref S, .ref I], []⟩) R s2) (fun e s2 => R (.error e) s2) s') (fun e s' => R (.error e) s') s →
      codeAny (model P w) A (.builtin "set.update.loop" ⟨[.ref S, .ref I], []⟩) R s := fun {s} h => by
    refine codeAny_builtin F.entry_set_update_loop ?_
    rw [Around.under_plainId F.plain_set_update_loop _]
    refine wpAny_bind (m := pyNext (.ref I)) (wpAny_mono h (fun o s' g => ?_) fun _ _ e => e)
    cases o with
    | none => exact wpAny_pure g
    | some v => exact wpAny_bind (m := holding [v] (setAdd S v)) (wpAny_mono g (fun _ s2 g2 => wpAny_pure ⟨plainId_quiet F.plain_set_update_loop _, g2⟩) fun _ _ e => e)
  intro k
  induction k with
  | zero =>
    intro s _ st j done
    rw [Nat.sub_zero] at st j
    exact enter (W.done s _ _ st fun s' m => done s' (wide m) (T.stays j fun o g => m.heap S o off g))
  | succ k more =>
    intro s le st j done
    have next : n - (k + 1) + 1 = n - k := by omega
    refine enter (W.item _ s _ _ (by omega) st fun v s' is st' m => T.adds (by omega) is (T.stays j fun o g => m.heap S o off g) fun b h' tk later j' same => more (by omega) ?_ ?_ fun s2 m2 => done s2 ?_)
    · rw [← next]
      exact W.frame _ s' _ _ st' later fun b mb o g => (same b fun z => out (z ▸ mb)).trans g
    · rw [← next]
      exact j'
    · exact Moved.trans W.gtrans ((wide m).then_heap later fun b o nb g => (same b fun z => nb (z ▸ List.mem_cons_self)).trans g) m2
/-- unlike texts go into a set, one behind the other -/
theorem texts_add {S : Addr} {xs : List Str} {n : Nat} {Pv : Nat → Value → Prop} (nd : xs.Nodup) (few : xs.length < 4000) (are : ∀ i v, Pv i v → ∃ x u, xs[i]? = some x ∧ v = .str x u) :
    Adds P w A S n Pv fun i h => TxSet P w h S (xs.take i).reverse where
  stays r k := r.at k
  adds {i v s Q E} lt is here q := by
    obtain ⟨x, u, ex, rfl⟩ := are _ _ is
    have new : x ∉ (xs.take i).reverse := fun m => fresh_at nd ex (List.mem_reverse.mp m)
    have lx := (List.getElem?_eq_some_iff.mp ex).1
    refine wpAny_holding ?_
    unfold setAdd
    refine wpAny_holding (wpAny_bind ((strKind P w).pyHash (Froz.is_str x u) (TxSet.add (s := { s with toks := s.toks + 1 }) here new (by rw [List.length_reverse, List.length_take]; omega) fun h' now same => ?_)))
    rw [← back_next ex] at now
    exact q _ _ _ (Nat.le_succ _) now same
/-! ### a built-in type is called: made, then filled -/
theorem made_in_two {T newId initId : String} {B : Builtin} {v r : Value} {s1 : Shared} {Q : Value → Shared → Prop} (c : TypeCalled T newId initId) (one : checkTypeCall T ⟨[v], []⟩ = pure ()) (entry : entryFor table initId = some B)
    (fresh : codeAny (model P w) A.in1 (.call (.builtin newId) ⟨[.type T, v], []⟩) (wants (fun o s' => o = r ∧ s' = s1) E) s) (ty : s1.TypeIs r T)
    (checked : ∀ {M : Model} {A' : Around} {Q' : Unit → Shared → Prop} {E' : Value → Shared → Prop}, Q' () s1 → wpAny M A' (checkBuiltinCall initId ⟨[r, v], []⟩) Q' E' s1)
    (filled : wpAny (model P w) A.in1.in1 (B ⟨[r, v], []⟩) (fun f s' => f = .done (.ret .none) ∧ Q r s') E s1) : wpAny (model P w) A (call (.type T) [v]) Q E s := by
  obtain ⟨_, _, order⟩ := c.mro
  have a1 := c.made
  have a2 := c.sub
  have a3 := c.notType
  have a4 := c.canCreate
  have a5 := c.init.lookup
  have a6 := c.init.bind r
  have second : codeAny (model P w) A.in1 (.call (.builtin initId) ⟨[r, v], []⟩) (wants (fun o s' => o = .none ∧ Q r s') E) s1 :=
    codeAny_call_builtin c.init.plain entry (checked (wpAny_mono filled (fun f s2 g => by
      obtain ⟨rfl, g⟩ := g
      exact ⟨rfl, g⟩) fun _ _ e => e))
  refine wpAny_call (codeAny_of_tree (wpAny_pure ⟨Code.quiet_builtin _ (by decide +kernel), codeAny_builtin F.entry_type_call ?_⟩))
  rw [Around.under_plain (weight_type_call_type T [v] []) (units_type_call_type T [v] [])]
  repeat (any_goals (first | assumption | wp_step))
  refine codeAny_mono fresh fun o s2 g => ?_
  match o, g with
  | .error _, g => exact g
  | .ok .next, g => exact g.elim
  | .ok .brk, g => exact g.elim
  | .ok .cont, g => exact g.elim
  | .ok (.ret _), ⟨e1, e2⟩ =>
    subst e1 e2
    repeat (any_goals (first | assumption | wp_step))
    refine codeAny_mono second fun o s3 g => ?_
    match o, g with
    | .error _, g => exact g
    | .ok .next, g => exact g.elim
    | .ok .brk, g => exact g.elim
    | .ok .cont, g => exact g.elim
    | .ok (.ret _), ⟨e1, g⟩ =>
      subst e1
      repeat (any_goals (first | assumption | wp_step))
/-- what lies at the heap's end behind a push -/
theorem beyond {h : Heap} {b : Addr} (e : h.objs.size ≤ b) : h.get? b = none := by
  cases g : h.get? b with
  | none => rfl
  | some o => exact absurd (Heap.lt_size g) (Nat.not_lt.mpr e)
theorem strs_in {vs : List Value} {xs : List Str} (are : StrsAre vs xs) {i : Nat} {v : Value} (g : vs[i]? = some v) : ∃ x u, xs[i]? = some x ∧ v = .str x u := by
  induction are generalizing i with
  | nil => simp at g
  | cons x u _ more =>
    cases i with
    | zero => exact ⟨x, u, rfl, by simpa using g.symm⟩
    | succ i => exact more (i := i) (by simpa using g)
def emptySet (w : World) : Obj := { cls := .type "set", dict := none, data := .set #[] 0 (.fresh 0 0 (!w.params.followText "set-order")) }
/-- what set(xs) leaves: the set of the texts at the heap's old end, and what was there -/
def SetDone (P : Program) (w : World) (s : Shared) (xs : List Str) (s' : Shared) : Prop := ∃ h' tk, s' = { s with heap := h', toks := tk } ∧ TxSet P w h' s.heap.objs.size xs ∧ ∀ b o, s.heap.get? b = some o → h'.get? b = some o
/-- an empty set takes a list: a loop over the list's iterator -/
theorem set_from_list {S at' : Addr} {its : Array Value} {R : Fin → Shared → Prop} {G : Heap} (lst : G.IsList at' its) (mine : G.get? S = some (emptySet w))
    (loop : codeAny (model P w) A (.builtin "set.update.loop" ⟨[.ref S, .ref G.objs.size], []⟩) (wants (fun _ s' => R (.done (.ret .none)) s') E) { s with heap := G.push { cls := .type "list_iterator", data := .fields #[.ref at', .int 0 0] } }) :
    wpAny (model P w) A (Builtin.«set.__init__» ⟨[.ref S, .ref at'], []⟩) R E { s with heap := G } := by
  obtain ⟨o, e, cls, n, data⟩ := id lst
  have none1 := F.sub_list_set
  have none2 := F.sub_list_frozenset
  have other : (Value.type "list" == Value.type "dict") = false := by decide
  have begins : ∀ {A' : Around} {E' : Value → Shared → Prop} {Q' : Value → Shared → Prop}, Q' (.ref G.objs.size) { s with heap := G.push { cls := .type "list_iterator", data := .fields #[.ref at', .int 0 0] } } → wpAny (model P w) A' (pyIter (.ref at')) Q' E' { s with heap := G } :=
    fun q => (begins_list at' its).iter P w _ _ { s with heap := G } _ lst q
  obtain ⟨oc, od, odata, osl⟩ := o
  obtain rfl : oc = .type "list" := cls
  obtain rfl : odata = .seq its n := data
  unfold Builtin.«set.__init__» noKeywords Builtin.Frozenset.updateFrom emptySet at *
  wp_walk using begins
  refine codeAny_mono loop fun o s2 g => ?_
  match o, g with
  | .error _, g => exact g
  | .ok .next, g => exact g.elim
  | .ok .brk, g => exact g.elim
  | .ok .cont, g => exact g.elim
  | .ok (.ret _), g => exact wpAny_pure (wpAny_pure g)
/-- set(xs), a list of unlike texts -/
theorem call_texts {at' : Addr} {its : Array Value} {xs : List Str} {Q : Value → Shared → Prop} (calm : A.handled = none) (lst : s.heap.IsList at' its) (are : StrsAre its.toList xs) (nd : xs.Nodup) (few : xs.length < 4000)
    (q : ∀ s', SetDone P w s xs s' → Q (.ref s.heap.objs.size) s') : wpAny (model P w) A (call (.type "set") [.ref at']) Q E s := by
  generalize hk : s.heap.objs.size = k at q
  have low : at' < k := by
    obtain ⟨o, e, _⟩ := lst
    rw [← hk]
    exact Heap.lt_size e
  have len : xs.length = its.size := by rw [← Array.length_toList, are.length]
  have mine : (s.heap.push (emptySet w)).get? k = some (emptySet w) := by
    rw [← hk]
    exact Heap.get?_push_size _ rfl
  have top : (s.heap.push (emptySet w)).objs.size = k + 1 := by rw [Heap.size_push, hk]
  have lst2 : (s.heap.push (emptySet w)).IsList at' its := Heap.IsList.push lst _
  refine made_in_two (s1 := { s with heap := s.heap.push (emptySet w) }) (r := .ref k) F.called_set (F.typeCall_set_1 _) F.entry_set_init (code_set_led1 _ ⟨by rw [hk], rfl⟩) ⟨_, mine, rfl⟩ (fun q' => check_set_init_1 ⟨_, mine, rfl⟩ q') (set_from_list lst2 mine ?_)
  rw [top]
  have calm3 : A.in1.in1.in1.handled = none := by simp [calm]
  have ne1 : at' ≠ k + 1 := Nat.ne_of_lt (Nat.lt_succ_of_lt low)
  have off : k ∉ [k + 1, at'] := fun m => by
    rcases List.mem_cons.mp m with z | z
    · exact absurd z (Nat.ne_of_lt (Nat.lt_succ_self _))
    · exact absurd (List.mem_singleton.mp z) (Nat.ne_of_gt low)
  have W := (Walks.list calm3 (k + 1) at' ne1 its).toS (prog := P) (w := w)
  have T : Adds P w A.in1.in1.in1 k its.size _ _ := texts_add (P := P) (w := w) (A := A.in1.in1.in1) (S := k) (n := its.size) (Pv := fun i v => its[i]? = some v) nd few fun i v g => strs_in are (by rw [Array.getElem?_toList]; exact g)
  refine T.loop W off its.size (Nat.le_refl _) ?_ ?_ fun s' moved all => ?_
  · rw [Nat.sub_self]
    exact ⟨⟨_, by rw [← top]; exact Heap.get?_push_size _ rfl, rfl, rfl⟩, Heap.IsList.push lst2 _⟩
  · rw [Nat.sub_self]
    have f := TxSet.fresh (P := P) (w := w) s.heap
    rw [hk] at f
    exact f.at fun o g => Heap.get?_push_of_some _ g
  · obtain ⟨h', g', d', tk', os'⟩ := s'
    obtain rfl : g' = s.gens := moved.gens
    obtain rfl : d' = s.drawn := moved.drawn
    obtain rfl : os' = s.os := moved.os
    rw [← len, List.take_length] at all
    refine ⟨rfl, q _ ⟨h', tk', rfl, ?_, fun b o g => ?_⟩⟩
    · rw [hk]
      exact all.perm (List.reverse_perm xs).symm
    · have lb := Heap.lt_size g
      rw [hk] at lb
      refine moved.heap b o (fun m => ?_) (Heap.get?_push_of_some _ (Heap.get?_push_of_some _ g))
      rcases List.mem_cons.mp m with z | z
      · exact absurd z (Nat.ne_of_lt lb)
      · exact absurd (List.mem_singleton.mp z) (Nat.ne_of_lt (Nat.lt_succ_of_lt lb))
def textOf : Value → Str
  | .str x _ => x
  | _ => ""
theorem texts_are : ∀ {vs : List Value}, (∀ v ∈ vs, ∃ x u, v = Value.str x u) → StrsAre vs (vs.map textOf)
  | [], _ => .nil
  | v :: vs, h => by
    obtain ⟨x, u, rfl⟩ := h v List.mem_cons_self
    exact .cons x u (texts_are fun v m => h v (List.mem_cons_of_mem _ m))
/-- unlike ones that all stand in a row of as many -/
theorem cover : ∀ {xs zs : List Str}, xs.Nodup → (∀ x ∈ xs, x ∈ zs) → zs.length = xs.length → zs.Perm xs
  | [], zs, _, _, l => by
    rw [List.length_eq_zero_iff.mp l]
  | x :: xs, zs, d, m, l => by
    obtain ⟨no, d⟩ := List.nodup_cons.mp d
    have mx := m x List.mem_cons_self
    refine (List.perm_cons_erase mx).trans (.cons x (cover d (fun y my => ?_) ?_))
    · exact (List.mem_erase_of_ne fun e : y = x => no (by rw [← e]; exact my)).mpr (m y (List.mem_cons_of_mem _ my))
    · rw [List.length_erase_of_mem mx, l]
      rfl
/-- what is drawn of a set of texts: all of them, in some order -/
theorem collect_texts {xs : List Str} {Q : List Value → Shared → Prop} (calm : A.handled = none) (R : TxSet P w s.heap a xs)
    (q : ∀ s1 vs zs, (∀ b o, s.heap.get? b = some o → s1.heap.get? b = some o) → s.heap.objs.size ≤ s1.heap.objs.size → s1.gens = s.gens → s1.os = s.os → StrsAre vs zs → zs.Perm xs → Q vs s1) : wpAny (model P w) A (collect (.ref a)) Q E s := by
  obtain ⟨D, at', F, ⟨few, nd⟩, ris, led⟩ := R
  have bound : D.1.size < scanBound := by
    rw [F.sz]
    unfold scanBound
    omega
  refine collect_set calm ⟨_, at', rfl, rfl⟩ F.fit bound ris led fun s1 vs keep more gens os perm => q s1 vs (vs.map textOf) keep more gens os (texts_are fun v m => ?_) (cover nd (fun x m => ?_) ?_)
  · obtain ⟨e, me, rfl⟩ := List.mem_map.mp (perm.mem_iff.mp m)
    obtain ⟨k, is, _⟩ := (F.el e me).1
    exact ⟨k, Value.isStrOf_shape is⟩
  · obtain ⟨e, me, is⟩ := (F.mem x).mp m
    obtain ⟨u, eu⟩ := Value.isStrOf_shape (x := x) is
    exact List.mem_map.mpr ⟨e.2, perm.mem_iff.mpr (List.mem_map.mpr ⟨e, me, rfl⟩), by rw [eu]; rfl⟩
  · rw [List.length_map, perm.length_eq, List.length_map, Array.length_toList]
    exact F.sz
/-- a new list of texts is put in order -/
theorem order_texts {vs : List Value} {zs : List Str} {R : Value → Shared → Prop} (are : StrsAre vs zs) (few : zs.length < 4000)
    (q : ∀ h' (out : Array Value) (c : Nat) (ys : List Str), (∀ b o, s.heap.get? b = some o → h'.get? b = some o) → h'.get? s.heap.objs.size = some (seqObj "list" out c) → StrsAre out.toList ys → ys.Perm zs → sortedS ys = true → R .none { s with heap := h' }) :
    wpAny (model P w) A (call (.builtin "list.sort") [.ref s.heap.objs.size]) R E { s with heap := s.heap.push (seqObj "list" vs.toArray 0) } := by
  have mine : (s.heap.push (seqObj "list" vs.toArray 0)).get? s.heap.objs.size = some (seqObj "list" vs.toArray 0) := Heap.get?_push_size _ rfl
  have short : vs.length < 4000 := by
    rw [are.length]
    exact few
  refine wpAny_call_entry slot_list_sort ⟨_, mine, rfl⟩ entry_list_sort (list_sort_treeKAny strKind_oneLt mine are.keysOf (fun v1 v2 rest e => keyKind_strs (by rw [← e]; exact are)) (by rw [sizeLine_eq]; omega) fun st hp hs => ⟨_, rfl, ?_⟩) (args_list_sort _)
  obtain ⟨ys, y1, y2, y3⟩ := sorted_out_str are hp hs
  obtain ⟨c, last⟩ := sortedHeap_at (vs := vs) (out := (arrOf st).map (·.2)) mine
  refine q _ _ c ys (fun b o g => ?_) last y1 y2 y3
  have lb := Heap.lt_size g
  exact (sortedHeap_old (Nat.ne_of_lt lb) (by rw [size_push']; exact Nat.lt_succ_of_lt lb)).trans (Heap.get?_push_of_some _ g)
/-- sorted(a set of texts) -/
theorem sorted_texts {xs : List Str} {Q : Value → Shared → Prop} (calm : A.handled = none) (R : TxSet P w s.heap a xs)
    (q : ∀ s' p (out : Array Value) (c : Nat) (ys : List Str), (∀ b o, s.heap.get? b = some o → s'.heap.get? b = some o) → s'.gens = s.gens → s'.os = s.os → s.heap.objs.size ≤ p → s'.heap.get? p = some (seqObj "list" out c) → StrsAre out.toList ys → ys.Perm xs → sortedS ys = true → Q (.ref p) s') :
    wpAny (model P w) A (call (.builtin "sorted") [.ref a]) Q E s := by
  have few : xs.length < 4000 := R.elim fun _ z => z.2.2.1.1
  refine Calls.call_function_entry kind_sorted plain_sorted entry_sorted (args_sorted1 _) ?_
  unfold Builtin.«sorted»
  refine wpAny_bind (m := checkCount "sorted" 1 1 _) (wpAny_pure (wpAny_bind (collect_texts (A := A.in1) calm R fun s1 vs zs keep more gens os are perm => ?_)))
  have short : zs.length < 4000 := by
    rw [perm.length_eq]
    exact few
  refine wpAny_bind (wpAny_newList (wpAny_bind (wpAny_holding (order_texts are short fun h' out c ys old last y1 y2 y3 => ?_))) (by rw [sizeLine_eq, are.length]; omega))
  exact wpAny_pure ⟨_, rfl, q _ _ out c ys (fun b o g => old b o (keep b o g)) gens os more last y1 (y2.trans perm) y3⟩
end
def SetTx (P : Program) (w : World) (a : Addr) (xs : List Str) : HO := .ext fun h => TxSet P w h a xs
theorem setTx_ok {P : Program} {w : World} {H : Hp} {h : Heap} {a : Addr} {xs : List Str} (R : TxSet P w h a xs) : ObjOk P w H h a (SetTx P w a xs) :=
  ⟨R, let ⟨_, r⟩ := R; ⟨_, r.1⟩, fun _ _ r k => TxSet.at r k⟩
section
variable {X : Cx}
/-- set(a list of unlike texts) -/
theorem call_set (calm : X.calm = true) : CallR X (.type "set") (fun vs H Q => ∃ (l : Addr) (xs : List Str), vs = [.ref l] ∧ SqL X.K H l (xs.map V.str) ∧ xs.Nodup ∧ xs.length < 4000 ∧ ∀ a, H a = none → Q (.ref a) (upd H a (SetTx X.prog X.w a xs))) := by
  rintro pins s σ H vs us Q I r ⟨l, xs, rfl, hs, nd, few, q⟩
  rw [Vals.ref1 r]
  obtain ⟨its, rv, pl, _⟩ := I.list hs
  refine call_texts (P := X.prog) (w := X.w) (I.ok.hd calm) pl.isList (by simpa using rv.strs) nd few ?_
  rintro s' ⟨h', tk, rfl, set', keep⟩
  exact ⟨.ref s.heap.objs.size, _, I.laid (t' := tk) keep (Nat.le_refl _) (setTx_ok set'), rfl, q _ (I.hok.fresh (Nat.le_refl _))⟩
/-- sorted(a set of texts) -/
theorem call_sortedSet (calm : X.calm = true) : CallR X (.builtin "sorted") (fun vs H Q => ∃ (a : Addr) (xs : List Str), vs = [.ref a] ∧ H a = some (SetTx X.prog X.w a xs) ∧
    ∀ (ys : List Str) (p : Addr), ys.Perm xs → sortedS ys = true → ys.length < 4000 → H p = none → Q (.ref p) (upd H p (.lst (ys.map V.str)))) := by
  rintro pins s σ H vs us Q I r ⟨a, xs, rfl, ha, q⟩
  rw [Vals.ref1 r]
  have R : TxSet X.prog X.w s.heap a xs := (I.hok a _ ha).1
  have few : xs.length < 4000 := R.elim fun _ z => z.2.2.1.1
  refine sorted_texts (I.ok.hd calm) R fun s' p out c ys keep gens os more last are perm inOrder => ?_
  have short : ys.length < 4000 := by rw [perm.length_eq]; exact few
  have free := I.hok.fresh more
  have fits : (ys.map V.str).length ≤ sizeLine := by
    rw [List.length_map, sizeLine_eq]
    omega
  obtain ⟨h', g', d', tk', os'⟩ := s'
  obtain rfl : g' = s.gens := gens
  obtain rfl : os' = s.os := os
  have ok : ObjOk X.prog X.w (upd H p (.lst (ys.map V.str))) h' p (.lst (ys.map V.str)) := ⟨fits, out.toList, c, vals_of_strs are, last⟩
  exact ⟨.ref p, _, I.call (ch := []) (Un.laid keep more free) (I.hok.laid keep more ok) I.bare (fun _ z => nomatch z), rfl, q ys p perm inOrder short free⟩
end
end KX

namespace KX
open PySem PySem.Spec L2 PyProof.Rows
section
variable {base : Heap} {P : Program} {w : World} {K : PySem.W.Frag} {mg : Str → Option Value} {tk : Str → Tok} {TC ED : Addr}
abbrev s_tinit : Stmt := inClass (top 20) 0
abbrev N_tinit : List Str := ["self", "kind", "inner", "key", "fields"]
abbrev P_tinit : List Str := ["self", "kind", "inner", "key", "fields"]
theorem sc_tinit : FnScope N_tinit P_tinit (defScope s_tinit) := ⟨rfl, rfl, rfl, by decide +kernel, rfl, by decide +kernel, by decide +kernel⟩
def spTInit (TC ED : Addr) : Sp := fun vs H Q _ => ∃ (a dx : Addr) (t : Ty) (vi vf : V), vs = [.ref a, .str (kindW t), vi, (partsT t).2, vf] ∧ H a = some (.ins TC dx []) ∧ Given TC ED (hide a H) t vi vf ∧ (wr t).length ≤ 100000 ∧
  ∀ H', Keep a H H' → H' a = some (.ins TC dx (rowT (kindW t) vi (partsT t).2 vf (wr t))) → Q .non H'
theorem ok_tinit {f fw : Addr} {fd dw : FuncData} (F : FunD K "__init__" "Type.__init__" (defArgs s_tinit) (defBody s_tinit) (defScope s_tinit) [.non, .non, .ref ED] [] f fd) (C : TyC K TC) (D_writing_of : Def P w K mg base "_writing_of" 3 P_wof (spWof TC ED) fw dw) : FnOk P w K mg base CX0 4 f fd P_tinit (spTInit TC ED) := by
  refine F.ok sc_tinit (fun vs H Q E h => ?_) (fun cdv A outer s H vs Q E hr h => ?_)
  · obtain ⟨a, dx, t, vi, vf, rfl, _⟩ := h
    rfl
  obtain ⟨a, dx, t, vi, vf, rfl, at', g, len, q⟩ := h
  refine ⟨_, (pss_cons (ps_fld (pv 0) (pv 1) rfl)
    (pss_cons (ps_fld (pv 0) (pv 2) rfl)
    (pss_cons (ps_fld (pv 0) (pv 3) rfl)
    (pss_cons (ps_fld (pv 0) (pv 4) rfl)
    (pss_one (ps_fld (pv 0) (pe_call D_writing_of.ok (hr.mono (by first | decide | omega)) rfl D_writing_of.g D_writing_of.kp D_writing_of.b .nil pass0 (pa_cons (pv 1) (pa_cons (pv 2) (pa_cons (pv 3) (pa_cons (pv 4) pa_nil))))) rfl)))))), ?_⟩
  refine ⟨_, rfl, _, rfl, a, TC, dx, _, rfl, at', C.cl, C.kind, (by show 0 < 1000; decide), ?_⟩
  refine ⟨_, rfl, _, rfl, a, TC, dx, _, rfl, upd_same, C.cl, C.inner, (by show 1 < 1000; decide), ?_⟩
  refine ⟨_, rfl, _, rfl, a, TC, dx, _, rfl, upd_same, C.cl, C.key, (by show 2 < 1000; decide), ?_⟩
  refine ⟨_, rfl, _, rfl, a, TC, dx, _, rfl, upd_same, C.cl, C.fields, (by show 3 < 1000; decide), ?_⟩
  rw [upd_upd, upd_upd, upd_upd]
  refine ⟨_, rfl, _, rfl, _, rfl, _, rfl, t, vi, vf, rfl, g.same (Same.trans (Keep.hide Keep.self) (hide_sub _ _)), len, fun G kept => ?_⟩
  refine ⟨_, rfl, a, TC, dx, _, rfl, kept _ _ upd_same, C.cl, C.writing, (by show 4 < 1000; decide), ?_⟩
  refine q _ ((Keep.self.trans fun b o _ e => kept b o e).trans Keep.self) ?_
  rw [upd_same]
  rfl
/-- Type(..) makes the type -/
theorem ty_made {H : Hp} {t : Ty} {vi vf : V} {x dx : Addr} {R : Addr → Hp → Prop} (g : Given TC ED H t vi vf) (len : (wr t).length ≤ 100000) (nx : H x = none) (nd : H dx = none) (ne : dx ≠ x)
    (q : ∀ H', Same H H' → TyAt TC ED H' (.ref x) t → (∃ o, H' x = some o) → R x H') : spTInit TC ED [.ref x, .str (kindW t), vi, (partsT t).2, vf] (upd (upd H dx (.own x)) x (.ins TC dx [])) (fun v H2 => v = .non ∧ R x H2) E0 := by
  have s0 : Same H (hide x (upd (upd H dx (.own x)) x (.ins TC dx []))) := fun b o e => by
    rw [hide_ne (ne_of_none e nx), upd_ne (ne_of_none e nx), upd_ne (ne_of_none e nd)]
    exact e
  refine ⟨x, dx, t, vi, vf, rfl, upd_same, g.same s0, len, fun G kept row => ⟨rfl, ?_⟩⟩
  have s1 : Same H G := fun b o e => kept b o (ne_of_none e nx) (by
    rw [upd_ne (ne_of_none e nx), upd_ne (ne_of_none e nd)]
    exact e)
  exact q G s1 (TyAt.of (g.same s1) row) ⟨_, row⟩
/-- the same where a reader reads -/
theorem ty_read {H : Hp} {t : Ty} {vi vf : V} {r x dx : Addr} {R : Addr → Hp → Prop} (g : Given TC ED (hide r H) t vi vf) (has : ∃ o, H r = some o) (len : (wr t).length ≤ 100000) (nx : H x = none) (nd : H dx = none) (ne : dx ≠ x)
    (q : ∀ H', Same H H' → TyAt TC ED (hide r H') (.ref x) t → R x H') : spTInit TC ED [.ref x, .str (kindW t), vi, (partsT t).2, vf] (upd (upd H dx (.own x)) x (.ins TC dx [])) (fun v H2 => v = .non ∧ R x H2) E0 := by
  obtain ⟨o, has⟩ := has
  have s0 : Same H (hide x (upd (upd H dx (.own x)) x (.ins TC dx []))) := fun b o e => by
    rw [hide_ne (ne_of_none e nx), upd_ne (ne_of_none e nx), upd_ne (ne_of_none e nd)]
    exact e
  refine ⟨x, dx, t, vi, vf, rfl, upd_same, g.same ((hide_sub r H).trans s0), len, fun G kept row => ⟨rfl, ?_⟩⟩
  have s1 : Same H G := fun b o e => kept b o (ne_of_none e nx) (by
    rw [upd_ne (ne_of_none e nx), upd_ne (ne_of_none e nd)]
    exact e)
  have xr : x ≠ r := fun e => by
    rw [e, has] at nx
    cases nx
  exact q G s1 (TyAt.of (g.same (Keep.hide fun b o _ e => s1 b o e)) ((hide_ne xr).trans row))
end
end KX

namespace KX
open PySem PySem.Spec L2 PyProof.Rows
/-! ### reading -/
structure BlT (mg : Str → Option Value) : Prop extends Bl mg where
  any : mg "any" = none
  set : mg "set" = none
  enumerate : mg "enumerate" = none
def isOpt : Ty → Bool
  | .opt _ => true
  | _ => false
def keyT : Ty → Bool
  | .text => true
  | .number => true
  | _ => false
abbrev letters (n : Str) : Prop := ∀ c ∈ ql n, 97 ≤ c ∧ c ≤ 122
/-- the types that a text can tell within so many levels -/
inductive GoodT : Nat → Ty → Prop
  | plain {n : Nat} {t : Ty} : plainT t = true → GoodT n t
  | opt {n : Nat} {t : Ty} : GoodT n t → isOpt t = false → GoodT n (.opt t)
  | list {n : Nat} {t : Ty} : GoodT n t → GoodT (n + 1) (.list t)
  | keyed {n : Nat} {fs : List (Str × Ty)} {k : Str} {u : Ty} : GoodT n (.rcd fs) → (k, u) ∈ fs → keyT u = true → letters k → GoodT (n + 1) (.keyed (.rcd fs) k)
  | rcd {n : Nat} {fs : List (Str × Ty)} : fs ≠ [] → (fs.map (·.1)).Nodup → sortedS (fs.map (·.1)) = true → fs.length < 4000 → (∀ q ∈ fs, letters q.1 ∧ q.1.length ≤ 12 ∧ q.1.length ≠ 0) → (∀ q ∈ fs, GoodT n q.2) → GoodT (n + 1) (.rcd fs)
/-- no letter stands first -/
def noL : List Nat → Bool
  | [] => true
  | c :: _ => !decide (97 ≤ c ∧ c ≤ 122)
theorem run_word {n : List Nat} {rest : List Nat} (h : ∀ c ∈ n, 97 ≤ c ∧ c ≤ 122) (no : noL rest = true) : run (n ++ rest) = n.length := by
  unfold run
  induction n with
  | nil =>
    cases rest with
    | nil => rfl
    | cons c r =>
      rw [List.nil_append, List.takeWhile_cons]
      have z : decide (97 ≤ c ∧ c ≤ 122) = false := by
        cases e : decide (97 ≤ c ∧ c ≤ 122) with
        | false => rfl
        | true =>
          have y : (!decide (97 ≤ c ∧ c ≤ 122)) = true := no
          rw [e] at y
          cases y
      rw [z]
      rfl
  | cons c n ih =>
    rw [List.cons_append, List.takeWhile_cons, decide_eq_true (h c List.mem_cons_self), if_pos rfl, List.length_cons, ih fun d m => h d (List.mem_cons_of_mem _ m)]
    rfl
theorem pre_app (s r : List Nat) : pre s (s ++ r) = true := by
  unfold pre
  rw [List.take_left]
  exact beq_self_eq_true _
theorem pre_no {c d : Nat} {s r : List Nat} (h : c ≠ d) : pre (c :: s) (d :: r) = false := by
  unfold pre
  rw [List.length_cons, List.take_succ_cons]
  rw [beq_eq_false_iff_ne]
  intro e
  exact h (List.cons.inj e).1.symm
theorem pre_nil {c : Nat} {s : List Nat} : pre (c :: s) [] = false := rfl
theorem drop_more {z a b : List Nat} {i : Nat} (h : z.drop i = a ++ b) : z.drop (i + a.length) = b := by
  rw [← List.drop_drop, h, List.drop_left]
theorem drop_len {z a : List Nat} {i : Nat} (h : z.drop i = a) (l : i ≤ z.length) : i + a.length = z.length := by
  have := congrArg List.length h
  rw [List.length_drop] at this
  omega
/-- how the writings begin -/
theorem wr_plainL {t : Ty} (p : plainT t = true) : letters (kindW t) ∧ (kindW t = "text" ∨ kindW t = "number" ∨ kindW t = "flag") := by
  cases t with
  | text => exact ⟨by decide, .inl rfl⟩
  | number => exact ⟨by decide, .inr (.inl rfl)⟩
  | flag => exact ⟨by decide, .inr (.inr rfl)⟩
  | opt => cases p
  | list => cases p
  | keyed => cases p
  | rcd => cases p
section
variable {base : Heap} {P : Program} {w : World} {K : PySem.W.Frag} {mg : Str → Option Value} {tk : Str → Tok} {TC ED RC : Addr}
theorem pe_fldK {X : Cx} {e : Expr} {ta : TE} {fl : Str} {pos : Pos} (K : PySem.W.Frag) (h : X.K = K) (val : PE X e ta) (hb : attributeBase e fl X.env (eval e X.env) = eval e X.env) : PE X (.Attribute e fl pos) (tFld K ta fl) := by
  subst h
  exact pe_fld val hb
abbrev s_can : Stmt := top 27
abbrev N_can : List Str := ["inner", "key", "name", "part"]
abbrev P_can : List Str := ["inner", "key"]
theorem sc_can : FnScope N_can P_can (defScope s_can) := ⟨rfl, rfl, rfl, by decide +kernel, rfl, by decide +kernel, by decide +kernel⟩
def spCan (TC ED : Addr) : Sp := fun vs H Q _ => ∃ (a : Addr) (k : Str) (fs : List (Str × Ty)), vs = [.ref a, .str k] ∧ TyAt TC ED H (.ref a) (.rcd fs) ∧ fs.length < 4000 ∧ ∀ H', Same H H' → Q (.bl (fs.any fun q => decide (q.1 = k) && keyT q.2)) H'
theorem ok_can {f : Addr} {fd : FuncData} (F : Fun K "_can_be_key" "_can_be_key" s_can f fd) (T : BlT mg) (C : TyC K TC) : FnOk P w K mg base CX0 1 f fd P_can (spCan TC ED) := by
  refine F.ok sc_can (fun vs H Q E h => ?_) (fun cdv A outer s H vs Q E hr h => ?_)
  · obtain ⟨a, k, fs, rfl, _⟩ := h
    rfl
  obtain ⟨a, k, fs, rfl, at', few, q⟩ := h
  refine ⟨_, (pss_one (ps_ret (pe_callB (cr_any rfl) (by rfl) T.any (by decide +kernel) (pa_cons (pe_lc (own := [("name", 2), ("part", 3)]) (g := (gTup K 2 (gCons (gName 2) (gCons (gName 3) gNil)))) (tt := tYes) rfl sc_can.nd (pi_tup (pe_fld (pv 0) rfl)) (blkOk_by (own := [("name", 2), ("part", 3)]) (N := N_can) (sc := defScope s_can) (by decide +kernel)) (fun _ _ _ _ _ => (pg_tup rfl (pgs_cons (pg_name (i := 2) sc_can.nd rfl (Or.inl rfl)) (pgs_cons (pg_name (i := 3) sc_can.nd rfl (Or.inl rfl)) pgs_nil)))) (fun _ _ _ _ _ => pts_nil) (fun _ _ _ _ _ => (pe_and (pe_cmpR op_eq (pv 2) (pv 1) (nomark _)) (pe_one (pe_cmpR (op_inK K rfl) (pe_fldK K rfl (pv 3) rfl) (pe_tup (pa_cons pe_str (pa_cons pe_str pa_nil))) (by with_unfolding_all rfl)))))) pa_nil)))), ?_⟩
  obtain ⟨dx, b, rows, hx, hb, hr'⟩ : ∃ dx b rows, H a = some (.ins TC dx (rowT "record" .non .non (.ref b) (wr (.rcd fs)))) ∧ H b = some (.tup rows) ∧ TyRows TC ED H rows fs := by
    cases at' with
    | plain p _ => cases p
    | rcd h1 h2 h3 => exact ⟨_, _, _, h1, h2, h3⟩
  refine ⟨_, rfl, a, TC, dx, _, _, rfl, hx, C.cl, C.fields, rfl, b, rfl, ⟨_, SqT.of hb⟩, fun D new => ?_⟩
  refine lc_it (g := gTup K 2 (gCons (gName 2) (gCons (gName 3) gNil))) (tt := tYes) (vs := [2, 3]) (te := tAndV (tOp rEq (tVar 2) (tVar 1)) (tOp (rIn K false) (tFld K (tVar 3) "kind") (tTup (tCons (tC (V.str "text")) (tCons (tC (V.str "number")) tNil))))) (walk_tup (K := K) (a := b) (xs := rows))
    (fun i G => Same H G ∧ G D = some (.lst ((fs.take i).map fun q => .bl (decide (q.1 = k) && keyT q.2)))) ⟨same_new new _, upd_same⟩ (fun i G _ p => SqT.of (p.1 _ _ hb)) ?_ ?_
  · rintro i x G2 G hi ⟨kept, made⟩ ⟨rfl, hx'⟩
    obtain ⟨c, n, u, t, rfl, ef, hc, ht⟩ := hr'.get hx'
    obtain ⟨a2, dx2, vi', vf', rfl, at2, _⟩ := (TyAt.same kept t _ ht).obj
    refine ⟨c, _, rfl, SqT.of (kept _ _ hc), rfl, _, _, rfl, _, _, rfl, rfl, rfl, yesT ?_⟩
    have fin : ∀ G2, Same G G2 → ∀ v, v = V.bl (decide (n = k) && keyT t) → ∃ acc, G2 D = some (.lst acc) ∧ acc.length < sizeLine ∧ Same H (upd G2 D (.lst (acc ++ [v]))) ∧ upd G2 D (.lst (acc ++ [v])) D = some (.lst ((fs.take (i + 1)).map fun q => .bl (decide (q.1 = k) && keyT q.2))) := fun G2 s2 v ev => by
      refine ⟨_, s2 _ _ made, ?_, Same.updNew (kept.trans s2) new, ?_⟩
      · rw [List.length_map, List.length_take, sizeLine_eq]
        omega
      · have e : fs.take (i + 1) = fs.take i ++ [(n, t)] := by
          rw [List.take_succ, ef]
          rfl
        rw [upd_same, e, List.map_append, ev]
        rfl
    refine ⟨_, rfl, _, rfl, rfl, decide (V.str n = V.str k), rfl, ?_⟩
    by_cases nk : n = k
    · rw [decide_eq_true (by rw [nk] : V.str n = V.str k)]
      refine if_tt rfl ⟨_, rfl, a2, TC, dx2, _, _, rfl, at2, C.cl, C.kind, rfl, (by decide +kernel), fun p np => ⟨p, _, rfl, .inr (SqT.of upd_same), rfl, rfl, fin _ (same_new np _) _ ?_⟩⟩
      rw [decide_eq_true nk, Bool.true_and]
      cases t <;> rfl
    · rw [decide_eq_false (fun e => nk (V.str.inj e))]
      refine if_ff rfl (fin _ (Same.refl G) _ ?_)
      rw [decide_eq_false nk, Bool.false_and]
  · rintro G ⟨kept, made⟩
    rw [hr'.length, List.take_length] at made
    refine ⟨D, fs.map fun q => decide (q.1 = k) && keyT q.2, rfl, SqL.of (by rw [made, List.map_map]; rfl), ?_⟩
    have e : (fs.map fun q => decide (q.1 = k) && keyT q.2).any id = fs.any fun q => decide (q.1 = k) && keyT q.2 := by
      rw [List.any_map]
      rfl
    rw [e]
    exact q G kept
end
end KX

namespace KX
open PySem PySem.Spec L2 PyProof.Rows
section
variable {base : Heap} {P : Program} {w : World} {K : PySem.W.Frag} {mg : Str → Option Value} {tk : Str → Tok} {TC ED RC : Addr}
/-- the class of types can be called -/
structure TyD (P : Program) (w : World) (K : PySem.W.Frag) (mg : Str → Option Value) (base : Heap) (TC ED fi : Addr) (di : FuncData) : Prop where
  g : mg "Type" = some (.ref TC)
  how : Mk K TC fi
  ok : FnOk P w K mg base CX0 4 fi di P_tinit (spTInit TC ED)
  b0 : ∃ ds, Binds K di P_tinit ds ∧ Vals [V.non, V.non, V.ref ED] ds
  bI : ∃ g : List Value → List Value → List Value, KBn K di P_tinit 2 ["inner"] g fun vs zs => vs ++ zs ++ [.non, .ref ED]
  bK : ∃ g : List Value → List Value → List Value, KBn K di P_tinit 2 ["inner", "key"] g fun vs zs => vs ++ zs ++ [.ref ED]
  bF : ∃ g : List Value → List Value → List Value, KBn K di P_tinit 2 ["fields"] g fun vs zs => vs ++ [.non, .non] ++ zs
abbrev s_part : Stmt := top 24
abbrev N_part : List Str := ["reader", "levels", "found"]
abbrev P_part : List Str := ["reader", "levels"]
theorem sc_part : FnScope N_part P_part (defScope s_part) := ⟨rfl, rfl, rfl, by decide +kernel, rfl, by decide +kernel, by decide +kernel⟩
/-- a type is read, within less than L levels -/
def spPart (RC TC ED : Addr) (L : Nat) : Sp := fun vs H Q _ => ∃ (r : Addr) (M i : Nat) (z : Str) (t : Ty) (rest : List Nat), vs = [.ref r, .int (M : Int)] ∧ M < L ∧ Rd RC H r z i ∧ i ≤ z.length ∧ z.length ≤ 100000 ∧ GoodT M t ∧ (ql z).drop i = ql (wr t) ++ rest ∧ noL rest = true ∧ (isOpt t = false → rest.head? ≠ some 63) ∧
  ∀ (x : Addr) (H' : Hp), Keep r H H' → Rd RC H' r z (i + (wr t).length) → TyAt TC ED (hide r H') (.ref x) t → Q (.ref x) H'
/-- up to the question mark -/
def spReq (RC TC ED : Addr) (L : Nat) : Sp := fun vs H Q _ => ∃ (r : Addr) (M i : Nat) (z : Str) (t : Ty) (rest : List Nat), vs = [.ref r, .int (M : Int)] ∧ M < L ∧ Rd RC H r z i ∧ i ≤ z.length ∧ z.length ≤ 100000 ∧ GoodT M t ∧ (ql z).drop i = ql (wr t) ++ rest ∧ noL rest = true ∧ isOpt t = false ∧
  ∀ (x : Addr) (H' : Hp), Keep r H H' → Rd RC H' r z (i + (wr t).length) → TyAt TC ED (hide r H') (.ref x) t → Q (.ref x) H'
/-- behind the first sign of a list's or a record's writing -/
def spRest (c : Nat) (RC TC ED : Addr) (L : Nat) : Sp := fun vs H Q _ => ∃ (r : Addr) (M i : Nat) (z : Str) (t : Ty) (body rest : List Nat), vs = [.ref r, .int (M : Int)] ∧ M < L ∧ Rd RC H r z i ∧ 1 ≤ i ∧ i ≤ z.length ∧ z.length ≤ 100000 ∧ GoodT (M + 1) t ∧ ql (wr t) = c :: body ∧ isOpt t = false ∧ plainT t = false ∧ (ql z).drop i = body ++ rest ∧
  ∀ (x : Addr) (H' : Hp), Keep r H H' → Rd RC H' r z (i + body.length) → TyAt TC ED (hide r H') (.ref x) t → Q (.ref x) H'
theorem ok_part {f fq fi fs : Addr} {fd dq di ds : FuncData} {L n : Nat} (F : Fun K "_read_part" "_read_part" s_part f fd) (TD : TyD P w K mg base TC ED fi di) (M_skips : MtD P w K mg base RC "skips" 1 P_skips (spSkips RC) fs ds) (D_read_required : Def P w K mg base "_read_required" (n + 5) ["reader", "levels"] (spReq RC TC ED L) fq dq) : FnOk P w K mg base CX0 (n + 6) f fd P_part (spPart RC TC ED L) := by
  obtain ⟨gI, b_inner⟩ := TD.bI
  refine F.ok sc_part (fun vs H Q E h => ?_) (fun cdv A outer s H vs Q E hr h => ?_)
  · obtain ⟨r, M, i, z, t, rest, rfl, _⟩ := h
    rfl
  obtain ⟨r, M, i, z, t, rest, rfl, lt, rd, il, zl, good, here, no, noq, q⟩ := h
  refine ⟨_, (pss_cons (ps_set (i := 2) sc_part.nd rfl (Or.inl rfl) (pe_call D_read_required.ok (hr.mono (by first | decide | omega)) rfl D_read_required.g D_read_required.kp D_read_required.b .nil pass0 (pa_cons (pv 0) (pa_cons (pv 1) pa_nil))))
    (pss_cons (ps_if (pt_val (pe_meth (pv 0) M_skips.cl M_skips.me M_skips.ok (hr.mono (by first | decide | omega)) M_skips.b .nil pass0 (pa_cons pe_str pa_nil)))
      (pss_one (ps_ret (pe_makeN TD.how TD.ok (hr.mono (by first | decide | omega)) rfl TD.g b_inner pass0 (pa_cons pe_str pa_nil) (pk_cons (pv 2) pk_nil))))
      pss_nil)
    (pss_one (ps_ret (pv 2))))), ?_⟩
  have few : (wr t).length ≤ 100000 := by
    have z1 := congrArg List.length here
    rw [List.length_drop, List.length_append, ← ql_len, ← ql_len] at z1
    omega
  cases hopt : isOpt t with
  | true =>
    obtain ⟨u, rfl⟩ : ∃ u, t = .opt u := by
      cases t with
      | opt u => exact ⟨u, rfl⟩
      | _ => cases hopt
    obtain ⟨gu, nopt⟩ : GoodT M u ∧ isOpt u = false := by
      cases good with
      | plain p => cases p
      | opt a b => exact ⟨a, b⟩
    have w1 : ql (wr (.opt u)) = ql (wr u) ++ [63] := by
      simp only [wr]
      exact ql_app _ _
    have l1 : (wr (.opt u)).length = (wr u).length + 1 := by
      rw [ql_len, w1, List.length_append, ← ql_len]
      rfl
    rw [w1, List.append_assoc] at here
    refine ⟨_, rfl, _, rfl, r, M, i, z, u, 63 :: rest, rfl, lt, rd, il, zl, gu, here, rfl, nopt, fun x G kept rd2 at2 => ?_⟩
    have next := drop_more here
    rw [← ql_len] at next
    have il2 := drop_len next (by
      have z1 := drop_len here (by rw [← ql_len]; exact il)
      rw [List.length_append, ← ql_len, ← ql_len] at z1
      rw [← ql_len]
      omega)
    rw [← ql_len] at il2
    have il3 : i + (wr u).length + 1 ≤ z.length := by
      rw [← il2]
      show _ ≤ _ + (List.length rest + 1)
      omega
    obtain ⟨dx2, e2⟩ := rd2
    refine ⟨_, rfl, r, dx2, _, rfl, e2, rfl, r, z, "?", i + (wr u).length, rfl, ⟨dx2, e2⟩, by omega, by decide, fun G2 goes rd3 => ?_⟩
    have yes : pre (ql "?") ((ql z).drop (i + (wr u).length)) = true := by
      rw [next]
      exact pre_app [63] rest
    rw [if_pos yes] at rd3
    rw [yes]
    refine ⟨_, rfl, if_tt rfl ⟨_, rfl, rfl, rfl, fun y dy ny nd ne => ?_⟩⟩
    show spTInit TC ED [.ref y, .str (kindW (.opt u)), .ref x, (partsT (.opt u)).2, .ref ED] _ (fun v H3 => v = .non ∧ (fun a G => Q (.ref a) G) y H3) E0
    refine ty_read (R := fun a G => Q (.ref a) G) (t := .opt u) (r := r) ⟨fun v e => ?_, fun e => (nomatch e), fun fs e => (nomatch e), fun _ => rfl⟩ rd3.has few ny nd ne fun H' s12 at' => ?_
    · obtain rfl : u = v := Option.some.inj e
      exact TyAt.same (Keep.hide goes.keep) _ _ at2
    · refine q y H' (kept.trans (goes.keep.trans fun b o _ e => s12 b o e)) ?_ at'
      rw [l1, ← Nat.add_assoc]
      exact rd3.same s12
  | false =>
    refine ⟨_, rfl, _, rfl, r, M, i, z, t, rest, rfl, lt, rd, il, zl, good, here, no, hopt, fun x G kept rd2 at2 => ?_⟩
    have next := drop_more here
    rw [← ql_len] at next
    obtain ⟨dx2, e2⟩ := id rd2
    have il2 : i + (wr t).length ≤ z.length := by
      have z1 := drop_len here (by rw [← ql_len]; exact il)
      rw [List.length_append, ← ql_len, ← ql_len] at z1
      omega
    refine ⟨_, rfl, r, dx2, _, rfl, e2, rfl, r, z, "?", i + (wr t).length, rfl, ⟨dx2, e2⟩, il2, by decide, fun G2 goes rd3 => ?_⟩
    have nope : pre (ql "?") ((ql z).drop (i + (wr t).length)) = false := by
      rw [next]
      cases rest with
      | nil => rfl
      | cons c rest' => exact pre_no fun e => noq hopt (by rw [← e]; rfl)
    rw [nope, if_neg Bool.false_ne_true] at rd3
    rw [nope]
    exact ⟨_, rfl, if_ff rfl ⟨_, rfl, q x G2 (kept.trans goes.keep) rd3 (TyAt.same (Keep.hide goes.keep) _ _ at2)⟩⟩
end
end KX

namespace KX
open PySem PySem.Spec L2 PyProof.Rows
section
variable {base : Heap} {P : Program} {w : World} {K : PySem.W.Frag} {mg : Str → Option Value} {tk : Str → Tok} {TC ED RC : Addr}
abbrev s_req : Stmt := top 25
abbrev N_req : List Str := ["reader", "levels", "word"]
abbrev P_req : List Str := ["reader", "levels"]
theorem sc_req : FnScope N_req P_req (defScope s_req) := ⟨rfl, rfl, rfl, by decide +kernel, rfl, by decide +kernel, by decide +kernel⟩
/-- levels > 0 and reader.skips(w) -/
def tAsk (RC : Addr) (w : Str) : TT := tAnd (tTest (tOp (rI0 fun i j => V.bl (decide (j < i))) (tVar 1) (tC (V.int 0)))) (tB (tMeth RC "skips" (spSkips RC) [] E0 (tVar 0) (tCons (tC (V.str w)) tNil)))
theorem ask_no {RC r : Addr} {w z : Str} {i M : Nat} {σ : List (Option V)} {H : Hp} {Qb : Bool → Hp → Prop} (s0 : σ[0]? = some (some (.ref r))) (s1 : σ[1]? = some (some (.int (M : Int)))) (rd : Rd RC H r z i) (il : i ≤ z.length) (wl : w.length ≤ 1000) (no : pre (ql w) ((ql z).drop i) = false)
    (q : ∀ H', Goes r H H' → Rd RC H' r z i → Qb false H') : tAsk RC w σ H Qb := by
  refine ⟨_, s1, _, _, rfl, rfl, _, rfl, ?_⟩
  by_cases m : (0 : Int) < (M : Int)
  · refine if_tt (decide_eq_true m) ?_
    obtain ⟨dx, e⟩ := id rd
    refine ⟨_, s0, r, dx, _, rfl, e, rfl, r, z, w, i, rfl, rd, il, wl, fun G goes rd2 => ⟨_, rfl, ?_⟩⟩
    rw [no, if_neg Bool.false_ne_true] at rd2
    rw [no]
    exact q G goes rd2
  · refine if_ff (decide_eq_false m) ?_
    exact q H (Goes.refl _ _) rd
theorem ask_yes {RC r : Addr} {w z : Str} {i M : Nat} {σ : List (Option V)} {H : Hp} {Qb : Bool → Hp → Prop} (s0 : σ[0]? = some (some (.ref r))) (s1 : σ[1]? = some (some (.int ((M + 1 : Nat) : Int)))) (rd : Rd RC H r z i) (il : i ≤ z.length) (wl : w.length ≤ 1000) (yes : pre (ql w) ((ql z).drop i) = true)
    (q : ∀ H', Goes r H H' → Rd RC H' r z (i + w.length) → Qb true H') : tAsk RC w σ H Qb := by
  refine ⟨_, s1, _, _, rfl, rfl, _, rfl, ?_⟩
  refine if_tt (decide_eq_true (by omega : (0 : Int) < ((M + 1 : Nat) : Int))) ?_
  obtain ⟨dx, e⟩ := id rd
  refine ⟨_, s0, r, dx, _, rfl, e, rfl, r, z, w, i, rfl, rd, il, wl, fun G goes rd2 => ⟨_, rfl, ?_⟩⟩
  rw [if_pos yes] at rd2
  rw [yes]
  exact q G goes rd2
theorem down (r : Addr) (m : Nat) : [V.ref r, V.int (((m + 1 : Nat) : Int) - 1)] = [V.ref r, V.int (m : Int)] := by
  rw [show (((m + 1 : Nat) : Int) - 1) = (m : Int) from by omega]
theorem wr_list (u : Ty) : ql (wr (.list u)) = 91 :: (ql (wr u) ++ [93]) := by
  simp only [wr]
  rw [ql_app, ql_app]
  rfl
theorem wr_keyed (u : Ty) (k : Str) : ql (wr (.keyed u k)) = 91 :: (ql (wr u) ++ (ql " by " ++ (ql k ++ [93]))) := by
  simp only [wr]
  rw [ql_app, ql_app, ql_app, ql_app, List.append_assoc, List.append_assoc, List.append_assoc]
  rfl
theorem wr_rcd (fs : List (Str × Ty)) : ql (wr (.rcd fs)) = 123 :: (ql (Txt.join ", " (wrFs fs)) ++ [125]) := by
  simp only [wr]
  rw [ql_app, ql_app]
  rfl
theorem ok_req {f fl fr fi fs ft : Addr} {fd dl dr di ds dt : FuncData} {L n : Nat} (F : Fun K "_read_required" "_read_required" s_req f fd) (TD : TyD P w K mg base TC ED fi di) (M_skips : MtD P w K mg base RC "skips" 1 P_skips (spSkips RC) fs ds) (M_letters : MtD P w K mg base RC "letters" 3 P_letters (spLetters RC) ft dt)
    (D_read_list : Def P w K mg base "_read_list" (n + 6) ["reader", "levels"] (spRest 91 RC TC ED L) fl dl) (D_read_record : Def P w K mg base "_read_record" (n + 6) ["reader", "levels"] (spRest 123 RC TC ED L) fr dr) : FnOk P w K mg base CX0 (n + 7) f fd P_req (spReq RC TC ED (L + 1)) := by
  obtain ⟨d0, b_0, v_0⟩ := TD.b0
  refine F.ok sc_req (fun vs H Q E h => ?_) (fun cdv A outer s H vs Q E hr h => ?_)
  · obtain ⟨r, M, i, z, t, rest, rfl, _⟩ := h
    rfl
  obtain ⟨r, M, i, z, t, rest, rfl, lt, rd, il, zl, good, here, no, nopt, q⟩ := h
  refine ⟨_, (pss_cons (ps_if (PW.pt (pw_and (pt_cmpR op_gt (pv 1) pe_int (nomark _)) (pw_and1 (pt_val (pe_meth (pv 0) M_skips.cl M_skips.me M_skips.ok (hr.mono (by first | decide | omega)) M_skips.b .nil pass0 (pa_cons pe_str pa_nil))))))
      (pss_one (ps_ret (pe_call D_read_list.ok (hr.mono (by first | decide | omega)) rfl D_read_list.g D_read_list.kp D_read_list.b .nil pass0 (pa_cons (pv 0) (pa_cons (pe_op op_sub (pv 1) pe_int) pa_nil)))))
      pss_nil)
    (pss_cons (ps_if (PW.pt (pw_and (pt_cmpR op_gt (pv 1) pe_int (nomark _)) (pw_and1 (pt_val (pe_meth (pv 0) M_skips.cl M_skips.me M_skips.ok (hr.mono (by first | decide | omega)) M_skips.b .nil pass0 (pa_cons pe_str pa_nil))))))
      (pss_one (ps_ret (pe_call D_read_record.ok (hr.mono (by first | decide | omega)) rfl D_read_record.g D_read_record.kp D_read_record.b .nil pass0 (pa_cons (pv 0) (pa_cons (pe_op op_sub (pv 1) pe_int) pa_nil)))))
      pss_nil)
    (pss_cons (ps_set (i := 2) sc_req.nd rfl (Or.inl rfl) (pe_meth0 (pv 0) M_letters.cl M_letters.me M_letters.ok (hr.mono (by first | decide | omega)) M_letters.b .nil pass0))
    (pss_cons (ps_if (pt_cmpR (op_notInK K rfl) (pv 2) (pe_tup (pa_cons pe_str (pa_cons pe_str (pa_cons pe_str pa_nil)))) (by with_unfolding_all rfl))
      (pss_one ps_never)
      pss_nil)
    (pss_one (ps_ret (pe_make TD.how TD.ok (hr.mono (by first | decide | omega)) rfl TD.g b_0 v_0 pass0 (pa_cons (pv 2) pa_nil)))))))), ?_⟩
  have il2 : i + (wr t).length ≤ z.length := by
    have z1 := drop_len here (by rw [← ql_len]; exact il)
    rw [List.length_append, ← ql_len, ← ql_len] at z1
    omega
  have few : (wr t).length ≤ 100000 := by omega
  show tIfS (tAsk RC "[") _ _ _ _ _
  cases good with
  | opt _ _ => cases nopt
  | plain pl =>
    rw [wr_plain pl] at here il2 few q
    obtain ⟨lets, words⟩ := wr_plainL pl
    have first : ∃ c s, ql (kindW t) = c :: s := by
      rcases words with e | e | e <;> rw [e] <;> exact ⟨_, _, rfl⟩
    obtain ⟨c, s', first⟩ := first
    have low : 97 ≤ c ∧ c ≤ 122 := lets c (by rw [first]; exact List.mem_cons_self)
    refine ask_no rfl rfl rd il (by decide) (by rw [here, first]; exact pre_no (c := 91) (by omega)) fun G1 g1 rd1 => if_ff rfl ?_
    show tIfS (tAsk RC "{") _ _ _ _ _
    refine ask_no rfl rfl rd1 il (by decide) (by rw [here, first]; exact pre_no (c := 123) (by omega)) fun G2 g2 rd2 => if_ff rfl ?_
    obtain ⟨dx, e2⟩ := id rd2
    refine ⟨_, rfl, r, dx, _, rfl, e2, rfl, r, z, i, rfl, ⟨dx, e2⟩, il, big (by omega), fun G3 g3 rd3 => ?_⟩
    have cnt : run ((ql z).drop i) = (kindW t).length := by
      rw [here, run_word lets no, ← ql_len]
    have word : (⟨(((ql z).drop i).take (run ((ql z).drop i))).toArray⟩ : Str) = kindW t := by
      rw [cnt, here, ql_len, List.take_left]
    rw [cnt] at rd3
    rw [word]
    refine ⟨_, rfl, (by decide +kernel), fun p np => ⟨p, _, rfl, .inr (SqT.of upd_same), rfl, rfl, _, rfl, if_ff ?_ ?_⟩⟩
    · cases t <;> first | rfl | cases pl
    have s3 : Same G3 (upd G3 p (.tup [.str "text", .str "number", .str "flag"])) := same_new np _
    have np2 : (partsT t).1 = none ∧ (partsT t).2 = .non := by cases t <;> first | exact ⟨rfl, rfl⟩ | cases pl
    refine ⟨_, rfl, fun x dy nx nd ne => ?_⟩
    have key : ∀ u : V, u = .non → (partsT t).2 = u → spTInit TC ED [.ref x, .str (kindW t), .non, u, .ref ED] (upd (upd (upd G3 p (.tup [.str "text", .str "number", .str "flag"])) dy (.own x)) x (.ins TC dy [])) (fun v H3 => v = .non ∧ (fun a G => Q (.ref a) G) x H3) E0 := ?_
    · exact key .non rfl np2.2
    rintro _ un rfl
    refine ty_read (R := fun a G => Q (.ref a) G) (t := t) (r := r) ⟨fun v e => ?_, fun _ => rfl, fun fs e => ?_, fun _ => rfl⟩ (rd3.same s3).has (by rw [wr_plain pl]; exact few) nx nd ne fun H' s4 at' => ?_
    · rw [np2.1] at e
      cases e
    · rw [e] at pl
      cases pl
    · exact q x H' ((g1.keep.trans (g2.keep.trans g3.keep)).trans (Same.keep (s3.trans s4))) (rd3.same (s3.trans s4)) at'
  | @list m u gu =>
    rw [wr_list, List.cons_append] at here
    have next : (ql z).drop (i + 1) = (ql (wr u) ++ [93]) ++ rest := drop_more (a := [91]) here
    have l1 : (wr (.list u)).length = 1 + (ql (wr u) ++ [93]).length := by
      rw [ql_len, wr_list, List.length_cons, Nat.add_comm]
    refine ask_yes rfl rfl rd il (by decide) (by rw [here]; exact pre_app [91] _) fun G1 g1 rd1 => if_tt rfl ?_
    refine ⟨_, rfl, _, rfl, _, _, rfl, rfl, r, m, i + 1, z, .list u, _, rest, ?_, by omega, rd1, by omega, by omega, zl, .list gu, wr_list u, rfl, rfl, next, fun x H' kept rd2 at' => q x H' (g1.keep.trans kept) ?_ at'⟩
    · exact down r m
    · rw [l1, ← Nat.add_assoc]
      exact rd2
  | @keyed m fs k u gu mem kt lk =>
    rw [wr_keyed, List.cons_append] at here
    have next := drop_more (a := [91]) here
    have l1 : (wr (.keyed (.rcd fs) k)).length = 1 + (ql (wr (.rcd fs)) ++ (ql " by " ++ (ql k ++ [93]))).length := by
      rw [ql_len, wr_keyed, List.length_cons, Nat.add_comm]
    refine ask_yes rfl rfl rd il (by decide) (by rw [here]; exact pre_app [91] _) fun G1 g1 rd1 => if_tt rfl ?_
    refine ⟨_, rfl, _, rfl, _, _, rfl, rfl, r, m, i + 1, z, .keyed (.rcd fs) k, _, rest, ?_, by omega, rd1, by omega, by omega, zl, .keyed gu mem kt lk, wr_keyed _ k, rfl, rfl, next, fun x H' kept rd2 at' => q x H' (g1.keep.trans kept) ?_ at'⟩
    · exact down r m
    · rw [l1, ← Nat.add_assoc]
      exact rd2
  | @rcd m fs ne nd so lim ws gs =>
    rw [wr_rcd, List.cons_append] at here
    have next := drop_more (a := [123]) here
    have l1 : (wr (.rcd fs)).length = 1 + (ql (Txt.join ", " (wrFs fs)) ++ [125]).length := by
      rw [ql_len, wr_rcd, List.length_cons, Nat.add_comm]
    refine ask_no rfl rfl rd il (by decide) (by rw [here]; exact pre_no (c := 91) (by decide)) fun G0 g0 rd0 => if_ff rfl ?_
    show tIfS (tAsk RC "{") _ _ _ _ _
    refine ask_yes rfl rfl rd0 il (by decide) (by rw [here]; exact pre_app [123] _) fun G1 g1 rd1 => if_tt rfl ?_
    refine ⟨_, rfl, _, rfl, _, _, rfl, rfl, r, m, i + 1, z, .rcd fs, _, rest, ?_, by omega, rd1, by omega, by omega, zl, .rcd ne nd so lim ws gs, wr_rcd fs, rfl, rfl, next, fun x H' kept rd2 at' => q x H' (g0.keep.trans (g1.keep.trans kept)) ?_ at'⟩
    · exact down r m
    · rw [l1, ← Nat.add_assoc]
      exact rd2
end
end KX

namespace KX
open PySem PySem.Spec L2 PyProof.Rows
section
variable {base : Heap} {P : Program} {w : World} {K : PySem.W.Frag} {mg : Str → Option Value} {tk : Str → Tok} {TC ED RC : Addr}
abbrev s_rlist : Stmt := top 26
abbrev N_rlist : List Str := ["reader", "levels", "inner", "key"]
abbrev P_rlist : List Str := ["reader", "levels"]
theorem sc_rlist : FnScope N_rlist P_rlist (defScope s_rlist) := ⟨rfl, rfl, rfl, by decide +kernel, rfl, by decide +kernel, by decide +kernel⟩
theorem ok_rlist {f fp fc fi fs ft fn : Addr} {fd dp dc di ds dt dn : FuncData} {L n : Nat} (F : Fun K "_read_list" "_read_list" s_rlist f fd) (TD : TyD P w K mg base TC ED fi di) (M_skips : MtD P w K mg base RC "skips" 1 P_skips (spSkips RC) fs ds) (M_letters : MtD P w K mg base RC "letters" 3 P_letters (spLetters RC) ft dt) (M_needs : MtD P w K mg base RC "needs" 2 P_needs (spNeeds RC) fn dn)
    (D_read_part : Def P w K mg base "_read_part" (n + 4) P_part (spPart RC TC ED L) fp dp) (D_can_be_key : Def P w K mg base "_can_be_key" 1 P_can (spCan TC ED) fc dc) : FnOk P w K mg base CX0 (n + 6) f fd P_rlist (spRest 91 RC TC ED L) := by
  obtain ⟨gI, b_inner⟩ := TD.bI
  obtain ⟨gK, b_inner_key⟩ := TD.bK
  refine F.ok sc_rlist (fun vs H Q E h => ?_) (fun cdv A outer s H vs Q E hr h => ?_)
  · obtain ⟨r, M, i, z, t, body, rest, rfl, _⟩ := h
    rfl
  obtain ⟨r, M, i, z, t, body, rest, rfl, lt, rd, i1, il, zl, good, wt, nopt, npl, here, q⟩ := h
  refine ⟨_, (pss_cons (ps_set (i := 2) sc_rlist.nd rfl (Or.inl rfl) (pe_call D_read_part.ok (hr.mono (by first | decide | omega)) rfl D_read_part.g D_read_part.kp D_read_part.b .nil pass0 (pa_cons (pv 0) (pa_cons (pv 1) pa_nil))))
    (pss_cons (ps_if (pt_val (pe_meth (pv 0) M_skips.cl M_skips.me M_skips.ok (hr.mono (by first | decide | omega)) M_skips.b .nil pass0 (pa_cons pe_str pa_nil)))
      (pss_one (ps_ret (pe_makeN TD.how TD.ok (hr.mono (by first | decide | omega)) rfl TD.g b_inner pass0 (pa_cons pe_str pa_nil) (pk_cons (pv 2) pk_nil))))
      pss_nil)
    (pss_cons (ps_expr (pe_meth (pv 0) M_needs.cl M_needs.me M_needs.ok (hr.mono (by first | decide | omega)) M_needs.b .nil pass0 (pa_cons pe_str pa_nil)))
    (pss_cons (ps_set (i := 3) sc_rlist.nd rfl (Or.inl rfl) (pe_meth0 (pv 0) M_letters.cl M_letters.me M_letters.ok (hr.mono (by first | decide | omega)) M_letters.b .nil pass0))
    (pss_cons (ps_expr (pe_meth (pv 0) M_needs.cl M_needs.me M_needs.ok (hr.mono (by first | decide | omega)) M_needs.b .nil pass0 (pa_cons pe_str pa_nil)))
    (pss_cons (ps_if (pt_not (pt_val (pe_call D_can_be_key.ok (hr.mono (by first | decide | omega)) rfl D_can_be_key.g D_can_be_key.kp D_can_be_key.b .nil pass0 (pa_cons (pv 2) (pa_cons (pv 3) pa_nil)))))
      (pss_one ps_never)
      pss_nil)
    (pss_one (ps_ret (pe_makeN TD.how TD.ok (hr.mono (by first | decide | omega)) rfl TD.g b_inner_key pass0 (pa_cons pe_str pa_nil) (pk_cons (pv 2) (pk_cons (pv 3) pk_nil))))))))))), ?_⟩
  have few : (wr t).length ≤ 100000 := by
    have z1 := congrArg List.length here
    have z2 := congrArg List.length wt
    rw [List.length_drop, List.length_append, ← ql_len] at z1
    rw [← ql_len, List.length_cons] at z2
    omega
  have ends := drop_len here (by rw [← ql_len]; exact il)
  rw [List.length_append, ← ql_len] at ends
  cases good with
  | plain p => rw [p] at npl; cases npl
  | opt _ _ => cases nopt
  | rcd _ _ _ _ _ _ =>
    rw [wr_rcd] at wt
    cases wt
  | @list _ u gu =>
    rw [wr_list] at wt
    obtain rfl : ql (wr u) ++ [93] = body := (List.cons.inj wt).2
    rw [List.append_assoc] at here
    rw [List.length_append, ← ql_len] at ends q
    refine ⟨_, rfl, _, rfl, r, M, i, z, u, 93 :: rest, rfl, lt, rd, il, zl, gu, here, rfl, fun _ => by simp, fun x G kept rd2 at2 => ?_⟩
    have next := drop_more here
    rw [← ql_len] at next
    obtain ⟨dx2, e2⟩ := id rd2
    have il2 : i + (wr u).length ≤ z.length := by omega
    refine ⟨_, rfl, r, dx2, _, rfl, e2, rfl, r, z, "]", i + (wr u).length, rfl, ⟨dx2, e2⟩, il2, by decide, fun G2 goes rd3 => ?_⟩
    have yes : pre (ql "]") ((ql z).drop (i + (wr u).length)) = true := by
      rw [next]
      exact pre_app [93] rest
    rw [if_pos yes] at rd3
    rw [yes]
    refine ⟨_, rfl, if_tt rfl ⟨_, rfl, rfl, rfl, fun y dy ny nd ne => ?_⟩⟩
    show spTInit TC ED [.ref y, .str (kindW (.list u)), .ref x, (partsT (.list u)).2, .ref ED] _ (fun v H3 => v = .non ∧ (fun a G => Q (.ref a) G) y H3) E0
    refine ty_read (R := fun a G => Q (.ref a) G) (t := .list u) (r := r) ⟨fun v e => ?_, fun e => (nomatch e), fun fs e => (nomatch e), fun _ => rfl⟩ rd3.has few ny nd ne fun H' s12 at' => ?_
    · obtain rfl : u = v := Option.some.inj e
      exact TyAt.same (Keep.hide goes.keep) _ _ at2
    · exact q y H' (kept.trans (goes.keep.trans (Same.keep s12))) (rd3.same s12) at'
  | @keyed _ fs k u gu mem kt lk =>
    rw [wr_keyed] at wt
    obtain rfl := (List.cons.inj wt).2
    have lim : fs.length < 4000 := by
      cases gu with
      | plain p => cases p
      | rcd _ _ _ l _ _ => exact l
    have four : (ql " by ").length = 4 := rfl
    have kl := ql_len k
    rw [List.append_assoc, List.append_assoc, List.append_assoc] at here
    have one : ([93] : List Nat).length = 1 := rfl
    rw [List.length_append, List.length_append, List.length_append, four, one, ← kl, ← ql_len] at ends q
    refine ⟨_, rfl, _, rfl, r, M, i, z, .rcd fs, _, rfl, lt, rd, il, zl, gu, here, rfl, fun _ => (show (some 32 : Option Nat) ≠ some 63 by decide), fun x G kept rd2 at2 => ?_⟩
    have next := drop_more here
    rw [← ql_len] at next
    obtain ⟨dx2, e2⟩ := id rd2
    refine ⟨_, rfl, r, dx2, _, rfl, e2, rfl, r, z, "]", i + (wr (.rcd fs)).length, rfl, ⟨dx2, e2⟩, by omega, by decide, fun G2 goes rd3 => ?_⟩
    have nope : pre (ql "]") ((ql z).drop (i + (wr (.rcd fs)).length)) = false := by
      rw [next]
      exact pre_no (c := 93) (d := 32) (by decide)
    rw [nope, if_neg Bool.false_ne_true] at rd3
    rw [nope]
    refine ⟨_, rfl, if_ff rfl ?_⟩
    obtain ⟨dx3, e3⟩ := id rd3
    refine ⟨_, rfl, r, dx3, _, rfl, e3, rfl, r, z, " by ", i + (wr (.rcd fs)).length, rfl, rd3, by omega, by decide, by rw [next]; exact pre_app _ _, fun G3 goes3 rd4 => ?_⟩
    have next2 := drop_more next
    rw [four] at next2
    have rd4' : Rd RC G3 r z (i + (wr (.rcd fs)).length + 4) := rd4
    obtain ⟨dx4, e4⟩ := id rd4'
    refine ⟨_, rfl, r, dx4, _, rfl, e4, rfl, r, z, _, rfl, rd4', by omega, big (by omega), fun G4 goes4 rd5 => ?_⟩
    have cnt : run ((ql z).drop (i + (wr (.rcd fs)).length + 4)) = k.length := by
      rw [next2, run_word lk rfl, ← ql_len]
    have word : (⟨(((ql z).drop (i + (wr (.rcd fs)).length + 4)).take (run ((ql z).drop (i + (wr (.rcd fs)).length + 4)))).toArray⟩ : Str) = k := by
      rw [cnt, next2, ql_len, List.take_left]
    rw [cnt] at rd5
    rw [word]
    have next3 := drop_more next2
    rw [← ql_len] at next3
    obtain ⟨dx5, e5⟩ := id rd5
    refine ⟨_, rfl, r, dx5, _, rfl, e5, rfl, r, z, "]", _, rfl, rd5, by omega, by decide, by rw [next3]; exact pre_app [93] rest, fun G5 goes5 rd6 => ?_⟩
    have all5 : Goes r G G5 := goes.trans (goes3.trans (goes4.trans goes5))
    have at5 : TyAt TC ED (hide r G5) (.ref x) (.rcd fs) := TyAt.same (Keep.hide all5.keep) _ _ at2
    refine ⟨_, rfl, _, rfl, x, k, fs, rfl, TyAt.same (hide_sub _ _) _ _ at5, lim, fun G6 s6 => ⟨_, rfl, ?_⟩⟩
    have found : (fs.any fun q => decide (q.1 = k) && keyT q.2) = true := List.any_eq_true.mpr ⟨(k, u), mem, by rw [decide_eq_true rfl, kt]; rfl⟩
    rw [found]
    refine if_ff rfl ?_
    have rd7 := rd6.same s6
    refine ⟨_, rfl, _, rfl, rfl, rfl, fun y dy ny nd ne => ?_⟩
    show spTInit TC ED [.ref y, .str (kindW (.keyed (.rcd fs) k)), .ref x, (partsT (.keyed (.rcd fs) k)).2, .ref ED] _ (fun v H3 => v = .non ∧ (fun a G => Q (.ref a) G) y H3) E0
    refine ty_read (R := fun a G => Q (.ref a) G) (t := .keyed (.rcd fs) k) (r := r) ⟨fun v e => ?_, fun e => (nomatch e), fun fs e => (nomatch e), fun _ => rfl⟩ rd7.has few ny nd ne fun H' s12 at' => ?_
    · obtain rfl : Ty.rcd fs = v := Option.some.inj e
      exact TyAt.same (Keep.hide (Same.keep s6)) _ _ at5
    · refine q y H' (kept.trans (all5.keep.trans (Same.keep (s6.trans s12)))) ?_ at'
      have e : i + (wr (.rcd fs)).length + 4 + k.length + 1 = i + ((wr (.rcd fs)).length + (4 + (k.length + 1))) := by omega
      rw [← e]
      exact rd7.same s12
end
end KX

namespace KX
open PySem PySem.Spec L2 PyProof.Rows
section
variable {TC E : Addr} {H : Hp} {a : Addr} {xs : List V}
theorem not_here {b : Addr} {o : HO} (l : H a = some (.lst xs)) (h : H b = some o) (n : ∀ ys, o ≠ .lst ys) : hide a H b = some o := by
  rw [hide_ne]
  · exact h
  · intro e
    rw [e, l] at h
    exact n xs (Option.some.inj h).symm
mutual
theorem TyAt.avoid (l : H a = some (.lst xs)) : ∀ (t : Ty) (v : V), TyAt TC E H v t → TyAt TC E (hide a H) v t
  | .text, _, .plain p h => .plain p (not_here l h fun _ e => nomatch e)
  | .number, _, .plain p h => .plain p (not_here l h fun _ e => nomatch e)
  | .flag, _, .plain p h => .plain p (not_here l h fun _ e => nomatch e)
  | .opt t, _, .opt h i => .opt (not_here l h fun _ e => nomatch e) (TyAt.avoid l t _ i)
  | .opt _, _, .plain p _ => nomatch p
  | .list t, _, .list h i => .list (not_here l h fun _ e => nomatch e) (TyAt.avoid l t _ i)
  | .list _, _, .plain p _ => nomatch p
  | .keyed t _, _, .keyed h i => .keyed (not_here l h fun _ e => nomatch e) (TyAt.avoid l t _ i)
  | .keyed _ _, _, .plain p _ => nomatch p
  | .rcd fs, _, .rcd h1 h2 r => .rcd (not_here l h1 fun _ e => nomatch e) (not_here l h2 fun _ e => nomatch e) (TyRows.avoid l fs _ r)
  | .rcd _, _, .plain p _ => nomatch p
theorem TyRows.avoid (l : H a = some (.lst xs)) : ∀ (fs : List (Str × Ty)) (rows : List V), TyRows TC E H rows fs → TyRows TC E (hide a H) rows fs
  | [], _, .nil => .nil
  | (_, t) :: fs, _, .cons h i r => .cons (not_here l h fun _ e => nomatch e) (TyAt.avoid l t _ i) (TyRows.avoid l fs _ r)
end
theorem TyRows.snoc {c : Addr} {v : V} {n : Str} {t : Ty} : ∀ {rows : List V} {fs : List (Str × Ty)}, TyRows TC E H rows fs → H c = some (.tup [.str n, v]) → TyAt TC E H v t → TyRows TC E H (rows ++ [.ref c]) (fs ++ [(n, t)])
  | _, _, .nil, h, i => .cons h i .nil
  | _, _, .cons h0 i0 r, h, i => .cons h0 i0 (TyRows.snoc r h i)
end
/-- what follows a record's first field -/
def tailL : List (Str × Ty) → List Nat
  | [] => [125]
  | (n, u) :: fs => ql ", " ++ (ql n ++ (ql ": " ++ (ql (wr u) ++ tailL fs)))
theorem join_tail : ∀ (n : Str) (u : Ty) (fs : List (Str × Ty)), ql (Txt.join ", " (wrFs ((n, u) :: fs))) ++ [125] = ql n ++ (ql ": " ++ (ql (wr u) ++ tailL fs))
  | n, u, [] => by
    rw [ql_join]
    simp only [wrFs, List.map, tailL, TL.joinL]
    rw [ql_app, ql_app, List.append_assoc, List.append_assoc]
  | n, u, (m, t) :: fs => by
    have ih := join_tail m t fs
    rw [ql_join] at ih ⊢
    simp only [wrFs, List.map] at ih ⊢
    show (ql (n ++ ": " ++ wr u) ++ ([44, 32] ++ TL.joinL [44, 32] (ql (m ++ ": " ++ wr t) :: (wrFs fs).map ql))) ++ [125] = _
    rw [List.append_assoc, List.append_assoc, ih, ql_app, ql_app, List.append_assoc, List.append_assoc]
    simp only [tailL]
    rfl
section
variable {base : Heap} {P : Program} {w : World} {K : PySem.W.Frag} {mg : Str → Option Value} {tk : Str → Tok} {TC ED RC : Addr}
abbrev s_field : Stmt := top 29
abbrev N_field : List Str := ["reader", "levels", "name"]
abbrev P_field : List Str := ["reader", "levels"]
theorem sc_field : FnScope N_field P_field (defScope s_field) := ⟨rfl, rfl, rfl, by decide +kernel, rfl, by decide +kernel, by decide +kernel⟩
def spField (RC TC ED : Addr) (L : Nat) : Sp := fun vs H Q _ => ∃ (r : Addr) (M i : Nat) (z n : Str) (u : Ty) (rest : List Nat), vs = [.ref r, .int (M : Int)] ∧ M < L ∧ Rd RC H r z i ∧ i ≤ z.length ∧ z.length ≤ 100000 ∧ (letters n ∧ n.length ≤ 12 ∧ n.length ≠ 0) ∧ GoodT M u ∧ (ql z).drop i = ql n ++ (ql ": " ++ (ql (wr u) ++ rest)) ∧ noL rest = true ∧ rest.head? ≠ some 63 ∧
  ∀ (c : Addr) (v : V) (H' : Hp), Keep r H H' → Rd RC H' r z (i + (n.length + (2 + (wr u).length))) → c ≠ r → H' c = some (.tup [.str n, v]) → TyAt TC ED (hide r H') v u → Q (.ref c) H'
theorem ok_field {f fp fi ft fn : Addr} {fd dp di dt dn : FuncData} {L n : Nat} (F : Fun K "_read_field" "_read_field" s_field f fd) (M_letters : MtD P w K mg base RC "letters" 3 P_letters (spLetters RC) ft dt) (M_needs : MtD P w K mg base RC "needs" 2 P_needs (spNeeds RC) fn dn)
    (D_read_part : Def P w K mg base "_read_part" (n + 4) P_part (spPart RC TC ED L) fp dp) (D_is_name : Def P w K mg base "is_name" 2 P_is_name spIsName fi di) : FnOk P w K mg base CX0 (n + 5) f fd P_field (spField RC TC ED L) := by
  refine F.ok sc_field (fun vs H Q E h => ?_) (fun cdv A outer s H vs Q E hr h => ?_)
  · obtain ⟨r, M, i, z, m, u, rest, rfl, _⟩ := h
    rfl
  obtain ⟨r, M, i, z, m, u, rest, rfl, lt, rd, il, zl, ⟨lm, l12, l0⟩, good, here, no, noq, q⟩ := h
  refine ⟨_, (pss_cons (ps_set (i := 2) sc_field.nd rfl (Or.inl rfl) (pe_meth0 (pv 0) M_letters.cl M_letters.me M_letters.ok (hr.mono (by first | decide | omega)) M_letters.b .nil pass0))
    (pss_cons (ps_if (pt_not (pt_val (pe_call D_is_name.ok (hr.mono (by first | decide | omega)) rfl D_is_name.g D_is_name.kp D_is_name.b .nil pass0 (pa_cons (pv 2) pa_nil))))
      (pss_one ps_never)
      pss_nil)
    (pss_cons (ps_expr (pe_meth (pv 0) M_needs.cl M_needs.me M_needs.ok (hr.mono (by first | decide | omega)) M_needs.b .nil pass0 (pa_cons pe_str pa_nil)))
    (pss_one (ps_ret (pe_tup (pa_cons (pv 2) (pa_cons (pe_call D_read_part.ok (hr.mono (by first | decide | omega)) rfl D_read_part.g D_read_part.kp D_read_part.b .nil pass0 (pa_cons (pv 0) (pa_cons (pv 1) pa_nil))) pa_nil)))))))), ?_⟩
  have two : (ql ": ").length = 2 := rfl
  have ml := ql_len m
  have ends := drop_len here (by rw [← ql_len]; exact il)
  rw [List.length_append, List.length_append, List.length_append, two, ← ml, ← ql_len (wr u), ← ql_len z] at ends
  obtain ⟨dx, e1⟩ := id rd
  refine ⟨_, rfl, r, dx, _, rfl, e1, rfl, r, z, i, rfl, rd, il, big (by omega), fun G1 g1 rd1 => ?_⟩
  have cnt : run ((ql z).drop i) = m.length := by rw [here, run_word lm rfl, ← ql_len]
  have word : (⟨(((ql z).drop i).take (run ((ql z).drop i))).toArray⟩ : Str) = m := by rw [cnt, here, ql_len, List.take_left]
  rw [cnt] at rd1
  rw [word]
  refine ⟨_, rfl, m, rfl, ⟨by omega, l12, lm⟩, fun G2 s2 => ⟨_, rfl, if_ff rfl ?_⟩⟩
  have rd2 := rd1.same s2
  have next := drop_more here
  rw [← ml] at next
  obtain ⟨dx2, e2⟩ := id rd2
  refine ⟨_, rfl, r, dx2, _, rfl, e2, rfl, r, z, ": ", i + m.length, rfl, rd2, by omega, by decide, by rw [next]; exact pre_app _ _, fun G3 g3 rd3 => ?_⟩
  have next2 := drop_more next
  rw [two] at next2
  have rd3' : Rd RC G3 r z (i + m.length + 2) := rd3
  refine ⟨_, rfl, _, rfl, _, rfl, r, M, _, z, u, rest, rfl, lt, rd3', by omega, zl, good, next2, no, fun _ => noq, fun x G4 kept rd4 at4 => ?_⟩
  refine ⟨by show 2 ≤ sizeLine; decide +kernel, fun c nc => ?_⟩
  have k4 : Keep r H G4 := g1.keep.trans ((Same.keep s2).trans (g3.keep.trans kept))
  have new : Same G4 (upd G4 c (.tup [.str m, .ref x])) := same_new nc _
  have cr : c ≠ r := fun e => by
    obtain ⟨o, has⟩ := rd4.has
    rw [e, has] at nc
    cases nc
  refine q c (.ref x) _ (k4.trans (Same.keep new)) ?_ cr upd_same (TyAt.same (Keep.hide (Same.keep new)) _ _ at4)
  have e : i + m.length + 2 + (wr u).length = i + (m.length + (2 + (wr u).length)) := by omega
  rw [← e]
  exact rd4.same new
end
end KX

namespace KX
open PySem PySem.Spec L2 PyProof.Rows
section
variable {base : Heap} {P : Program} {w : World} {K : PySem.W.Frag} {mg : Str → Option Value} {tk : Str → Tok} {TC ED RC : Addr}
theorem tail_first (fs : List (Str × Ty)) (rest : List Nat) : noL (tailL fs ++ rest) = true ∧ (tailL fs ++ rest).head? ≠ some 63 := by
  cases fs with
  | nil => exact ⟨rfl, (show (some 125 : Option Nat) ≠ some 63 by decide)⟩
  | cons q fs => exact ⟨rfl, (show (some 44 : Option Nat) ≠ some 63 by decide)⟩
/-- where the reader stands -/
def atOf (r : Addr) (G : Hp) : Nat := match G r with
  | some (.ins _ _ [_, (_, .int k)]) => k.toNat
  | _ => 0
theorem atOf_rd {RC r : Addr} {G : Hp} {z : Str} {i : Nat} (h : Rd RC G r z i) : atOf r G = i := by
  obtain ⟨dx, e⟩ := h
  unfold atOf
  rw [e]
  rfl
theorem Rd.ne {RC r l : Addr} {G : Hp} {z : Str} {i : Nat} {xs : List V} (h : Rd RC G r z i) (e : G l = some (.lst xs)) : l ≠ r := fun z => by
  obtain ⟨dx, g⟩ := h
  rw [z, g] at e
  cases e
theorem Rd.upd {RC r l : Addr} {G : Hp} {z : Str} {i : Nat} {o : HO} (h : Rd RC G r z i) (n : l ≠ r) : Rd RC (upd G l o) r z i := h.imp fun _ e => (upd_ne (Ne.symm n)).trans e
theorem hide_upd {r l : Addr} {G : Hp} {o : HO} : Same (hide l (hide r G)) (hide r (upd G l o)) := fun b u e => by
  by_cases x : b = l
  · rw [x, show hide l (hide r G) l = none from if_pos rfl] at e
    cases e
  · rw [hide_ne x] at e
    by_cases y : b = r
    · rw [y, show hide r G r = none from if_pos rfl] at e
      cases e
    · rw [hide_ne y] at e ⊢
      rw [upd_ne x]
      exact e
abbrev s_rrec : Stmt := top 28
abbrev N_rrec : List Str := ["reader", "levels", "fields", "names", "name", "part"]
abbrev P_rrec : List Str := ["reader", "levels"]
theorem sc_rrec : FnScope N_rrec P_rrec (defScope s_rrec) := ⟨rfl, rfl, rfl, by decide +kernel, rfl, by decide +kernel, by decide +kernel⟩
theorem ok_rrec {f fg fi fs fn : Addr} {fd dg di ds dn : FuncData} {L n : Nat} (F : Fun K "_read_record" "_read_record" s_rrec f fd) (T : BlT mg) (TD : TyD P w K mg base TC ED fi di) (M_skips : MtD P w K mg base RC "skips" 1 P_skips (spSkips RC) fs ds) (M_needs : MtD P w K mg base RC "needs" 2 P_needs (spNeeds RC) fn dn)
    (D_read_field : Def P w K mg base "_read_field" (n + 5) P_field (spField RC TC ED L) fg dg) : FnOk P w K mg base CX0 (n + 6) f fd P_rrec (spRest 123 RC TC ED L) := by
  obtain ⟨gF, b_fields⟩ := TD.bF
  refine F.ok sc_rrec (fun vs H Q E h => ?_) (fun cdv A outer s H vs Q E hr h => ?_)
  · obtain ⟨r, M, i, z, t, body, rest, rfl, _⟩ := h
    rfl
  obtain ⟨r, M, i, z, t, body, rest, rfl, lt, rd, i1, il, zl, good, wt, nopt, npl, here, q⟩ := h
  refine ⟨_, (pss_cons (ps_set (i := 2) sc_rrec.nd rfl (Or.inl rfl) (pe_lst (pa_cons (pe_call D_read_field.ok (hr.mono (by first | decide | omega)) rfl D_read_field.g D_read_field.kp D_read_field.b .nil pass0 (pa_cons (pv 0) (pa_cons (pv 1) pa_nil))) pa_nil)))
    (pss_cons (ps_while PassesOwn.never (pt_not (pt_val (pe_meth (pv 0) M_skips.cl M_skips.me M_skips.ok (hr.mono (by first | decide | omega)) M_skips.b .nil pass0 (pa_cons pe_str pa_nil))))
      (pss_cons (ps_expr (pe_meth (pv 0) M_needs.cl M_needs.me M_needs.ok (hr.mono (by first | decide | omega)) M_needs.b .nil pass0 (pa_cons pe_str pa_nil)))
    (pss_one (ps_expr (pe_bm PySem.F.plainAttrs_list PySem.F.slot_list_append PySem.F.type_list_append mt_append (pv 2) (pa_cons (pe_call D_read_field.ok (hr.mono (by first | decide | omega)) rfl D_read_field.g D_read_field.kp D_read_field.b .nil pass0 (pa_cons (pv 0) (pa_cons (pv 1) pa_nil))) pa_nil))))))
    (pss_cons (ps_setLc (i := 3) (own := [("name", 4), ("part", 5)]) (g := (gTup K 2 (gCons (gName 4) (gCons (gName 5) gNil)))) (tt := tYes) rfl sc_rrec.nd rfl rfl (sw_true rfl rfl rfl (by decide +kernel)) (pi_list (pv 2)) (blkOk_by (own := [("name", 4), ("part", 5)]) (N := N_rrec) (sc := defScope s_rrec) (by decide +kernel)) (fun _ _ _ _ _ => (pg_tup rfl (pgs_cons (pg_name (i := 4) sc_rrec.nd rfl (Or.inl rfl)) (pgs_cons (pg_name (i := 5) sc_rrec.nd rfl (Or.inl rfl)) pgs_nil)))) (fun _ _ _ _ _ => pts_nil) (fun _ _ _ _ _ => (pv 4)))
    (pss_cons (ps_if (pt_cmpR (op_neK K rfl hr.units) (pv 3) (pe_callB (call_sortedSet rfl) (by rfl) T.sorted (by decide +kernel) (pa_cons (pe_callTy (call_set rfl) (by rfl) T.set (by decide +kernel) (pa_cons (pv 3) pa_nil)) pa_nil)) (nomark _))
      (pss_one ps_never)
      pss_nil)
    (pss_one (ps_ret (pe_makeN TD.how TD.ok (hr.mono (by first | decide | omega)) rfl TD.g b_fields pass0 (pa_cons pe_str pa_nil) (pk_cons (pe_callTy call_tuple_of (by rfl) T.tuple (by decide +kernel) (pa_cons (pv 2) pa_nil)) pk_nil)))))))), ?_⟩
  have few : (wr t).length ≤ 100000 := by
    have z1 := congrArg List.length here
    have z2 := congrArg List.length wt
    rw [List.length_drop, List.length_append, ← ql_len] at z1
    rw [← ql_len, List.length_cons] at z2
    omega
  have ends := drop_len here (by rw [← ql_len]; exact il)
  rw [List.length_append, ← ql_len] at ends
  cases good with
  | plain p => rw [p] at npl; cases npl
  | opt _ _ => cases nopt
  | list _ =>
    rw [wr_list] at wt
    cases wt
  | keyed _ _ _ _ =>
    rw [wr_keyed] at wt
    cases wt
  | @rcd _ fs ne nd so lim ws gs =>
    rw [wr_rcd] at wt
    have wb := (List.cons.inj wt).2
    cases fs with
    | nil => exact absurd rfl ne
    | cons q0 fs0 =>
    obtain ⟨n0, u0⟩ := q0
    rw [join_tail] at wb
    subst wb
    rw [List.append_assoc, List.append_assoc, List.append_assoc] at here
    obtain ⟨t1, t2⟩ := tail_first fs0 rest
    have stop := gs (n0, u0) List.mem_cons_self
    refine ⟨_, rfl, _, rfl, r, M, i, z, n0, u0, _, rfl, lt, rd, il, zl, ws (n0, u0) List.mem_cons_self, stop, here, t1, t2, fun c v H1 kept1 rd1 cr hc at1 => ⟨by show 1 ≤ sizeLine; decide +kernel, fun l nl => ?_⟩⟩
    have lr : l ≠ r := fun e => by
      obtain ⟨o, has⟩ := rd1.has
      rw [e, has] at nl
      cases nl
    have hl : H l = none := by
      cases e : H l with
      | none => rfl
      | some o =>
        rw [kept1 _ _ lr e] at nl
        cases nl
    have next := drop_more (drop_more (drop_more here))
    rw [show (ql ": ").length = 2 from rfl, ← ql_len, ← ql_len, Nat.add_assoc, Nat.add_assoc] at next
    have s0 : Same H1 (upd H1 l (.lst [.ref c])) := same_new nl _
    refine while_by (fun σ G => ∃ done todo rows p, σ = [some (.ref r), some (.int (M : Int)), some (.ref l), none, none, none] ∧ (n0, u0) :: fs0 = done ++ todo ∧ G l = some (.lst rows) ∧ Keep r H G ∧ Rd RC G r z p ∧ p ≤ z.length ∧ (ql z).drop p = tailL todo ++ rest ∧ TyRows TC ED (hide r G) rows done) (fun _ G => z.length - atOf r G)
      ⟨[(n0, u0)], fs0, [.ref c], _, rfl, rfl, upd_same, kept1.trans (Same.keep s0), rd1.same s0, ?_, next, .cons ?_ (TyAt.same (Keep.hide (Same.keep s0)) _ _ at1) .nil⟩ ?_ ?_
    · have z1 := ql_len n0
      have z2 := ql_len (wr u0)
      rw [List.length_append, List.length_append, List.length_append, ← z1, ← z2, show (ql ": ").length = 2 from rfl] at ends
      omega
    · rw [hide_ne cr]
      exact s0 _ _ hc
    · rintro σ G ⟨done, todo, rows, p, rfl, split, gl, kept, rd2, pl, drp, tys⟩
      obtain ⟨dx, e⟩ := id rd2
      refine ⟨_, rfl, r, dx, _, rfl, e, rfl, r, z, "}", p, rfl, rd2, pl, by decide, fun G2 goes rd3 => ⟨_, rfl, ?_⟩⟩
      have gl2 : G2 l = some (.lst rows) := goes.keep _ _ lr gl
      have tys2 : TyRows TC ED (hide r G2) rows done := TyRows.same (Keep.hide goes.keep) _ _ tys
      have kept2 : Keep r H G2 := kept.trans goes.keep
      cases todo with
      | nil =>
        rw [List.append_nil] at split
        subst split
        have yes : pre (ql "}") ((ql z).drop p) = true := by
          rw [drp]
          exact pre_app [125] rest
        rw [if_pos yes] at rd3
        rw [yes]
        refine if_ff rfl ?_
        have at' : p + 1 = i + (ql n0 ++ (ql ": " ++ (ql (wr u0) ++ tailL fs0))).length := by
          have z1 := drop_len drp (by rw [← ql_len]; exact pl)
          have z2 : (tailL [] ++ rest).length = 1 + rest.length := by
            rw [List.length_append]
            rfl
          rw [z2, ← ql_len] at z1
          omega
        have rd3' : Rd RC G2 r z (i + (ql n0 ++ (ql ": " ++ (ql (wr u0) ++ tailL fs0))).length) := at' ▸ rd3
        refine ⟨_, rfl, l, rfl, ⟨_, SqL.of gl2⟩, fun D new => ?_⟩
        refine lc_it (g := gTup K 2 (gCons (gName 4) (gCons (gName 5) gNil))) (tt := tYes) (vs := [4, 5]) (te := tVar 4) (walk_list (K := K) (a := l) (xs := rows))
          (fun i G => Same G2 G ∧ G D = some (.lst ((((n0, u0) :: fs0).take i).map fun q => .str q.1))) ⟨same_new new _, upd_same⟩ (fun i G _ p => SqL.of (p.1 _ _ gl2)) ?_ ?_
        · rintro j x G3 G hj ⟨keptD, made⟩ ⟨rfl, hx⟩
          obtain ⟨c, n, u, t, rfl, ef, hc, ht⟩ := tys2.get hx
          have hc' := hide_sub r G2 _ _ hc
          refine ⟨c, _, rfl, SqT.of (keptD _ _ hc'), rfl, _, _, rfl, _, _, rfl, rfl, rfl, yesT ?_⟩
          refine ⟨_, rfl, _, made, ?_, Same.updNew keptD new, ?_⟩
          · rw [List.length_map, List.length_take, sizeLine_eq]
            omega
          · have e : (((n0, u0) :: fs0).take (j + 1)) = ((n0, u0) :: fs0).take j ++ [(n, t)] := by
              rw [List.take_succ, ef]
              rfl
            rw [upd_same, e, List.map_append]
            rfl
        · rintro G ⟨keptD, made⟩
          rw [tys2.length, List.take_length] at made
          have made2 : G D = some (.lst ((((n0, u0) :: fs0).map (·.1)).map V.str)) := by
            rw [made, List.map_map]
            rfl
          refine ⟨_, rfl, _, rfl, D, _, rfl, SqL.of made2, nd, by rw [List.length_map]; exact lim, fun a na => ⟨a, _, rfl, upd_same, fun ys p perm so' _ np => ?_⟩⟩
          have s1 : Same G (upd G a (SetTx P w a (((n0, u0) :: fs0).map (·.1)))) := same_new na _
          have s2 := same_new np (.lst (ys.map V.str))
          obtain rfl := sorted_one perm so' so
          have nm : ∀ y ∈ ((n0, u0) :: fs0).map (·.1), IsNm y := fun y hy => by
            obtain ⟨q, hq, rfl⟩ := List.mem_map.mp hy
            obtain ⟨a1, a2, a3⟩ := ws q hq
            exact ⟨by omega, a2, a1⟩
          have made3 := (s1.trans s2) _ _ made2
          refine ⟨_, _, .lst (SqL.of made3) (strs_dp _), .lst (SqL.of upd_same) (strs_dp _), strs_shaped nm, strs_shaped nm, _, rfl, if_ff (by rw [strs_eqv]; rfl) ?_⟩
          have s3 := keptD.trans (s1.trans s2)
          refine ⟨_, rfl, l, rows, rfl, .inl ⟨SqL.of (s3 _ _ gl2), fun b nb => ⟨rfl, rfl, fun x dy nx ndx nex => ?_⟩⟩⟩
          have s4 := s3.trans (same_new nb (.tup rows))
          show spTInit TC ED [.ref x, .str (kindW (.rcd ((n0, u0) :: fs0))), .non, (partsT (.rcd ((n0, u0) :: fs0))).2, .ref b] _ (fun v H3 => v = .non ∧ (fun a G => Q (.ref a) G) x H3) E0
          have br : b ≠ r := fun e => by
            obtain ⟨o, has⟩ := (rd3'.same s3).has
            rw [e, has] at nb
            cases nb
          refine ty_read (R := fun a G => Q (.ref a) G) (t := .rcd ((n0, u0) :: fs0)) (r := r) ⟨fun v e => (nomatch e), fun _ => rfl, fun gs e => ?_, fun no => absurd rfl (no _)⟩ (rd3'.same s4).has few nx ndx nex fun H' s5 at2 => ?_
          · obtain rfl : (n0, u0) :: fs0 = gs := Ty.rcd.inj e
            exact ⟨b, rows, rfl, (hide_ne br).trans upd_same, TyRows.same (Keep.hide (Same.keep s4)) _ _ tys2⟩
          · exact q x H' (kept2.trans (Same.keep (s4.trans s5))) (rd3'.same (s4.trans s5)) at2
      | cons m todo =>
        obtain ⟨n, u⟩ := m
        have mem : (n, u) ∈ (n0, u0) :: fs0 := by
          rw [split]
          exact List.mem_append_right _ List.mem_cons_self
        have nope : pre (ql "}") ((ql z).drop p) = false := by
          rw [drp]
          exact pre_no (c := 125) (d := 44) (by decide)
        rw [nope, if_neg Bool.false_ne_true] at rd3
        rw [nope]
        refine if_tt rfl ?_
        simp only [tailL] at drp
        rw [List.append_assoc, List.append_assoc, List.append_assoc, List.append_assoc] at drp
        have long := drop_len drp (by rw [← ql_len]; exact pl)
        rw [List.length_append, List.length_append, List.length_append, List.length_append, show (ql ", ").length = 2 from rfl, show (ql ": ").length = 2 from rfl, ← ql_len, ← ql_len, ← ql_len] at long
        obtain ⟨dx3, e3⟩ := id rd3
        refine ⟨_, rfl, r, dx3, _, rfl, e3, rfl, r, z, ", ", p, rfl, rd3, pl, by decide, by rw [drp]; exact pre_app _ _, fun G3 g3 rd4 => ?_⟩
        have rd4' : Rd RC G3 r z (p + 2) := rd4
        have gl3 : G3 l = some (.lst rows) := g3.keep _ _ lr gl2
        have next1 := drop_more drp
        rw [show (ql ", ").length = 2 from rfl] at next1
        obtain ⟨t3, t4⟩ := tail_first todo rest
        refine ⟨_, rfl, .inl ⟨rfl, rows, SqL.of gl3⟩, _, rfl, _, rfl, r, M, p + 2, z, n, u, _, rfl, lt, rd4', by omega, zl, ws _ mem, gs _ mem, next1, t3, t4, fun c' v' G4 kept4 rd5 cr' hc' at' => ?_⟩
        have gl4 : G4 l = some (.lst rows) := kept4 _ _ lr gl3
        have cnt : rows.length < sizeLine := by
          rw [tys2.length, sizeLine_eq]
          have := congrArg List.length split
          rw [List.length_append] at this
          omega
        refine ⟨l, rows, .ref c', rfl, rfl, gl4, cnt, ⟨done ++ [(n, u)], todo, rows ++ [.ref c'], _, rfl, by rw [split, List.append_assoc]; rfl, upd_same, ?_, rd5.upd lr, by omega, ?_, ?_⟩, ?_⟩
        · intro b o nb eb
          have bl : b ≠ l := fun x => by
            rw [x, hl] at eb
            cases eb
          rw [upd_ne bl]
          exact kept4 _ _ nb (g3.keep _ _ nb (kept2 _ _ nb eb))
        · have next2 := drop_more (drop_more (drop_more next1))
          rw [show (ql ": ").length = 2 from rfl, ← ql_len, ← ql_len, Nat.add_assoc, Nat.add_assoc] at next2
          exact next2
        · have hid : hide r G4 l = some (.lst rows) := (hide_ne lr).trans gl4
          have t5 : TyRows TC ED (hide r G4) rows done := TyRows.same (Keep.hide (g3.keep.trans kept4)) _ _ tys2
          have cl : c' ≠ l := fun x => by
            rw [x, gl4] at hc'
            cases hc'
          refine TyRows.snoc (TyRows.same hide_upd _ _ (TyRows.avoid hid _ _ t5)) ?_ (TyAt.same hide_upd _ _ (TyAt.avoid hid _ _ at'))
          rw [hide_ne cr', upd_ne cl]
          exact hc'
        · show z.length - atOf r _ < z.length - atOf r G
          rw [atOf_rd (rd5.upd lr), atOf_rd rd2]
          omega
    · rintro σ G Q1 Q2 imp ⟨v, e0, a, dy, fs, x1, x2, x3, r1, z1, w1, i1, x4, x5, x6, x7, k⟩
      exact ⟨v, e0, a, dy, fs, x1, x2, x3, r1, z1, w1, i1, x4, x5, x6, x7, fun H' g rd => let ⟨c, ec, q1⟩ := k H' g rd; ⟨c, ec, imp _ _ q1⟩⟩
end
end KX

namespace KX
open PySem PySem.Spec L2 PyProof.Rows
section
variable {base : Heap} {P : Program} {w : World} {K : PySem.W.Frag} {mg : Str → Option Value} {tk : Str → Tok} {TC ED RC : Addr}
/-- a def of the program: its name, how it binds -/
structure At (K : PySem.W.Frag) (mg : Str → Option Value) (x : Str) (st : Stmt) (ps : List Str) (f : Addr) (fd : FuncData) : Prop where
  g : mg x = some (.ref f)
  kp : PySem.W.keepIn K (.ref f) = true
  b : L2.Binds K fd ps []
  F : Fun K x x st f fd
theorem At.def {x : Str} {st : Stmt} {ps : List Str} {f : Addr} {fd : FuncData} {n : Nat} {sp : Sp} (A : At K mg x st ps f fd) (h : FnOk P w K mg base CX0 n f fd ps sp) : Def P w K mg base x n ps sp f fd := ⟨A.g, A.kp, A.b, h⟩
/-- what the reading of types is made of -/
structure Reads (P : Program) (w : World) (K : PySem.W.Frag) (mg : Str → Option Value) (base : Heap) (TC ED RC fp fq fl fr fg fc fi fs ft fn fm : Addr) (dp dq dl dr dg dc di ds dt dn dm : FuncData) : Prop where
  part : At K mg "_read_part" s_part P_part fp dp
  req : At K mg "_read_required" s_req P_req fq dq
  list : At K mg "_read_list" s_rlist P_rlist fl dl
  rec' : At K mg "_read_record" s_rrec P_rrec fr dr
  field : At K mg "_read_field" s_field P_field fg dg
  can : Def P w K mg base "_can_be_key" 1 P_can (spCan TC ED) fc dc
  TD : TyD P w K mg base TC ED fi di
  skips : MtD P w K mg base RC "skips" 1 P_skips (spSkips RC) fs ds
  letters : MtD P w K mg base RC "letters" 3 P_letters (spLetters RC) ft dt
  needs : MtD P w K mg base RC "needs" 2 P_needs (spNeeds RC) fn dn
  name : Def P w K mg base "is_name" 2 P_is_name spIsName fm dm
  T : BlT mg
section
variable {fp fq fl fr fg fc fi fs ft fn fm : Addr} {dp dq dl dr dg dc di ds dt dn dm : FuncData}
theorem Reads.all (R : Reads P w K mg base TC ED RC fp fq fl fr fg fc fi fs ft fn fm dp dq dl dr dg dc di ds dt dn dm) : ∀ L, Def P w K mg base "_read_part" (4 + 4 * L) P_part (spPart RC TC ED L) fp dp
  | 0 => R.part.def (R.part.F.ok sc_part (fun vs H Q E h => by
      obtain ⟨r, M, i, z, t, rest, rfl, lt, _⟩ := h
      rfl) fun cdv A outer s H vs Q E hr h => by
      obtain ⟨r, M, i, z, t, rest, _, lt, _⟩ := h
      exact absurd lt (Nat.not_lt_zero _))
  | L + 1 => by
    have D := R.all L
    rw [Nat.add_comm] at D
    have Df := R.field.def (ok_field (n := 4 * L) R.field.F R.letters R.needs D R.name)
    have Dr := R.rec'.def (ok_rrec (n := 4 * L) R.rec'.F R.T R.TD R.skips R.needs Df)
    have Dl := R.list.def (ok_rlist (n := 4 * L) R.list.F R.TD R.skips R.letters R.needs D R.can)
    have Dq := R.req.def (ok_req (n := 4 * L) R.req.F R.TD R.skips R.letters Dl Dr)
    have Dp := R.part.def (ok_part (n := 4 * L + 2) R.part.F R.TD R.skips Dq)
    rw [show 4 + 4 * (L + 1) = 4 * L + 2 + 6 from by omega]
    exact Dp
/-- the class of readers can be called -/
structure RdD (P : Program) (w : World) (K : PySem.W.Frag) (mg : Str → Option Value) (base : Heap) (RC fj : Addr) (dj : FuncData) : Prop where
  g : mg "Reader" = some (.ref RC)
  how : Mk K RC fj
  b : L2.Binds K dj P_rinit []
  ok : FnOk P w K mg base CX0 1 fj dj P_rinit (spRInit RC)
abbrev s_whole : Stmt := top 23
abbrev N_whole : List Str := ["text", "reader", "found"]
abbrev P_whole : List Str := ["text"]
theorem sc_whole : FnScope N_whole P_whole (defScope s_whole) := ⟨rfl, rfl, rfl, by decide +kernel, rfl, by decide +kernel, by decide +kernel⟩
def spWhole (TC ED : Addr) : Sp := fun vs H Q _ => ∃ (t : Ty), vs = [.str (wr t)] ∧ GoodT 6 t ∧ (wr t).length ≤ 100000 ∧ ∀ (x : Addr) (H' : Hp), Same H H' → TyAt TC ED H' (.ref x) t → Q (.ref x) H'
theorem ok_whole {f fj fp fe : Addr} {fd dj dp de : FuncData} (F : Fun K "_read_whole" "_read_whole" s_whole f fd) (T : BlT mg) (L : Lm mg tk) (RDd : RdD P w K mg base RC fj dj) (M_ended : MtD P w K mg base RC "ended" 1 P_ended (spEnded RC) fe de) (D_read_part : Def P w K mg base "_read_part" 32 P_part (spPart RC TC ED 7) fp dp) : FnOk P w K mg base CX0 33 f fd P_whole (spWhole TC ED) := by
  refine F.ok sc_whole (fun vs H Q E h => ?_) (fun cdv A outer s H vs Q E hr h => ?_)
  · obtain ⟨t, rfl, _⟩ := h
    rfl
  obtain ⟨t, rfl, good, few, q⟩ := h
  refine ⟨_, (pss_cons (ps_if (pt_not (pt_val (pe_callB call_isi (by rfl) T.isinstance (by decide +kernel) (pa_cons (pv 0) (pa_cons (pe_bltn (v := .ty "str") (by rfl) T.str (by decide +kernel) rfl) pa_nil)))))
      (pss_one ps_never)
      pss_nil)
    (pss_cons (ps_set (i := 1) sc_whole.nd rfl (Or.inl rfl) (pe_make RDd.how RDd.ok (hr.mono (by first | decide | omega)) rfl RDd.g RDd.b .nil pass0 (pa_cons (pv 0) pa_nil)))
    (pss_cons (ps_set (i := 2) sc_whole.nd rfl (Or.inl rfl) (pe_call D_read_part.ok (hr.mono (by first | decide | omega)) rfl D_read_part.g D_read_part.kp D_read_part.b .nil pass0 (pa_cons (pv 1) (pa_cons (pe_glob (v := .int 6) rfl L.MAX_LEVELS ⟨_, rfl⟩) pa_nil))))
    (pss_cons (ps_if (pt_not (pt_val (pe_meth0 (pv 1) M_ended.cl M_ended.me M_ended.ok (hr.mono (by first | decide | omega)) M_ended.b .nil pass0)))
      (pss_one ps_never)
      pss_nil)
    (pss_one (ps_ret (pv 2))))))), ?_⟩
  refine ⟨_, rfl, _, _, _, _, true, rfl, .ty _, .base (.str _), kit_ty (by decide +kernel), _, rfl, if_ff rfl ?_⟩
  refine ⟨_, rfl, fun r dx nr nd ne => ?_⟩
  have s0 : Same H (hide r (upd (upd H dx (.own r)) r (.ins RC dx []))) := fun b o e => by
    rw [hide_ne (ne_of_none e nr), upd_ne (ne_of_none e nr), upd_ne (ne_of_none e nd)]
    exact e
  refine ⟨r, dx, wr t, rfl, upd_same, rfl, ?_⟩
  rw [upd_upd]
  have rd : Rd RC (upd (upd H dx (.own r)) r (.ins RC dx [("written", .str (wr t)), ("at", .int 0)])) r (wr t) 0 := ⟨dx, upd_same⟩
  have k0 : Keep r H (upd (upd H dx (.own r)) r (.ins RC dx [("written", .str (wr t)), ("at", .int 0)])) := fun b o nb e => by
    rw [upd_ne nb, upd_ne (ne_of_none e nd)]
    exact e
  refine ⟨_, rfl, r, 6, 0, wr t, t, [], rfl, by decide, rd, Nat.zero_le _, few, good, by rw [List.drop_zero, List.append_nil], rfl, fun _ => (by intro e; cases e), fun x G kept rd2 at2 => ?_⟩
  rw [Nat.zero_add] at rd2
  obtain ⟨dx2, e2⟩ := id rd2
  refine ⟨_, rfl, r, dx2, _, rfl, e2, rfl, r, wr t, _, rfl, rd2, big (by omega), _, rfl, ?_⟩
  rw [decide_eq_true rfl]
  refine if_ff rfl ⟨_, rfl, q x G (fun b o e => ?_) (TyAt.same (hide_sub _ _) _ _ at2)⟩
  exact (k0.trans kept) _ _ (ne_of_none e nr) e
abbrev s_tread : Stmt := inClass (top 20) 1
abbrev N_tread : List Str := ["cls", "text"]
abbrev P_tread : List Str := ["cls", "text"]
theorem sc_tread : FnScope N_tread P_tread (defScope s_tread) := ⟨rfl, rfl, rfl, by decide +kernel, rfl, by decide +kernel, by decide +kernel⟩
def spTread (TC ED : Addr) : Sp := fun vs H Q E => ∃ y, vs = [.ref TC, y] ∧ spWhole TC ED [y] H Q E
theorem ok_tread {f fw : Addr} {fd dw : FuncData} (F : Fun K "read" "Type.read" s_tread f fd) (D_read_whole : Def P w K mg base "_read_whole" 33 P_whole (spWhole TC ED) fw dw) : FnOk P w K mg base CX0 34 f fd P_tread (spTread TC ED) := by
  refine F.ok sc_tread (fun vs H Q E h => ?_) (fun cdv A outer s H vs Q E hr h => ?_)
  · obtain ⟨y, rfl, _⟩ := h
    rfl
  obtain ⟨y, rfl, t, ey, good, few, q⟩ := h
  refine ⟨_, (pss_one (ps_ret (pe_call D_read_whole.ok (hr.mono (by first | decide | omega)) rfl D_read_whole.g D_read_whole.kp D_read_whole.b .nil pass0 (pa_cons (pv 1) pa_nil)))), ?_⟩
  exact ⟨_, rfl, t, ey, good, few, q⟩
abbrev s_teq : Stmt := inClass (top 20) 4
abbrev N_teq : List Str := ["self", "other"]
abbrev P_teq : List Str := ["self", "other"]
theorem sc_teq : FnScope N_teq P_teq (defScope s_teq) := ⟨rfl, rfl, rfl, by decide +kernel, rfl, by decide +kernel, by decide +kernel⟩
/-- one == other -/
def spTeq (K : PySem.W.Frag) (TC : Addr) : Sp := fun vs H Q _ => ∃ (a dx : Addr) (fs : List (Str × V)) (z : Str) (y : V), vs = [.ref a, y] ∧ H a = some (.ins TC dx fs) ∧ fs.lookup ("_writing" : Str) = some (.str z) ∧
  ((∃ (b dy : Addr) (gs : List (Str × V)) (z' : Str), y = .ref b ∧ H b = some (.ins TC dy gs) ∧ gs.lookup ("_writing" : Str) = some (.str z') ∧ Q (.bl (decide (z = z'))) H) ∨ (∃ u, TyX K H y u ∧ PySem.W.kitOne K u (.ref TC) = some false ∧ Q (.bl false) H))
/-- what an instance's class is told as -/
def IsOwn (K : PySem.W.Frag) (TC : Addr) : Prop := ∀ (H : Hp) (a dx : Addr) (fs : List (Str × V)), H a = some (.ins TC dx fs) → TyOf K H (.ref a) (.ref TC)
theorem ok_teq {f : Addr} {fd : FuncData} (F : Fun K "__eq__" "Type.__eq__" s_teq f fd) (T : BlT mg) (gT : mg "Type" = some (.ref TC)) (C : TyC K TC) (I : IsOwn K TC) : FnOk P w K mg base CX0 1 f fd P_teq (spTeq K TC) := by
  refine F.ok sc_teq (fun vs H Q E h => ?_) (fun cdv A outer s H vs Q E hr h => ?_)
  · obtain ⟨a, dx, fs, z, y, rfl, _⟩ := h
    rfl
  obtain ⟨a, dx, fs, z, y, rfl, at', has, way⟩ := h
  refine ⟨_, (pss_one (ps_ret (pe_and (pe_callB call_isi (by rfl) T.isinstance (by decide +kernel) (pa_cons (pv 1) (pa_cons (pe_glob (v := .ref TC) rfl gT rfl) pa_nil))) (pe_one (pe_cmpR op_eq (pe_fld (pv 0) rfl) (pe_fld (pv 1) rfl) (nomark _)))))), ?_⟩
  rcases way with ⟨b, dy, gs, z', rfl, bt, hasb, q⟩ | ⟨u, ty, no, q⟩
  · refine ⟨_, rfl, _, _, _, _, true, rfl, .own _, .base (I H b dy gs bt), if_pos (beq_self_eq_true _), _, rfl, if_tt rfl ?_⟩
    refine ⟨_, rfl, a, TC, dx, _, _, rfl, at', C.cl, C.writing, has, _, rfl, b, TC, dy, _, _, rfl, bt, C.cl, C.writing, hasb, rfl, ?_⟩
    have e : decide (V.str z = V.str z') = decide (z = z') := by
      rw [decide_eq_decide]
      exact ⟨V.str.inj, fun e => by rw [e]⟩
    rw [e]
    exact q
  · exact ⟨_, rfl, _, _, _, _, false, rfl, .own _, ty, no, _, rfl, if_ff rfl q⟩
end
end
end KX

namespace KX
open PySem PySem.Spec L2 PyProof.Rows
/-! ### types as tuples -/
mutual
def encT : Ty → PyData
  | .text => .tuple [.str "text"]
  | .number => .tuple [.str "number"]
  | .flag => .tuple [.str "flag"]
  | .opt t => .tuple [.str "optional", encT t]
  | .list t => .tuple [.str "list", encT t]
  | .keyed t k => .tuple [.str "keyed", encT t, .str k]
  | .rcd fs => .tuple [.str "record", .tuple (encTs fs)]
def encTs : List (Str × Ty) → List PyData
  | [] => []
  | (n, t) :: r => .tuple [.str n, encT t] :: encTs r
end
inductive DeepT : Nat → Ty → Prop
  | plain {n : Nat} {t : Ty} : plainT t = true → DeepT n t
  | opt {n : Nat} {t : Ty} : DeepT n t → DeepT (n + 1) (.opt t)
  | list {n : Nat} {t : Ty} : DeepT n t → DeepT (n + 1) (.list t)
  | keyed {n : Nat} {t : Ty} {k : Str} : (∃ fs u, t = .rcd fs ∧ (k, u) ∈ fs ∧ keyT u = true) → DeepT n t → DeepT (n + 1) (.keyed t k)
  | rcd {n : Nat} {fs : List (Str × Ty)} : fs.length < 4000 → (∀ q ∈ fs, DeepT n q.2) → DeepT (n + 1) (.rcd fs)
theorem encTs_at : ∀ {fs : List (Str × Ty)} {i : Nat} {q : Str × Ty}, fs[i]? = some q → (encTs fs)[i]? = some (.tuple [.str q.1, encT q.2])
  | [], _, _, e => by simp at e
  | (n, t) :: r, 0, q, e => by
    obtain rfl : (n, t) = q := by simpa using e
    simp [encTs]
  | (n, t) :: r, i + 1, q, e => by
    have z := encTs_at (fs := r) (i := i) (q := q) (by simpa using e)
    simpa [encTs] using z
theorem encTs_len : ∀ fs : List (Str × Ty), (encTs fs).length = fs.length
  | [] => rfl
  | _ :: r => by
    simp only [encTs, List.length_cons]
    rw [encTs_len r]
def moreT : Ty → List PyData
  | .opt t => [encT t]
  | .list t => [encT t]
  | .keyed t k => [encT t, .str k]
  | .rcd fs => [.tuple (encTs fs)]
  | _ => []
theorem headT (t : Ty) : encT t = .tuple (.str (kindW t) :: moreT t) := by
  cases t <;> simp [encT, kindW, moreT]
theorem all_one {K : PySem.W.Frag} {H : Hp} {ys : List V} {d : PyData} (h : DqAll K H ys [d]) : ∃ y, ys = [y] ∧ Dq K H y d := by
  cases h with
  | cons a r =>
    cases r
    exact ⟨_, rfl, a⟩
theorem all_two {K : PySem.W.Frag} {H : Hp} {ys : List V} {d : PyData} {k : Str} (h : DqAll K H ys [d, .str k]) : ∃ y, ys = [y, .str k] ∧ Dq K H y d := by
  cases h with
  | cons a r =>
    obtain ⟨z, rfl, b⟩ := all_one r
    cases b
    exact ⟨_, rfl, a⟩
theorem tup_head {K : PySem.W.Frag} {H : Hp} {v : V} {z : Str} {ds : List PyData} (d : Dq K H v (.tuple (.str z :: ds))) : ∃ a ys, v = .ref a ∧ H a = some (.tup (.str z :: ys)) ∧ DqAll K H ys ds := by
  cases d with
  | tup h all =>
    cases all with
    | cons d0 r =>
      cases d0
      exact ⟨_, _, rfl, h, r⟩
section
variable {base : Heap} {P : Program} {w : World} {K : PySem.W.Frag} {mg : Str → Option Value} {tk : Str → Tok}
abbrev s_ftext : Stmt := top 39
abbrev N_ftext : List Str := ["_law_form_here", "_law_word", "_law_inner"]
abbrev P_ftext : List Str := ["_law_form_here"]
theorem sc_ftext : FnScope N_ftext P_ftext (defScope s_ftext) := ⟨rfl, rfl, rfl, by decide +kernel, rfl, by decide +kernel, by decide +kernel⟩
def spFText (K : PySem.W.Frag) (L : Nat) : Sp := fun vs H Q _ => ∃ (v : V) (t : Ty) (n : Nat), vs = [v] ∧ n < L ∧ Dq K H v (encT t) ∧ DeepT n t ∧ (wr t).length ≤ 100000 ∧ ∀ H', Same H H' → Q (.str (wr t)) H'
def rCat : R2 := fun x y H Q => ∃ i j, x = .str i ∧ y = .str j ∧ i.length + j.length ≤ sizeLine ∧ Q (.str (i ++ j)) H
theorem ok_ftextS {f : Addr} {fd : FuncData} {L : Nat} (F : Fun K "_law_form_text" "_law_form_text" s_ftext f fd) (T : Bl mg) (D_form_text : Def P w K mg base "_law_form_text" (L + 1) P_ftext (spFText K L) f fd) : FnOk P w K mg base CX0 (L + 2) f fd P_ftext (spFText K (L + 1)) := by
  refine F.ok sc_ftext (fun vs H Q E h => ?_) (fun cdv A outer s H vs Q E hr h => ?_)
  · obtain ⟨v, t, n, rfl, _⟩ := h
    rfl
  obtain ⟨v, t, n, rfl, lt, dv, deep, few, q⟩ := h
  refine ⟨_, (pss_cons (ps_if (pt_cmpR (op_inK K rfl) (pe_ix (ix_tupK K rfl) (pv 0) pe_int (fun _ _ => rfl)) (pe_lst (pa_cons pe_str (pa_cons pe_str (pa_cons pe_str pa_nil)))) (by with_unfolding_all rfl))
      (pss_one (ps_ret (pe_ix (ix_tupK K rfl) (pv 0) pe_int (fun _ _ => rfl))))
      pss_nil)
    (pss_cons (ps_if (pt_cmpR op_eq (pe_ix (ix_tupK K rfl) (pv 0) pe_int (fun _ _ => rfl)) pe_str (nomark _))
      (pss_one (ps_ret (pe_op op_add_str (pe_call D_form_text.ok (hr.mono (by first | decide | omega)) rfl D_form_text.g D_form_text.kp D_form_text.b .nil pass0 (pa_cons (pe_ix (ix_tupK K rfl) (pv 0) pe_int (fun _ _ => rfl)) pa_nil)) pe_str)))
      pss_nil)
    (pss_cons (ps_if (pt_cmpR op_eq (pe_ix (ix_tupK K rfl) (pv 0) pe_int (fun _ _ => rfl)) pe_str (nomark _))
      (pss_one (ps_ret (pe_op op_add_str (pe_op op_add_str pe_str (pe_call D_form_text.ok (hr.mono (by first | decide | omega)) rfl D_form_text.g D_form_text.kp D_form_text.b .nil pass0 (pa_cons (pe_ix (ix_tupK K rfl) (pv 0) pe_int (fun _ _ => rfl)) pa_nil))) pe_str)))
      pss_nil)
    (pss_cons (ps_if (pt_cmpR op_eq (pe_ix (ix_tupK K rfl) (pv 0) pe_int (fun _ _ => rfl)) pe_str (nomark _))
      (pss_one (ps_ret (pe_op op_add_str (pe_op op_add_str (pe_op op_add_str (pe_op op_add_str pe_str (pe_call D_form_text.ok (hr.mono (by first | decide | omega)) rfl D_form_text.g D_form_text.kp D_form_text.b .nil pass0 (pa_cons (pe_ix (ix_tupK K rfl) (pv 0) pe_int (fun _ _ => rfl)) pa_nil))) pe_str) (pe_ix (ix_tupK K rfl) (pv 0) pe_int (fun _ _ => rfl))) pe_str)))
      pss_nil)
    (pss_one (ps_ret (pe_op op_add_str (pe_op op_add_str pe_str (pe_join pe_str (pe_lc (own := [("_law_word", 1), ("_law_inner", 2)]) (g := (gTup K 2 (gCons (gName 1) (gCons (gName 2) gNil)))) (tt := tYes) rfl sc_ftext.nd (pi_tup (pe_ix (ix_tupK K rfl) (pv 0) pe_int (fun _ _ => rfl))) (blkOk_by (own := [("_law_word", 1), ("_law_inner", 2)]) (N := N_ftext) (sc := defScope s_ftext) (by decide +kernel)) (fun _ _ _ _ _ => (pg_tup rfl (pgs_cons (pg_name (i := 1) sc_ftext.nd rfl (Or.inl rfl)) (pgs_cons (pg_name (i := 2) sc_ftext.nd rfl (Or.inl rfl)) pgs_nil)))) (fun _ _ _ _ _ => pts_nil) (fun _ _ _ _ _ => (pe_op op_add_str (pe_op op_add_str (pv 1) pe_str) (pe_call D_form_text.ok (hr.mono (by first | decide | omega)) rfl D_form_text.g D_form_text.kp D_form_text.b .nil pass0 (pa_cons (pv 2) pa_nil))))))) pe_str))))))), ?_⟩
  rw [headT t] at dv
  obtain ⟨a, ys, rfl, ea, all⟩ := tup_head dv
  have at0 : atI (.str (kindW t) :: ys) 0 = some (.str (kindW t)) := at_of (j := 0) rfl rfl
  refine ⟨_, rfl, a, _, 0, .str _, rfl, rfl, SqT.of ea, at0, (by decide +kernel), fun p np => ?_⟩
  have s1 : Same H (upd H p (.lst [.str "text", .str "number", .str "flag"])) := same_new np _
  have ea1 := s1 _ _ ea
  cases deep with
  | plain pl =>
    refine ⟨p, _, rfl, .inl (SqL.of upd_same), rfl, rfl, _, rfl, if_tt ?_ ?_⟩
    · cases t <;> first | rfl | cases pl
    · refine ⟨_, rfl, a, _, 0, .str _, rfl, rfl, SqT.of ea1, at0, ?_⟩
      rw [← wr_plain pl]
      exact q _ s1
  | @opt n u du =>
    obtain ⟨y, rfl, dy⟩ := all_one all
    have lens : (wr u).length + 1 = (wr (.opt u)).length := by
      simp only [wr]
      rw [len_app]
      rfl
    refine ⟨p, _, rfl, .inl (SqL.of upd_same), rfl, rfl, _, rfl, if_ff rfl ?_⟩
    refine ⟨_, rfl, a, _, 0, .str _, rfl, rfl, SqT.of ea1, at0, rfl, _, rfl, if_tt (by simp only [kindW]; decide) ?_⟩
    refine ⟨_, rfl, a, _, 1, y, rfl, rfl, SqT.of ea1, at_of (j := 1) rfl rfl, y, u, n, rfl, by omega, Dq.same s1 _ _ dy, du, by omega, fun G s2 => ⟨_, _, rfl, rfl, ?_, ?_⟩⟩
    · rw [sizeLine_eq]
      show (wr u).length + 1 ≤ _
      omega
    · have z := q G (s1.trans s2)
      simp only [wr] at z
      exact z
  | @list n u du =>
    obtain ⟨y, rfl, dy⟩ := all_one all
    have lens : 1 + (wr u).length + 1 = (wr (.list u)).length := by
      simp only [wr]
      rw [len_app, len_app]
      rfl
    refine ⟨p, _, rfl, .inl (SqL.of upd_same), rfl, rfl, _, rfl, if_ff rfl ?_⟩
    refine ⟨_, rfl, a, _, 0, .str _, rfl, rfl, SqT.of ea1, at0, rfl, _, rfl, if_ff (decide_eq_false fun e => absurd (V.str.inj e) (by simp only [kindW]; decide)) ?_⟩
    refine ⟨_, rfl, a, _, 0, .str _, rfl, rfl, SqT.of ea1, at0, rfl, _, rfl, if_tt (by simp only [kindW]; decide) ?_⟩
    refine ⟨_, rfl, a, _, 1, y, rfl, rfl, SqT.of ea1, at_of (j := 1) rfl rfl, y, u, n, rfl, by omega, Dq.same s1 _ _ dy, du, by omega, fun G s2 => ⟨_, _, rfl, rfl, ?_, _, _, rfl, rfl, ?_, ?_⟩⟩
    · rw [sizeLine_eq]
      show 1 + (wr u).length ≤ _
      omega
    · rw [sizeLine_eq, len_app]
      show 1 + (wr u).length + 1 ≤ _
      omega
    · have z := q G (s1.trans s2)
      simp only [wr] at z
      exact z
  | @keyed n u k _ du =>
    obtain ⟨y, rfl, dy⟩ := all_two all
    have lens : 1 + (wr u).length + 4 + k.length + 1 = (wr (.keyed u k)).length := by
      simp only [wr]
      rw [len_app, len_app, len_app, len_app]
      rfl
    refine ⟨p, _, rfl, .inl (SqL.of upd_same), rfl, rfl, _, rfl, if_ff rfl ?_⟩
    refine ⟨_, rfl, a, _, 0, .str _, rfl, rfl, SqT.of ea1, at0, rfl, _, rfl, if_ff (decide_eq_false fun e => absurd (V.str.inj e) (by simp only [kindW]; decide)) ?_⟩
    refine ⟨_, rfl, a, _, 0, .str _, rfl, rfl, SqT.of ea1, at0, rfl, _, rfl, if_ff (decide_eq_false fun e => absurd (V.str.inj e) (by simp only [kindW]; decide)) ?_⟩
    refine ⟨_, rfl, a, _, 0, .str _, rfl, rfl, SqT.of ea1, at0, rfl, _, rfl, if_tt (by simp only [kindW]; decide) ?_⟩
    refine ⟨_, rfl, a, _, 1, y, rfl, rfl, SqT.of ea1, at_of (j := 1) rfl rfl, y, u, n, rfl, by omega, Dq.same s1 _ _ dy, du, by omega, fun G s2 => ⟨_, _, rfl, rfl, ?_, _, _, rfl, rfl, ?_, ?_⟩⟩
    · rw [sizeLine_eq]
      show 1 + (wr u).length ≤ _
      omega
    · rw [sizeLine_eq, len_app]
      show 1 + (wr u).length + 4 ≤ _
      omega
    · refine ⟨_, rfl, a, _, 2, .str k, rfl, rfl, SqT.of (s2 _ _ ea1), at_of (j := 2) rfl rfl, _, _, rfl, rfl, ?_, _, _, rfl, rfl, ?_, ?_⟩
      · rw [sizeLine_eq, len_app, len_app]
        show 1 + (wr u).length + 4 + k.length ≤ _
        omega
      · rw [sizeLine_eq, len_app, len_app, len_app]
        show 1 + (wr u).length + 4 + k.length + 1 ≤ _
        omega
      · have z := q G (s1.trans s2)
        simp only [wr] at z
        exact z
  | @rcd n fs _ df =>
    obtain ⟨y, rfl, dy⟩ := all_one all
    obtain ⟨b, rows, rfl, hb, hall⟩ : ∃ b rows, y = .ref b ∧ H b = some (.tup rows) ∧ DqAll K H rows (encTs fs) := by
      cases dy with
      | tup h r => exact ⟨_, _, rfl, h, r⟩
    have hb1 := s1 _ _ hb
    simp only [wr] at few
    rw [len_app, len_app] at few
    have jl := join_len (wrFs fs)
    have wl : (wrFs fs).length = fs.length := by rw [wrFs_map, List.length_map]
    have rl : rows.length = fs.length := by rw [hall.length, encTs_len]
    rw [wl] at jl
    refine ⟨p, _, rfl, .inl (SqL.of upd_same), rfl, rfl, _, rfl, if_ff rfl ?_⟩
    refine ⟨_, rfl, a, _, 0, .str _, rfl, rfl, SqT.of ea1, at0, rfl, _, rfl, if_ff (decide_eq_false fun e => absurd (V.str.inj e) (by simp only [kindW]; decide)) ?_⟩
    refine ⟨_, rfl, a, _, 0, .str _, rfl, rfl, SqT.of ea1, at0, rfl, _, rfl, if_ff (decide_eq_false fun e => absurd (V.str.inj e) (by simp only [kindW]; decide)) ?_⟩
    refine ⟨_, rfl, a, _, 0, .str _, rfl, rfl, SqT.of ea1, at0, rfl, _, rfl, if_ff (decide_eq_false fun e => absurd (V.str.inj e) (by simp only [kindW]; decide)) ?_⟩
    refine ⟨⟨_, rfl⟩, _, rfl, a, _, 1, .ref b, rfl, rfl, SqT.of ea1, at_of (j := 1) rfl rfl, b, rfl, ⟨_, SqT.of hb1⟩, fun D new => ?_⟩
    have free : H D = none := by
      cases e : H D with
      | none => rfl
      | some o =>
        rw [s1 _ _ e] at new
        cases new
    refine lc_it (g := gTup K 2 (gCons (gName 1) (gCons (gName 2) gNil))) (tt := tYes) (vs := [1, 2]) (te := tOp rCat (tOp rCat (tVar 1) (tC (V.str ": "))) (tCall (spFText K L) [] E0 (tCons (tVar 2) tNil))) (walk_tup (K := K) (a := b) (xs := rows))
      (fun i G => Same H G ∧ G D = some (.lst ((fs.take i).map fun q => .str (q.1 ++ ": " ++ wr q.2)))) ⟨s1.trans (same_new new _), upd_same⟩ (fun i G _ p => SqT.of (p.1 _ _ hb)) ?_ ?_
    · rintro i x G2 G hi ⟨kept, made⟩ ⟨rfl, hx⟩
      have hf : fs[i]? = some fs[i] := List.getElem?_eq_getElem (by omega)
      generalize fs[i] = q at hf
      obtain ⟨d, ed, dx⟩ := hall.get hx
      rw [encTs_at hf] at ed
      obtain rfl := Option.some.inj ed
      obtain ⟨c, zs, rfl, hc, hz⟩ := tup_head dx
      obtain ⟨u, rfl, du⟩ := all_one hz
      have mem := List.mem_of_getElem? hf
      have one : (q.1 ++ ": " ++ wr q.2).length ≤ (Txt.join ", " (wrFs fs)).length + 2 := by
        have m := mem_sum (List.mem_map.mpr ⟨_, List.mem_map.mpr ⟨q, mem, rfl⟩, rfl⟩ : (q.1 ++ ": " ++ wr q.2).length ∈ ((fs.map fun q => q.1 ++ ": " ++ wr q.2).map (·.length)))
        rw [← wrFs_map] at m
        omega
      rw [len_app, len_app] at one
      have two : (": " : Str).length = 2 := rfl
      refine ⟨c, _, rfl, SqT.of (kept _ _ hc), rfl, _, _, rfl, _, _, rfl, rfl, rfl, yesT ?_⟩
      refine ⟨_, rfl, _, _, rfl, rfl, big (by omega), _, rfl, u, q.2, n, rfl, by omega, Dq.same kept _ _ du, df q mem, by omega, fun G3 s3 => ⟨_, _, rfl, rfl, big (by rw [len_app]; omega), ?_⟩⟩
      refine ⟨_, s3 _ _ made, ?_, Same.updNew (kept.trans s3) free, ?_⟩
      · rw [List.length_map, List.length_take, sizeLine_eq]
        omega
      · have e : fs.take (i + 1) = fs.take i ++ [q] := by
          rw [List.take_succ, hf]
          rfl
        rw [upd_same, e, List.map_append]
        rfl
    · rintro G ⟨kept, made⟩
      rw [rl, List.take_length] at made
      have made2 : G D = some (.lst ((wrFs fs).map V.str)) := by
        rw [made, wrFs_map, List.map_map]
        rfl
      have z := q G kept
      simp only [wr] at z
      refine ⟨", ", D, wrFs fs, rfl, rfl, .inl (SqL.of made2), ?_, "{", _, rfl, rfl, big ?_, _, _, rfl, rfl, big ?_, z⟩
      · rw [wl]
        show _ + fs.length * 2 ≤ _
        omega
      · omega
      · rw [len_app]
        omega
end
end KX

namespace KX
open PySem PySem.Spec L2 PyProof.Rows
/-! ### the types that are drawn -/
def kty : Bool → Ty
  | true => .number
  | false => .text
mutual
def tyOf : Fm → Ty
  | .text => .text
  | .number => .number
  | .flag => .flag
  | .list f => .list (tyOf f)
  | .opt f => .opt (tyOf f)
  | .rcd fs => .rcd (tyOfs fs)
  | .keyed k num w f => .keyed (.rcd [(k, kty num), (w, tyOf f)]) k
def tyOfs : List (Str × Fm) → List (Str × Ty)
  | [] => []
  | (n, f) :: r => (n, tyOf f) :: tyOfs r
end
mutual
theorem enc_ty : ∀ f : Fm, enc f = encT (tyOf f)
  | .text => by simp only [enc, tyOf, encT]
  | .number => by simp only [enc, tyOf, encT]
  | .flag => by simp only [enc, tyOf, encT]
  | .list f => by simp only [enc, tyOf, encT, enc_ty f]
  | .opt f => by simp only [enc, tyOf, encT, enc_ty f]
  | .rcd fs => by simp only [enc, tyOf, encT, enc_tys fs]
  | .keyed k num w f => by
    simp only [enc, tyOf, encT, encTs, enc_ty f]
    cases num <;> simp only [kty, kword, encT]
theorem enc_tys : ∀ fs : List (Str × Fm), encFs fs = encTs (tyOfs fs)
  | [] => by simp only [encFs, tyOfs, encTs]
  | (n, f) :: r => by simp only [encFs, tyOfs, encTs, enc_ty f, enc_tys r]
end
theorem tyOfs_map : ∀ fs : List (Str × Fm), tyOfs fs = fs.map fun q => (q.1, tyOf q.2)
  | [] => by simp only [tyOfs, List.map]
  | (n, f) :: r => by simp only [tyOfs, List.map, tyOfs_map r]
theorem tyOf_opt (f : Fm) : isOpt (tyOf f) = f.isOpt := by
  cases f <;> simp only [tyOf, isOpt, Fm.isOpt]
theorem GoodT.up {n : Nat} {t : Ty} (h : GoodT n t) : GoodT (n + 1) t := by
  induction h with
  | plain p => exact .plain p
  | opt _ a b => exact .opt b a
  | list _ b => exact .list b
  | keyed _ m k l b => exact .keyed b m k l
  | rcd a b c d e _ g => exact .rcd a b c d e g
theorem DeepT.up {n : Nat} {t : Ty} (h : DeepT n t) : DeepT (n + 1) t := by
  induction h with
  | plain p => exact .plain p
  | opt _ b => exact .opt b
  | list _ b => exact .list b
  | keyed l _ b => exact .keyed l b
  | rcd l _ b => exact .rcd l b
/-- a form of n levels tells a type of at most twice as many -/
theorem good_of : ∀ (n : Nat) (f : Fm), okF n f → GoodT (2 * n) (tyOf f) ∧ DeepT (2 * n) (tyOf f)
  | _, .text, _ => by
    simp only [tyOf]
    exact ⟨.plain rfl, .plain rfl⟩
  | _, .number, _ => by
    simp only [tyOf]
    exact ⟨.plain rfl, .plain rfl⟩
  | _, .flag, _ => by
    simp only [tyOf]
    exact ⟨.plain rfl, .plain rfl⟩
  | 0, .list _, h => by simp [okF] at h
  | 0, .opt _, h => by simp [okF] at h
  | 0, .rcd _, h => by simp [okF] at h
  | 0, .keyed _ _ _ _, h => by simp [okF] at h
  | n + 1, .list f, h => by
    obtain ⟨a, b⟩ := good_of n f (by simpa only [okF] using h)
    simp only [tyOf]
    exact ⟨.list a.up, .list b.up⟩
  | n + 1, .opt f, h => by
    have h' : okF n f ∧ f.isOpt = false := by simpa only [okF] using h
    obtain ⟨a, b⟩ := good_of n f h'.1
    simp only [tyOf]
    exact ⟨.opt a.up.up (by rw [tyOf_opt]; exact h'.2), .opt b.up⟩
  | n + 1, .rcd fs, h => by
    have h' : Names (fs.map (·.1)) ∧ sortedS (fs.map (·.1)) = true ∧ 1 ≤ fs.length ∧ fs.length ≤ 3 ∧ ∀ q ∈ fs, okF n q.2 := by simpa only [okF] using h
    obtain ⟨⟨nd, nm⟩, so, one, three, each⟩ := h'
    have names : (tyOfs fs).map (·.1) = fs.map (·.1) := by
      rw [tyOfs_map, List.map_map]
      rfl
    have mem : ∀ q ∈ tyOfs fs, ∃ p ∈ fs, q = (p.1, tyOf p.2) := fun q hq => by
      rw [tyOfs_map] at hq
      obtain ⟨p, hp, rfl⟩ := List.mem_map.mp hq
      exact ⟨p, hp, rfl⟩
    simp only [tyOf]
    refine ⟨.rcd ?_ (by rw [names]; exact nd) (by rw [names]; exact so) (by rw [tyOfs_map, List.length_map]; omega) (fun q hq => ?_) (fun q hq => ?_), .rcd (by rw [tyOfs_map, List.length_map]; omega) fun q hq => ?_⟩
    · rw [tyOfs_map]
      intro e
      have := congrArg List.length e
      rw [List.length_map] at this
      simp at this
      rw [this] at one
      simp at one
    · obtain ⟨p, hp, rfl⟩ := mem q hq
      obtain ⟨a, b, c⟩ := nm p.1 (List.mem_map.mpr ⟨p, hp, rfl⟩)
      exact ⟨c, b, by show p.1.length ≠ 0; omega⟩
    · obtain ⟨p, hp, rfl⟩ := mem q hq
      exact (good_of n p.2 (each p hp)).1.up
    · obtain ⟨p, hp, rfl⟩ := mem q hq
      exact (good_of n p.2 (each p hp)).2.up
  | n + 1, .keyed k num w f, h => by
    have h' : Names [k, w] ∧ sortedS [k, w] = true ∧ okF n f := by simpa only [okF] using h
    obtain ⟨⟨nd, nm⟩, so, fine⟩ := h'
    obtain ⟨a, b⟩ := good_of n f fine
    have plain : plainT (kty num) = true := by cases num <;> rfl
    have key : keyT (kty num) = true := by cases num <;> rfl
    have inner : GoodT (2 * n + 1) (.rcd [(k, kty num), (w, tyOf f)]) := by
      refine .rcd (by simp) nd so (by show 2 < 4000; decide) (fun q hq => ?_) (fun q hq => ?_)
      · rcases List.mem_cons.mp hq with rfl | hq
        · obtain ⟨x, y, z⟩ := nm k List.mem_cons_self
          exact ⟨z, y, by show k.length ≠ 0; omega⟩
        · rw [List.mem_singleton.mp hq]
          obtain ⟨x, y, z⟩ := nm w (List.mem_cons_of_mem _ List.mem_cons_self)
          exact ⟨z, y, by show w.length ≠ 0; omega⟩
      · rcases List.mem_cons.mp hq with rfl | hq
        · exact .plain plain
        · rw [List.mem_singleton.mp hq]
          exact a
    simp only [tyOf]
    refine ⟨.keyed inner List.mem_cons_self key (nm k List.mem_cons_self).2.2, .keyed ⟨_, _, rfl, List.mem_cons_self, key⟩ (.rcd (by show 2 < 4000; decide) fun q hq => ?_)⟩
    rcases List.mem_cons.mp hq with rfl | hq
    · exact .plain plain
    · rw [List.mem_singleton.mp hq]
      exact b
/-- how long a form's writing can be -/
def lim : Nat → Nat
  | 0 => 6
  | n + 1 => 56 + 3 * lim n
theorem joinL_up (m : Nat) : ∀ zs : List (List Nat), (∀ z ∈ zs, z.length ≤ m) → (TL.joinL [44, 32] zs).length ≤ zs.length * (m + 2)
  | [], _ => Nat.zero_le _
  | [z], h => by
    have := h z List.mem_cons_self
    show z.length ≤ (0 + 1) * (m + 2)
    omega
  | z :: y :: r, h => by
    have a := h z List.mem_cons_self
    have b := joinL_up m (y :: r) fun x hx => h x (List.mem_cons_of_mem _ hx)
    show (z ++ ([44, 32] ++ TL.joinL [44, 32] (y :: r))).length ≤ _
    rw [List.length_append, List.length_append]
    show _ + (2 + _) ≤ (r.length + 1 + 1) * (m + 2)
    rw [List.length_cons] at b
    rw [Nat.succ_mul (r.length + 1)]
    omega
theorem lim_ge : ∀ n, 6 ≤ lim n
  | 0 => Nat.le_refl _
  | n + 1 => by
    have := lim_ge n
    show 6 ≤ 56 + 3 * lim n
    omega
theorem len_of : ∀ (n : Nat) (f : Fm), okF n f → (wr (tyOf f)).length ≤ lim n
  | n, .text, _ => by
    simp only [tyOf, wr]
    exact Nat.le_trans (by decide) (lim_ge n)
  | n, .number, _ => by
    simp only [tyOf, wr]
    exact Nat.le_trans (by decide) (lim_ge n)
  | n, .flag, _ => by
    simp only [tyOf, wr]
    exact Nat.le_trans (by decide) (lim_ge n)
  | 0, .list _, h => by simp [okF] at h
  | 0, .opt _, h => by simp [okF] at h
  | 0, .rcd _, h => by simp [okF] at h
  | 0, .keyed _ _ _ _, h => by simp [okF] at h
  | n + 1, .list f, h => by
    have a := len_of n f (by simpa only [okF] using h)
    simp only [tyOf, wr]
    rw [len_app, len_app]
    show 1 + _ + 1 ≤ 56 + 3 * lim n
    omega
  | n + 1, .opt f, h => by
    have h' : okF n f ∧ f.isOpt = false := by simpa only [okF] using h
    have a := len_of n f h'.1
    simp only [tyOf, wr]
    rw [len_app]
    show _ + 1 ≤ 56 + 3 * lim n
    omega
  | n + 1, .rcd fs, h => by
    have h' : Names (fs.map (·.1)) ∧ sortedS (fs.map (·.1)) = true ∧ 1 ≤ fs.length ∧ fs.length ≤ 3 ∧ ∀ q ∈ fs, okF n q.2 := by simpa only [okF] using h
    obtain ⟨⟨nd, nm⟩, so, one, three, each⟩ := h'
    simp only [tyOf, wr]
    rw [len_app, len_app, ql_len (Txt.join ", " (wrFs (tyOfs fs))), ql_join]
    have up := joinL_up (14 + lim n) ((wrFs (tyOfs fs)).map ql) fun z hz => by
      rw [wrFs_map, tyOfs_map, List.map_map, List.map_map] at hz
      obtain ⟨p, hp, rfl⟩ := List.mem_map.mp hz
      show (ql (p.1 ++ ": " ++ wr (tyOf p.2))).length ≤ _
      rw [← ql_len, len_app, len_app]
      have a := len_of n p.2 (each p hp)
      have b := (nm p.1 (List.mem_map.mpr ⟨p, hp, rfl⟩)).2.1
      show _ + 2 + _ ≤ _
      omega
    have cnt : ((wrFs (tyOfs fs)).map ql).length ≤ 3 := by
      rw [wrFs_map, tyOfs_map, List.length_map, List.length_map, List.length_map]
      exact three
    have all := Nat.le_trans up (Nat.mul_le_mul_right (14 + lim n + 2) cnt)
    show 1 + _ + 1 ≤ 56 + 3 * lim n
    omega
  | n + 1, .keyed k num w f, h => by
    have h' : Names [k, w] ∧ sortedS [k, w] = true ∧ okF n f := by simpa only [okF] using h
    obtain ⟨⟨nd, nm⟩, so, fine⟩ := h'
    have a := len_of n f fine
    have kl := (nm k List.mem_cons_self).2.1
    have wl := (nm w (List.mem_cons_of_mem _ List.mem_cons_self)).2.1
    have small : (wr (kty num)).length ≤ 6 := by
      cases num <;> simp only [kty, wr] <;> decide
    simp only [tyOf, wr, wrFs]
    rw [len_app, len_app, len_app, len_app, len_app, len_app, ql_len (Txt.join ", " _), ql_join]
    show 1 + (1 + (ql (k ++ ": " ++ wr (kty num)) ++ ([44, 32] ++ ql (w ++ ": " ++ wr (tyOf f)))).length + 1) + 4 + _ + 1 ≤ 56 + 3 * lim n
    rw [List.length_append, List.length_append, ← ql_len, ← ql_len, len_app, len_app, len_app, len_app]
    show 1 + (1 + (_ + 2 + _ + (2 + (_ + 2 + _))) + 1) + 4 + _ + 1 ≤ 56 + 3 * lim n
    omega
end KX

namespace KX
open PySem PySem.Spec L2 PyProof.Rows
section
variable {base : Heap} {P : Program} {w : World} {K : PySem.W.Frag} {mg : Str → Option Value} {tk : Str → Tok} {TC ED RC : Addr}
abbrev s_repr : Stmt := inClass (top 20) 6
abbrev N_repr : List Str := ["self"]
abbrev P_repr : List Str := ["self"]
theorem sc_repr : FnScope N_repr P_repr (defScope s_repr) := ⟨rfl, rfl, rfl, by decide +kernel, rfl, by decide +kernel, by decide +kernel⟩
theorem ok_repr {f : Addr} {fd : FuncData} (F : Fun K "__repr__" "Type.__repr__" s_repr f fd) (C : TyC K TC) : FnOk P w K mg base CX0 1 f fd P_repr (fun vs H Q _ => ∃ (a dx : Addr) (fs : List (Str × V)) (z : Str), vs = [.ref a] ∧ H a = some (.ins TC dx fs) ∧ fs.lookup ("_writing" : Str) = some (.str z) ∧ z.length ≤ 100000 ∧ Q (.str ("Type('" ++ z ++ "')")) H) := by
  refine F.ok sc_repr (fun vs H Q E h => ?_) (fun cdv A outer s H vs Q E hr h => ?_)
  · obtain ⟨a, dx, fs, z, rfl, _⟩ := h
    rfl
  obtain ⟨a, dx, fs, z, rfl, at', has, few, q⟩ := h
  refine ⟨_, (pss_one (ps_ret (pe_joined (PJ.cons pe_str (PJ.cons (pe_fmt (pe_fld (pv 0) rfl)) (PJ.cons pe_str PJ.nil)))))), ?_⟩
  refine ⟨"Type('", rfl, big (by decide), _, rfl, a, TC, dx, _, _, rfl, at', C.cl, C.writing, has, .inl ⟨z, rfl, big (by omega), _, rfl, big ?_, _, rfl, big ?_, q⟩⟩
  · rw [len_app]
    show 6 + _ ≤ _
    omega
  · rw [len_app, len_app]
    show 6 + _ + 2 ≤ _
    omega
/-- the text of a form, at any depth -/
theorem ok_ftext {f : Addr} {fd : FuncData} (F : Fun K "_law_form_text" "_law_form_text" s_ftext f fd) (T : Bl mg) (g : mg "_law_form_text" = some (.ref f)) (b : L2.Binds K fd P_ftext []) : ∀ L : Nat, FnOk P w K mg base CX0 (L + 1) f fd P_ftext (spFText K L)
  | 0 => F.ok sc_ftext (fun vs H Q E h => by
      obtain ⟨v, t, n, rfl, _⟩ := h
      rfl) fun cdv A outer s H vs Q E hr h => by
      obtain ⟨v, t, n, _, lt, _⟩ := h
      exact absurd lt (Nat.not_lt_zero _)
  | L + 1 => ok_ftextS F T ⟨g, F.kp, b, ok_ftext F T g b L⟩
/-- of a drawn form -/
theorem ftext_of {H : Hp} {v : V} {fm : Fm} {n : Nat} {Q : VK} {E : XK} (d : Dq K H v (enc fm)) (o : okF n fm) (small : n ≤ 3) (q : ∀ H', Same H H' → Q (.str (wr (tyOf fm))) H') : spFText K 7 [v] H Q E := by
  obtain ⟨_, deep⟩ := good_of n fm o
  have len := len_of n fm o
  refine ⟨v, tyOf fm, 2 * n, rfl, by omega, by rw [← enc_ty]; exact d, deep, Nat.le_trans len ?_, q⟩
  rcases (by omega : n = 0 ∨ n = 1 ∨ n = 2 ∨ n = 3) with rfl | rfl | rfl | rfl <;> decide
end
end KX

namespace KX
open PySem PySem.Spec L2 PyProof.Rows
section
variable {P : Program} {w : World} {A : Around} {Er : Value → Shared → Prop} {s : Shared} {K : PySem.W.Frag} {a C f : Addr} {oa : Obj} {od : Option Obj}
/-- object's != where the class has an == of its own: that one, the other way round -/
theorem not_equal_here {v : Value} {Q : Value → Shared → Prop} (room : A.in1.units < cLine) (there : K.In s.heap) (inst : PySem.W.InstAt s.heap a oa C od) (obj : PySem.W.mroIn K C (.type "object") = some true)
    (found : PySem.W.findIn K (.ref C) "__eq__" = some (some (.ref f))) (fn : PySem.W.isFn K (.ref f) = true)
    (asked : wpAny (model P w) A.in1 (call (.ref f) [.ref a, v]) (fun r s' => ∃ b, r = .bool b ∧ Q (.bool (!b)) s') Er s) : wpAny (model P w) A (call (.builtin "object.__ne__") [.ref a, v]) Q Er s := by
  have known := F.cmp_object.ne
  refine wpAny_call (codeAny_call_builtin known.plain F.cmpEntry_ne (PySem.W.check_slot (i := "object.__ne__") (owner := "object") (n := "__ne__") F.cmpKind_ne F.cmpSplit_ne (inst.type.andThen (PySem.W.looks_mroIn there obj)) (F.cmpArgs_ne _ _) ?_))
  unfold Builtin.«object.__ne__»
  refine wpAny_bind (m := slotArgs "__ne__" 1 _) (wpAny_pure ?_)
  refine wpAny_bind (m := cRoomFor _ _) (wpAny_cRoomFor room ?_)
  refine wpAny_bind (m := callSpecialIfBound? (.ref a) (Str.ofString "__eq__") _) (PySem.W.ifBound_K there inst found fn (wpAny_mono asked (fun r s' told => ?_) fun _ _ e => e))
  obtain ⟨b, rfl, q⟩ := told
  exact wpAny_bind (wpAny_truthy_bool (wpAny_pure q))
end
section
variable {X : Cx} {TC f : Addr} {fd : FuncData} {k : Nat} {ps : List Str} {sp : Sp} {m : Str}
/-- a method is asked, and says yes or no -/
theorem yes_or_no {pins : List (Addr × Obj)} {σ : L2.St} {H : Hp} {s : Shared} {B : Around} {vs : List V} {us : List Value} {Q : VK} (M : MtD X.prog X.w X.K X.mg X.base TC m k ps sp f fd) (I : Inv X pins σ H s) (env : Env0 X.prog X.w X.K X.mg X.base B X.stack s H) (room : Room k B)
    (same : Vals vs us) (flip : Bool → Bool) (asked : sp vs H (fun v G => ∃ b, v = .bl b ∧ Q (.bl (flip b)) G) E0) :
    wpAny (model X.prog X.w) B (call (.ref f) us) (fun r s' => ∃ b, r = .bool b ∧ EP X pins σ Q (.bool (flip b)) s') X.xe s := by
  have bound := M.b s us I.kIn (by rw [List.append_nil, same.length.symm]; exact M.ok.len _ _ _ _ asked)
  rw [List.append_nil] at bound
  refine wpAny_call (codeAny_mono (M.ok.run B X.stack s H ⟨us, []⟩ us vs _ E0 room env bound same asked) ?_)
  rintro (er | fl) s2 h
  · exact h.elim
  cases fl with
  | ret u =>
    obtain ⟨v, G, J, rv, b, rfl, q⟩ := I.after h
    cases rv
    exact ⟨b, rfl, .bl (flip b), G, J, rfl, q⟩
  | next => exact h.elim
  | brk => exact h.elim
  | cont => exact h.elim
def rOwn (TC : Addr) (sp : Sp) (flip : Bool → Bool) : R2 := fun x y H Q => ∃ (a dx : Addr) (fs : List (Str × V)), x = .ref a ∧ H a = some (.ins TC dx fs) ∧ sp [x, y] H (fun v G => ∃ b, v = .bl b ∧ Q (.bl (flip b)) G) E0
end
end KX

namespace KX
open PySem PySem.Spec L2 PyProof.Rows
/-! ### what a type says of itself: str, repr, bool -/
section
variable {X : Cx} {TC f : Addr} {fd : FuncData} {k : Nat} {ps : List Str} {sp : Sp} {m : Str}
/-- a method is asked, and says a text -/
theorem says_text {pins : List (Addr × Obj)} {σ : L2.St} {H : Hp} {s : Shared} {B : Around} {a : Addr} {Q : VK} (M : MtD X.prog X.w X.K X.mg X.base TC m k ps sp f fd) (I : Inv X pins σ H s) (env : Env0 X.prog X.w X.K X.mg X.base B X.stack s H) (room : Room k B)
    (asked : sp [.ref a] H (fun v G => ∃ z, v = .str z ∧ Q (.str z) G) E0) : wpAny (model X.prog X.w) B (call (.ref f) [.ref a]) (PySem.W.StrBack (EP X pins σ Q)) X.xe s := by
  have bound := M.b s [.ref a] I.kIn (by rw [List.append_nil]; exact (M.ok.len _ _ _ _ asked).symm ▸ rfl)
  rw [List.append_nil] at bound
  refine wpAny_call (codeAny_mono (M.ok.run B X.stack s H ⟨[.ref a], []⟩ [.ref a] [.ref a] _ E0 room env bound (.cons rfl .nil) asked) ?_)
  rintro (er | fl) s2 h
  · exact h.elim
  cases fl with
  | ret u =>
    obtain ⟨v, G, J, rv, z, rfl, q⟩ := I.after h
    obtain ⟨t, rfl⟩ := rv
    exact ⟨.str z, G, J, ⟨t, rfl⟩, q⟩
  | next => exact h.elim
  | brk => exact h.elim
  | cont => exact h.elim
def rSays (TC : Addr) (sp : Sp) : List V → Hp → VK → Prop := fun xs H Q => ∃ (a dx : Addr) (fs : List (Str × V)), xs = [.ref a] ∧ H a = some (.ins TC dx fs) ∧ sp [.ref a] H (fun v G => ∃ z, v = .str z ∧ Q (.str z) G) E0
theorem call_strOwn (M : MtD X.prog X.w X.K X.mg X.base TC "__str__" k ps sp f fd) (room : Room (k + 2) X.A) : CallR X (.type "str") (rSays TC sp) := by
  intro pins s σ H xs us Q I r h
  obtain ⟨a, dx, fs, rfl, at', asked⟩ := h
  obtain ⟨u, rfl, r1⟩ := vals1 r
  obtain rfl : u = Value.ref a := r1
  obtain ⟨_, O, _⟩ := ins_get I.hok at'
  obtain ⟨od, inst, _⟩ := O.look
  exact PySem.W.kso_call room.in1.in1.units0 I.kIn inst M.me.at_ M.me.fn (says_text M I I.env0.in1.in1 room.in1.in1 asked)
theorem call_reprOwn (M : MtD X.prog X.w X.K X.mg X.base TC "__repr__" k ps sp f fd) (room : Room (k + 1) X.A) : CallR X (.builtin "repr") (rSays TC sp) := by
  intro pins s σ H xs us Q I r h
  obtain ⟨a, dx, fs, rfl, at', asked⟩ := h
  obtain ⟨u, rfl, r1⟩ := vals1 r
  obtain rfl : u = Value.ref a := r1
  obtain ⟨_, O, _⟩ := ins_get I.hok at'
  obtain ⟨od, inst, _⟩ := O.look
  obtain ⟨_, fr⟩ := I.fr
  exact PySem.W.repr_K room.in1.units0 fr I.ok.mod.kin inst M.me.at_ M.me.fn (says_text M I I.env0.in1 room.in1 asked)
end
/-- neither __bool__ nor __len__ -/
structure NoTruth (K : PySem.W.Frag) (C : Addr) : Prop where
  b : PySem.W.findIn K (.ref C) "__bool__" = some none
  l : PySem.W.findIn K (.ref C) "__len__" = some none
section
variable {M : Model} {A : Around} {Er : Value → Shared → Prop} {s : Shared} {K : PySem.W.Frag} {a C : Addr} {oa : Obj} {od : Option Obj}
theorem true_own {Q : Bool → Shared → Prop} (there : K.In s.heap) (inst : PySem.W.InstAt s.heap a oa C od) (no : NoTruth K C) (q : Q true s) : wpAny M A (truthy (.ref a)) Q Er s := by
  have none_at : ∀ {n : Str} {T : Option Value → Shared → Prop}, PySem.W.findIn K (.ref C) n = some none → T none s → wpAny M A (specialOf (.ref a) n) T Er s := by
    intro n T away t
    unfold specialOf
    exact wpAny_bind (inst.type.here ((PySem.W.looks_findIn there away).here t))
  unfold truthy callSpecial?
  exact wpAny_bind (wpAny_bind (none_at no.b (wpAny_pure (wpAny_bind (none_at no.l (wpAny_pure q))))))
/-- how bool.__new__ goes on over such an object -/
def trueSpec (a : Addr) : PySem.Spec := fun _ R s => R (.ok (.ret (.bool true))) s ∧ ∃ (K : PySem.W.Frag) (C : Addr) (oa : Obj) (od : Option Obj), K.In s.heap ∧ PySem.W.InstAt s.heap a oa C od ∧ NoTruth K C
theorem bool_of_own (a : Addr) : Meets (Builtin.«bool.__new__» ⟨[.type "bool", .ref a], []⟩) (trueSpec a) :=
  Meets.of_wp fun prog w A R s hs => by
    obtain ⟨hs, K, C, oa, od, there, inst, no⟩ := hs
    obtain ⟨hp, g, d, tk, os⟩ := s
    have f1 := F.conv_sub_bool
    repeat (any_goals (first | assumption | with_reducible refine true_own there inst no ?_ | wp_step))
    all_goals first | exact ⟨_, rfl, hs⟩ | skip
end
section
variable {X : Cx} {TC : Addr}
theorem call_boolOwn (no : NoTruth X.K TC) : CallR X (.type "bool") (fun xs H Q => ∃ (a dx : Addr) (fs : List (Str × V)), xs = [.ref a] ∧ H a = some (.ins TC dx fs) ∧ Q (.bl true) H) := by
  intro pins s σ H xs us Q I r h
  obtain ⟨a, dx, fs, rfl, at', q⟩ := h
  obtain ⟨u, rfl, r1⟩ := vals1 r
  obtain rfl : u = Value.ref a := r1
  obtain ⟨_, O, _⟩ := ins_get I.hok at'
  obtain ⟨od, inst, _⟩ := O.look
  exact call_bool_1 (bool_of_own a) ⟨⟨rfl, ⟨.bl true, H, I, rfl, q⟩⟩, X.K, TC, _, _, I.kIn, inst, no⟩
end
end KX

namespace KX
open PySem PySem.Spec L2 PyProof.Rows
/-! ### a classmethod is called with keywords -/
section
variable {X : Cx} {C p f : Addr} {mc : Value} {m : Str} {k : Nat} {fd : FuncData} {ps ks : List Str} {sp : Sp} {gA : List Value → List Value → List Value} {gV : List V → List V → List V} {o : Expr} {kws : List Keyword} {ta : TE} {tw : TA} {pos apos : Pos} {pl : Sem Bool}
theorem pe_cmethK (cls : PE X o ta) (reads : ClX.CRead X.K C mc) (is : ClX.CMet X.K C mc m p f) (F : FnOk X.prog X.w X.K X.mg X.base CX0 k f fd ps sp) (room : Room k X.A) (bind : KBn X.K fd ps 1 ks gA gV) (given : PK X kws tw)
    (named : (backToKw pos (keywordEach kws X.env)).all (·.1.isSome) = true := by rfl) (names : (backToKw pos (keywordEach kws X.env)).filterMap (·.1) = ks := by rfl)
    (plain : ((backTo pos (starEach [] X.env)).any (·.1) || (backToKw pos (keywordEach kws X.env)).any (·.1.isNone)) = false := by rfl)
    (tree : eval (.Call (.Attribute o m apos) [] kws pos) X.env = (do
      let ov ← eval o X.env
      standAt apos.atName
      let (f, first) ← holding [ov] (getMethod ov m pl)
      callWith pos f first (backTo pos (starEach [] X.env)) (backToKw pos (keywordEach kws X.env))) := by rfl) :
    PE X (.Call (.Attribute o m apos) [] kws pos) (fun σ H Q => ta σ H fun x H1 => x = .ref C ∧ tw σ H1 fun zs H2 => zs.length = ks.length ∧ sp (gV [.ref C] zs) H2 Q E0) := by
  constructor
  intro pins s σ H Q I want
  refine PySem.W.methodCall_KW (pl := pl) (thn (cls.run pins s σ H _ I want) ?_) tree
  rintro u s1 ⟨x, H1, I1, rx, rfl, want1⟩
  obtain rfl : u = Value.ref C := rx
  refine ClX.getmethcm_ok I1 reads is fun s2 I2 => ?_
  refine PySem.W.callWith_of plain (PySem.W.keeps_M (self := .ref C) is.fi) (evalArgs_kw2_nil named (thn (given.run pos _ s2 σ H1 _ I2 want1) ?_))
  rintro ws s3 ⟨zs, H2, I3, rel, many, asked⟩
  rw [names]
  refine ⟨⟨ClX.pin_at I3, I3.kIn⟩, ?_⟩
  have self : Vals [.ref C] [Value.ref C] := .cons rfl .nil
  have bound := bind.to _ [.ref C] ws I3.kIn rfl (rel.length.symm.trans many)
  have does := F.run _ X.stack _ _ _ _ _ _ _ room I3.env0 bound (bind.rel self rel) asked
  refine wpAny_call (PySem.W.method_call (ClX.pin_at I3) (codeAny_mono does ?_))
  rintro (e | fl) s' h
  · exact h.elim
  cases fl with
  | ret u =>
    obtain ⟨v, H3, J3, rv, q⟩ := I3.after h
    exact ⟨v, H3, ClX.unpin J3, rv, q⟩
  | next => exact h.elim
  | brk => exact h.elim
  | cont => exact h.elim
end
/-! ### a type beside whatever else -/
section
variable {P : Program} {w : World} {A : Around} {Er : Value → Shared → Prop} {s : Shared} {K : PySem.W.Frag} {a C f : Addr} {oa : Obj} {od : Option Obj} {tv : Value}
theorem asks_left {β : Type} {k : Bool → Sem β} {T : β → Shared → Prop} (there : K.In s.heap) (first : PySem.W.notFirst K C tv = true) (t : wpAny (model P w) A (k false) T Er s) :
    wpAny (model P w) A (if (Value.ref C != tv) = true then isSubtype tv (.ref C) >>= k else pure false >>= k) T Er s := by
  split
  · rename_i apart
    rcases Bool.or_eq_true_iff.mp first with e | e
    · rw [beq_iff_eq.mp e] at apart
      simp at apart
    · exact wpAny_bind ((PySem.W.looks_subIn there (beq_iff_eq.mp e)).here t)
  · exact wpAny_bind (wpAny_pure t)
/-- one != other, the other's class no other one below -/
theorem not_equal_beside {v : Value} {Q : Value → Shared → Prop} (room : A.units < cLine) (room1 : A.in1.units < cLine) (there : K.In s.heap) (inst : PySem.W.InstAt s.heap a oa C od) (obj : PySem.W.mroIn K C (.type "object") = some true)
    (other : PySem.W.Looks (model P w) s.heap (typeOf v) tv) (first : PySem.W.notFirst K C tv = true)
    (ne : PySem.W.findIn K (.ref C) "__ne__" = some (some (.builtin "object.__ne__"))) (found : PySem.W.findIn K (.ref C) "__eq__" = some (some (.ref f))) (fn : PySem.W.isFn K (.ref f) = true)
    (asked : wpAny (model P w) A.in1 (call (.ref f) [.ref a, v]) (fun r s' => ∃ b, r = .bool b ∧ Q (.bool (!b)) s') Er s) : wpAny (model P w) A (richCompare .NotEq (.ref a) v) Q Er s := by
  have known := F.cmp_object.ne
  have answer : wpAny (model P w) A (call (.builtin "object.__ne__") [.ref a, v]) (fun r s' => ∃ b : Bool, r = .bool b ∧ Q r s') Er s :=
    not_equal_here room1 there inst obj found fn (wpAny_mono asked (fun r s' t => t.imp fun b t => ⟨t.1, !b, rfl, t.2⟩) fun _ _ e => e)
  unfold richCompare
  simp only [oneThing_ref]
  refine wpAny_holding (wpAny_bind (wpAny_cRoomFor room (wpAny_bind (inst.type.here (wpAny_bind (other.here (asks_left there first ?_)))))))
  rw [if_neg (by decide)]
  have seen : wpAny (model P w) A (bindSpecialIfBound? (.ref a) "__ne__") (fun o s' => o = some (.builtin "object.__ne__", [.ref a]) ∧ s' = s) Er s := by
    unfold bindSpecialIfBound? specialOf
    refine wpAny_bind (wpAny_bind (inst.type.here ((PySem.W.looks_findIn there ne).here ?_)))
    dsimp only
    rw [known.bind]
    refine wpAny_bind (wpAny_askSetting (wpAny_ite ?_))
    split
    · exact wpAny_bind (wpAny_pure (wpAny_pure ⟨rfl, rfl⟩))
    · exact wpAny_tryCatch (wpAny_bind (wpAny_pure (wpAny_pure ⟨rfl, rfl⟩)))
  unfold tryCompare callSpecialIfBound?
  refine wpAny_bind (wpAny_bind (wpAny_holding (wpAny_bind (wpAny_mono seen (fun o s' e => ?_) fun _ _ e => e))))
  obtain ⟨rfl, rfl⟩ := e
  refine wpAny_bind (wpAny_mono answer (fun r s2 told => ?_) fun _ _ e => e)
  obtain ⟨b, rfl, q⟩ := told
  exact wpAny_pure (wpAny_pure (wpAny_pure q))
end
section
variable {X : Cx} {TC f : Addr} {fd : FuncData} {k : Nat} {ps : List Str} {sp : Sp}
def rBeside (K : PySem.W.Frag) (TC : Addr) (sp : Sp) (flip : Bool → Bool) : R2 := fun x y H Q => (∃ u, TyX K H y u ∧ PySem.W.notFirst K TC u = true) ∧ rOwn TC sp flip x y H Q
theorem op_besideEq (M : MtD X.prog X.w X.K X.mg X.base TC "__eq__" k ps sp f fd) (room : Room k X.A) : OpR X (compareOp .Eq) (rBeside X.K TC sp id) := by
  intro pins s σ H x y v u Q I rx ry h
  obtain ⟨⟨c, ty, first⟩, a, dx, fs, rfl, at', asked⟩ := h
  obtain rfl : v = Value.ref a := rx
  obtain ⟨_, O, _⟩ := ins_get I.hok at'
  obtain ⟨od, inst, _⟩ := O.look
  obtain ⟨T, kit, t, _⟩ := kit_of I ry ty
  obtain ⟨_, fr⟩ := I.fr
  refine PySem.W.cmp_K (op := .Eq) (tb := c) room.units0 fr I.ok.mod.kin inst (kit.ty _ _ I.kIn t) first M.me.at_ M.me.fn (wpAny_mono (yes_or_no M I I.env0 room (.cons (show RelV (.ref a) (.ref a) from rfl) (.cons ry .nil)) id asked) (fun r s' t => ?_) fun _ _ e => e)
  obtain ⟨c, rfl, q⟩ := t
  exact q
theorem op_besideNe (obj : PySem.W.mroIn X.K TC (.type "object") = some true) (ne : PySem.W.findIn X.K (.ref TC) "__ne__" = some (some (.builtin "object.__ne__"))) (M : MtD X.prog X.w X.K X.mg X.base TC "__eq__" k ps sp f fd) (room : Room (k + 1) X.A) : OpR X (compareOp .NotEq) (rBeside X.K TC sp (!·)) := by
  intro pins s σ H x y v u Q I rx ry h
  obtain ⟨⟨c, ty, first⟩, a, dx, fs, rfl, at', asked⟩ := h
  obtain rfl : v = Value.ref a := rx
  obtain ⟨_, O, _⟩ := ins_get I.hok at'
  obtain ⟨od, inst, _⟩ := O.look
  obtain ⟨T, kit, t, _⟩ := kit_of I ry ty
  exact not_equal_beside room.units0 room.in1.units0 I.kIn inst obj (kit.ty _ _ I.kIn t) first ne M.me.at_ M.me.fn (yes_or_no M I I.env0.in1 room.in1 (.cons (show RelV (.ref a) (.ref a) from rfl) (.cons ry .nil)) (!·) asked)
end
end KX

namespace KX
open PySem PySem.Spec L2 PyProof.Rows
section
variable {base : Heap} {P : Program} {w : World} {K : PySem.W.Frag} {mg : Str → Option Value} {tk : Str → Tok} {TC ED RC : Addr} {mc : Value} {rp rf : Addr} {rd : FuncData}
/-- Type.read, from the class, from a Type, with its argument's name -/
structure ReadC (P : Program) (w : World) (K : PySem.W.Frag) (mg : Str → Option Value) (base : Heap) (TC ED : Addr) (mc : Value) (p f : Addr) (fd : FuncData) : Prop where
  g : mg "Type" = some (.ref TC)
  r : ClX.CRead K TC mc
  m : ClX.CMet K TC mc "read" p f
  b : L2.Binds K fd P_tread []
  ok : FnOk P w K mg base CX0 34 f fd P_tread (spTread TC ED)
def gTwo : {α : Type} → List α → List α → List α := fun us ws => us ++ ws
theorem reads {H : Hp} {y : V} {t : Ty} {Q : VK} {E : XK} (e : y = .str (wr t)) (g : GoodT 6 t) (l : (wr t).length ≤ 100000) (q : ∀ (x : Addr) (H' : Hp), Same H H' → TyAt TC ED H' (.ref x) t → Q (.ref x) H') : spTread TC ED [.ref TC, y] H Q E :=
  ⟨y, rfl, t, by rw [e], g, l, q⟩
theorem GoodT.upTo {t : Ty} : ∀ {n : Nat} (k : Nat), GoodT n t → GoodT (n + k) t
  | _, 0, g => g
  | _, k + 1, g => (GoodT.upTo k g).up
/-- what a type is like as an object -/
theorem TyAt.has {H : Hp} {a : Addr} {t : Ty} (h : TyAt TC ED H (.ref a) t) : ∃ (dx : Addr) (vi vf : V), H a = some (.ins TC dx (rowT (kindW t) vi (partsT t).2 vf (wr t))) := by
  obtain ⟨b, dx, vi, vf, e, row, _⟩ := h.obj
  cases e
  exact ⟨dx, vi, vf, row⟩
theorem type_says {H : Hp} {a : Addr} {t : Ty} {Q : VK} (h : TyAt TC ED H (.ref a) t) (q : Q (.str (wr t)) H) : rSays TC (spTStr TC) [.ref a] H Q := by
  obtain ⟨dx, vi, vf, row⟩ := h.has
  exact ⟨a, dx, _, rfl, row, a, dx, _, wr t, rfl, row, rfl, _, rfl, q⟩
def reprT (t : Ty) : Str := "Type('" ++ wr t ++ "')"
def spRepr (TC : Addr) : Sp := fun vs H Q _ => ∃ (a dx : Addr) (fs : List (Str × V)) (z : Str), vs = [.ref a] ∧ H a = some (.ins TC dx fs) ∧ fs.lookup ("_writing" : Str) = some (.str z) ∧ z.length ≤ 100000 ∧ Q (.str ("Type('" ++ z ++ "')")) H
theorem type_reprs {H : Hp} {a : Addr} {t : Ty} {Q : VK} (h : TyAt TC ED H (.ref a) t) (few : (wr t).length ≤ 100000) (q : Q (.str (reprT t)) H) : rSays TC (spRepr TC) [.ref a] H Q := by
  obtain ⟨dx, vi, vf, row⟩ := h.has
  exact ⟨a, dx, _, rfl, row, a, dx, _, wr t, rfl, row, rfl, few, _, rfl, q⟩
theorem types_beside {H : Hp} {a b : Addr} {t u : Ty} {flip : Bool → Bool} {Q : VK} (I : IsOwn K TC) (ta : TyAt TC ED H (.ref a) t) (tb : TyAt TC ED H (.ref b) u) (q : Q (.bl (flip (decide (wr t = wr u)))) H) : rBeside K TC (spTeq K TC) flip (.ref a) (.ref b) H Q := by
  obtain ⟨dx, vi, vf, ra⟩ := ta.has
  obtain ⟨dy, vj, vg, rb⟩ := tb.has
  exact ⟨⟨.ref TC, .base (I H b dy _ rb), by simp [PySem.W.notFirst]⟩, a, dx, _, rfl, ra, a, dx, _, wr t, .ref b, rfl, ra, rfl, .inl ⟨b, dy, _, wr u, rfl, rb, rfl, _, rfl, q⟩⟩
abbrev s_one : Stmt := top 40
abbrev N_one : List Str := ["_law_row", "_law_made"]
abbrev P_one : List Str := ["_law_row"]
theorem sc_one : FnScope N_one P_one (defScope s_one) := ⟨rfl, rfl, rfl, by decide +kernel, rfl, by decide +kernel, by decide +kernel⟩
def spOne : Sp := fun vs H Q _ => ∃ t : Ty, vs = [.str (wr t)] ∧ GoodT 6 t ∧ (wr t).length ≤ 50000 ∧ ∀ H', Same H H' → Q (.bl true) H'
theorem ok_one {fe fs fr : Addr} {de ds dr : FuncData} {f : Addr} {fd : FuncData} (F : Fun K "_law_one_right" "_law_one_right" s_one f fd) (T : BlT mg) (TCc : TyC K TC) (TCne : PySem.W.findIn K (.ref TC) "__ne__" = some (some (.builtin "object.__ne__"))) (NT : NoTruth K TC)
    (I : IsOwn K TC) (RT : ReadC P w K mg base TC ED mc rp rf rd) (KR : KBn K rd P_tread 1 ["text"] gTwo gTwo) (CI : ClX.CInst K TC "read" rp rf) (M_eq : MtD P w K mg base TC "__eq__" 1 P_teq (spTeq K TC) fe de)
    (M_str : MtD P w K mg base TC "__str__" 1 P_tstr (spTStr TC) fs ds) (M_repr : MtD P w K mg base TC "__repr__" 1 P_repr (spRepr TC) fr dr) : FnOk P w K mg base CX0 35 f fd P_one spOne := by
  refine F.ok sc_one (fun vs H Q E h => ?_) (fun cdv A outer s H vs Q E hr h => ?_)
  · obtain ⟨t, rfl, _⟩ := h
    rfl
  obtain ⟨t, rfl, good, few, q⟩ := h
  refine ⟨_, (pss_cons (ps_for PassesOwn.never rfl (pi_list (pe_lst (pa_cons (ClX.pe_cmeth (pe_glob (v := .ref TC) rfl RT.g rfl) RT.r RT.m (FnOk.raw RT.ok RT.b .nil) (hr.mono (by first | decide | omega)) pass0 (pa_cons (pv 0) pa_nil)) (pa_cons (pe_cmethK (pe_glob (v := .ref TC) rfl RT.g rfl) RT.r RT.m RT.ok (hr.mono (by first | decide | omega)) KR (pk_cons (pv 0) pk_nil)) (pa_cons (ClX.pe_imethD (ClX.pe_cmeth (pe_glob (v := .ref TC) rfl RT.g rfl) RT.r RT.m (FnOk.raw RT.ok RT.b .nil) (hr.mono (by first | decide | omega)) pass0 (pa_cons pe_str pa_nil)) CI (FnOk.raw RT.ok RT.b .nil) (hr.mono (by first | decide | omega)) pass0 (pa_cons (pv 0) pa_nil)) (pa_cons (ClX.pe_cmeth (pe_glob (v := .ref TC) rfl RT.g rfl) RT.r RT.m (FnOk.raw RT.ok RT.b .nil) (hr.mono (by first | decide | omega)) pass0 (pa_cons (pe_callTy (call_strOwn M_str (hr.mono (by first | decide | omega))) (by rfl) T.str (by decide +kernel) (pa_cons (ClX.pe_cmeth (pe_glob (v := .ref TC) rfl RT.g rfl) RT.r RT.m (FnOk.raw RT.ok RT.b .nil) (hr.mono (by first | decide | omega)) pass0 (pa_cons (pv 0) pa_nil)) pa_nil)) pa_nil)) pa_nil)))))) (pg_name (i := 1) sc_one.nd rfl (Or.inl rfl))
      (pss_cons (ps_if (PW.pt (pw_or (pt_cmpR op_ne (pe_callTy (call_strOwn M_str (hr.mono (by first | decide | omega))) (by rfl) T.str (by decide +kernel) (pa_cons (pv 1) pa_nil)) (pv 0) (nomark _)) (pw_or (pt_cmpR op_ne (pe_callB (call_reprOwn M_repr (hr.mono (by first | decide | omega))) (by rfl) T.repr (by decide +kernel) (pa_cons (pv 1) pa_nil)) (pe_op op_add_str (pe_op op_add_str pe_str (pv 0)) pe_str) (nomark _)) (pw_or1 (pt_cmpR (op_besideNe TCc.obj TCne M_eq (hr.mono (by first | decide | omega))) (pv 1) (ClX.pe_cmeth (pe_glob (v := .ref TC) rfl RT.g rfl) RT.r RT.m (FnOk.raw RT.ok RT.b .nil) (hr.mono (by first | decide | omega)) pass0 (pa_cons (pv 0) pa_nil)) (nomark _))))))
      (pss_one (ps_ret pe_bl))
      pss_nil)
    (pss_one (ps_if (PW.pt (pw_or (pt_cmpR op_notBl (pe_callTy (call_boolOwn NT) (by rfl) T.bool (by decide +kernel) (pa_cons (pv 1) pa_nil)) pe_bl (nomark _)) (pw_or1 (pt_not (pt_cmpR (op_besideEq M_eq (hr.mono (by first | decide | omega))) (pv 1) (ClX.pe_cmeth (pe_glob (v := .ref TC) rfl RT.g rfl) RT.r RT.m (FnOk.raw RT.ok RT.b .nil) (hr.mono (by first | decide | omega)) pass0 (pa_cons (pv 0) pa_nil)) (nomark _))))))
      (pss_one (ps_ret pe_bl))
      pss_nil))))
    (pss_one (ps_ret pe_bl))), ?_⟩
  have up : ∀ {G : Hp} {D : Addr} {o : HO} {u : Ty} {v : V}, G D = none → TyAt TC ED G v u → TyAt TC ED (upd G D o) v u := fun n h => TyAt.same (same_new n _) _ _ h
  refine ⟨rfl, _, rfl, reads rfl good (by omega) fun x1 H1 s1 t1 => ?_⟩
  refine ⟨rfl, _, rfl, rfl, reads rfl good (by omega) fun x2 H2 s2 t2 => ?_⟩
  refine ⟨rfl, reads (t := .flag) (by simp only [wr]) (.plain rfl) (by simp only [wr]; decide) fun x0 H3 s3 t3 => ?_⟩
  obtain ⟨dx0, vi0, vf0, row0⟩ := t3.has
  refine ⟨x0, dx0, _, rfl, row0, rfl, _, rfl, reads rfl good (by omega) fun x3 H4 s4 t4 => ?_⟩
  refine ⟨rfl, rfl, _, rfl, reads rfl good (by omega) fun x5 H5 s5 t5 => ?_⟩
  obtain ⟨dx5, vi5, vf5, row5⟩ := t5.has
  refine ⟨x5, dx5, _, rfl, row5, x5, dx5, _, _, rfl, row5, rfl, _, rfl, reads rfl good (by omega) fun x4 H6 s6 t6 => ?_⟩
  refine ⟨big (by show 4 ≤ _; decide), fun D new => ⟨D, rfl, ⟨_, SqL.of upd_same⟩, ?_⟩⟩
  have sD : Same H6 (upd H6 D (.lst [.ref x1, .ref x2, .ref x3, .ref x4])) := same_new new _
  have all : ∀ x ∈ [V.ref x1, V.ref x2, V.ref x3, V.ref x4], ∃ a, x = .ref a ∧ TyAt TC ED H6 (.ref a) t := fun x m => by
    rcases List.mem_cons.mp m with rfl | m
    · exact ⟨_, rfl, TyAt.same (s2.trans (s3.trans (s4.trans (s5.trans s6)))) _ _ t1⟩
    rcases List.mem_cons.mp m with rfl | m
    · exact ⟨_, rfl, TyAt.same (s3.trans (s4.trans (s5.trans s6))) _ _ t2⟩
    rcases List.mem_cons.mp m with rfl | m
    · exact ⟨_, rfl, TyAt.same (s5.trans s6) _ _ t4⟩
    rw [List.mem_singleton.mp m]
    exact ⟨_, rfl, t6⟩
  have sH : Same H H6 := s1.trans (s2.trans (s3.trans (s4.trans (s5.trans s6))))
  refine for_it (walk_list (K := K) (a := D) (xs := [.ref x1, .ref x2, .ref x3, .ref x4])) (fun i σ G => (∃ o1, σ = [some (.str (wr t)), o1]) ∧ Same (upd H6 D (.lst [.ref x1, .ref x2, .ref x3, .ref x4])) G) ⟨⟨none, rfl⟩, Same.refl _⟩ (fun i σ G _ p => SqL.of (p.2 _ _ upd_same)) ?_ ?_
  · rintro i x σ G G' hi ⟨⟨o1, rfl⟩, kept⟩ ⟨rfl, at'⟩
    obtain ⟨a, rfl, ta⟩ := all _ (List.mem_of_getElem? at')
    have tG := TyAt.same (sD.trans kept) _ _ ta
    obtain ⟨dx, vi, vf, row⟩ := tG.has
    have lr : ("Type('" ++ wr t).length = 6 + (wr t).length := by
      rw [len_app]
      rfl
    refine ⟨_, rfl, a, dx, _, rfl, row, a, dx, _, _, rfl, row, rfl, _, rfl, _, rfl, rfl, _, rfl, if_ff (by rw [decide_eq_true rfl]; rfl) ?_⟩
    refine ⟨_, rfl, a, dx, _, rfl, row, a, dx, _, _, rfl, row, rfl, by omega, _, rfl, _, rfl, _, _, rfl, rfl, big (by show 6 + (wr t).length ≤ _; omega), _, _, rfl, rfl, big (by rw [lr]; show 6 + (wr t).length + 2 ≤ _; omega), rfl, _, rfl, if_ff (by rw [decide_eq_true rfl]; rfl) ?_⟩
    refine ⟨_, rfl, rfl, _, rfl, reads rfl good (by omega) fun x6 G6 s7 t7 => ?_⟩
    have tG6 := TyAt.same s7 _ _ tG
    refine types_beside I tG6 t7 ⟨_, rfl, if_ff (by rw [decide_eq_true rfl]; rfl) ?_⟩
    have row6 := s7 _ _ row
    refine ⟨_, rfl, a, dx, _, rfl, row6, _, _, rfl, rfl, _, rfl, if_ff rfl ?_⟩
    refine ⟨_, rfl, rfl, _, rfl, reads rfl good (by omega) fun x7 G7 s8 t8 => ?_⟩
    refine types_beside I (TyAt.same s8 _ _ tG6) t8 ⟨_, rfl, if_ff (by rw [decide_eq_true rfl]; rfl) ?_⟩
    exact ⟨⟨_, rfl⟩, kept.trans (s7.trans s8)⟩
  · rintro σ G ⟨⟨o1, rfl⟩, kept⟩
    exact q G (sH.trans (sD.trans kept))
end
end KX

namespace KX
open PySem PySem.Spec L2 PyProof.Rows
section
variable {base : Heap} {P : Program} {w : World} {K : PySem.W.Frag} {mg : Str → Option Value} {tk : Str → Tok} {TC ED RC : Addr} {mc : Value} {rp rf : Addr} {rd : FuncData}
theorem types_apart {H : Hp} {a : Addr} {t : Ty} {y : V} {X : String} {l : List Value} {flip : Bool → Bool} {Q : VK} (kit : ∀ T l, PySem.fastBuiltinMro T = some l → l.contains (.ref TC) = false → PySem.W.kitOne K (.type T) (.ref TC) = some false)
    (ta : TyAt TC ED H (.ref a) t) (ty : TyX K H y (.type X)) (mro : PySem.fastBuiltinMro X = some l) (no : l.contains (.ref TC) = false) (q : Q (.bl (flip false)) H) : rBeside K TC (spTeq K TC) flip (.ref a) y H Q := by
  obtain ⟨dx, vi, vf, ra⟩ := ta.has
  have sub : PySem.W.subIn K (.type X) (.ref TC) = some false := by
    show (PySem.fastBuiltinMro X).map (·.contains (.ref TC)) = some false
    rw [mro, Option.map_some, no]
  refine ⟨⟨_, ty, ?_⟩, a, dx, _, rfl, ra, a, dx, _, wr t, y, rfl, ra, rfl, .inr ⟨_, ty, kit _ _ mro no, _, rfl, q⟩⟩
  unfold PySem.W.notFirst
  rw [sub]
  simp
/-- a value of a class that no type is of -/
def Far (K : PySem.W.Frag) (TC : Addr) (H : Hp) (y : V) : Prop := ∃ (X : String) (l : List Value), TyX K H y (.type X) ∧ PySem.fastBuiltinMro X = some l ∧ l.contains (.ref TC) = false
theorem far_non {H : Hp} : Far K TC H .non := ⟨_, [.type "NoneType", .type "object"], .base .non, by decide +kernel, by rfl⟩
theorem far_int {H : Hp} {i : Int} : Far K TC H (.int i) := ⟨_, [.type "int", .type "object"], .base (.int i), by decide +kernel, by rfl⟩
theorem far_str {H : Hp} {z : Str} : Far K TC H (.str z) := ⟨_, [.type "str", .type "object"], .base (.str z), by decide +kernel, by rfl⟩
theorem far_bl {H : Hp} {b : Bool} : Far K TC H (.bl b) := ⟨_, [.type "bool", .type "int", .type "object"], .base (.bl b), by decide +kernel, by rfl⟩
theorem far_tup {H : Hp} {a : Addr} {xs : List V} (e : H a = some (.tup xs)) : Far K TC H (.ref a) := ⟨_, [.type "tuple", .type "object"], .base (.tup e), by decide +kernel, by rfl⟩
theorem far_lst {H : Hp} {a : Addr} {xs : List V} (e : H a = some (.lst xs)) : Far K TC H (.ref a) := ⟨_, [.type "list", .type "object"], .base (.lst e), by decide +kernel, by rfl⟩
theorem far_dct {H : Hp} {a : Addr} {kvs : List (Key × V)} (e : H a = some (.dK kvs)) : Far K TC H (.ref a) := ⟨_, [.type "dict", .type "object"], .base (.dK e), by decide +kernel, by rfl⟩
def textsOf (ts : List Ty) : List V := ts.map fun t => V.str (wr t)
abbrev s_right : Stmt := top 41
abbrev N_right : List Str := ["_law_pool_here", "_law_seen", "_law_first", "_law_made", "_law_second", "_law_stranger", "_law_turn", "_law_row"]
abbrev P_right : List Str := ["_law_pool_here"]
theorem sc_right : FnScope N_right P_right (defScope s_right) := ⟨rfl, rfl, rfl, by decide +kernel, rfl, by decide +kernel, by decide +kernel⟩
def spRight : Sp := fun vs H Q _ => ∃ p : Addr, vs = [.ref p] ∧ PoolAt H p ∧ ∀ H', Keep p H H' → PoolAt H' p → Q (.bl true) H'
theorem ok_right {fe f1 f2 f3 : Addr} {de d1 d2 d3 : FuncData} {f : Addr} {fd : FuncData} (F : Fun K "_law_right" "_law_right" s_right f fd) (T : BlT mg) (TCc : TyC K TC) (TCne : PySem.W.findIn K (.ref TC) "__ne__" = some (some (.builtin "object.__ne__")))
    (I : IsOwn K TC) (kit : ∀ T l, PySem.fastBuiltinMro T = some l → l.contains (.ref TC) = false → PySem.W.kitOne K (.type T) (.ref TC) = some false) (RT : ReadC P w K mg base TC ED mc rp rf rd) (M_eq : MtD P w K mg base TC "__eq__" 1 P_teq (spTeq K TC) fe de)
    (D_form : Def P w K mg base "_law_form" 6 P_form (spFormL K 4) f1 d1) (D_form_text : Def P w K mg base "_law_form_text" 8 P_ftext (spFText K 7) f2 d2) (D_one_right : Def P w K mg base "_law_one_right" 35 P_one spOne f3 d3) : FnOk P w K mg base CX0 36 f fd P_right spRight := by
  refine F.ok sc_right (fun vs H Q E h => ?_) (fun cdv A outer s H vs Q E hr h => ?_)
  · obtain ⟨p, rfl, _⟩ := h
    rfl
  obtain ⟨p, rfl, hp, q⟩ := h
  refine ⟨_, (pss_cons (ps_setLc (i := 1) (own := [("_law_turn", 6)]) (g := (gName 6)) (tt := tYes) rfl sc_right.nd rfl rfl (sw_true rfl rfl rfl (by decide +kernel)) (pi_range1 rfl T.range (pa_cons pe_int pa_nil)) (blkOk_by (own := [("_law_turn", 6)]) (N := N_right) (sc := defScope s_right) (by decide +kernel)) (fun _ _ _ _ _ => (pg_name (i := 6) sc_right.nd rfl (Or.inl rfl))) (fun _ _ _ _ _ => pts_nil) (fun _ _ _ _ _ => (pe_call D_form_text.ok (hr.mono (by first | decide | omega)) rfl D_form_text.g D_form_text.kp D_form_text.b .nil pass0 (pa_cons (pe_call D_form.ok (hr.mono (by first | decide | omega)) rfl D_form.g D_form.kp D_form.b .nil pass0 (pa_cons (pv 0) (pa_cons pe_int pa_nil))) pa_nil))))
    (pss_cons (ps_if (pt_not (pt_val (pe_callB (cr_all rfl) (by rfl) T.all (by decide +kernel) (pa_cons (pe_lc (own := [("_law_row", 7)]) (g := (gName 7)) (tt := tYes) rfl sc_right.nd (pi_list (pv 1)) (blkOk_by (own := [("_law_row", 7)]) (N := N_right) (sc := defScope s_right) (by decide +kernel)) (fun _ _ _ _ _ => (pg_name (i := 7) sc_right.nd rfl (Or.inl rfl))) (fun _ _ _ _ _ => pts_nil) (fun _ _ _ _ _ => (pe_call D_one_right.ok (hr.mono (by first | decide | omega)) rfl D_one_right.g D_one_right.kp D_one_right.b .nil pass0 (pa_cons (pv 7) pa_nil)))) pa_nil))))
      (pss_one (ps_ret pe_bl))
      pss_nil)
    (pss_cons (ps_for PassesOwn.never rfl (pi_list (pv 1)) (pg_name (i := 2) sc_right.nd rfl (Or.inl rfl))
      (pss_cons (ps_set (i := 3) sc_right.nd rfl (Or.inl rfl) (ClX.pe_cmeth (pe_glob (v := .ref TC) rfl RT.g rfl) RT.r RT.m (FnOk.raw RT.ok RT.b .nil) (hr.mono (by first | decide | omega)) pass0 (pa_cons (pv 2) pa_nil)))
    (pss_cons (ps_for PassesOwn.never rfl (pi_list (pv 1)) (pg_name (i := 4) sc_right.nd rfl (Or.inl rfl))
      (pss_one (ps_if (PW.pt (pw_or (pt_cmpR op_ne (pe_cmpR (op_besideEq M_eq (hr.mono (by first | decide | omega))) (pv 3) (ClX.pe_cmeth (pe_glob (v := .ref TC) rfl RT.g rfl) RT.r RT.m (FnOk.raw RT.ok RT.b .nil) (hr.mono (by first | decide | omega)) pass0 (pa_cons (pv 4) pa_nil)) (nomark _)) (pe_cmpR op_eq (pv 2) (pv 4) (nomark _)) (nomark _)) (pw_or1 (pt_cmpR op_eq (pe_cmpR (op_besideNe TCc.obj TCne M_eq (hr.mono (by first | decide | omega))) (pv 3) (ClX.pe_cmeth (pe_glob (v := .ref TC) rfl RT.g rfl) RT.r RT.m (FnOk.raw RT.ok RT.b .nil) (hr.mono (by first | decide | omega)) pass0 (pa_cons (pv 4) pa_nil)) (nomark _)) (pe_cmpR op_eq (pv 2) (pv 4) (nomark _)) (nomark _)))))
      (pss_one (ps_ret pe_bl))
      pss_nil)))
    (pss_one (ps_for PassesOwn.never rfl (pi_list (pe_lst (pa_cons pe_non (pa_cons pe_int (pa_cons pe_str (pa_cons (pv 2) (pa_cons (pe_tup (pa_cons (pv 2) pa_nil)) (pa_cons (pe_lst (pa_cons (pv 3) pa_nil)) (pa_cons pe_dnewK (pa_cons pe_bl pa_nil)))))))))) (pg_name (i := 5) sc_right.nd rfl (Or.inl rfl))
      (pss_one (ps_if (PW.pt (pw_or (pt_cmpR (op_besideEq M_eq (hr.mono (by first | decide | omega))) (pv 3) (pv 5) (nomark _)) (pw_or1 (pt_not (pt_cmpR (op_besideNe TCc.obj TCne M_eq (hr.mono (by first | decide | omega))) (pv 3) (pv 5) (nomark _))))))
      (pss_one (ps_ret pe_bl))
      pss_nil)))))))
    (pss_one (ps_ret pe_bl))))), ?_⟩
  refine ⟨6, rfl, by decide, by decide, fun D newD => ?_⟩
  have nD : D ≠ p := hp.ne newD
  refine lc_range (lo := 0) (n := 6) (fun i Z => Keep p H Z ∧ PoolAt Z p ∧ ∃ ts : List Ty, ts.length = i ∧ (∀ t ∈ ts, GoodT 6 t ∧ (wr t).length ≤ 50000) ∧ Z D = some (.lst (textsOf ts))) ⟨(Keep.refl p H).upd newD, hp.upd nD, [], rfl, (fun _ m => nomatch m), upd_same⟩ ?_ ?_
  · rintro i Z hi ⟨kZ, pZ, ts, ln, each, atD⟩
    refine ⟨rfl, yesT ⟨_, rfl, p, rfl, pZ, fun G1 v fm k1 p1 df okf => ?_⟩⟩
    obtain ⟨good, deep⟩ := good_of 3 fm okf
    have len : (wr (tyOf fm)).length ≤ 50000 := Nat.le_trans (len_of 3 fm okf) (by decide)
    refine ⟨v, tyOf fm, 6, rfl, by decide, by rw [← enc_ty]; exact Dq.same (sub_same _ _) _ _ df, deep, by omega, fun G2 s2 => ?_⟩
    have d2 : G2 D = some (.lst (textsOf ts)) := s2 _ _ (k1 _ _ nD atD)
    have k2 : Keep p H G2 := kZ.trans (k1.trans (Same.keep s2))
    refine ⟨_, d2, ?_, k2.upd newD, (p1.same s2).upd nD, ts ++ [tyOf fm], ?_, ?_, ?_⟩
    · rw [textsOf, List.length_map]
      exact less_line (by omega)
    · rw [List.length_append, ln]
      rfl
    · intro t m
      rcases List.mem_append.mp m with m | m
      · exact each t m
      · rw [List.mem_singleton.mp m]
        exact ⟨good, len⟩
    · rw [upd_same, textsOf, textsOf, List.map_append]
      rfl
  rintro G0 ⟨k0, p0, ts, ln, each, atD⟩
  have mem : ∀ {x : V} {i : Nat}, (textsOf ts)[i]? = some x → ∃ t, x = .str (wr t) ∧ GoodT 6 t ∧ (wr t).length ≤ 50000 := fun e => by
    obtain ⟨t, m, rfl⟩ := List.mem_map.mp (List.mem_of_getElem? e)
    exact ⟨t, rfl, each t m⟩
  have six : (textsOf ts).length = 6 := by rw [textsOf, List.length_map, ln]
  refine ⟨_, rfl, D, rfl, ⟨_, SqL.of atD⟩, fun D2 new2 => ?_⟩
  refine lc_it (walk_list (K := K) (a := D) (xs := textsOf ts)) (fun i Z => Same G0 Z ∧ Z D2 = some (.lst (trues i))) ⟨same_new new2 _, upd_same⟩ (fun i Z _ z => SqL.of (z.1 _ _ atD)) ?_ ?_
  · rintro i x Z Z' hi ⟨kept, made⟩ ⟨rfl, at'⟩
    obtain ⟨t, rfl, good, few⟩ := mem at'
    refine ⟨rfl, yesT ⟨_, rfl, t, rfl, good, few, fun Z3 sZ => ⟨_, sZ _ _ made, ?_, Same.updNew (kept.trans sZ) new2, ?_⟩⟩⟩
    · rw [trues_len]
      exact less_line (by omega)
    · rw [upd_same, trues_more]
  rintro G1 ⟨s1, made1⟩
  refine ⟨D2, _, rfl, SqL.of made1, ?_⟩
  rw [trues_all]
  refine ⟨_, rfl, if_ff rfl ?_⟩
  have atD1 := s1 _ _ atD
  refine ⟨_, rfl, D, rfl, ⟨_, SqL.of atD1⟩, ?_⟩
  refine for_it (walk_list (K := K) (a := D) (xs := textsOf ts)) (fun i σ G => (∃ o2 o3 o4 o5 o6 o7, σ = [some (.ref p), some (.ref D), o2, o3, o4, o5, o6, o7]) ∧ Same G1 G) ⟨⟨none, none, none, none, none, none, rfl⟩, Same.refl _⟩ (fun i σ G _ z => SqL.of (z.2 _ _ atD1)) ?_ ?_
  · rintro i x σ G G' hi ⟨⟨o2, o3, o4, o5, o6, o7, rfl⟩, sG⟩ ⟨rfl, at'⟩
    obtain ⟨t, rfl, good, few⟩ := mem at'
    refine ⟨rfl, _, rfl, reads rfl good (by omega) fun a G2 s2 t2 => ?_⟩
    have atD2 := (sG.trans s2) _ _ atD1
    refine ⟨_, rfl, D, rfl, ⟨_, SqL.of atD2⟩, ?_⟩
    refine for_it (walk_list (K := K) (a := D) (xs := textsOf ts)) (fun i σ G => (∃ o4, σ = [some (.ref p), some (.ref D), some (.str (wr t)), some (.ref a), o4, o5, o6, o7]) ∧ Same G2 G) ⟨⟨_, rfl⟩, Same.refl _⟩ (fun i σ G _ z => SqL.of (z.2 _ _ atD2)) ?_ ?_
    · rintro j y σ G3 G3' hj ⟨⟨o4, rfl⟩, s3⟩ ⟨rfl, at3⟩
      obtain ⟨u, rfl, goodu, fewu⟩ := mem at3
      have same : decide (V.str (wr t) = V.str (wr u)) = decide (wr t = wr u) := by
        rw [decide_eq_decide]
        exact ⟨V.str.inj, fun e => by rw [e]⟩
      refine ⟨_, rfl, rfl, _, rfl, reads rfl goodu (by omega) fun b G4 s4 t4 => ?_⟩
      refine types_beside I (TyAt.same (s3.trans s4) _ _ t2) t4 ⟨_, rfl, _, rfl, rfl, rfl, _, rfl, if_ff ?_ ?_⟩
      · rw [same]
        simp
      refine ⟨_, rfl, rfl, _, rfl, reads rfl goodu (by omega) fun c G5 s5 t5 => ?_⟩
      refine types_beside I (TyAt.same (s3.trans (s4.trans s5)) _ _ t2) t5 ⟨_, rfl, _, rfl, rfl, rfl, _, rfl, if_ff ?_ ?_⟩
      · rw [same]
        simp
      exact ⟨⟨_, rfl⟩, s3.trans (s4.trans s5)⟩
    rintro σ G3 ⟨⟨o4, rfl⟩, s3⟩
    have t3 := TyAt.same s3 _ _ t2
    refine ⟨_, rfl, _, rfl, big (by show 1 ≤ _; decide), fun T1 n1 => ⟨_, rfl, big (by show 1 ≤ _; decide), fun L1 n2 => fun E1 n3 => ⟨big (by show 8 ≤ _; decide), fun S1 n4 => ⟨S1, rfl, ⟨_, SqL.of upd_same⟩, ?_⟩⟩⟩⟩
    have u4 := same_new n4 (.lst [.non, .int 0, .str "", .str (wr t), .ref T1, .ref L1, .ref E1, .bl true])
    have u3 := same_new n3 (.dK [])
    have u2 := same_new n2 (.lst [.ref a])
    have u1 := same_new n1 (.tup [.str (wr t)])
    obtain ⟨G4, e4⟩ : ∃ G4, G4 = upd (upd (upd (upd G3 T1 (.tup [.str (wr t)])) L1 (.lst [.ref a])) E1 (.dK [])) S1 (.lst [.non, .int 0, .str "", .str (wr t), .ref T1, .ref L1, .ref E1, .bl true]) := ⟨_, rfl⟩
    have s4 : Same G3 G4 := by rw [e4]; exact u1.trans (u2.trans (u3.trans u4))
    have aT : G4 T1 = some (.tup [.str (wr t)]) := by rw [e4]; exact (u2.trans (u3.trans u4)) _ _ upd_same
    have aL : G4 L1 = some (.lst [.ref a]) := by rw [e4]; exact (u3.trans u4) _ _ upd_same
    have aE : G4 E1 = some (.dK []) := by rw [e4]; exact u4 _ _ upd_same
    have aS : G4 S1 = some (.lst [.non, .int 0, .str "", .str (wr t), .ref T1, .ref L1, .ref E1, .bl true]) := by rw [e4]; exact upd_same
    rw [← e4]
    have far : ∀ (Z : Hp), Same G4 Z → ∀ y ∈ [V.non, .int 0, .str "", .str (wr t), .ref T1, .ref L1, .ref E1, .bl true], Far K TC Z y := fun Z sZ y m => by
      rcases List.mem_cons.mp m with rfl | m
      · exact far_non
      rcases List.mem_cons.mp m with rfl | m
      · exact far_int
      rcases List.mem_cons.mp m with rfl | m
      · exact far_str
      rcases List.mem_cons.mp m with rfl | m
      · exact far_str
      rcases List.mem_cons.mp m with rfl | m
      · exact far_tup (sZ _ _ aT)
      rcases List.mem_cons.mp m with rfl | m
      · exact far_lst (sZ _ _ aL)
      rcases List.mem_cons.mp m with rfl | m
      · exact far_dct (sZ _ _ aE)
      rw [List.mem_singleton.mp m]
      exact far_bl
    refine for_it (walk_list (K := K) (a := S1) (xs := [.non, .int 0, .str "", .str (wr t), .ref T1, .ref L1, .ref E1, .bl true])) (fun i σ G => (∃ o5, σ = [some (.ref p), some (.ref D), some (.str (wr t)), some (.ref a), o4, o5, o6, o7]) ∧ Same G4 G) ⟨⟨_, rfl⟩, Same.refl _⟩ (fun i σ G _ z => SqL.of (z.2 _ _ aS)) ?_ ?_
    · rintro j y σ G5 G5' hj ⟨⟨o5, rfl⟩, s5⟩ ⟨rfl, at5⟩
      obtain ⟨X, l, ty, mro, no⟩ := far _ s5 y (List.mem_of_getElem? at5)
      have t5 := TyAt.same (s4.trans s5) _ _ t3
      refine ⟨_, rfl, _, rfl, types_apart kit t5 ty mro no ⟨_, rfl, if_ff rfl ?_⟩⟩
      refine ⟨_, rfl, _, rfl, types_apart kit t5 ty mro no ⟨_, rfl, if_ff rfl ?_⟩⟩
      exact ⟨⟨_, rfl⟩, s5⟩
    rintro σ G5 ⟨⟨o5, rfl⟩, s5⟩
    exact ⟨⟨_, _, _, _, _, _, rfl⟩, sG.trans (s2.trans (s3.trans (s4.trans s5)))⟩
  · rintro σ G ⟨_, sG⟩
    exact q G (k0.trans (Same.keep (s1.trans sG))) (p0.same (s1.trans sG))
end
end KX

namespace KX
open PySem PySem.Spec L2 PyProof.Rows
theorem call_isiK {X : Cx} (K : PySem.W.Frag) (h : X.K = K) : CallR X (.builtin "isinstance") (rIsi K) := by
  subst h
  exact call_isi
section
variable {base : Heap} {P : Program} {w : World} {K : PySem.W.Frag} {mg : Str → Option Value} {tk : Str → Tok} {TC ED RC : Addr} {mc : Value} {rp rf : Addr} {rd : FuncData}
/-- the fields that are none -/
def NilAt (K : PySem.W.Frag) (a : Addr) : Prop := ∀ H : Hp, SqT K H a []
abbrev s_tright : Stmt := top 42
abbrev N_tright : List Str := ["_law_made", "_law_form_here", "_law_turn", "_law_fields", "_law_inner", "_law_row", "_law_k"]
abbrev P_tright : List Str := ["_law_made", "_law_form_here"]
theorem sc_tright : FnScope N_tright P_tright (defScope s_tright) := ⟨rfl, rfl, rfl, by decide +kernel, rfl, by decide +kernel, by decide +kernel⟩
def spParts (K : PySem.W.Frag) (TC ED : Addr) (L : Nat) : Sp := fun vs H Q _ => ∃ (a : Addr) (v : V) (t : Ty) (n : Nat), vs = [.ref a, v] ∧ n < L ∧ n < 7 ∧ TyAt TC ED H (.ref a) t ∧ Dq K H v (encT t) ∧ DeepT n t ∧ (∃ m, GoodT m t) ∧ (wr t).length ≤ 50000 ∧ ∀ H', Same H H' → Q (.bl true) H'
theorem ok_trightS {L : Nat} {fs ft : Addr} {ds dt : FuncData} {f : Addr} {fd : FuncData} (F : Fun K "_law_type_right" "_law_type_right" s_tright f fd) (T : BlT mg) (TCc : TyC K TC) (I : IsOwn K TC) (nil : NilAt K ED) (RT : ReadC P w K mg base TC ED mc rp rf rd)
    (M_str : MtD P w K mg base TC "__str__" 1 P_tstr (spTStr TC) fs ds) (D_form_text : Def P w K mg base "_law_form_text" 8 P_ftext (spFText K 7) ft dt) (D_type_right : Def P w K mg base "_law_type_right" (L + 9) P_tright (spParts K TC ED L) f fd) : FnOk P w K mg base CX0 (L + 10) f fd P_tright (spParts K TC ED (L + 1)) := by
  refine F.ok sc_tright (fun vs H Q E h => ?_) (fun cdv A outer s H vs Q E hr h => ?_)
  · obtain ⟨a, v, t, n, rfl, _⟩ := h
    rfl
  obtain ⟨a, v, t, n, rfl, lt, lt7, ta, dv, deep, good, few, q⟩ := h
  refine ⟨_, (pss_cons (ps_if (PW.pt (pw_or (pt_not (pt_val (pe_callB call_isi (by rfl) T.isinstance (by decide +kernel) (pa_cons (pv 0) (pa_cons (pe_glob (v := .ref TC) rfl RT.g rfl) pa_nil))))) (pw_or (pt_cmpR op_ne (pe_fld (pv 0) rfl) (pe_ix (ix_tupK K rfl) (pv 1) pe_int (fun _ _ => rfl)) (nomark _)) (pw_or1 (pt_cmpR op_ne (pe_callTy (call_strOwn M_str (hr.mono (by first | decide | omega))) (by rfl) T.str (by decide +kernel) (pa_cons (pv 0) pa_nil)) (pe_call D_form_text.ok (hr.mono (by first | decide | omega)) rfl D_form_text.g D_form_text.kp D_form_text.b .nil pass0 (pa_cons (pv 1) pa_nil)) (nomark _))))))
      (pss_one (ps_ret pe_bl))
      pss_nil)
    (pss_cons (ps_for PassesOwn.never rfl (pi_range1 rfl T.range (pa_cons pe_int pa_nil)) (pg_name (i := 2) sc_tright.nd rfl (Or.inl rfl))
      (pss_cons (ps_if (pt_cmpR op_ne (pe_fld (pv 0) rfl) (pe_ifExp (pt_cmpR op_eq (pe_ix (ix_tupK K rfl) (pv 1) pe_int (fun _ _ => rfl)) pe_str (nomark _)) (pe_ix (ix_tupK K rfl) (pv 1) pe_int (fun _ _ => rfl)) pe_non) (nomark _))
      (pss_one (ps_ret pe_bl))
      pss_nil)
    (pss_cons (ps_asg (pe_tup (pa_cons (pe_fld (pv 0) rfl) (pa_cons (pe_fld (pv 0) rfl) pa_nil))) (pg_tup rfl (pgs_cons (pg_name (i := 3) sc_tright.nd rfl (Or.inr rfl)) (pgs_cons (pg_name (i := 4) sc_tright.nd rfl (Or.inl rfl)) pgs_nil))))
    (pss_cons (ps_if (pt_cmpR op_eq (pe_ix (ix_tupK K rfl) (pv 1) pe_int (fun _ _ => rfl)) pe_str (nomark _))
      (pss_cons (ps_if (PW.pt (pw_or (pt_not (pt_val (pe_callB (call_isiK K rfl) (by rfl) T.isinstance (by decide +kernel) (pa_cons (pv 3) (pa_cons (pe_bltn (v := .ty "tuple") (by rfl) T.tuple (by decide +kernel) rfl) pa_nil))))) (pw_or1 (pt_cmpR (op_neK K rfl hr.units) (pe_lc (own := [("_law_row", 5)]) (g := (gName 5)) (tt := tYes) rfl sc_tright.nd (pi_tup (pv 3)) (blkOk_by (own := [("_law_row", 5)]) (N := N_tright) (sc := defScope s_tright) (by decide +kernel)) (fun _ _ _ _ _ => (pg_name (i := 5) sc_tright.nd rfl (Or.inl rfl))) (fun _ _ _ _ _ => pts_nil) (fun _ _ _ _ _ => (pe_ix (ix_tupK K rfl) (pv 5) pe_int (fun _ _ => rfl)))) (pe_lc (own := [("_law_row", 5)]) (g := (gName 5)) (tt := tYes) rfl sc_tright.nd (pi_tup (pe_ix (ix_tupK K rfl) (pv 1) pe_int (fun _ _ => rfl))) (blkOk_by (own := [("_law_row", 5)]) (N := N_tright) (sc := defScope s_tright) (by decide +kernel)) (fun _ _ _ _ _ => (pg_name (i := 5) sc_tright.nd rfl (Or.inl rfl))) (fun _ _ _ _ _ => pts_nil) (fun _ _ _ _ _ => (pe_ix (ix_tupK K rfl) (pv 5) pe_int (fun _ _ => rfl)))) (nomark _)))))
      (pss_one (ps_ret pe_bl))
      pss_nil)
    (pss_cons (ps_if (pt_not (pt_val (pe_callB (cr_all rfl) (by rfl) T.all (by decide +kernel) (pa_cons (pe_lc (own := [("_law_row", 5)]) (g := (gName 5)) (tt := tYes) rfl sc_tright.nd (pi_tup (pv 3)) (blkOk_by (own := [("_law_row", 5)]) (N := N_tright) (sc := defScope s_tright) (by decide +kernel)) (fun _ _ _ _ _ => (pg_name (i := 5) sc_tright.nd rfl (Or.inl rfl))) (fun _ _ _ _ _ => pts_nil) (fun _ _ _ _ _ => (pe_and (pe_callB (call_isiK K rfl) (by rfl) T.isinstance (by decide +kernel) (pa_cons (pv 5) (pa_cons (pe_bltn (v := .ty "tuple") (by rfl) T.tuple (by decide +kernel) rfl) pa_nil))) (pe_one (pe_cmpR op_eq (pe_callB (call_lenK K rfl) (by rfl) T.len PySem.boot_len (pa_cons (pv 5) pa_nil)) pe_int (nomark _)))))) pa_nil))))
      (pss_one (ps_ret pe_bl))
      pss_nil)
    (pss_one (ps_if (pt_not (pt_val (pe_callB (cr_all rfl) (by rfl) T.all (by decide +kernel) (pa_cons (pe_lc (own := [("_law_k", 6)]) (g := (gName 6)) (tt := tYes) rfl sc_tright.nd (pi_range1 rfl T.range (pa_cons (pe_callB (call_lenK K rfl) (by rfl) T.len PySem.boot_len (pa_cons (pv 3) pa_nil)) pa_nil)) (blkOk_by (own := [("_law_k", 6)]) (N := N_tright) (sc := defScope s_tright) (by decide +kernel)) (fun _ _ _ _ _ => (pg_name (i := 6) sc_tright.nd rfl (Or.inl rfl))) (fun _ _ _ _ _ => pts_nil) (fun _ _ _ _ _ => (pe_call D_type_right.ok (hr.mono (by first | decide | omega)) rfl D_type_right.g D_type_right.kp D_type_right.b .nil pass0 (pa_cons (pe_ix (ix_tupK K rfl) (pe_ix (ix_tupK K rfl) (pv 3) (pv 6) (fun _ _ => rfl)) pe_int (fun _ _ => rfl)) (pa_cons (pe_ix (ix_tupK K rfl) (pe_ix (ix_tupK K rfl) (pe_ix (ix_tupK K rfl) (pv 1) pe_int (fun _ _ => rfl)) (pv 6) (fun _ _ => rfl)) pe_int (fun _ _ => rfl)) pa_nil))))) pa_nil))))
      (pss_one (ps_ret pe_bl))
      pss_nil))))
      (pss_one (ps_if (pt_cmpR (op_neK K rfl hr.units) (pv 3) (pe_tup pa_nil) (nomark _))
      (pss_one (ps_ret pe_bl))
      pss_nil)))
    (pss_one (ps_if (pt_cmpR (op_inK K rfl) (pe_ix (ix_tupK K rfl) (pv 1) pe_int (fun _ _ => rfl)) (pe_lst (pa_cons pe_str (pa_cons pe_str (pa_cons pe_str pa_nil)))) (by with_unfolding_all rfl))
      (pss_one (ps_if (pt_not (pt_val (pe_call D_type_right.ok (hr.mono (by first | decide | omega)) rfl D_type_right.g D_type_right.kp D_type_right.b .nil pass0 (pa_cons (pv 4) (pa_cons (pe_ix (ix_tupK K rfl) (pv 1) pe_int (fun _ _ => rfl)) pa_nil)))))
      (pss_one (ps_ret pe_bl))
      pss_nil))
      (pss_one (ps_if (pt_cmpR op_notN (pv 4) pe_non (nomark _))
      (pss_one (ps_ret pe_bl))
      pss_nil))))))))
    (pss_one (ps_ret pe_bl)))), ?_⟩
  have dv0 := dv
  rw [headT t] at dv
  obtain ⟨b, ys, rfl, eb, all⟩ := tup_head dv
  have at0 : atI (.str (kindW t) :: ys) 0 = some (.str (kindW t)) := at_of (j := 0) rfl rfl
  obtain ⟨a0, dx, vi, vf, e0, row, inn, noInn, flds⟩ := ta.obj
  obtain rfl := V.ref.inj e0
  refine ⟨_, rfl, _, _, _, _, true, rfl, .own _, .base (I H a dx _ row), if_pos (beq_self_eq_true _), _, rfl, if_ff rfl ?_⟩
  refine ⟨_, rfl, a, TC, dx, _, _, rfl, row, TCc.cl, TCc.kind, rfl, _, rfl, b, _, 0, .str _, rfl, rfl, SqT.of eb, at0, rfl, _, rfl, if_ff (by rw [decide_eq_true rfl]; rfl) ?_⟩
  refine ⟨_, rfl, a, dx, _, rfl, row, a, dx, _, _, rfl, row, rfl, _, rfl, _, rfl, .ref b, t, n, rfl, lt7, dv0, deep, by omega, fun G0 s0 => ⟨rfl, _, rfl, if_ff (by rw [decide_eq_true rfl]; rfl) ?_⟩⟩
  refine ⟨2, rfl, by decide, by decide, ?_⟩
  refine for_it (walk_range (lo := 0) (n := 2)) (fun i σ G => (∃ o2 o3 o4 o5 o6, σ = [some (.ref a), some (.ref b), o2, o3, o4, o5, o6]) ∧ Same G0 G) ⟨⟨none, none, none, none, none, rfl⟩, Same.refl _⟩ (fun _ _ _ _ _ => trivial) ?_ ?_
  · rintro i x σ G G' hi ⟨⟨o2, o3, o4, o5, o6, rfl⟩, kept⟩ ⟨rfl, rfl⟩
    have s1 := s0.trans kept
    have row1 := s1 _ _ row
    have eb1 := s1 _ _ eb
    have taG := TyAt.same s1 _ _ ta
    cases deep with
    | plain pl =>
      have ny : (partsT t).2 = .non := by cases t <;> first | rfl | cases pl
      have ni : (partsT t).1 = none := by cases t <;> first | rfl | cases pl
      rw [ny] at row1
      have e1 := noInn ni
      rw [e1] at row1
      have e2 : vf = .ref ED := by
        rcases flds with ⟨fs, _, _, e, _⟩ | ⟨_, e⟩
        · rw [e] at pl
          cases pl
        · exact e
      rw [e2] at row1
      have k1 : decide (V.str (kindW t) = V.str "keyed") = false := by cases t <;> first | decide +kernel | cases pl
      have k2 : decide (V.str (kindW t) = V.str "record") = false := by cases t <;> first | decide +kernel | cases pl
      have k3 : inV (V.str (kindW t)) [V.str "list", V.str "keyed", V.str "optional"] = false := by cases t <;> first | decide +kernel | cases pl
      refine ⟨_, rfl, a, TC, dx, _, _, rfl, row1, TCc.cl, TCc.key, rfl, _, rfl, b, _, 0, .str _, rfl, rfl, SqT.of eb1, at0, rfl, _, rfl, if_ff k1 ⟨rfl, _, rfl, if_ff rfl ?_⟩⟩
      refine ⟨_, rfl, a, TC, dx, _, _, rfl, row1, TCc.cl, TCc.fields, rfl, _, rfl, a, TC, dx, _, _, rfl, row1, TCc.cl, TCc.inner, rfl, big (by show 2 ≤ _; decide), fun T1 n1 => ?_⟩
      have s2 := same_new n1 (.tup [.ref ED, .non])
      refine ⟨T1, _, rfl, SqT.of upd_same, rfl, _, _, rfl, _, _, rfl, rfl, ?_⟩
      have eb2 := s2 _ _ eb1
      refine ⟨_, rfl, b, _, 0, .str _, rfl, rfl, SqT.of eb2, at0, rfl, _, rfl, if_ff k2 ?_⟩
      refine ⟨_, rfl, big (by show 0 ≤ _; decide), fun T2 n2 => ⟨_, _, .tup (nil _) .nil, .tup (SqT.of upd_same) .nil, rfl, rfl, _, rfl, if_ff rfl ?_⟩⟩
      have s3 := s2.trans (same_new n2 (.tup []))
      have eb3 := s3 _ _ eb1
      refine ⟨_, rfl, b, _, 0, .str _, rfl, rfl, SqT.of eb3, at0, big (by show 3 ≤ _; decide), fun T3 n3 => ⟨T3, _, rfl, .inl (SqL.of upd_same), rfl, rfl, _, rfl, if_ff k3 ?_⟩⟩
      have s4 := s3.trans (same_new n3 (.lst [.str "list", .str "keyed", .str "optional"]))
      exact ⟨_, rfl, rfl, _, rfl, if_ff rfl ⟨⟨_, _, _, _, _, rfl⟩, kept.trans s4⟩⟩
    | @opt n u du =>
      obtain ⟨y, rfl, dy⟩ := all_one all
      have tu := inn u rfl
      obtain ⟨c, _, _, _, rfl, _⟩ := id tu.obj
      have e2 : vf = .ref ED := by
        rcases flds with ⟨fs, _, _, e, _⟩ | ⟨_, e⟩
        · cases e
        · exact e
      rw [e2] at row1
      have goodu : ∃ m, GoodT m u := by
        obtain ⟨m, g⟩ := good
        cases g with
        | plain p => cases p
        | opt g _ => exact ⟨_, g⟩
      have lu : (wr u).length ≤ (wr (.opt u)).length := by
        simp only [wr]
        rw [len_app]
        show _ ≤ (wr u).length + 1
        omega
      refine ⟨_, rfl, a, TC, dx, _, _, rfl, row1, TCc.cl, TCc.key, rfl, _, rfl, b, _, 0, .str _, rfl, rfl, SqT.of eb1, at0, rfl, _, rfl, if_ff (decide_eq_false fun e => absurd (V.str.inj e) (by simp only [kindW]; decide)) ⟨rfl, _, rfl, if_ff rfl ?_⟩⟩
      refine ⟨_, rfl, a, TC, dx, _, _, rfl, row1, TCc.cl, TCc.fields, rfl, _, rfl, a, TC, dx, _, _, rfl, row1, TCc.cl, TCc.inner, rfl, big (by show 2 ≤ _; decide), fun T1 n1 => ?_⟩
      have s2 := same_new n1 (.tup [.ref ED, .ref c])
      refine ⟨T1, _, rfl, SqT.of upd_same, rfl, _, _, rfl, _, _, rfl, rfl, ?_⟩
      have eb2 := s2 _ _ eb1
      refine ⟨_, rfl, b, _, 0, .str _, rfl, rfl, SqT.of eb2, at0, rfl, _, rfl, if_ff (decide_eq_false fun e => absurd (V.str.inj e) (by simp only [kindW]; decide)) ?_⟩
      refine ⟨_, rfl, big (by show 0 ≤ _; decide), fun T2 n2 => ⟨_, _, .tup (nil _) .nil, .tup (SqT.of upd_same) .nil, rfl, rfl, _, rfl, if_ff rfl ?_⟩⟩
      have s3 := s2.trans (same_new n2 (.tup []))
      have eb3 := s3 _ _ eb1
      refine ⟨_, rfl, b, _, 0, .str _, rfl, rfl, SqT.of eb3, at0, big (by show 3 ≤ _; decide), fun T3 n3 => ⟨T3, _, rfl, .inl (SqL.of upd_same), rfl, rfl, _, rfl, if_tt (by simp only [kindW]; decide +kernel) ?_⟩⟩
      have s4 := s3.trans (same_new n3 (.lst [.str "list", .str "keyed", .str "optional"]))
      have s5 := s1.trans s4
      refine ⟨_, rfl, _, rfl, b, _, 1, y, rfl, rfl, SqT.of (s4 _ _ eb1), at_of (j := 1) rfl rfl, c, y, u, n, rfl, by omega, by omega, TyAt.same s5 _ _ tu, Dq.same s5 _ _ dy, du, goodu, by omega, fun G6 s6 => ⟨_, rfl, if_ff rfl ⟨⟨_, _, _, _, _, rfl⟩, kept.trans (s4.trans s6)⟩⟩⟩
    | @list n u du =>
      obtain ⟨y, rfl, dy⟩ := all_one all
      have tu := inn u rfl
      obtain ⟨c, _, _, _, rfl, _⟩ := id tu.obj
      have e2 : vf = .ref ED := by
        rcases flds with ⟨fs, _, _, e, _⟩ | ⟨_, e⟩
        · cases e
        · exact e
      rw [e2] at row1
      have goodu : ∃ m, GoodT m u := by
        obtain ⟨m, g⟩ := good
        cases g with
        | plain p => cases p
        | list g => exact ⟨_, g⟩
      have lu : (wr u).length ≤ (wr (.list u)).length := by
        simp only [wr]
        rw [len_app, len_app]
        show _ ≤ 1 + (wr u).length + 1
        omega
      refine ⟨_, rfl, a, TC, dx, _, _, rfl, row1, TCc.cl, TCc.key, rfl, _, rfl, b, _, 0, .str _, rfl, rfl, SqT.of eb1, at0, rfl, _, rfl, if_ff (decide_eq_false fun e => absurd (V.str.inj e) (by simp only [kindW]; decide)) ⟨rfl, _, rfl, if_ff rfl ?_⟩⟩
      refine ⟨_, rfl, a, TC, dx, _, _, rfl, row1, TCc.cl, TCc.fields, rfl, _, rfl, a, TC, dx, _, _, rfl, row1, TCc.cl, TCc.inner, rfl, big (by show 2 ≤ _; decide), fun T1 n1 => ?_⟩
      have s2 := same_new n1 (.tup [.ref ED, .ref c])
      refine ⟨T1, _, rfl, SqT.of upd_same, rfl, _, _, rfl, _, _, rfl, rfl, ?_⟩
      have eb2 := s2 _ _ eb1
      refine ⟨_, rfl, b, _, 0, .str _, rfl, rfl, SqT.of eb2, at0, rfl, _, rfl, if_ff (decide_eq_false fun e => absurd (V.str.inj e) (by simp only [kindW]; decide)) ?_⟩
      refine ⟨_, rfl, big (by show 0 ≤ _; decide), fun T2 n2 => ⟨_, _, .tup (nil _) .nil, .tup (SqT.of upd_same) .nil, rfl, rfl, _, rfl, if_ff rfl ?_⟩⟩
      have s3 := s2.trans (same_new n2 (.tup []))
      have eb3 := s3 _ _ eb1
      refine ⟨_, rfl, b, _, 0, .str _, rfl, rfl, SqT.of eb3, at0, big (by show 3 ≤ _; decide), fun T3 n3 => ⟨T3, _, rfl, .inl (SqL.of upd_same), rfl, rfl, _, rfl, if_tt (by simp only [kindW]; decide +kernel) ?_⟩⟩
      have s4 := s3.trans (same_new n3 (.lst [.str "list", .str "keyed", .str "optional"]))
      have s5 := s1.trans s4
      refine ⟨_, rfl, _, rfl, b, _, 1, y, rfl, rfl, SqT.of (s4 _ _ eb1), at_of (j := 1) rfl rfl, c, y, u, n, rfl, by omega, by omega, TyAt.same s5 _ _ tu, Dq.same s5 _ _ dy, du, goodu, by omega, fun G6 s6 => ⟨_, rfl, if_ff rfl ⟨⟨_, _, _, _, _, rfl⟩, kept.trans (s4.trans s6)⟩⟩⟩
    | @keyed n u w hw du =>
      obtain ⟨y, rfl, dy⟩ := all_two all
      have tu := inn u rfl
      obtain ⟨c, _, _, _, rfl, _⟩ := id tu.obj
      have e2 : vf = .ref ED := by
        rcases flds with ⟨fs, _, _, e, _⟩ | ⟨_, e⟩
        · cases e
        · exact e
      rw [e2] at row1
      have goodu : ∃ m, GoodT m u := by
        obtain ⟨m, g⟩ := good
        cases g with
        | plain p => cases p
        | keyed g _ _ _ => exact ⟨_, g⟩
      have lu : (wr u).length ≤ (wr (.keyed u w)).length := by
        simp only [wr]
        rw [len_app, len_app, len_app, len_app]
        show _ ≤ 1 + (wr u).length + 4 + w.length + 1
        omega
      refine ⟨_, rfl, a, TC, dx, _, _, rfl, row1, TCc.cl, TCc.key, rfl, _, rfl, b, _, 0, .str _, rfl, rfl, SqT.of eb1, at0, rfl, _, rfl, if_tt (by simp only [kindW]; decide) ⟨_, rfl, b, _, 2, .str w, rfl, rfl, SqT.of eb1, at_of (j := 2) rfl rfl, rfl, _, rfl, if_ff (by show (!decide (V.str w = V.str w)) = false; rw [decide_eq_true rfl]; rfl) ?_⟩⟩
      refine ⟨_, rfl, a, TC, dx, _, _, rfl, row1, TCc.cl, TCc.fields, rfl, _, rfl, a, TC, dx, _, _, rfl, row1, TCc.cl, TCc.inner, rfl, big (by show 2 ≤ _; decide), fun T1 n1 => ?_⟩
      have s2 := same_new n1 (.tup [.ref ED, .ref c])
      refine ⟨T1, _, rfl, SqT.of upd_same, rfl, _, _, rfl, _, _, rfl, rfl, ?_⟩
      have eb2 := s2 _ _ eb1
      refine ⟨_, rfl, b, _, 0, .str _, rfl, rfl, SqT.of eb2, at0, rfl, _, rfl, if_ff (decide_eq_false fun e => absurd (V.str.inj e) (by simp only [kindW]; decide)) ?_⟩
      refine ⟨_, rfl, big (by show 0 ≤ _; decide), fun T2 n2 => ⟨_, _, .tup (nil _) .nil, .tup (SqT.of upd_same) .nil, rfl, rfl, _, rfl, if_ff rfl ?_⟩⟩
      have s3 := s2.trans (same_new n2 (.tup []))
      have eb3 := s3 _ _ eb1
      refine ⟨_, rfl, b, _, 0, .str _, rfl, rfl, SqT.of eb3, at0, big (by show 3 ≤ _; decide), fun T3 n3 => ⟨T3, _, rfl, .inl (SqL.of upd_same), rfl, rfl, _, rfl, if_tt (by simp only [kindW]; decide +kernel) ?_⟩⟩
      have s4 := s3.trans (same_new n3 (.lst [.str "list", .str "keyed", .str "optional"]))
      have s5 := s1.trans s4
      refine ⟨_, rfl, _, rfl, b, _, 1, y, rfl, rfl, SqT.of (s4 _ _ eb1), at_of (j := 1) rfl rfl, c, y, u, n, rfl, by omega, by omega, TyAt.same s5 _ _ tu, Dq.same s5 _ _ dy, du, goodu, by omega, fun G6 s6 => ⟨_, rfl, if_ff rfl ⟨⟨_, _, _, _, _, rfl⟩, kept.trans (s4.trans s6)⟩⟩⟩
    | @rcd n fs lf df =>
      obtain ⟨y, rfl, dy⟩ := all_one all
      obtain ⟨bf, rows2, rfl, hb, hall⟩ : ∃ b rows, y = .ref b ∧ H b = some (.tup rows) ∧ DqAll K H rows (encTs fs) := by
        cases dy with
        | tup h r => exact ⟨_, _, rfl, h, r⟩
      obtain ⟨c, rows, e2, ef, trows⟩ : ∃ c rows, vf = .ref c ∧ H c = some (.tup rows) ∧ TyRows TC ED H rows fs := by
        rcases flds with ⟨fs', c, rows, e, e2, ef, tr⟩ | ⟨no, _⟩
        · cases e
          exact ⟨c, rows, e2, ef, tr⟩
        · exact absurd rfl (no fs)
      have e1 := noInn rfl
      rw [e1, e2] at row1
      have names : ∀ z ∈ fs.map (·.1), IsNm z := by
        obtain ⟨m, g⟩ := good
        cases g with
        | plain p => cases p
        | rcd _ _ _ _ ws _ =>
          intro z mz
          obtain ⟨q, hq, rfl⟩ := List.mem_map.mp mz
          obtain ⟨a1, a2, a3⟩ := ws q hq
          exact ⟨by omega, a2, a1⟩
      have goods : ∀ q ∈ fs, ∃ m, GoodT m q.2 := by
        obtain ⟨m, g⟩ := good
        cases g with
        | plain p => cases p
        | rcd _ _ _ _ _ g => exact fun q hq => ⟨_, g q hq⟩
      have shorts : ∀ q ∈ fs, (wr q.2).length ≤ 50000 := fun q hq => by
        have m := mem_sum (List.mem_map.mpr ⟨_, List.mem_map.mpr ⟨q, hq, rfl⟩, rfl⟩ : (q.1 ++ ": " ++ wr q.2).length ∈ ((fs.map fun q => q.1 ++ ": " ++ wr q.2).map (·.length)))
        have jl := join_len (wrFs fs)
        have le : (wrFs fs).length = fs.length := by rw [wrFs_map, List.length_map]
        have some' : 1 ≤ fs.length := List.length_pos_of_mem hq
        rw [← wrFs_map, len_app, len_app] at m
        simp only [wr] at few
        rw [len_app, len_app] at few
        omega
      have rl : rows.length = fs.length := trows.length
      have rl2 : rows2.length = fs.length := by rw [hall.length, encTs_len]
      refine ⟨_, rfl, a, TC, dx, _, _, rfl, row1, TCc.cl, TCc.key, rfl, _, rfl, b, _, 0, .str _, rfl, rfl, SqT.of eb1, at0, rfl, _, rfl, if_ff (decide_eq_false fun e => absurd (V.str.inj e) (by simp only [kindW]; decide)) ⟨rfl, _, rfl, if_ff rfl ?_⟩⟩
      refine ⟨_, rfl, a, TC, dx, _, _, rfl, row1, TCc.cl, TCc.fields, rfl, _, rfl, a, TC, dx, _, _, rfl, row1, TCc.cl, TCc.inner, rfl, big (by show 2 ≤ _; decide), fun T1 n1 => ?_⟩
      have s2 := same_new n1 (.tup [.ref c, .non])
      refine ⟨T1, _, rfl, SqT.of upd_same, rfl, _, _, rfl, _, _, rfl, rfl, ?_⟩
      refine ⟨_, rfl, b, _, 0, .str _, rfl, rfl, SqT.of (s2 _ _ eb1), at0, rfl, _, rfl, if_tt (by simp only [kindW]; decide) ?_⟩
      have sH := s1.trans s2
      refine ⟨_, rfl, _, _, _, _, true, rfl, .ty _, .base (.tup (sH _ _ ef)), kit_ty (by decide +kernel), _, rfl, if_ff rfl ?_⟩
      refine ⟨_, rfl, c, rfl, ⟨_, SqT.of (sH _ _ ef)⟩, fun D1 m1 => ?_⟩
      have step : ∀ {i : Nat} {q : Str × Ty}, fs[i]? = some q → ((fs.take (i + 1)).map (·.1)).map V.str = ((fs.take i).map (·.1)).map V.str ++ [V.str q.1] := fun e => by
        rw [List.take_succ, e, List.map_append, List.map_append]
        rfl
      have short : ∀ i : Nat, (((fs.take i).map (·.1)).map V.str).length < sizeLine := fun i => by
        rw [List.length_map, List.length_map, List.length_take, sizeLine_eq]
        omega
      refine lc_it (walk_tup (K := K) (a := c) (xs := rows)) (fun i Z => Same H Z ∧ Same (upd G' T1 (.tup [.ref c, .non])) Z ∧ Z D1 = some (.lst (((fs.take i).map (·.1)).map V.str))) ⟨sH.trans (same_new m1 _), same_new m1 _, upd_same⟩ (fun i Z _ z => SqT.of (z.1 _ _ ef)) ?_ ?_
      · rintro j x Z Z' hj ⟨kz, kz2, made⟩ ⟨rfl, hx⟩
        obtain ⟨c', nm, u, t', rfl, hf, hc, _⟩ := trows.get hx
        refine ⟨rfl, yesT ⟨_, rfl, c', _, 0, .str nm, rfl, rfl, SqT.of (kz _ _ hc), at_of (j := 0) rfl rfl, _, made, short j, Same.updNew kz (sH.free m1), Same.updNew kz2 m1, ?_⟩⟩
        rw [upd_same, step hf]
      rintro G3 ⟨k3, k3', made3⟩
      have all3 : (fs.take rows.length).map (·.1) = fs.map (·.1) := by rw [rl, List.take_length]
      rw [all3] at made3
      refine ⟨_, rfl, b, _, 1, .ref bf, rfl, rfl, SqT.of (k3 _ _ eb), at_of (j := 1) rfl rfl, bf, rfl, ⟨_, SqT.of (k3 _ _ hb)⟩, fun D2 m2 => ?_⟩
      refine lc_it (walk_tup (K := K) (a := bf) (xs := rows2)) (fun i Z => Same G3 Z ∧ Z D2 = some (.lst (((fs.take i).map (·.1)).map V.str))) ⟨same_new m2 _, upd_same⟩ (fun i Z _ z => SqT.of (z.1 _ _ (k3 _ _ hb))) ?_ ?_
      · rintro j x Z Z' hj ⟨kz, made⟩ ⟨rfl, hx⟩
        have hf : fs[j]? = some fs[j] := List.getElem?_eq_getElem (by omega)
        generalize fs[j] = q at hf
        obtain ⟨d, ed, dd⟩ := hall.get hx
        rw [encTs_at hf] at ed
        obtain rfl := Option.some.inj ed
        obtain ⟨c', zs, rfl, hc, hz⟩ := tup_head dd
        refine ⟨rfl, yesT ⟨_, rfl, c', _, 0, .str q.1, rfl, rfl, SqT.of (kz _ _ (k3 _ _ hc)), at_of (j := 0) rfl rfl, _, made, short j, Same.updNew kz m2, ?_⟩⟩
        rw [upd_same, step hf]
      rintro G4 ⟨k4, made4⟩
      have all4 : (fs.take rows2.length).map (·.1) = fs.map (·.1) := by rw [rl2, List.take_length]
      rw [all4] at made4
      refine ⟨_, _, .lst (SqL.of (k4 _ _ made3)) (strs_dp _), .lst (SqL.of made4) (strs_dp _), strs_shaped names, strs_shaped names, _, rfl, if_ff (by rw [strs_eqv]; rfl) ?_⟩
      have kH4 := k3.trans k4
      refine ⟨_, rfl, c, rfl, ⟨_, SqT.of (kH4 _ _ ef)⟩, fun D3 m3 => ?_⟩
      refine lc_it (walk_tup (K := K) (a := c) (xs := rows)) (fun i Z => Same G4 Z ∧ Z D3 = some (.lst (trues i))) ⟨same_new m3 _, upd_same⟩ (fun i Z _ z => SqT.of (z.1 _ _ (kH4 _ _ ef))) ?_ ?_
      · rintro j x Z Z' hj ⟨kz, made⟩ ⟨rfl, hx⟩
        obtain ⟨c', nm, u, t', rfl, hf, hc, _⟩ := trows.get hx
        have hcZ := kz _ _ (kH4 _ _ hc)
        refine ⟨rfl, yesT ⟨_, rfl, _, _, _, _, true, rfl, .ty _, .base (.tup hcZ), kit_ty (by decide +kernel), _, rfl, if_tt rfl ⟨_, rfl, _, _, rfl, .inr ⟨_, SqT.of hcZ, rfl⟩, rfl, _, made, ?_, Same.updNew kz m3, ?_⟩⟩⟩
        · rw [trues_len, sizeLine_eq]
          omega
        · rw [upd_same, ← trues_more]
          rfl
      rintro G5 ⟨k5, made5⟩
      refine ⟨D3, _, rfl, SqL.of made5, ?_⟩
      rw [trues_all]
      refine ⟨_, rfl, if_ff rfl ?_⟩
      have kH5 := kH4.trans k5
      refine ⟨_, rfl, _, _, rfl, .inr ⟨_, SqT.of (kH5 _ _ ef), rfl⟩, _, rfl, ?_⟩
      refine ⟨by omega, by rw [rl]; omega, fun D4 m4 => ?_⟩
      rw [show ((rows.length : Int).toNat) = rows.length from rfl]
      refine lc_range (lo := 0) (n := rows.length) (fun i Z => Same G5 Z ∧ Z D4 = some (.lst (trues i))) ⟨same_new m4 _, upd_same⟩ ?_ ?_
      · rintro j Z hj ⟨kz, made⟩
        have kHZ := kH5.trans kz
        have hx : rows[j]? = some rows[j] := List.getElem?_eq_getElem hj
        generalize rows[j] = x at hx
        obtain ⟨c', nm, u, t', rfl, hf, hc, hu⟩ := trows.get hx
        obtain ⟨au, _, _, _, rfl, _⟩ := id hu.obj
        have hx2 : rows2[j]? = some rows2[j] := List.getElem?_eq_getElem (by omega)
        generalize rows2[j] = x2 at hx2
        obtain ⟨d, ed, dd⟩ := hall.get hx2
        rw [encTs_at hf] at ed
        obtain rfl := Option.some.inj ed
        obtain ⟨c2, zs, rfl, hc2, hz⟩ := tup_head dd
        obtain ⟨y2, rfl, dy2⟩ := all_one hz
        have mem := List.mem_of_getElem? hf
        have ej : (0 : Int) + (j : Int) = ((j : Nat) : Int) := by omega
        refine ⟨rfl, yesT ⟨_, rfl, _, rfl, c, _, _, .ref c', rfl, rfl, SqT.of (kHZ _ _ ef), at_of ej hx, c', _, 1, .ref au, rfl, rfl, SqT.of (kHZ _ _ hc), at_of (j := 1) rfl rfl, ?_⟩⟩
        refine ⟨_, rfl, b, _, 1, .ref bf, rfl, rfl, SqT.of (kHZ _ _ eb), at_of (j := 1) rfl rfl, _, rfl, bf, _, _, .ref c2, rfl, rfl, SqT.of (kHZ _ _ hb), at_of ej hx2, c2, _, 1, y2, rfl, rfl, SqT.of (kHZ _ _ hc2), at_of (j := 1) rfl rfl, ?_⟩
        refine ⟨au, y2, t', n, rfl, by omega, by omega, TyAt.same kHZ _ _ hu, Dq.same kHZ _ _ dy2, df _ mem, goods _ mem, shorts _ mem, fun Z2 sz => ⟨_, sz _ _ made, ?_, Same.updNew (kz.trans sz) m4, ?_⟩⟩
        · rw [trues_len, sizeLine_eq]
          omega
        · rw [upd_same, trues_more]
      rintro G6 ⟨k6, made6⟩
      refine ⟨D4, _, rfl, SqL.of made6, ?_⟩
      rw [trues_all]
      refine ⟨_, rfl, if_ff rfl ?_⟩
      have kH6 := kH5.trans k6
      refine ⟨_, rfl, b, _, 0, .str _, rfl, rfl, SqT.of (kH6 _ _ eb), at0, big (by show 3 ≤ _; decide), fun T3 n3 => ⟨T3, _, rfl, .inl (SqL.of upd_same), rfl, rfl, _, rfl, if_ff (by simp only [kindW]; decide +kernel) ?_⟩⟩
      exact ⟨_, rfl, rfl, _, rfl, if_ff rfl ⟨⟨_, _, _, _, _, rfl⟩, kept.trans (s2.trans (k3'.trans (k4.trans (k5.trans (k6.trans (same_new n3 _))))))⟩⟩
  · rintro σ G ⟨_, kept⟩
    exact q G (s0.trans kept)
theorem ok_tright {fs ft : Addr} {ds dt : FuncData} {f : Addr} {fd : FuncData} (F : Fun K "_law_type_right" "_law_type_right" s_tright f fd) (T : BlT mg) (TCc : TyC K TC) (I : IsOwn K TC) (nil : NilAt K ED) (RT : ReadC P w K mg base TC ED mc rp rf rd)
    (M_str : MtD P w K mg base TC "__str__" 1 P_tstr (spTStr TC) fs ds) (D_form_text : Def P w K mg base "_law_form_text" 8 P_ftext (spFText K 7) ft dt) (g : mg "_law_type_right" = some (.ref f)) (b : L2.Binds K fd P_tright []) : ∀ L, FnOk P w K mg base CX0 (L + 9) f fd P_tright (spParts K TC ED L)
  | 0 => F.ok sc_tright (fun vs H Q E h => by
      obtain ⟨a, v, t, n, rfl, _⟩ := h
      rfl) fun cdv A outer s H vs Q E hr h => by
      obtain ⟨a, v, t, n, _, lt, _⟩ := h
      exact absurd lt (Nat.not_lt_zero _)
  | L + 1 => ok_trightS F T TCc I nil RT M_str D_form_text ⟨g, F.kp, b, ok_tright F T TCc I nil RT M_str D_form_text g b L⟩
abbrev s_rparts : Stmt := top 43
abbrev N_rparts : List Str := ["_law_pool_here", "_law_turn", "_law_form_here"]
abbrev P_rparts : List Str := ["_law_pool_here"]
theorem sc_rparts : FnScope N_rparts P_rparts (defScope s_rparts) := ⟨rfl, rfl, rfl, by decide +kernel, rfl, by decide +kernel, by decide +kernel⟩
def spRParts : Sp := fun vs H Q _ => ∃ p : Addr, vs = [.ref p] ∧ PoolAt H p ∧ ∀ H', Keep p H H' → PoolAt H' p → Q (.bl true) H'
theorem ok_rparts {f1 f2 f3 : Addr} {d1 d2 d3 : FuncData} {f : Addr} {fd : FuncData} (F : Fun K "_law_right_of_parts" "_law_right_of_parts" s_rparts f fd) (RT : ReadC P w K mg base TC ED mc rp rf rd) (T : BlT mg)
    (D_form : Def P w K mg base "_law_form" 5 P_form (spFormL K 3) f1 d1) (D_form_text : Def P w K mg base "_law_form_text" 8 P_ftext (spFText K 7) f2 d2) (D_type_right : Def P w K mg base "_law_type_right" 16 P_tright (spParts K TC ED 7) f3 d3) : FnOk P w K mg base CX0 35 f fd P_rparts spRParts := by
  refine F.ok sc_rparts (fun vs H Q E h => ?_) (fun cdv A outer s H vs Q E hr h => ?_)
  · obtain ⟨p, rfl, _⟩ := h
    rfl
  obtain ⟨p, rfl, hp, q⟩ := h
  refine ⟨_, (pss_cons (ps_for PassesOwn.never rfl (pi_range1 rfl T.range (pa_cons pe_int pa_nil)) (pg_name (i := 1) sc_rparts.nd rfl (Or.inl rfl))
      (pss_cons (ps_set (i := 2) sc_rparts.nd rfl (Or.inl rfl) (pe_call D_form.ok (hr.mono (by first | decide | omega)) rfl D_form.g D_form.kp D_form.b .nil pass0 (pa_cons (pv 0) (pa_cons pe_int pa_nil))))
    (pss_one (ps_if (pt_not (pt_val (pe_call D_type_right.ok (hr.mono (by first | decide | omega)) rfl D_type_right.g D_type_right.kp D_type_right.b .nil pass0 (pa_cons (ClX.pe_cmeth (pe_glob (v := .ref TC) rfl RT.g rfl) RT.r RT.m (FnOk.raw RT.ok RT.b .nil) (hr.mono (by first | decide | omega)) pass0 (pa_cons (pe_call D_form_text.ok (hr.mono (by first | decide | omega)) rfl D_form_text.g D_form_text.kp D_form_text.b .nil pass0 (pa_cons (pv 2) pa_nil)) pa_nil)) (pa_cons (pv 2) pa_nil)))))
      (pss_one (ps_ret pe_bl))
      pss_nil))))
    (pss_one (ps_ret pe_bl))), ?_⟩
  refine ⟨4, rfl, by decide, by decide, ?_⟩
  refine for_it (walk_range (lo := 0) (n := 4)) (fun i σ G => (∃ o1 o2 : Option V, σ = [some (.ref p), o1, o2]) ∧ Keep p H G ∧ PoolAt G p) ⟨⟨none, none, rfl⟩, Keep.refl p H, hp⟩ (fun _ _ _ _ _ => trivial) ?_ ?_
  · rintro i x σ G G' hi ⟨⟨o1, o2, rfl⟩, k0, p0⟩ ⟨rfl, rfl⟩
    refine ⟨_, rfl, p, rfl, p0, fun G1 v fm k1 p1 df okf => ?_⟩
    obtain ⟨good, deep⟩ := good_of 2 fm okf
    have len : (wr (tyOf fm)).length ≤ 50000 := Nat.le_trans (len_of 2 fm okf) (by decide)
    have df1 : Dq K G1 v (encT (tyOf fm)) := by
      rw [← enc_ty]
      exact Dq.same (sub_same _ _) _ _ df
    refine ⟨rfl, _, rfl, v, tyOf fm, 4, rfl, by decide, df1, deep, by omega, fun G2 s2 => ?_⟩
    refine reads rfl (GoodT.upTo 2 good) (by omega) fun a G3 s3 t3 => ?_
    refine ⟨_, rfl, a, v, tyOf fm, 4, rfl, by decide, by decide, t3, Dq.same (s2.trans s3) _ _ df1, deep, ⟨_, good⟩, len, fun G4 s4 => ⟨_, rfl, if_ff rfl ?_⟩⟩
    have s5 := s2.trans (s3.trans s4)
    exact ⟨⟨_, _, rfl⟩, k0.trans (k1.trans (Same.keep s5)), p1.same s5⟩
  · rintro σ G ⟨_, k0, p0⟩
    exact q G k0 p0
end
end KX

namespace KX
open PySem PySem.Spec L2 PyProof.Rows
/-! ### the types by hand -/
def hasKey : Ty → Str → Bool
  | .rcd fs, k => fs.any fun q => decide (q.1 = k) && keyT q.2
  | _, _ => false
mutual
def goodB : Ty → Nat → Bool
  | .text, _ => true
  | .number, _ => true
  | .flag, _ => true
  | .opt t, n => goodB t n && !isOpt t
  | .list _, 0 => false
  | .list t, n + 1 => goodB t n
  | .keyed _ _, 0 => false
  | .keyed t k, n + 1 => goodB t n && (hasKey t k && decide (letters k))
  | .rcd _, 0 => false
  | .rcd fs, n + 1 => goodsB fs n && (!fs.isEmpty && (decide (fs.map (·.1)).Nodup && (sortedS (fs.map (·.1)) && (decide (fs.length < 4000) && fs.all fun q => decide (letters q.1) && (decide (q.1.length ≤ 12) && decide (q.1.length ≠ 0))))))
def goodsB : List (Str × Ty) → Nat → Bool
  | [], _ => true
  | (_, t) :: r, n => goodB t n && goodsB r n
end
mutual
theorem good_ofB : ∀ (t : Ty) (n : Nat), goodB t n = true → GoodT n t
  | .text, _, _ => .plain rfl
  | .number, _, _ => .plain rfl
  | .flag, _, _ => .plain rfl
  | .opt t, n, h => by
    simp only [goodB, Bool.and_eq_true, Bool.not_eq_true'] at h
    exact .opt (good_ofB t n h.1) h.2
  | .list _, 0, h => by simp [goodB] at h
  | .list t, n + 1, h => by
    simp only [goodB] at h
    exact .list (good_ofB t n h)
  | .keyed _ _, 0, h => by simp [goodB] at h
  | .keyed t k, n + 1, h => by
    simp only [goodB, Bool.and_eq_true, decide_eq_true_eq] at h
    obtain ⟨g, has, l⟩ := h
    have g' := good_ofB t n g
    cases t with
    | rcd fs =>
      obtain ⟨q, mq, e⟩ := List.any_eq_true.mp (show (fs.any fun q => decide (q.1 = k) && keyT q.2) = true from has)
      simp only [Bool.and_eq_true, decide_eq_true_eq] at e
      obtain ⟨rfl, kt⟩ := e
      exact .keyed g' mq kt l
    | _ => cases has
  | .rcd _, 0, h => by simp [goodB] at h
  | .rcd fs, n + 1, h => by
    simp only [goodB, Bool.and_eq_true, decide_eq_true_eq, Bool.not_eq_true', List.all_eq_true] at h
    obtain ⟨g, ne, nd, so, few, each⟩ := h
    refine .rcd (fun e => ?_) nd so few each (goods_ofB fs n g)
    rw [e] at ne
    cases ne
theorem goods_ofB : ∀ (fs : List (Str × Ty)) (n : Nat), goodsB fs n = true → ∀ q ∈ fs, GoodT n q.2
  | [], _, _ => fun _ m => nomatch m
  | (z, t) :: r, n, h => by
    simp only [goodsB, Bool.and_eq_true] at h
    intro q m
    rcases List.mem_cons.mp m with rfl | m
    · exact good_ofB t n h.1
    · exact goods_ofB r n h.2 q m
end
/-- the k-th of the hundred names -/
def nameH (k : Nat) : Str := (⟨#[97 + k / 10]⟩ : Str) ++ ⟨#[97 + k % 10]⟩
def namesH : List Str := (List.range 100).map nameH
def wideT : Ty := .rcd (namesH.map fun n => (n, .text))
def hand1 : List Ty := [.text, .opt .number, .list .flag, .list (.list (.list (.list (.list (.list .text))))), .rcd [("a", .text)],
  .opt (.rcd [("a", .opt (.rcd [("b", .opt (.rcd [("c", .opt .number)]))]))]), .opt (.list (.opt .text))]
def hand2 : List Ty := [.keyed (.rcd [("id", .number), ("x", .list .flag)]) "id", .opt (.keyed (.rcd [("a", .text)]) "a"), .rcd [("abcdefghijkl", .text), ("text", .text)]]
def hand3 : List Ty := [.keyed (.rcd [("a", .keyed (.rcd [("b", .text)]) "b"), ("k", .text)]) "k", .rcd [("by", .keyed (.rcd [("by", .text)]) "by"), ("flag", .flag), ("number", .number)]]
def inK (t : Ty) : Ty := .keyed (.rcd [("k", .text), ("x", t)]) "k"
def hand4 : List Ty := [.rcd [("a", .rcd [("a", .rcd [("a", .rcd [("a", .rcd [("a", .rcd [("a", .text)])])])])])], inK (inK (.keyed (.rcd [("k", .text)]) "k"))]
def handT : List Ty := hand1 ++ hand2 ++ hand3 ++ hand4 ++ [wideT]
theorem wide_rows : wrFs (namesH.map fun n => (n, .text)) = namesH.map fun n => n ++ (": text" : Str) := by
  rw [wrFs_map, List.map_map]
  refine List.map_congr_left fun n _ => ?_
  apply ql_ext
  show ql (n ++ ": " ++ wr .text) = ql (n ++ ": text")
  rw [ql_app, ql_app, ql_app]
  simp only [wr]
  show ql n ++ [58, 32] ++ [116, 101, 120, 116] = ql n ++ [58, 32, 116, 101, 120, 116]
  simp
theorem wide_text : "{" ++ Txt.join ", " (namesH.map fun n => n ++ (": text" : Str)) ++ "}" = wr wideT := by
  show _ = wr (.rcd (namesH.map fun n => (n, .text)))
  simp only [wr]
  rw [wide_rows]
theorem nameH_len (k : Nat) : (nameH k).length = 2 := rfl
theorem wide_join : (Txt.join ", " (namesH.map fun n => n ++ (": text" : Str))).length ≤ 1000 := by
  rw [ql_len, ql_join]
  refine Nat.le_trans (joinL_up 8 _ fun z hz => ?_) ?_
  · obtain ⟨y, my, rfl⟩ := List.mem_map.mp hz
    obtain ⟨n, mn, rfl⟩ := List.mem_map.mp my
    obtain ⟨k, _, rfl⟩ := List.mem_map.mp mn
    rw [← ql_len, len_app, nameH_len]
    decide
  · rw [List.length_map, List.length_map, namesH, List.length_map, List.length_range]
    decide
theorem wide_len : (wr wideT).length ≤ 50000 := by
  have l := wide_join
  rw [← wide_text, len_app, len_app]
  show 1 + _ + 1 ≤ _
  omega
theorem names_apart : namesH.Nodup := by decide +kernel
theorem names_sorted : sortedS namesH = true := by decide +kernel
theorem names_fine : (namesH.all fun q => decide (letters q) && (decide (q.length ≤ 12) && decide (q.length ≠ 0))) = true := by decide +kernel
theorem wide_good : GoodT 1 wideT := by
  have firsts : (namesH.map fun n => (n, Ty.text)).map (·.1) = namesH := by
    rw [List.map_map]
    exact List.map_id _
  have many : (namesH.map fun n => (n, Ty.text)).length = 100 := by rw [List.length_map, namesH, List.length_map, List.length_range]
  refine .rcd (fun e => ?_) (by rw [firsts]; exact names_apart) (by rw [firsts]; exact names_sorted) (by rw [many]; decide) (fun q m => ?_) (fun q m => ?_)
  · rw [e] at many
    cases many
  · obtain ⟨n, mn, rfl⟩ := List.mem_map.mp m
    have h := List.all_eq_true.mp names_fine n mn
    simpa only [Bool.and_eq_true, decide_eq_true_eq] using h
  · obtain ⟨n, mn, rfl⟩ := List.mem_map.mp m
    exact .plain rfl
theorem hand_good : ∀ t ∈ handT, GoodT 6 t ∧ (wr t).length ≤ 50000 := by
  have h : ((hand1 ++ hand2 ++ hand3 ++ hand4).all fun t => goodB t 6 && decide ((wr t).length ≤ 50000)) = true := by decide +kernel
  intro t m
  rcases List.mem_append.mp m with m | m
  · have e := List.all_eq_true.mp h t m
    rw [Bool.and_eq_true, decide_eq_true_eq] at e
    exact ⟨good_ofB t 6 e.1, e.2⟩
  · rw [List.mem_singleton.mp m]
    exact ⟨GoodT.upTo 5 wide_good, wide_len⟩
theorem textsOf_map (ts : List Ty) : textsOf ts = (ts.map wr).map V.str := by
  rw [textsOf, List.map_map]
  rfl
theorem texts1 : textsOf hand1 = [.str "text", .str "number?", .str "[flag]", .str "[[[[[[text]]]]]]", .str "{a: text}", .str "{a: {b: {c: number?}?}?}?", .str "[text?]?"] := by
  have e : hand1.map wr = (["text", "number?", "[flag]", "[[[[[[text]]]]]]", "{a: text}", "{a: {b: {c: number?}?}?}?", "[text?]?"] : List Str) := by decide +kernel
  rw [textsOf_map, e]
  rfl
theorem texts2 : textsOf hand2 = [.str "[{id: number, x: [flag]} by id]", .str "[{a: text} by a]?", .str "{abcdefghijkl: text, text: text}"] := by
  have e : hand2.map wr = (["[{id: number, x: [flag]} by id]", "[{a: text} by a]?", "{abcdefghijkl: text, text: text}"] : List Str) := by decide +kernel
  rw [textsOf_map, e]
  rfl
theorem texts3 : textsOf hand3 = [.str "[{a: [{b: text} by b], k: text} by k]", .str "{by: [{by: text} by by], flag: flag, number: number}"] := by
  have e : hand3.map wr = (["[{a: [{b: text} by b], k: text} by k]", "{by: [{by: text} by by], flag: flag, number: number}"] : List Str) := by decide +kernel
  rw [textsOf_map, e]
  rfl
abbrev deepH : Str := repS "{a: " (6 : Int).toNat ++ "text" ++ repS "}" (6 : Int).toNat
abbrev keysH : Str := repS "[{k: text, x: " (2 : Int).toNat ++ "[{k: text} by k]" ++ repS "} by k]" (2 : Int).toNat
theorem texts4 : textsOf hand4 = [.str deepH, .str keysH] := by
  have e : hand4.map wr = ([deepH, keysH] : List Str) := by decide +kernel
  rw [textsOf_map, e]
  rfl
theorem ten_at {i : Int} {j : Nat} (e : i = (j : Int)) (h : j < 10) : atI ("abcdefghij" : Str).cps.toList i = some (97 + j) := by
  subst e
  rcases (by omega : j = 0 ∨ j = 1 ∨ j = 2 ∨ j = 3 ∨ j = 4 ∨ j = 5 ∨ j = 6 ∨ j = 7 ∨ j = 8 ∨ j = 9) with rfl | rfl | rfl | rfl | rfl | rfl | rfl | rfl | rfl | rfl <;> rfl
theorem names_len : namesH.length = 100 := by rw [namesH, List.length_map, List.length_range]
theorem names_at {i : Nat} (h : i < 100) : namesH[i]? = some (nameH i) := by
  rw [namesH, List.getElem?_map, List.getElem?_range h]
  rfl
theorem names_take {i : Nat} (h : i < 100) : namesH.take (i + 1) = namesH.take i ++ [nameH i] := by
  rw [List.take_succ, names_at h]
  rfl
theorem names_all : namesH.take 100 = namesH := by
  have := List.take_length (l := namesH)
  rw [names_len] at this
  exact this
theorem names_two {n : Str} (m : n ∈ namesH) : n.length = 2 := by
  rw [namesH] at m
  obtain ⟨k, _, rfl⟩ := List.mem_map.mp m
  rfl
theorem name_of (k : Nat) : (⟨#[97 + k / 10]⟩ : Str) ++ (⟨#[97 + k % 10]⟩ : Str) = nameH k := rfl
def wideS : Str := "{" ++ Txt.join ", " (namesH.map fun n => n ++ (": text" : Str)) ++ "}"
theorem wide_is : wideS = wr wideT := wide_text
def firstT : List Ty := hand1 ++ hand2 ++ hand3 ++ hand4
theorem first_texts : textsOf hand1 ++ textsOf hand2 ++ textsOf hand3 ++ [.str deepH, .str keysH] = textsOf firstT := by
  rw [← texts4, firstT]
  simp only [textsOf, List.map_append]
theorem first_len : (textsOf firstT).length = 14 := by
  rw [textsOf, List.length_map]
  rfl
theorem all_texts : textsOf firstT ++ [V.str ("{" ++ Txt.join ", " (namesH.map fun n => n ++ (": text" : Str)) ++ "}")] = textsOf handT := by
  rw [wide_text, handT, firstT]
  simp only [textsOf, List.map_append, List.map_cons, List.map_nil]
theorem all_len : (textsOf handT).length = 15 := by
  rw [textsOf, List.length_map]
  rfl
theorem all_good {i : Nat} {x : V} (h : (textsOf handT)[i]? = some x) : ∃ t, x = .str (wr t) ∧ GoodT 6 t ∧ (wr t).length ≤ 50000 := by
  obtain ⟨t, mt, rfl⟩ := List.mem_map.mp (List.mem_of_getElem? h)
  exact ⟨t, rfl, hand_good t mt⟩
theorem len1 : (textsOf hand1).length = 7 := by rw [textsOf, List.length_map]; rfl
theorem len2 : (textsOf hand2).length = 3 := by rw [textsOf, List.length_map]; rfl
theorem len3 : (textsOf hand3).length = 2 := by rw [textsOf, List.length_map]; rfl
theorem wide_sum : ((namesH.map fun n => n ++ (": text" : Str)).map (·.length)).sum + (namesH.map fun n => n ++ (": text" : Str)).length * 2 ≤ 2000 := by
  have jl := join_len (namesH.map fun n => n ++ (": text" : Str))
  have wj := wide_join
  omega
/-- the lists of the law, of which no more is asked than what is told here -/
structure Hands where
  l1 : List Ty
  l2 : List Ty
  l3 : List Ty
  first : List Ty
  all : List Ty
  names : List Str
  name : Nat → Str
  t1 : textsOf l1 = [.str "text", .str "number?", .str "[flag]", .str "[[[[[[text]]]]]]", .str "{a: text}", .str "{a: {b: {c: number?}?}?}?", .str "[text?]?"]
  t2 : textsOf l2 = [.str "[{id: number, x: [flag]} by id]", .str "[{a: text} by a]?", .str "{abcdefghijkl: text, text: text}"]
  t3 : textsOf l3 = [.str "[{a: [{b: text} by b], k: text} by k]", .str "{by: [{by: text} by by], flag: flag, number: number}"]
  n1 : (textsOf l1).length = 7
  n2 : (textsOf l2).length = 3
  n3 : (textsOf l3).length = 2
  tFirst : textsOf l1 ++ textsOf l2 ++ textsOf l3 ++ [.str deepH, .str keysH] = textsOf first
  nFirst : (textsOf first).length = 14
  tAll : textsOf first ++ [V.str ("{" ++ Txt.join ", " (names.map fun n => n ++ (": text" : Str)) ++ "}")] = textsOf all
  nAll : (textsOf all).length = 15
  good : ∀ {i : Nat} {x : V}, (textsOf all)[i]? = some x → ∃ t, x = .str (wr t) ∧ GoodT 6 t ∧ (wr t).length ≤ 50000
  hundred : names.length = 100
  at' : ∀ {i : Nat}, i < 100 → names[i]? = some (name i)
  take' : ∀ {i : Nat}, i < 100 → names.take (i + 1) = names.take i ++ [name i]
  whole : names.take 100 = names
  two : ∀ i, (name i).length = 2
  made : ∀ k : Nat, (⟨#[97 + k / 10]⟩ : Str) ++ (⟨#[97 + k % 10]⟩ : Str) = name k
  sum : ((names.map fun n => n ++ (": text" : Str)).map (·.length)).sum + (names.map fun n => n ++ (": text" : Str)).length * 2 ≤ 2000
  join : (Txt.join ", " (names.map fun n => n ++ (": text" : Str))).length ≤ 1000
theorem hands : Nonempty Hands := ⟨{ l1 := hand1, l2 := hand2, l3 := hand3, first := firstT, all := handT, names := namesH, name := nameH, t1 := texts1, t2 := texts2, t3 := texts3, n1 := len1, n2 := len2, n3 := len3, tFirst := first_texts, nFirst := first_len, tAll := all_texts, nAll := all_len, good := all_good, hundred := names_len, at' := names_at, take' := names_take, whole := names_all, two := nameH_len, made := name_of, sum := wide_sum, join := wide_join }⟩
end KX

namespace KX
open PySem PySem.Spec L2 PyProof.Rows
theorem pool_after {H1 H2 H3 : Hp} {p : Addr} (s : Same H1 H2) (new : H1 p = none) (k : Keep p H2 H3) : Same H1 H3 := fun b o e => k b o (ne_of_none e new) (s b o e)
theorem minmax (n : Nat) : ∃ m : Nat, (if (if (8 : Int) < (n : Int) then (8 : Int) else (n : Int)) > 2 then (if (8 : Int) < (n : Int) then (8 : Int) else (n : Int)) else 2) = (m : Int) ∧ m ≤ 8 := by
  by_cases h : (8 : Int) < (n : Int)
  · exact ⟨8, by rw [if_pos h]; rfl, Nat.le_refl _⟩
  · by_cases h2 : (n : Int) > 2
    · exact ⟨n, by rw [if_neg h, if_pos h2], by omega⟩
    · exact ⟨2, by rw [if_neg h, if_neg h2]; rfl, by decide⟩
section
variable {base : Heap} {P : Program} {w : World} {K : PySem.W.Frag} {mg : Str → Option Value} {tk : Str → Tok}
abbrev s_law : Stmt := top 44
abbrev N_law : List Str := ["_law_script", "_law_some", "_law_words_here", "_law_k", "_law_word", "_law_row"]
abbrev P_law : List Str := ["_law_script"]
theorem sc_law : FnScope N_law P_law (defScope s_law) := ⟨rfl, rfl, rfl, by decide +kernel, rfl, by decide +kernel, by decide +kernel⟩
def spLaw (K : PySem.W.Frag) : Sp := fun vs H Q _ => ∃ (a : Addr) (ns : List Int), vs = [.ref a] ∧ SqL K H a (ns.map V.int) ∧ ns.length ≤ 63 ∧ ∀ H' : Hp, Q (.bl true) H'
theorem ok_law {f f1 f2 f3 f4 f5 : Addr} {fd d1 d2 d3 d4 d5 : FuncData} (F : Fun K "law" "law" s_law f fd) (T : Bl mg) (D_one_right : Def P w K mg base "_law_one_right" 35 P_one spOne f1 d1) (D_right : Def P w K mg base "_law_right" 36 P_right spRight f2 d2) (D_right_of_parts : Def P w K mg base "_law_right_of_parts" 35 P_rparts spRParts f3 d3)
    (D_pool : Def P w K mg base "_law_pool" 1 P_pool spPool f4 d4) (D_cell : Def P w K mg base "_law_cell" 1 P_cell (spCell K) f5 d5) : FnOk P w K mg base CX0 37 f fd P_law (spLaw K) := by
  obtain ⟨hh⟩ := hands
  refine F.ok sc_law (fun vs H Q E h => ?_) (fun cdv A outer s H vs Q E hr h => ?_)
  · obtain ⟨a, ns, rfl, _⟩ := h
    rfl
  obtain ⟨a, ns, rfl, hS, h63, q⟩ := h
  refine ⟨_, (pss_cons (ps_set (i := 1) sc_law.nd rfl (Or.inl rfl) (pe_lst (pa_cons pe_str (pa_cons pe_str (pa_cons pe_str (pa_cons pe_str (pa_cons pe_str (pa_cons pe_str (pa_cons pe_str pa_nil)))))))))
    (pss_cons (ps_set (i := 1) sc_law.nd rfl (Or.inl rfl) (pe_op op_cat (pv 1) (pe_lst (pa_cons pe_str (pa_cons pe_str (pa_cons pe_str pa_nil))))))
    (pss_cons (ps_set (i := 1) sc_law.nd rfl (Or.inl rfl) (pe_op op_cat (pv 1) (pe_lst (pa_cons pe_str (pa_cons pe_str pa_nil)))))
    (pss_cons (ps_set (i := 1) sc_law.nd rfl (Or.inl rfl) (pe_op op_cat (pv 1) (pe_lst (pa_cons (pe_op op_add_str (pe_op op_add_str (pe_op op_mulS pe_str pe_int) pe_str) (pe_op op_mulS pe_str pe_int)) (pa_cons (pe_op op_add_str (pe_op op_add_str (pe_op op_mulS pe_str pe_int) pe_str) (pe_op op_mulS pe_str pe_int)) pa_nil)))))
    (pss_cons (ps_setLc (i := 2) (own := [("_law_k", 3)]) (g := (gName 3)) (tt := tYes) rfl sc_law.nd rfl rfl (sw_true rfl rfl rfl (by decide +kernel)) (pi_range1 rfl T.range (pa_cons pe_int pa_nil)) (blkOk_by (own := [("_law_k", 3)]) (N := N_law) (sc := defScope s_law) (by decide +kernel)) (fun _ _ _ _ _ => (pg_name (i := 3) sc_law.nd rfl (Or.inl rfl))) (fun _ _ _ _ _ => pts_nil) (fun _ _ _ _ _ => (pe_op op_add_str (pe_ix ix_str pe_str (pe_op op_fdiv (pv 3) pe_int) (fun _ _ => rfl)) (pe_ix ix_str pe_str (pe_op op_mod (pv 3) pe_int) (fun _ _ => rfl)))))
    (pss_cons (ps_expr (pe_bm PySem.F.plainAttrs_list PySem.F.slot_list_append PySem.F.type_list_append mt_append (pv 1) (pa_cons (pe_op op_add_str (pe_op op_add_str pe_str (pe_join pe_str (pe_lc (own := [("_law_word", 4)]) (g := (gName 4)) (tt := tYes) rfl sc_law.nd (pi_list (pv 2)) (blkOk_by (own := [("_law_word", 4)]) (N := N_law) (sc := defScope s_law) (by decide +kernel)) (fun _ _ _ _ _ => (pg_name (i := 4) sc_law.nd rfl (Or.inl rfl))) (fun _ _ _ _ _ => pts_nil) (fun _ _ _ _ _ => (pe_op op_add_str (pv 4) pe_str))))) pe_str) pa_nil)))
    (pss_cons (ps_if (pt_not (pt_val (pe_callB (cr_all rfl) (by rfl) T.all (by decide +kernel) (pa_cons (pe_lc (own := [("_law_row", 5)]) (g := (gName 5)) (tt := tYes) rfl sc_law.nd (pi_list (pv 1)) (blkOk_by (own := [("_law_row", 5)]) (N := N_law) (sc := defScope s_law) (by decide +kernel)) (fun _ _ _ _ _ => (pg_name (i := 5) sc_law.nd rfl (Or.inl rfl))) (fun _ _ _ _ _ => pts_nil) (fun _ _ _ _ _ => (pe_call D_one_right.ok (hr.mono (by first | decide | omega)) rfl D_one_right.g D_one_right.kp D_one_right.b .nil pass0 (pa_cons (pv 5) pa_nil)))) pa_nil))))
      (pss_one (ps_ret pe_bl))
      pss_nil)
    (pss_cons (ps_if (pt_not (pt_val (pe_callB (cr_all rfl) (by rfl) T.all (by decide +kernel) (pa_cons (pe_lc (own := [("_law_k", 3)]) (g := (gName 3)) (tt := tYes) rfl sc_law.nd (pi_range1 rfl T.range (pa_cons (pe_callB (call_max2 rfl) (by rfl) T.max (by decide +kernel) (pa_cons pe_int (pa_cons (pe_callB (call_min2 rfl) (by rfl) T.min (by decide +kernel) (pa_cons (pe_callB (call_lenK K rfl) (by rfl) T.len PySem.boot_len (pa_cons (pv 0) pa_nil)) (pa_cons pe_int pa_nil))) pa_nil))) pa_nil)) (blkOk_by (own := [("_law_k", 3)]) (N := N_law) (sc := defScope s_law) (by decide +kernel)) (fun _ _ _ _ _ => (pg_name (i := 3) sc_law.nd rfl (Or.inl rfl))) (fun _ _ _ _ _ => pts_nil) (fun _ _ _ _ _ => (pe_call D_right.ok (hr.mono (by first | decide | omega)) rfl D_right.g D_right.kp D_right.b .nil pass0 (pa_cons (pe_call D_pool.ok (hr.mono (by first | decide | omega)) rfl D_pool.g D_pool.kp D_pool.b .nil pass0 (pa_cons (pe_call D_cell.ok (hr.mono (by first | decide | omega)) rfl D_cell.g D_cell.kp D_cell.b .nil pass0 (pa_cons (pv 0) (pa_cons (pv 3) pa_nil))) pa_nil)) pa_nil)))) pa_nil))))
      (pss_one (ps_ret pe_bl))
      pss_nil)
    (pss_one (ps_ret (pe_callB (cr_all rfl) (by rfl) T.all (by decide +kernel) (pa_cons (pe_lc (own := [("_law_k", 3)]) (g := (gName 3)) (tt := tYes) rfl sc_law.nd (pi_range1 rfl T.range (pa_cons (pe_callB (call_max2 rfl) (by rfl) T.max (by decide +kernel) (pa_cons pe_int (pa_cons (pe_callB (call_min2 rfl) (by rfl) T.min (by decide +kernel) (pa_cons (pe_callB (call_lenK K rfl) (by rfl) T.len PySem.boot_len (pa_cons (pv 0) pa_nil)) (pa_cons pe_int pa_nil))) pa_nil))) pa_nil)) (blkOk_by (own := [("_law_k", 3)]) (N := N_law) (sc := defScope s_law) (by decide +kernel)) (fun _ _ _ _ _ => (pg_name (i := 3) sc_law.nd rfl (Or.inl rfl))) (fun _ _ _ _ _ => pts_nil) (fun _ _ _ _ _ => (pe_call D_right_of_parts.ok (hr.mono (by first | decide | omega)) rfl D_right_of_parts.g D_right_of_parts.kp D_right_of_parts.b .nil pass0 (pa_cons (pe_call D_pool.ok (hr.mono (by first | decide | omega)) rfl D_pool.g D_pool.kp D_pool.b .nil pass0 (pa_cons (pe_call D_cell.ok (hr.mono (by first | decide | omega)) rfl D_cell.g D_cell.kp D_cell.b .nil pass0 (pa_cons (pv 0) (pa_cons (pv 3) pa_nil))) pa_nil)) pa_nil)))) pa_nil)))))))))))), ?_⟩
  refine ⟨big (by show 7 ≤ _; decide), fun L1 n1 => ?_⟩
  rw [← hh.t1]
  have s1 := same_new n1 (.lst (textsOf hh.l1))
  refine ⟨_, rfl, big (by show 3 ≤ _; decide), fun L2 n2 => ?_⟩
  rw [← hh.t2]
  have s2 := same_new n2 (.lst (textsOf hh.l2))
  refine ⟨L1, L2, _, _, rfl, rfl, s2 _ _ upd_same, upd_same, big (by rw [hh.n1, hh.n2]; decide), fun L3 n3 => ?_⟩
  have s3 := same_new n3 (.lst (textsOf hh.l1 ++ textsOf hh.l2))
  refine ⟨_, rfl, big (by show 2 ≤ _; decide), fun L4 n4 => ?_⟩
  rw [← hh.t3]
  have s4 := same_new n4 (.lst (textsOf hh.l3))
  refine ⟨L3, L4, _, _, rfl, rfl, s4 _ _ upd_same, upd_same, big (by rw [List.length_append, hh.n1, hh.n2, hh.n3]; decide), fun L5 n5 => ?_⟩
  have s5 := same_new n5 (.lst (textsOf hh.l1 ++ textsOf hh.l2 ++ textsOf hh.l3))
  refine ⟨_, rfl, _, _, rfl, rfl, by decide, by decide, by decide +kernel, by decide +kernel, _, _, rfl, rfl, big (by decide +kernel), _, _, rfl, rfl, by decide, by decide, by decide +kernel, by decide +kernel, _, _, rfl, rfl, big (by decide +kernel), ?_⟩
  refine ⟨_, _, rfl, rfl, by decide, by decide, by decide +kernel, by decide +kernel, _, _, rfl, rfl, big (by decide +kernel), _, _, rfl, rfl, by decide, by decide, by decide +kernel, by decide +kernel, _, _, rfl, rfl, big (by decide +kernel), ?_⟩
  refine ⟨big (by show 2 ≤ _; decide), fun L6 n6 => ?_⟩
  have s6 := same_new n6 (.lst [.str deepH, .str keysH])
  refine ⟨L5, L6, _, [.str deepH, .str keysH], rfl, rfl, s6 _ _ upd_same, upd_same, big (by rw [List.length_append, List.length_append, hh.n1, hh.n2, hh.n3]; decide), fun L7 n7 => ?_⟩
  rw [hh.tFirst]
  have apart7 : H L7 = none := (s1.trans (s2.trans (s3.trans (s4.trans (s5.trans s6))))).free n7
  have s7 := same_new n7 (.lst (textsOf hh.first))
  have sA := s1.trans (s2.trans (s3.trans (s4.trans (s5.trans (s6.trans s7)))))
  refine ⟨100, rfl, by decide, by decide, fun D newD => ?_⟩
  have apartD : H D = none := sA.free newD
  have nDL : D ≠ L7 := (ne_of_none upd_same newD).symm
  refine lc_range (lo := 0) (n := 100) (fun i Z => Same H Z ∧ Z L7 = some (.lst (textsOf hh.first)) ∧ Z D = some (.lst ((hh.names.take i).map V.str))) ⟨sA.trans (same_new newD _), (same_new newD _) _ _ upd_same, upd_same⟩ ?_ ?_
  · rintro i Z hi ⟨kZ, aZ, made⟩
    have q10 : ((0 : Int) + (i : Int)) / 10 = ((i / 10 : Nat) : Int) := by omega
    have r10 : ((0 : Int) + (i : Int)) % 10 = ((i % 10 : Nat) : Int) := by omega
    refine ⟨rfl, yesT ⟨_, rfl, _, _, rfl, rfl, ⟨by decide, by decide⟩, _, _, _, rfl, rfl, big (by decide +kernel), ten_at q10 (by omega), _, rfl, _, _, rfl, rfl, (by show (0 : Int) < 10; decide), _, _, _, rfl, rfl, big (by decide +kernel), ten_at r10 (by omega), _, _, rfl, rfl, big (by show 1 + 1 ≤ _; decide), ?_⟩⟩
    rw [hh.made]
    refine ⟨_, made, ?_, Same.updNew kZ apartD, ?_, ?_⟩
    · rw [List.length_map, List.length_take]
      exact less_line (by omega)
    · rw [upd_ne (Ne.symm nDL)]
      exact aZ
    · rw [upd_same, hh.take' hi, List.map_append]
      rfl
  rintro GB ⟨sB, atB, atD⟩
  rw [hh.whole] at atD
  refine ⟨_, rfl, .inl ⟨rfl, _, SqL.of atB⟩, ?_⟩
  refine ⟨⟨_, rfl⟩, _, rfl, D, rfl, ⟨_, SqL.of atD⟩, fun D2 new2 => ?_⟩
  refine lc_it (walk_list (K := K) (a := D) (xs := hh.names.map V.str)) (fun i Z => Same GB Z ∧ Z D2 = some (.lst (((hh.names.take i).map fun n => n ++ (": text" : Str)).map V.str))) ⟨same_new new2 _, upd_same⟩ (fun i Z _ z => SqL.of (z.1 _ _ atD)) ?_ ?_
  · rintro i x Z Z' hi ⟨kZ, made⟩ ⟨rfl, at'⟩
    rw [List.length_map, hh.hundred] at hi
    rw [List.getElem?_map, hh.at' hi] at at'
    obtain rfl := Option.some.inj at'
    have two : (hh.name i).length = 2 := hh.two i
    refine ⟨rfl, yesT ⟨_, rfl, _, _, rfl, rfl, big (by rw [two]; decide), _, made, ?_, Same.updNew kZ new2, ?_⟩⟩
    · rw [List.length_map, List.length_map, List.length_take]
      exact less_line (by omega)
    · rw [upd_same, hh.take' hi, List.map_append, List.map_append]
      rfl
  rintro GC ⟨sC, made2⟩
  rw [List.length_map, hh.hundred, hh.whole] at made2
  have wj := hh.join
  refine ⟨", ", D2, _, rfl, rfl, .inl (SqL.of made2), Nat.le_trans hh.sum (by decide), _, _, rfl, rfl, big (by show 1 + _ ≤ _; omega), _, _, rfl, rfl, big (by rw [len_app]; show 1 + _ + 1 ≤ _; omega), ?_⟩
  refine ⟨L7, _, _, rfl, rfl, sC _ _ atB, ?_, ?_⟩
  · rw [hh.nFirst]
    exact less_line (by decide)
  rw [hh.tAll]
  have atE : upd GC L7 (.lst (textsOf hh.all)) L7 = some (.lst (textsOf hh.all)) := upd_same
  have sE : Same H (upd GC L7 (.lst (textsOf hh.all))) := Same.updNew (sB.trans sC) apart7
  generalize upd GC L7 (.lst (textsOf hh.all)) = GE at atE sE ⊢
  refine ⟨_, rfl, L7, rfl, ⟨_, SqL.of atE⟩, fun D3 new3 => ?_⟩
  refine lc_it (walk_list (K := K) (a := L7) (xs := textsOf hh.all)) (fun i Z => Same GE Z ∧ Z D3 = some (.lst (trues i))) ⟨same_new new3 _, upd_same⟩ (fun i Z _ z => SqL.of (z.1 _ _ atE)) ?_ ?_
  · rintro i x Z Z' hi ⟨kept, made⟩ ⟨rfl, at'⟩
    rw [hh.nAll] at hi
    obtain ⟨t, rfl, good, few⟩ := hh.good at'
    refine ⟨rfl, yesT ⟨_, rfl, t, rfl, good, few, fun Z3 sZ => ⟨_, sZ _ _ made, ?_, Same.updNew (kept.trans sZ) new3, ?_⟩⟩⟩
    · rw [trues_len]
      exact less_line (by omega)
    · rw [upd_same, trues_more]
  rintro GF ⟨sF, madeF⟩
  refine ⟨D3, _, rfl, SqL.of madeF, ?_⟩
  rw [trues_all]
  refine ⟨_, rfl, if_ff rfl ?_⟩
  have sHF := sE.trans sF
  obtain ⟨m, em, m8⟩ := minmax (ns.map V.int).length
  refine ⟨_, rfl, _, _, rfl, .inl ⟨_, (sHF).seq hS, rfl⟩, _, _, rfl, _, _, rfl, _, rfl, ?_⟩
  rw [em]
  refine ⟨by omega, by omega, fun D4 newD4 => ?_⟩
  rw [show ((m : Int).toNat) = m from rfl]
  refine lc_range (lo := 0) (n := m) (fun i Z => Same GF Z ∧ Z D4 = some (.lst (trues i))) ⟨same_new newD4 _, upd_same⟩ ?_ ?_
  · rintro i Z hi ⟨kept2, made2⟩
    refine ⟨rfl, yesT ⟨_, rfl, _, rfl, a, ns, _, rfl, ((sHF).trans kept2).seq hS, h63, by omega, by omega, fun T1 j sT1 => ⟨j, rfl, fun T2 p np sT2 pool => ⟨p, rfl, pool, fun T3 k3 _ => ?_⟩⟩⟩⟩
    have ST : Same Z T3 := sT1.trans (pool_after sT2 np k3)
    refine ⟨_, ST _ _ made2, ?_, Same.updNew (kept2.trans ST) newD4, ?_⟩
    · rw [trues_len]
      exact less_line (by omega)
    · rw [upd_same, trues_more]
  rintro GG ⟨sG, madeG⟩
  refine ⟨D4, _, rfl, SqL.of madeG, ?_⟩
  rw [trues_all]
  refine ⟨_, rfl, if_ff rfl ?_⟩
  have sHG := sHF.trans sG
  refine ⟨_, rfl, _, _, rfl, .inl ⟨_, (sHG).seq hS, rfl⟩, _, _, rfl, _, _, rfl, _, rfl, ?_⟩
  rw [em]
  refine ⟨by omega, by omega, fun D5 newD5 => ?_⟩
  rw [show ((m : Int).toNat) = m from rfl]
  refine lc_range (lo := 0) (n := m) (fun i Z => Same GG Z ∧ Z D5 = some (.lst (trues i))) ⟨same_new newD5 _, upd_same⟩ ?_ ?_
  · rintro i Z hi ⟨kept2, made2⟩
    refine ⟨rfl, yesT ⟨_, rfl, _, rfl, a, ns, _, rfl, ((sHG).trans kept2).seq hS, h63, by omega, by omega, fun T1 j sT1 => ⟨j, rfl, fun T2 p np sT2 pool => ⟨p, rfl, pool, fun T3 k3 _ => ?_⟩⟩⟩⟩
    have ST : Same Z T3 := sT1.trans (pool_after sT2 np k3)
    refine ⟨_, ST _ _ made2, ?_, Same.updNew (kept2.trans ST) newD5, ?_⟩
    · rw [trues_len]
      exact less_line (by omega)
    · rw [upd_same, trues_more]
  rintro GI ⟨sI, madeI⟩
  refine ⟨D5, _, rfl, SqL.of madeI, ?_⟩
  rw [trues_all]
  exact q _
end
end KX

namespace KX
open PySem PySem.Spec L2 PyProof.Rows
/-! the head -/
def dd0 : He5.DefA := ⟨fun K => He.ga K "is_sign", "is_sign", "is_sign", defArgs (top 11), defBody (top 11), defScope (top 11), [], []⟩
def dd1 : He5.DefA := ⟨fun K => He.ga K "is_text", "is_text", "is_text", defArgs (top 12), defBody (top 12), defScope (top 12), [], []⟩
def dd2 : He5.DefA := ⟨fun K => He.ga K "is_letter", "is_letter", "is_letter", defArgs (top 13), defBody (top 13), defScope (top 13), [], []⟩
def dd3 : He5.DefA := ⟨fun K => He.ga K "is_name", "is_name", "is_name", defArgs (top 16), defBody (top 16), defScope (top 16), [], []⟩
def dd4 : He5.DefA := ⟨fun K => He.ga K "kind_of", "kind_of", "kind_of", defArgs (top 21), defBody (top 21), defScope (top 21), [], []⟩
def dd5 : He5.DefA := ⟨fun K => He.ga K "_writing_of", "_writing_of", "_writing_of", defArgs (top 22), defBody (top 22), defScope (top 22), [], []⟩
def dd6 : He5.DefA := ⟨fun K => He.ga K "_read_whole", "_read_whole", "_read_whole", defArgs (top 23), defBody (top 23), defScope (top 23), [], []⟩
def dd7 : He5.DefA := ⟨fun K => He.ga K "_read_part", "_read_part", "_read_part", defArgs (top 24), defBody (top 24), defScope (top 24), [], []⟩
def dd8 : He5.DefA := ⟨fun K => He.ga K "_read_required", "_read_required", "_read_required", defArgs (top 25), defBody (top 25), defScope (top 25), [], []⟩
def dd9 : He5.DefA := ⟨fun K => He.ga K "_read_list", "_read_list", "_read_list", defArgs (top 26), defBody (top 26), defScope (top 26), [], []⟩
def dd10 : He5.DefA := ⟨fun K => He.ga K "_can_be_key", "_can_be_key", "_can_be_key", defArgs (top 27), defBody (top 27), defScope (top 27), [], []⟩
def dd11 : He5.DefA := ⟨fun K => He.ga K "_read_record", "_read_record", "_read_record", defArgs (top 28), defBody (top 28), defScope (top 28), [], []⟩
def dd12 : He5.DefA := ⟨fun K => He.ga K "_read_field", "_read_field", "_read_field", defArgs (top 29), defBody (top 29), defScope (top 29), [], []⟩
def dd13 : He5.DefA := ⟨fun K => He.ga K "_first_trouble", "_first_trouble", "_first_trouble", defArgs (top 30), defBody (top 30), defScope (top 30), [], []⟩
def dd14 : He5.DefA := ⟨fun K => He.ga K "_trouble_in_list", "_trouble_in_list", "_trouble_in_list", defArgs (top 31), defBody (top 31), defScope (top 31), [], []⟩
def dd15 : He5.DefA := ⟨fun K => He.ga K "_trouble_in_record", "_trouble_in_record", "_trouble_in_record", defArgs (top 32), defBody (top 32), defScope (top 32), [], []⟩
def dd16 : He5.DefA := ⟨fun K => He.ga K "_law_cell", "_law_cell", "_law_cell", defArgs (top 34), defBody (top 34), defScope (top 34), [], []⟩
def dd17 : He5.DefA := ⟨fun K => He.ga K "_law_pool", "_law_pool", "_law_pool", defArgs (top 35), defBody (top 35), defScope (top 35), [], []⟩
def dd18 : He5.DefA := ⟨fun K => He.ga K "_law_draw", "_law_draw", "_law_draw", defArgs (top 36), defBody (top 36), defScope (top 36), [], []⟩
def dd19 : He5.DefA := ⟨fun K => He.ga K "_law_words", "_law_words", "_law_words", defArgs (top 37), defBody (top 37), defScope (top 37), [], []⟩
def dd20 : He5.DefA := ⟨fun K => He.ga K "_law_form", "_law_form", "_law_form", defArgs (top 38), defBody (top 38), defScope (top 38), [], []⟩
def dd21 : He5.DefA := ⟨fun K => He.ga K "_law_form_text", "_law_form_text", "_law_form_text", defArgs (top 39), defBody (top 39), defScope (top 39), [], []⟩
def dd22 : He5.DefA := ⟨fun K => He.ga K "_law_one_right", "_law_one_right", "_law_one_right", defArgs (top 40), defBody (top 40), defScope (top 40), [], []⟩
def dd23 : He5.DefA := ⟨fun K => He.ga K "_law_right", "_law_right", "_law_right", defArgs (top 41), defBody (top 41), defScope (top 41), [], []⟩
def dd24 : He5.DefA := ⟨fun K => He.ga K "_law_type_right", "_law_type_right", "_law_type_right", defArgs (top 42), defBody (top 42), defScope (top 42), [], []⟩
def dd25 : He5.DefA := ⟨fun K => He.ga K "_law_right_of_parts", "_law_right_of_parts", "_law_right_of_parts", defArgs (top 43), defBody (top 43), defScope (top 43), [], []⟩
def dd26 : He5.DefA := ⟨fun K => He.ga K "law", "law", "law", defArgs (top 44), defBody (top 44), defScope (top 44), [], []⟩
def dd27 : He5.DefA := ⟨fun K => He.ma K (He.ga K "Reader") "__init__", "__init__", "Reader.__init__", defArgs (inClass (top 18) 0), defBody (inClass (top 18) 0), defScope (inClass (top 18) 0), [], []⟩
def dd28 : He5.DefA := ⟨fun K => He.ma K (He.ga K "Reader") "skips", "skips", "Reader.skips", defArgs (inClass (top 18) 1), defBody (inClass (top 18) 1), defScope (inClass (top 18) 1), [], []⟩
def dd29 : He5.DefA := ⟨fun K => He.ma K (He.ga K "Reader") "starts", "starts", "Reader.starts", defArgs (inClass (top 18) 2), defBody (inClass (top 18) 2), defScope (inClass (top 18) 2), [], []⟩
def dd30 : He5.DefA := ⟨fun K => He.ma K (He.ga K "Reader") "needs", "needs", "Reader.needs", defArgs (inClass (top 18) 3), defBody (inClass (top 18) 3), defScope (inClass (top 18) 3), [], []⟩
def dd31 : He5.DefA := ⟨fun K => He.ma K (He.ga K "Reader") "letters", "letters", "Reader.letters", defArgs (inClass (top 18) 7), defBody (inClass (top 18) 7), defScope (inClass (top 18) 7), [], []⟩
def dd32 : He5.DefA := ⟨fun K => He.ma K (He.ga K "Reader") "ended", "ended", "Reader.ended", defArgs (inClass (top 18) 9), defBody (inClass (top 18) 9), defScope (inClass (top 18) 9), [], []⟩
def dd33 : He5.DefA := ⟨fun K => He.ma K (He.ga K "Type") "__init__", "__init__", "Type.__init__", defArgs (inClass (top 20) 0), defBody (inClass (top 20) 0), defScope (inClass (top 20) 0), [.non, .non, .adr (He.dflAt ("Type", some "__init__") 2)], []⟩
def dd34 : He5.DefA := ⟨fun K => He5.wf K (He.ga K "Type") "classmethod" "read", "read", "Type.read", defArgs (inClass (top 20) 1), defBody (inClass (top 20) 1), defScope (inClass (top 20) 1), [], []⟩
def dd35 : He5.DefA := ⟨fun K => He.ma K (He.ga K "Type") "__eq__", "__eq__", "Type.__eq__", defArgs (inClass (top 20) 4), defBody (inClass (top 20) 4), defScope (inClass (top 20) 4), [], []⟩
def dd36 : He5.DefA := ⟨fun K => He.ma K (He.ga K "Type") "__str__", "__str__", "Type.__str__", defArgs (inClass (top 20) 5), defBody (inClass (top 20) 5), defScope (inClass (top 20) 5), [], []⟩
def dd37 : He5.DefA := ⟨fun K => He.ma K (He.ga K "Type") "__repr__", "__repr__", "Type.__repr__", defArgs (inClass (top 20) 6), defBody (inClass (top 20) 6), defScope (inClass (top 20) 6), [], []⟩
def fn0 : List He5.DefA := [dd0, dd1, dd2, dd3, dd4, dd5, dd6, dd7, dd8, dd9, dd10, dd11, dd12, dd13, dd14, dd15, dd16, dd17, dd18, dd19]
def fn1 : List He5.DefA := [dd20, dd21, dd22, dd23, dd24, dd25, dd26, dd27, dd28, dd29, dd30, dd31, dd32, dd33, dd34, dd35, dd36, dd37]
def fn : List He5.DefA := fn0 ++ fn1
def fa0 : List He.Fa := [.glo "is_sign", .glo "is_text", .glo "is_letter", .glo "is_name", .glo "kind_of", .glo "_writing_of", .glo "_read_whole", .glo "_read_part", .glo "_read_required", .glo "_read_list", .glo "_can_be_key", .glo "_read_record", .glo "_read_field", .glo "_first_trouble", .glo "_trouble_in_list", .glo "_trouble_in_record", .glo "_law_cell", .glo "_law_pool", .glo "_law_draw", .glo "_law_words"]
def fa1 : List He.Fa := [.glo "_law_form", .glo "_law_form_text", .glo "_law_one_right", .glo "_law_right", .glo "_law_type_right", .glo "_law_right_of_parts", .glo "law", .glo "Reader", .glo "Type", .free "len", .free "abs", .free "divmod", .free "min", .free "max", .free "all", .free "sorted", .free "isinstance", .free "repr", .free "ord", .free "range"]
def fa2 : List He.Fa := [.free "zip", .free "tuple", .free "list", .free "str", .free "int", .free "bool", .free "dict", .free "any", .free "set", .free "enumerate", .int "MAX_ELEMENTS" 60, .int "MAX_LEVELS" 6, .int "NEWLINE" 10, .int "SPACE" 32, .int "PERCENT" 37, .int "TILDE" 126, .int "MAX_LETTERS" 12, .cls "Reader", .cls "Type", .mkr "Reader"]
def fa3 : List He.Fa := [.mkr "Type", .noat "Reader" "written", .noat "Reader" "at", .noat "Type" "kind", .noat "Type" "inner", .noat "Type" "key", .noat "Type" "fields", .noat "Type" "_writing", .meth "Reader" "skips", .meth "Reader" "starts", .meth "Reader" "needs", .meth "Reader" "letters", .meth "Reader" "ended", .meth "Type" "__eq__", .meth "Type" "__str__", .meth "Type" "__repr__"]
def fa : List He.Fa := fa0 ++ fa1 ++ fa2 ++ fa3
def loose0 : List PySem.Str := ["_wall", "ShapeError", "InvalidText", "MAX_ELEMENTS", "MAX_LEVELS", "NEWLINE", "SPACE", "PERCENT", "TILDE", "is_sign", "is_text", "is_letter", "MAX_LETTERS", "is_name", "Reader", "Type", "kind_of", "_writing_of", "_read_whole", "_read_part"]
def loose1 : List PySem.Str := ["_read_required", "_read_list", "_can_be_key", "_read_record", "_read_field", "_first_trouble", "_trouble_in_list", "_trouble_in_record", "_law_cell", "_law_pool", "_law_draw", "_law_words", "_law_form", "_law_form_text", "_law_one_right", "_law_right", "_law_type_right", "_law_right_of_parts"]
def loose : List PySem.Str := loose0 ++ loose1
/-- what else is found at the class of types -/
def tyA (K : PySem.W.Frag) : Addr := He.ga K "Type"
def edA (K : PySem.W.Frag) : Addr := He.dflAt ("Type", some "__init__") 2 K
def atType (K : PySem.W.Frag) (n b : String) : Bool := He.eqO (PySem.W.findIn K (.ref (tyA K)) n) (some (some (.builtin b)))
def exObj (K : PySem.W.Frag) : Bool := atType K "__format__" "object.__format__" && (atType K "__ne__" "object.__ne__" && (atType K "__class__" "object.__class__" && decide (PySem.W.mroIn K (tyA K) (.type "object") = some true)))
def exCls (K : PySem.W.Frag) : Bool := He.eqO (PySem.W.specialIn K (.builtin "object.__class__") "__get__") (some (some (.builtin "getset_descriptor.__get__"))) && decide (PySem.W.takesIn K (.builtin "object.__class__") = some true)
def exRead (K : PySem.W.Frag) : Bool := He5.wrapB K (tyA K) "classmethod" "classmethod.__get__" "read" && (PySem.W.fnIn K (He5.wf K (tyA K) "classmethod" "read") && (PySem.W.readsIn K (tyA K) (.type "type") && He.eqO (PySem.W.specialIn K (.ref (tyA K)) "__getattribute__") (some (some (.builtin "type.__getattribute__")))))
def readA (K : PySem.W.Frag) : Addr := He.ma K (tyA K) "read"
def exInst (K : PySem.W.Frag) : Bool := PySem.W.isClsIn K (tyA K) && (He.eqO (PySem.W.findIn K (.ref (tyA K)) "read") (some (some (.ref (readA K)))) && (decide (PySem.W.typeIn K (.ref (readA K)) = some (.type "classmethod")) && (He.eqO (PySem.W.specialIn K (.ref (readA K)) "__get__") (some (some (.builtin "classmethod.__get__"))) && decide (PySem.W.takesIn K (.ref (readA K)) = some false))))
def exTruth (K : PySem.W.Frag) : Bool := He.eqO (PySem.W.findIn K (.ref (tyA K)) "__bool__") (some none) && (He.eqO (PySem.W.findIn K (.ref (tyA K)) "__len__") (some none) && decide (PySem.W.typeIn K (.ref (tyA K)) = some (.type "type")))
def nilB (K : PySem.W.Frag) (a : Addr) : Bool := match K.lookup a with
  | some o => decide (o.cls = .type "tuple") && (match o.data with
    | .seq its _ => decide (its.size = 0)
    | _ => false)
  | none => false
theorem nil_of {K : PySem.W.Frag} {a : Addr} (h : nilB K a = true) : NilAt K a := by
  intro H
  unfold nilB at h
  split at h
  · rename_i o e
    obtain ⟨h1, h2⟩ := He.ba h
    split at h2
    · rename_i its n ed
      have z : its = #[] := Array.size_eq_zero_iff.mp (of_decide_eq_true h2)
      subst z
      exact .inr ⟨o, #[], n, e, of_decide_eq_true h1, ed, Nat.zero_le _, .nil⟩
    · cases h2
  · cases h
def exMore (K : PySem.W.Frag) : Bool := exInst K && (exTruth K && nilB K (edA K))
def ex (K : PySem.W.Frag) : Bool := exObj K && (exCls K && (exRead K && exMore K))
/-- the written part -/
def partOf (g : Addr → Option Obj) : PySem.W.Frag := He.frT g (He5.asA g 6)
structure Told (K : PySem.W.Frag) : Prop where
  facts : He5.SaysA fa fn K
  more : ex K = true
abbrev seen (g : Addr → Option Obj) : He.AlD × Bool := (He5.obsA fa fn (partOf g), ex (partOf g))
def hk : PySem.W.Hook where
  α := He.AlD × Bool
  obs := fun s => seen s.heap.get?
  val := fun _ => (He5.valA fn, true)
  says := fun _ h => ∃ K : PySem.W.Frag, K.In h ∧ Told K
  of := fun _ _ e => ⟨partOf _, He.frT_in, (Prod.mk.inj e).1, (Prod.mk.inj e).2⟩
  keeps := fun _ _ _ h k => h.imp fun _ t => ⟨t.1.keeps k, t.2⟩
def ob (s : PySem.W.SharedT) : He.AlD × Bool := seen (HandSHeadRun.getT s)
theorem ob_eq (s : PySem.W.SharedT) : ob s = hk.obs s.abs := by
  have e : HandSHeadRun.getT s = s.abs.heap.get? := funext (HandSHeadRun.getT_eq s)
  unfold ob
  rw [e]
  rfl
abbrev R : PySem.W.OpenRow := PySem.W.OpenLaw.row PySem.Challenge.rw_shapekeep_k02_types_read_and_written
theorem topRun (w : World) : HandSHeadRun.RunEq R (PySem.W.view R.prog [44]) hk ob 6000 loose w := by
  intro os
  kernel_rfl
end KX

namespace KX
open PySem PySem.Spec L2 PyProof.Rows
/-- the tokens of the module's numbers -/
def tkOf (mg : Str → Option Value) (x : Str) : Tok := match mg x with
  | some (.int _ t) => t
  | _ => 0
theorem tk_of {mg : Str → Option Value} {x : Str} {i : Int} (h : ∃ t, mg x = some (.int i t)) : mg x = some (.int i (tkOf mg x)) := by
  obtain ⟨t, e⟩ := h
  unfold tkOf
  rw [e]
theorem vals_take {vs : List V} {us : List Value} (h : Vals vs us) : ∀ n, Vals (vs.take n) (us.take n) := by
  induction h with
  | nil => intro n; rw [List.take_nil, List.take_nil]; exact .nil
  | cons r _ ih =>
    intro n
    cases n with
    | zero => exact .nil
    | succ n => exact .cons r (ih n)
abbrev InitD (K : PySem.W.Frag) (E f : Addr) (fd : FuncData) : Prop := FunD K "__init__" "Type.__init__" (defArgs s_tinit) (defBody s_tinit) (defScope s_tinit) [.non, .non, .ref E] [] f fd
section
variable {K : PySem.W.Frag} {E f : Addr} {fd : FuncData}
theorem init_0 (F : InitD K E f fd) : ∃ ds, L2.Binds K fd P_tinit ds ∧ Vals [V.non, V.non, V.ref E] ds := by
  obtain ⟨ds, a, b⟩ := F.binds1 (ps := P_tinit) 2 0 (by simp) rfl fun T kV doc pm an cdv ct us its l1 l2 => match us, l1, its, l2 with
    | [_, _], _, [_, _, _], _ => ⟨_, rfl, rfl⟩
  exact ⟨ds, b, a⟩
theorem init_inner (F : InitD K E f fd) : ∃ g : List Value → List Value → List Value, KBn K fd P_tinit 2 ["inner"] g fun vs zs => vs ++ zs ++ [.non, .ref E] := by
  obtain ⟨its, h⟩ := F.kbindsD (ps := P_tinit) 2 ["inner"] (fun us ds ws => us ++ ws ++ ds.drop 1) (by simp) (fun a b c => (a.append c).append (b.drop 1)) fun T kV doc pm an cdv ct us its ws l1 l2 l3 => match us, l1, its, l2, ws, l3 with
    | [_, _], _, [_, _, _], _, [_], _ => ⟨_, rfl, rfl⟩
  exact ⟨_, h⟩
theorem init_key (F : InitD K E f fd) : ∃ g : List Value → List Value → List Value, KBn K fd P_tinit 2 ["inner", "key"] g fun vs zs => vs ++ zs ++ [.ref E] := by
  obtain ⟨its, h⟩ := F.kbindsD (ps := P_tinit) 2 ["inner", "key"] (fun us ds ws => us ++ ws ++ ds.drop 2) (by simp) (fun a b c => (a.append c).append (b.drop 2)) fun T kV doc pm an cdv ct us its ws l1 l2 l3 => match us, l1, its, l2, ws, l3 with
    | [_, _], _, [_, _, _], _, [_, _], _ => ⟨_, rfl, rfl⟩
  exact ⟨_, h⟩
theorem init_fields (F : InitD K E f fd) : ∃ g : List Value → List Value → List Value, KBn K fd P_tinit 2 ["fields"] g fun vs zs => vs ++ [.non, .non] ++ zs := by
  obtain ⟨its, h⟩ := F.kbindsD (ps := P_tinit) 2 ["fields"] (fun us ds ws => us ++ ds.take 2 ++ ws) (by simp) (fun a b c => (a.append (vals_take b 2)).append c) fun T kV doc pm an cdv ct us its ws l1 l2 l3 => match us, l1, its, l2, ws, l3 with
    | [_, _], _, [_, _, _], _, [_], _ => ⟨_, rfl, rfl⟩
  exact ⟨_, h⟩
end

section
variable {K : PySem.W.Frag} {f C : Addr} {fd : FuncData}
theorem read_named (F : Fun K "read" "Type.read" s_tread f fd) : KBn K fd P_tread 1 ["text"] gTwo gTwo := by
  obtain ⟨oc, od, kV, doc, pm, an, cdv, ct, osl, rfl, lk, code⟩ := F.ex
  refine ⟨fun s us ws _ l1 l2 => ?_, fun a b => a.append b⟩
  match us, l1, ws, l2 with
  | [c], _, [t], _ => exact .of_eq rfl
theorem kit_far {T : String} {l : List Value} (cls : PySem.W.isClsIn K C = true) (ty : PySem.W.typeIn K (.ref C) = some (.type "type")) (e : PySem.fastBuiltinMro T = some l) (no : l.contains (.ref C) = false) : PySem.W.kitOne K (.type T) (.ref C) = some false := by
  have apart : (Value.type T == Value.ref C) = false := by rfl
  have c : (PySem.W.clsIn K C).isSome = true := cls
  unfold PySem.W.kitOne PySem.W.kitCls
  rw [apart]
  show (if ((PySem.W.clsIn K C).isSome && PySem.W.typeIn K (.ref C) == some (.type "type")) = true then PySem.W.subIn K (.type T) (.ref C) else none) = some false
  rw [c, ty]
  simp only [beq_self_eq_true, Bool.and_self, if_true]
  show (PySem.fastBuiltinMro T).map (·.contains (.ref C)) = some false
  rw [e, Option.map_some, no]
end

theorem facts {P : Program} {w : World} {K : PySem.W.Frag} {h : Heap} {mg : Str → Option Value} {f : Addr} (X : K.In h) (G : h.Ns mainGlobals mg) (hfa : mg ("law" : Str) = some (.ref f)) (c : Told K) :
    ∃ fd : FuncData, (∀ (s : Shared) (v : Value), BindsTo s fd ⟨[v], []⟩ [("_law_script", v)]) ∧ ∀ base : Heap, K.In base → base.Ns mainGlobals mg → FnOk P w K mg base CX0 37 f fd P_law (spLaw K) := by
  have d := c.facts
  obtain ⟨exO, exMore⟩ := He.ba c.more
  obtain ⟨exC, exRM⟩ := He.ba exMore
  obtain ⟨exR, exM⟩ := He.ba exRM
  obtain ⟨exI, exTN⟩ := He.ba exM
  obtain ⟨exT, exN⟩ := He.ba exTN
  obtain ⟨i1, i⟩ := He.ba exI
  obtain ⟨i2, i⟩ := He.ba i
  obtain ⟨i3, i⟩ := He.ba i
  obtain ⟨i4, i5⟩ := He.ba i
  obtain ⟨t1, t⟩ := He.ba exT
  obtain ⟨t2, t3⟩ := He.ba t
  obtain ⟨o1, o⟩ := He.ba exO
  obtain ⟨o2, o⟩ := He.ba o
  obtain ⟨o3, o4⟩ := He.ba o
  obtain ⟨c1, c2⟩ := He.ba exC
  obtain ⟨r1, r⟩ := He.ba exR
  obtain ⟨r2, r⟩ := He.ba r
  obtain ⟨r3, r4⟩ := He.ba r
  have T0 : Bl mg := by
    constructor
    · exact He.free_ok X G (d.fact 29 (f := .free "len") rfl)
    · exact He.free_ok X G (d.fact 30 (f := .free "abs") rfl)
    · exact He.free_ok X G (d.fact 31 (f := .free "divmod") rfl)
    · exact He.free_ok X G (d.fact 32 (f := .free "min") rfl)
    · exact He.free_ok X G (d.fact 33 (f := .free "max") rfl)
    · exact He.free_ok X G (d.fact 34 (f := .free "all") rfl)
    · exact He.free_ok X G (d.fact 35 (f := .free "sorted") rfl)
    · exact He.free_ok X G (d.fact 36 (f := .free "isinstance") rfl)
    · exact He.free_ok X G (d.fact 37 (f := .free "repr") rfl)
    · exact He.free_ok X G (d.fact 38 (f := .free "ord") rfl)
    · exact He.free_ok X G (d.fact 39 (f := .free "range") rfl)
    · exact He.free_ok X G (d.fact 40 (f := .free "zip") rfl)
    · exact He.free_ok X G (d.fact 41 (f := .free "tuple") rfl)
    · exact He.free_ok X G (d.fact 42 (f := .free "list") rfl)
    · exact He.free_ok X G (d.fact 43 (f := .free "str") rfl)
    · exact He.free_ok X G (d.fact 44 (f := .free "int") rfl)
    · exact He.free_ok X G (d.fact 45 (f := .free "bool") rfl)
    · exact He.free_ok X G (d.fact 46 (f := .free "dict") rfl)
  have T : BlT mg := { toBl := T0, any := He.free_ok X G (d.fact 47 (f := .free "any") rfl), set := He.free_ok X G (d.fact 48 (f := .free "set") rfl), enumerate := He.free_ok X G (d.fact 49 (f := .free "enumerate") rfl) }
  have Lm : Lm mg (tkOf mg) := by
    constructor
    · exact tk_of (He.int_ok X G (d.fact 52 (f := .int "NEWLINE" 10) rfl))
    · exact tk_of (He.int_ok X G (d.fact 53 (f := .int "SPACE" 32) rfl))
    · exact tk_of (He.int_ok X G (d.fact 54 (f := .int "PERCENT" 37) rfl))
    · exact tk_of (He.int_ok X G (d.fact 55 (f := .int "TILDE" 126) rfl))
    · exact tk_of (He.int_ok X G (d.fact 50 (f := .int "MAX_ELEMENTS" 60) rfl))
    · exact tk_of (He.int_ok X G (d.fact 51 (f := .int "MAX_LEVELS" 6) rfl))
    · exact tk_of (He.int_ok X G (d.fact 56 (f := .int "MAX_LETTERS" 12) rfl))
  have gReader : mg "Reader" = some (.ref (He.ga K "Reader")) := He.glo_ok X G (d.fact 27 (f := .glo "Reader") rfl)
  have clReader : Cls K (He.ga K "Reader") := He.cls_ok (d.fact 57 (f := .cls "Reader") rfl)
  have mkReader : Mk K (He.ga K "Reader") (He.ma K (He.ga K "Reader") "__init__") := He.mkr_ok (d.fact 59 (f := .mkr "Reader") rfl)
  have gType : mg "Type" = some (.ref (He.ga K "Type")) := He.glo_ok X G (d.fact 28 (f := .glo "Type") rfl)
  have clType : Cls K (He.ga K "Type") := He.cls_ok (d.fact 58 (f := .cls "Type") rfl)
  have mkType : Mk K (He.ga K "Type") (He.ma K (He.ga K "Type") "__init__") := He.mkr_ok (d.fact 60 (f := .mkr "Type") rfl)
  have RC : RdC K (He.ga K "Reader") := ⟨clReader, He.noat_ok (d.fact 61 (f := .noat "Reader" "written") rfl), He.noat_ok (d.fact 62 (f := .noat "Reader" "at") rfl)⟩
  have TC : TyC K (He.ga K "Type") := ⟨clType, He.noat_ok (d.fact 63 (f := .noat "Type" "kind") rfl), He.noat_ok (d.fact 64 (f := .noat "Type" "inner") rfl), He.noat_ok (d.fact 65 (f := .noat "Type" "key") rfl), He.noat_ok (d.fact 66 (f := .noat "Type" "fields") rfl), He.noat_ok (d.fact 67 (f := .noat "Type" "_writing") rfl), He.eqO_ok o1, of_decide_eq_true o4⟩
  have own : IsOwn K (He.ga K "Type") := fun H a dx fs e => TyOf.ins e clType (He.eqO_ok o3) (He.eqO_ok c1) (of_decide_eq_true c2) (of_decide_eq_true o4)
  obtain ⟨f_is_letter, U_is_letter⟩ := d.def_ 2 (d := dd2) rfl
  have F_is_letter : Fun K "is_letter" "is_letter" s_is_letter (He.ga K "is_letter") f_is_letter := He5.fun_of U_is_letter
  have G_is_letter : mg "is_letter" = some (.ref (He.ga K "is_letter")) := He.glo_ok X G (d.fact 2 (f := .glo "is_letter") rfl)
  have B_is_letter : L2.Binds K f_is_letter P_is_letter [] := F_is_letter.binds fun _ _ _ _ _ _ us hl => match us, hl with | [_], _ => rfl
  obtain ⟨f_is_name, U_is_name⟩ := d.def_ 3 (d := dd3) rfl
  have F_is_name : Fun K "is_name" "is_name" s_is_name (He.ga K "is_name") f_is_name := He5.fun_of U_is_name
  have G_is_name : mg "is_name" = some (.ref (He.ga K "is_name")) := He.glo_ok X G (d.fact 3 (f := .glo "is_name") rfl)
  have B_is_name : L2.Binds K f_is_name P_is_name [] := F_is_name.binds fun _ _ _ _ _ _ us hl => match us, hl with | [_], _ => rfl
  obtain ⟨f__writing_of, U__writing_of⟩ := d.def_ 5 (d := dd5) rfl
  have F__writing_of : Fun K "_writing_of" "_writing_of" s_wof (He.ga K "_writing_of") f__writing_of := He5.fun_of U__writing_of
  have G__writing_of : mg "_writing_of" = some (.ref (He.ga K "_writing_of")) := He.glo_ok X G (d.fact 5 (f := .glo "_writing_of") rfl)
  have B__writing_of : L2.Binds K f__writing_of P_wof [] := F__writing_of.binds fun _ _ _ _ _ _ us hl => match us, hl with | [_, _, _, _], _ => rfl
  obtain ⟨f__read_whole, U__read_whole⟩ := d.def_ 6 (d := dd6) rfl
  have F__read_whole : Fun K "_read_whole" "_read_whole" s_whole (He.ga K "_read_whole") f__read_whole := He5.fun_of U__read_whole
  have G__read_whole : mg "_read_whole" = some (.ref (He.ga K "_read_whole")) := He.glo_ok X G (d.fact 6 (f := .glo "_read_whole") rfl)
  have B__read_whole : L2.Binds K f__read_whole P_whole [] := F__read_whole.binds fun _ _ _ _ _ _ us hl => match us, hl with | [_], _ => rfl
  obtain ⟨f__read_part, U__read_part⟩ := d.def_ 7 (d := dd7) rfl
  have F__read_part : Fun K "_read_part" "_read_part" s_part (He.ga K "_read_part") f__read_part := He5.fun_of U__read_part
  have G__read_part : mg "_read_part" = some (.ref (He.ga K "_read_part")) := He.glo_ok X G (d.fact 7 (f := .glo "_read_part") rfl)
  have B__read_part : L2.Binds K f__read_part P_part [] := F__read_part.binds fun _ _ _ _ _ _ us hl => match us, hl with | [_, _], _ => rfl
  obtain ⟨f__read_required, U__read_required⟩ := d.def_ 8 (d := dd8) rfl
  have F__read_required : Fun K "_read_required" "_read_required" s_req (He.ga K "_read_required") f__read_required := He5.fun_of U__read_required
  have G__read_required : mg "_read_required" = some (.ref (He.ga K "_read_required")) := He.glo_ok X G (d.fact 8 (f := .glo "_read_required") rfl)
  have B__read_required : L2.Binds K f__read_required P_req [] := F__read_required.binds fun _ _ _ _ _ _ us hl => match us, hl with | [_, _], _ => rfl
  obtain ⟨f__read_list, U__read_list⟩ := d.def_ 9 (d := dd9) rfl
  have F__read_list : Fun K "_read_list" "_read_list" s_rlist (He.ga K "_read_list") f__read_list := He5.fun_of U__read_list
  have G__read_list : mg "_read_list" = some (.ref (He.ga K "_read_list")) := He.glo_ok X G (d.fact 9 (f := .glo "_read_list") rfl)
  have B__read_list : L2.Binds K f__read_list P_rlist [] := F__read_list.binds fun _ _ _ _ _ _ us hl => match us, hl with | [_, _], _ => rfl
  obtain ⟨f__can_be_key, U__can_be_key⟩ := d.def_ 10 (d := dd10) rfl
  have F__can_be_key : Fun K "_can_be_key" "_can_be_key" s_can (He.ga K "_can_be_key") f__can_be_key := He5.fun_of U__can_be_key
  have G__can_be_key : mg "_can_be_key" = some (.ref (He.ga K "_can_be_key")) := He.glo_ok X G (d.fact 10 (f := .glo "_can_be_key") rfl)
  have B__can_be_key : L2.Binds K f__can_be_key P_can [] := F__can_be_key.binds fun _ _ _ _ _ _ us hl => match us, hl with | [_, _], _ => rfl
  obtain ⟨f__read_record, U__read_record⟩ := d.def_ 11 (d := dd11) rfl
  have F__read_record : Fun K "_read_record" "_read_record" s_rrec (He.ga K "_read_record") f__read_record := He5.fun_of U__read_record
  have G__read_record : mg "_read_record" = some (.ref (He.ga K "_read_record")) := He.glo_ok X G (d.fact 11 (f := .glo "_read_record") rfl)
  have B__read_record : L2.Binds K f__read_record P_rrec [] := F__read_record.binds fun _ _ _ _ _ _ us hl => match us, hl with | [_, _], _ => rfl
  obtain ⟨f__read_field, U__read_field⟩ := d.def_ 12 (d := dd12) rfl
  have F__read_field : Fun K "_read_field" "_read_field" s_field (He.ga K "_read_field") f__read_field := He5.fun_of U__read_field
  have G__read_field : mg "_read_field" = some (.ref (He.ga K "_read_field")) := He.glo_ok X G (d.fact 12 (f := .glo "_read_field") rfl)
  have B__read_field : L2.Binds K f__read_field P_field [] := F__read_field.binds fun _ _ _ _ _ _ us hl => match us, hl with | [_, _], _ => rfl
  obtain ⟨f__law_cell, U__law_cell⟩ := d.def_ 16 (d := dd16) rfl
  have F__law_cell : Fun K "_law_cell" "_law_cell" s_cell (He.ga K "_law_cell") f__law_cell := He5.fun_of U__law_cell
  have G__law_cell : mg "_law_cell" = some (.ref (He.ga K "_law_cell")) := He.glo_ok X G (d.fact 16 (f := .glo "_law_cell") rfl)
  have B__law_cell : L2.Binds K f__law_cell P_cell [] := F__law_cell.binds fun _ _ _ _ _ _ us hl => match us, hl with | [_, _], _ => rfl
  obtain ⟨f__law_pool, U__law_pool⟩ := d.def_ 17 (d := dd17) rfl
  have F__law_pool : Fun K "_law_pool" "_law_pool" s_pool (He.ga K "_law_pool") f__law_pool := He5.fun_of U__law_pool
  have G__law_pool : mg "_law_pool" = some (.ref (He.ga K "_law_pool")) := He.glo_ok X G (d.fact 17 (f := .glo "_law_pool") rfl)
  have B__law_pool : L2.Binds K f__law_pool P_pool [] := F__law_pool.binds fun _ _ _ _ _ _ us hl => match us, hl with | [_], _ => rfl
  obtain ⟨f__law_draw, U__law_draw⟩ := d.def_ 18 (d := dd18) rfl
  have F__law_draw : Fun K "_law_draw" "_law_draw" s_draw (He.ga K "_law_draw") f__law_draw := He5.fun_of U__law_draw
  have G__law_draw : mg "_law_draw" = some (.ref (He.ga K "_law_draw")) := He.glo_ok X G (d.fact 18 (f := .glo "_law_draw") rfl)
  have B__law_draw : L2.Binds K f__law_draw P_draw [] := F__law_draw.binds fun _ _ _ _ _ _ us hl => match us, hl with | [_, _], _ => rfl
  obtain ⟨f__law_words, U__law_words⟩ := d.def_ 19 (d := dd19) rfl
  have F__law_words : Fun K "_law_words" "_law_words" s_words (He.ga K "_law_words") f__law_words := He5.fun_of U__law_words
  have G__law_words : mg "_law_words" = some (.ref (He.ga K "_law_words")) := He.glo_ok X G (d.fact 19 (f := .glo "_law_words") rfl)
  have B__law_words : L2.Binds K f__law_words P_words [] := F__law_words.binds fun _ _ _ _ _ _ us hl => match us, hl with | [_, _], _ => rfl
  obtain ⟨f__law_form, U__law_form⟩ := d.def_ 20 (d := dd20) rfl
  have F__law_form : Fun K "_law_form" "_law_form" s_form (He.ga K "_law_form") f__law_form := He5.fun_of U__law_form
  have G__law_form : mg "_law_form" = some (.ref (He.ga K "_law_form")) := He.glo_ok X G (d.fact 20 (f := .glo "_law_form") rfl)
  have B__law_form : L2.Binds K f__law_form P_form [] := F__law_form.binds fun _ _ _ _ _ _ us hl => match us, hl with | [_, _], _ => rfl
  obtain ⟨f__law_form_text, U__law_form_text⟩ := d.def_ 21 (d := dd21) rfl
  have F__law_form_text : Fun K "_law_form_text" "_law_form_text" s_ftext (He.ga K "_law_form_text") f__law_form_text := He5.fun_of U__law_form_text
  have G__law_form_text : mg "_law_form_text" = some (.ref (He.ga K "_law_form_text")) := He.glo_ok X G (d.fact 21 (f := .glo "_law_form_text") rfl)
  have B__law_form_text : L2.Binds K f__law_form_text P_ftext [] := F__law_form_text.binds fun _ _ _ _ _ _ us hl => match us, hl with | [_], _ => rfl
  obtain ⟨f__law_one_right, U__law_one_right⟩ := d.def_ 22 (d := dd22) rfl
  have F__law_one_right : Fun K "_law_one_right" "_law_one_right" s_one (He.ga K "_law_one_right") f__law_one_right := He5.fun_of U__law_one_right
  have G__law_one_right : mg "_law_one_right" = some (.ref (He.ga K "_law_one_right")) := He.glo_ok X G (d.fact 22 (f := .glo "_law_one_right") rfl)
  have B__law_one_right : L2.Binds K f__law_one_right P_one [] := F__law_one_right.binds fun _ _ _ _ _ _ us hl => match us, hl with | [_], _ => rfl
  obtain ⟨f__law_right, U__law_right⟩ := d.def_ 23 (d := dd23) rfl
  have F__law_right : Fun K "_law_right" "_law_right" s_right (He.ga K "_law_right") f__law_right := He5.fun_of U__law_right
  have G__law_right : mg "_law_right" = some (.ref (He.ga K "_law_right")) := He.glo_ok X G (d.fact 23 (f := .glo "_law_right") rfl)
  have B__law_right : L2.Binds K f__law_right P_right [] := F__law_right.binds fun _ _ _ _ _ _ us hl => match us, hl with | [_], _ => rfl
  obtain ⟨f__law_type_right, U__law_type_right⟩ := d.def_ 24 (d := dd24) rfl
  have F__law_type_right : Fun K "_law_type_right" "_law_type_right" s_tright (He.ga K "_law_type_right") f__law_type_right := He5.fun_of U__law_type_right
  have G__law_type_right : mg "_law_type_right" = some (.ref (He.ga K "_law_type_right")) := He.glo_ok X G (d.fact 24 (f := .glo "_law_type_right") rfl)
  have B__law_type_right : L2.Binds K f__law_type_right P_tright [] := F__law_type_right.binds fun _ _ _ _ _ _ us hl => match us, hl with | [_, _], _ => rfl
  obtain ⟨f__law_right_of_parts, U__law_right_of_parts⟩ := d.def_ 25 (d := dd25) rfl
  have F__law_right_of_parts : Fun K "_law_right_of_parts" "_law_right_of_parts" s_rparts (He.ga K "_law_right_of_parts") f__law_right_of_parts := He5.fun_of U__law_right_of_parts
  have G__law_right_of_parts : mg "_law_right_of_parts" = some (.ref (He.ga K "_law_right_of_parts")) := He.glo_ok X G (d.fact 25 (f := .glo "_law_right_of_parts") rfl)
  have B__law_right_of_parts : L2.Binds K f__law_right_of_parts P_rparts [] := F__law_right_of_parts.binds fun _ _ _ _ _ _ us hl => match us, hl with | [_], _ => rfl
  obtain ⟨f_law, U_law⟩ := d.def_ 26 (d := dd26) rfl
  have F_law : Fun K "law" "law" s_law (He.ga K "law") f_law := He5.fun_of U_law
  obtain ⟨f_Reader___init__, U_Reader___init__⟩ := d.def_ 27 (d := dd27) rfl
  have F_Reader___init__ : Fun K "__init__" "Reader.__init__" s_rinit (He.ma K (He.ga K "Reader") "__init__") f_Reader___init__ := He5.fun_of U_Reader___init__
  have B_Reader___init__ : L2.Binds K f_Reader___init__ P_rinit [] := F_Reader___init__.binds fun _ _ _ _ _ _ us hl => match us, hl with | [_, _], _ => rfl
  obtain ⟨f_Reader_skips, U_Reader_skips⟩ := d.def_ 28 (d := dd28) rfl
  have F_Reader_skips : Fun K "skips" "Reader.skips" s_skips (He.ma K (He.ga K "Reader") "skips") f_Reader_skips := He5.fun_of U_Reader_skips
  have B_Reader_skips : L2.Binds K f_Reader_skips P_skips [] := F_Reader_skips.binds fun _ _ _ _ _ _ us hl => match us, hl with | [_, _], _ => rfl
  obtain ⟨f_Reader_starts, U_Reader_starts⟩ := d.def_ 29 (d := dd29) rfl
  have F_Reader_starts : Fun K "starts" "Reader.starts" s_starts (He.ma K (He.ga K "Reader") "starts") f_Reader_starts := He5.fun_of U_Reader_starts
  have B_Reader_starts : L2.Binds K f_Reader_starts P_starts [] := F_Reader_starts.binds fun _ _ _ _ _ _ us hl => match us, hl with | [_, _], _ => rfl
  obtain ⟨f_Reader_needs, U_Reader_needs⟩ := d.def_ 30 (d := dd30) rfl
  have F_Reader_needs : Fun K "needs" "Reader.needs" s_needs (He.ma K (He.ga K "Reader") "needs") f_Reader_needs := He5.fun_of U_Reader_needs
  have B_Reader_needs : L2.Binds K f_Reader_needs P_needs [] := F_Reader_needs.binds fun _ _ _ _ _ _ us hl => match us, hl with | [_, _], _ => rfl
  obtain ⟨f_Reader_letters, U_Reader_letters⟩ := d.def_ 31 (d := dd31) rfl
  have F_Reader_letters : Fun K "letters" "Reader.letters" s_letters (He.ma K (He.ga K "Reader") "letters") f_Reader_letters := He5.fun_of U_Reader_letters
  have B_Reader_letters : L2.Binds K f_Reader_letters P_letters [] := F_Reader_letters.binds fun _ _ _ _ _ _ us hl => match us, hl with | [_], _ => rfl
  obtain ⟨f_Reader_ended, U_Reader_ended⟩ := d.def_ 32 (d := dd32) rfl
  have F_Reader_ended : Fun K "ended" "Reader.ended" s_ended (He.ma K (He.ga K "Reader") "ended") f_Reader_ended := He5.fun_of U_Reader_ended
  have B_Reader_ended : L2.Binds K f_Reader_ended P_ended [] := F_Reader_ended.binds fun _ _ _ _ _ _ us hl => match us, hl with | [_], _ => rfl
  obtain ⟨f_Type_read, U_Type_read⟩ := d.def_ 34 (d := dd34) rfl
  have F_Type_read : Fun K "read" "Type.read" s_tread (He5.wf K (He.ga K "Type") "classmethod" "read") f_Type_read := He5.fun_of U_Type_read
  have B_Type_read : L2.Binds K f_Type_read P_tread [] := F_Type_read.binds fun _ _ _ _ _ _ us hl => match us, hl with | [_, _], _ => rfl
  obtain ⟨f_Type___eq__, U_Type___eq__⟩ := d.def_ 35 (d := dd35) rfl
  have F_Type___eq__ : Fun K "__eq__" "Type.__eq__" s_teq (He.ma K (He.ga K "Type") "__eq__") f_Type___eq__ := He5.fun_of U_Type___eq__
  have B_Type___eq__ : L2.Binds K f_Type___eq__ P_teq [] := F_Type___eq__.binds fun _ _ _ _ _ _ us hl => match us, hl with | [_, _], _ => rfl
  obtain ⟨f_Type___str__, U_Type___str__⟩ := d.def_ 36 (d := dd36) rfl
  have F_Type___str__ : Fun K "__str__" "Type.__str__" s_tstr (He.ma K (He.ga K "Type") "__str__") f_Type___str__ := He5.fun_of U_Type___str__
  have B_Type___str__ : L2.Binds K f_Type___str__ P_tstr [] := F_Type___str__.binds fun _ _ _ _ _ _ us hl => match us, hl with | [_], _ => rfl
  obtain ⟨f_Type___repr__, U_Type___repr__⟩ := d.def_ 37 (d := dd37) rfl
  have F_Type___repr__ : Fun K "__repr__" "Type.__repr__" s_repr (He.ma K (He.ga K "Type") "__repr__") f_Type___repr__ := He5.fun_of U_Type___repr__
  have B_Type___repr__ : L2.Binds K f_Type___repr__ P_repr [] := F_Type___repr__.binds fun _ _ _ _ _ _ us hl => match us, hl with | [_], _ => rfl
  obtain ⟨f_init, U_init⟩ := d.def_ 33 (d := dd33) rfl
  have el := hfa.symm.trans (He.glo_ok X G (d.fact 26 (f := .glo "law") rfl))
  cases el
  refine ⟨f_law, fun s v => U_law.bindsA (ps := ["_law_script"]) (fun _ _ _ _ _ _ us hl => match us, hl with | [_], _ => rfl) s [v] rfl, fun base _ _ => ?_⟩
  have D_is_letter : Def P w K mg base "is_letter" 1 P_is_letter (spBetween 97 122) (He.ga K "is_letter") f_is_letter := ⟨G_is_letter, F_is_letter.kp, B_is_letter, ok_is_letter F_is_letter⟩
  have D_is_name : Def P w K mg base "is_name" 2 P_is_name spIsName (He.ga K "is_name") f_is_name := ⟨G_is_name, F_is_name.kp, B_is_name, ok_is_name F_is_name T0 Lm D_is_letter⟩
  have M_Type___str__ : MtD P w K mg base (He.ga K "Type") "__str__" 1 P_tstr (spTStr (He.ga K "Type")) (He.ma K (He.ga K "Type") "__str__") f_Type___str__ := ⟨clType, He.meth_ok (d.fact 74 (f := .meth "Type" "__str__") rfl), B_Type___str__, ok_tstr F_Type___str__ T0 TC⟩
  have D_writing_of : Def P w K mg base "_writing_of" 3 P_wof (spWof (He.ga K "Type") (edA K)) (He.ga K "_writing_of") f__writing_of := ⟨G__writing_of, F__writing_of.kp, B__writing_of, ok_wof F__writing_of TC M_Type___str__⟩
  have TD : TyD P w K mg base (He.ga K "Type") (edA K) (He.ma K (He.ga K "Type") "__init__") f_init := ⟨gType, mkType, ok_tinit U_init TC D_writing_of, init_0 U_init, init_inner U_init, init_key U_init, init_fields U_init⟩
  have D_can_be_key : Def P w K mg base "_can_be_key" 1 P_can (spCan (He.ga K "Type") (edA K)) (He.ga K "_can_be_key") f__can_be_key := ⟨G__can_be_key, F__can_be_key.kp, B__can_be_key, ok_can F__can_be_key T TC⟩
  have M_Reader_ended : MtD P w K mg base (He.ga K "Reader") "ended" 1 P_ended (spEnded (He.ga K "Reader")) (He.ma K (He.ga K "Reader") "ended") f_Reader_ended := ⟨clReader, He.meth_ok (d.fact 72 (f := .meth "Reader" "ended") rfl), B_Reader_ended, ok_ended F_Reader_ended T0 RC⟩
  have M_Reader_skips : MtD P w K mg base (He.ga K "Reader") "skips" 1 P_skips (spSkips (He.ga K "Reader")) (He.ma K (He.ga K "Reader") "skips") f_Reader_skips := ⟨clReader, He.meth_ok (d.fact 68 (f := .meth "Reader" "skips") rfl), B_Reader_skips, ok_skips F_Reader_skips T0 RC⟩
  have M_Reader_starts : MtD P w K mg base (He.ga K "Reader") "starts" 2 P_starts (spStarts (He.ga K "Reader") (He.ga K "is_letter")) (He.ma K (He.ga K "Reader") "starts") f_Reader_starts := ⟨clReader, He.meth_ok (d.fact 69 (f := .meth "Reader" "starts") rfl), B_Reader_starts, ok_starts F_Reader_starts RC M_Reader_ended D_is_letter⟩
  have M_Reader_letters : MtD P w K mg base (He.ga K "Reader") "letters" 3 P_letters (spLetters (He.ga K "Reader")) (He.ma K (He.ga K "Reader") "letters") f_Reader_letters := ⟨clReader, He.meth_ok (d.fact 71 (f := .meth "Reader" "letters") rfl), B_Reader_letters, ok_letters F_Reader_letters RC M_Reader_starts D_is_letter⟩
  have M_Reader_needs : MtD P w K mg base (He.ga K "Reader") "needs" 2 P_needs (spNeeds (He.ga K "Reader")) (He.ma K (He.ga K "Reader") "needs") f_Reader_needs := ⟨clReader, He.meth_ok (d.fact 70 (f := .meth "Reader" "needs") rfl), B_Reader_needs, ok_needs F_Reader_needs M_Reader_skips⟩
  have RDd : RdD P w K mg base (He.ga K "Reader") (He.ma K (He.ga K "Reader") "__init__") f_Reader___init__ := ⟨gReader, mkReader, B_Reader___init__, ok_rinit F_Reader___init__ RC⟩
  have RR : Reads P w K mg base (He.ga K "Type") (edA K) (He.ga K "Reader") _ _ _ _ _ _ _ _ _ _ _ _ _ _ _ _ _ _ _ _ _ _ := { part := ⟨G__read_part, F__read_part.kp, B__read_part, F__read_part⟩, req := ⟨G__read_required, F__read_required.kp, B__read_required, F__read_required⟩, list := ⟨G__read_list, F__read_list.kp, B__read_list, F__read_list⟩, rec' := ⟨G__read_record, F__read_record.kp, B__read_record, F__read_record⟩, field := ⟨G__read_field, F__read_field.kp, B__read_field, F__read_field⟩, can := D_can_be_key, TD := TD, skips := M_Reader_skips, letters := M_Reader_letters, needs := M_Reader_needs, name := D_is_name, T := T }
  have D_read_part := RR.all 7
  have D_read_whole : Def P w K mg base "_read_whole" 33 P_whole (spWhole (He.ga K "Type") (edA K)) (He.ga K "_read_whole") f__read_whole := ⟨G__read_whole, F__read_whole.kp, B__read_whole, ok_whole F__read_whole T Lm RDd M_Reader_ended D_read_part⟩
  have RT : ReadC P w K mg base (He.ga K "Type") (edA K) (.type "type") (He.ma K (He.ga K "Type") "read") (He5.wf K (He.ga K "Type") "classmethod" "read") f_Type_read := ⟨gType, ⟨r3, He.eqO_ok r4⟩, He5.cmet_of r1 r2, B_Type_read, ok_tread F_Type_read D_read_whole⟩
  have KR : KBn K f_Type_read P_tread 1 ["text"] gTwo gTwo := read_named F_Type_read
  have CI : ClX.CInst K (He.ga K "Type") "read" (He.ma K (He.ga K "Type") "read") (He5.wf K (He.ga K "Type") "classmethod" "read") := ⟨clType.pg, i1, He.eqO_ok i2, of_decide_eq_true i3, He.eqO_ok i4, of_decide_eq_true i5, by decide +kernel, RT.m.rc, RT.m.fi⟩
  have NT : NoTruth K (He.ga K "Type") := ⟨He.eqO_ok t1, He.eqO_ok t2⟩
  have kit : ∀ T l, PySem.fastBuiltinMro T = some l → l.contains (.ref (He.ga K "Type")) = false → PySem.W.kitOne K (.type T) (.ref (He.ga K "Type")) = some false := fun T l e no => kit_far i1 (of_decide_eq_true t3) e no
  have NA : NilAt K (edA K) := nil_of exN
  have M_Type___eq__ : MtD P w K mg base (He.ga K "Type") "__eq__" 1 P_teq (spTeq K (He.ga K "Type")) (He.ma K (He.ga K "Type") "__eq__") f_Type___eq__ := ⟨clType, He.meth_ok (d.fact 73 (f := .meth "Type" "__eq__") rfl), B_Type___eq__, ok_teq F_Type___eq__ T gType TC own⟩
  have D_law_cell : Def P w K mg base "_law_cell" 1 P_cell (spCell K) (He.ga K "_law_cell") f__law_cell := ⟨G__law_cell, F__law_cell.kp, B__law_cell, ok_cell F__law_cell T0⟩
  have D_law_pool : Def P w K mg base "_law_pool" 1 P_pool spPool (He.ga K "_law_pool") f__law_pool := ⟨G__law_pool, F__law_pool.kp, B__law_pool, ok_pool F__law_pool T0⟩
  have D_law_draw : Def P w K mg base "_law_draw" 1 P_draw spDraw (He.ga K "_law_draw") f__law_draw := ⟨G__law_draw, F__law_draw.kp, B__law_draw, ok_draw F__law_draw T0⟩
  have D_law_words : Def P w K mg base "_law_words" 2 P_words spWords (He.ga K "_law_words") f__law_words := ⟨G__law_words, F__law_words.kp, B__law_words, ok_words F__law_words T0 D_law_draw⟩
  have D_law_form_text : Def P w K mg base "_law_form_text" 8 P_ftext (spFText K 7) (He.ga K "_law_form_text") f__law_form_text := ⟨G__law_form_text, F__law_form_text.kp, B__law_form_text, ok_ftext F__law_form_text T0 G__law_form_text B__law_form_text 7⟩
  have D_law_form3 : Def P w K mg base "_law_form" 5 P_form (spFormL K 3) (He.ga K "_law_form") f__law_form := ⟨G__law_form, F__law_form.kp, B__law_form, ok_form F__law_form T0 G__law_form B__law_form D_law_draw D_law_words 3⟩
  have D_law_form4 : Def P w K mg base "_law_form" 6 P_form (spFormL K 4) (He.ga K "_law_form") f__law_form := ⟨G__law_form, F__law_form.kp, B__law_form, ok_form F__law_form T0 G__law_form B__law_form D_law_draw D_law_words 4⟩
  have M_Type___repr__ : MtD P w K mg base (He.ga K "Type") "__repr__" 1 P_repr (spRepr (He.ga K "Type")) (He.ma K (He.ga K "Type") "__repr__") f_Type___repr__ := ⟨clType, He.meth_ok (d.fact 75 (f := .meth "Type" "__repr__") rfl), B_Type___repr__, ok_repr F_Type___repr__ TC⟩
  have D_law_one_right : Def P w K mg base "_law_one_right" 35 P_one spOne (He.ga K "_law_one_right") f__law_one_right := ⟨G__law_one_right, F__law_one_right.kp, B__law_one_right, ok_one F__law_one_right T TC (He.eqO_ok o2) NT own RT KR CI M_Type___eq__ M_Type___str__ M_Type___repr__⟩
  have D_law_right : Def P w K mg base "_law_right" 36 P_right spRight (He.ga K "_law_right") f__law_right := ⟨G__law_right, F__law_right.kp, B__law_right, ok_right F__law_right T TC (He.eqO_ok o2) own kit RT M_Type___eq__ D_law_form4 D_law_form_text D_law_one_right⟩
  have D_law_type_right : Def P w K mg base "_law_type_right" 16 P_tright (spParts K (He.ga K "Type") (edA K) 7) (He.ga K "_law_type_right") f__law_type_right := ⟨G__law_type_right, F__law_type_right.kp, B__law_type_right, ok_tright F__law_type_right T TC own NA RT M_Type___str__ D_law_form_text G__law_type_right B__law_type_right 7⟩
  have D_law_right_of_parts : Def P w K mg base "_law_right_of_parts" 35 P_rparts spRParts (He.ga K "_law_right_of_parts") f__law_right_of_parts := ⟨G__law_right_of_parts, F__law_right_of_parts.kp, B__law_right_of_parts, ok_rparts F__law_right_of_parts RT T D_law_form3 D_law_form_text D_law_type_right⟩
  exact ok_law F_law T0 D_law_one_right D_law_right D_law_right_of_parts D_law_pool D_law_cell
end KX
open PySem PySem.W PySem.Calls PyProof.Rows
theorem PySem.Challenge.cw_shapekeep_k02_types_read_and_written_holds : PySem.Challenge.rw_shapekeep_k02_types_read_and_written.Holds := by
  w_on; o_law
  refine HandSHeadRun.head_any (r := KX.R) (q := view KX.R.prog [44]) (H := KX.hk) (ob := KX.ob) (M := 6000) (loose := KX.loose) (d := HandSHeadRun.topDef KX.R.prog 44) (kwd := []) KX.ob_eq
    (by kernel_rfl) (fun s => by kernel_rfl) KX.topRun (by kernel_rfl) (by kernel_rfl) (by kernel_rfl) (by rfl) (by first | assumption | decide +kernel) (by decide +kernel) ⟨rfl, rfl, rfl, rfl, rfl, by decide +kernel⟩ ?hw ?hc
  case hw => w_witness2
  case hc =>
    refine L2.walk_ofE (l := PySem.Challenge.rw_shapekeep_k02_types_read_and_written) (n := 63) (k := 37) (x := "_law_script") (CX := L2.CX0) rfl (by decide) (by kernel_rfl) ⟨rfl, by decide, by decide⟩ ?F (fun _ _ _ _ z => z)
    intro w mg fa h Y G hmg0
    obtain ⟨K, KI, c⟩ := Y
    have hmg : mg ("law" : PySem.Str) = some (.ref fa) := by
      have e : (HandSHeadRun.topDef KX.R.prog 44).name = ("law" : PySem.Str) := by kernel_rfl
      rw [← e]
      exact hmg0
    obtain ⟨fd, hb, hF⟩ := KX.facts (P := PySem.Challenge.rw_shapekeep_k02_types_read_and_written.prog) (w := w) KI G hmg c
    exact ⟨K, fd, KX.spLaw K, KI, hb, fun H a ns hl _ hS => ⟨a, ns, rfl, hS, hl, fun _ => rfl⟩, hF⟩

