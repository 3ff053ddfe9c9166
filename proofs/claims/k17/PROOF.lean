import PyProof.Rows.All
import Wide.All
import OpenK.AllK
import Wide.FinOn
import HandS.ForMost
import HandS.Flow
import HandS.IsInst
import HandS.Ends
import KE.KDictList
import HandS.Walk
import HandS.ReplaceLit
import HandS.ReplaceDef
import HandS.FStr
import HandS.Style
import HandS.NoneIn
import HandS.Defaults
import PyProof.ToksMono
import HandS.RaiseMore
import HandS.More
import HandS.Conv
import HandS.Zip
import HandS.TupAny
import PyProof.ReprLen
import PyProof.StrLawsRepr
import HandS.Head0
import HandS.Head1
import HandS.Head2
import HandS.HeadEnd
import HandS.HeadHook1
import HandS.HeadHook2
import HandS.HeadHook3
import HandS.HeadHook4
import PySem.Challenge.RW_shapekeep_k17_pages_of_trees
set_option Elab.async false
set_option linter.all false
set_option maxRecDepth 100000
set_option maxHeartbeats 0
namespace KX
open PySem L2 PyProof.Rows
def top (i : Nat) : Stmt := PySem.Challenge.pw_shapekeep_k17_pages_of_trees.main.body.getD i (.Pass ⟨0, 0, 0, 0⟩)
/-- all but p is as it was -/
def Keep (p : Addr) (H H' : Hp) : Prop := ∀ b o, b ≠ p → H b = some o → H' b = some o
theorem Keep.refl (p : Addr) (H : Hp) : Keep p H H := fun _ _ _ h => h
theorem Keep.trans {p : Addr} {H H1 H2 : Hp} (a : Keep p H H1) (b : Keep p H1 H2) : Keep p H H2 := fun c o n h => b c o n (a c o n h)
theorem Keep.new {p q : Addr} {H : Hp} (h : H q = none) (o : HO) : Keep p H (upd H q o) := fun b u _ e => by
  rw [upd_ne (ne_of_none e h)]
  exact e
theorem Keep.self {p : Addr} {H : Hp} {o : HO} : Keep p H (upd H p o) := fun b u n e => by
  rw [upd_ne n]
  exact e
theorem Keep.at' {p q : Addr} {H H' : Hp} {o : HO} (k : Keep p H H') (e : H q = some o) (n : q ≠ p) : H' q = some o := k q o n e
theorem Keep.seq {K : PySem.W.Frag} {p a : Addr} {H H' : Hp} {xs : List V} (k : Keep p H H') (n : a ≠ p) (h : SqL K H a xs) : SqL K H' a xs := by
  rcases h with (h | ⟨o, h⟩) | h
  · exact .inl (.inl (k _ _ n h))
  · exact .inl (.inr ⟨o, k _ _ n h⟩)
  · exact .inr h
theorem same_new {q : Addr} {G : Hp} (fresh : G q = none) (what : HO) : Same G (upd G q what) := by
  intro b u there
  have other : b ≠ q := by
    rintro rfl
    exact absurd (there.symm.trans fresh) (Option.some_ne_none u)
  exact (upd_ne other).trans there
theorem Same.keep {p : Addr} {H H' : Hp} (s : Same H H') : Keep p H H' := fun b o _ e => s b o e

/-- the pool of draws -/
def PoolAt (H : Hp) (p : Addr) : Prop := ∃ s d c : Int, H p = some (.lst [.int s, .int d, .int c]) ∧ 0 ≤ s ∧ s < 1000000007 ∧ 0 ≤ d
theorem PoolAt.same {H H' : Hp} {p : Addr} (h : PoolAt H p) (s : Same H H') : PoolAt H' p := by
  obtain ⟨a, d, c, e, r⟩ := h
  exact ⟨a, d, c, s _ _ e, r⟩
theorem PoolAt.ne {H : Hp} {p q : Addr} (h : PoolAt H p) (n : H q = none) : q ≠ p := by
  obtain ⟨a, d, c, e, r⟩ := h
  exact (ne_of_none e n).symm

theorem Keep.upd {p D : Addr} {H H' : Hp} {o : HO} (k : Keep p H H') (n : H D = none) : Keep p H (upd H' D o) := fun b u nb e => by
  rw [upd_ne (ne_of_none e n)]
  exact k b u nb e
theorem PoolAt.upd {H : Hp} {p D : Addr} {o : HO} (h : PoolAt H p) (n : D ≠ p) : PoolAt (upd H D o) p := by
  obtain ⟨a, d, c, e, r⟩ := h
  exact ⟨a, d, c, by rw [upd_ne (Ne.symm n)]; exact e, r⟩
theorem Keep.gone {p r : Addr} {H H' : Hp} (k : Keep p H H') (n : r ≠ p) (h : H' r = Option.none) : H r = Option.none := by
  cases e : H r with
  | none => rfl
  | some o =>
    rw [k r o n e] at h
    cases h
theorem map_snoc {α : Type} (g : Nat → α) (i : Nat) : (List.range i).map g ++ [g i] = (List.range (i + 1)).map g := by
  rw [List.range_succ, List.map_append]
  rfl
theorem yesT {σ : L2.St} {H : Hp} {F G : Hp → Prop} (h : F H) : tYes σ H (fun b H3 => if b = true then F H3 else G H3) := by
  show (if true = true then F H else G H)
  rw [if_pos rfl]
  exact h
structure Bl (mg : Str → Option Value) : Prop where
  len : mg "len" = none
  abs : mg "abs" = none
  divmod : mg "divmod" = none
  min : mg "min" = none
  max : mg "max" = none
  all : mg "all" = none
  sorted : mg "sorted" = none
  isinstance : mg "isinstance" = none
  repr : mg "repr" = none
  ord : mg "ord" = none
  range : mg "range" = none
  zip : mg "zip" = none
  tuple : mg "tuple" = none
  list : mg "list" = none
  str : mg "str" = none
  int : mg "int" = none
  bool : mg "bool" = none
  dict : mg "dict" = none
section
variable {X : Cx}
theorem op_inK (K : PySem.W.Frag) (h : X.K = K) : OpR X (compareOp .In) (rIn K false) := by subst h; exact op_in_seq
theorem op_notInK (K : PySem.W.Frag) (h : X.K = K) : OpR X (compareOp .NotIn) (rIn K true) := by subst h; exact op_notIn_seq
theorem op_eqK (K : PySem.W.Frag) (h : X.K = K) (hu : X.A.units + 64 < cLine) : OpR X (compareOp .Eq) (rEqD K) := by subst h; exact op_eqD hu
theorem op_neK (K : PySem.W.Frag) (h : X.K = K) (hu : X.A.units + 64 < cLine) : OpR X (compareOp .NotEq) (rNeD K) := by subst h; exact op_neD hu
theorem ix_listK (K : PySem.W.Frag) (h : X.K = K) : IxR X (rIxL K) := by subst h; exact ix_list
theorem ix_tupK (K : PySem.W.Frag) (h : X.K = K) : IxR X (rIxT K) := by subst h; exact ix_tup
theorem sl_listK (K : PySem.W.Frag) (h : X.K = K) : SlR X (rSlL K) := by subst h; exact sl_list
theorem sl_tupK (K : PySem.W.Frag) (h : X.K = K) : SlR X (rSlT K) := by subst h; exact sl_tup
def rLenV (K : PySem.W.Frag) : List V → Hp → VK → Prop := fun xs H Q => ∃ x n, xs = [x] ∧ LenV K x H n ∧ Q (.int n) H
theorem call_lenK (K : PySem.W.Frag) (h : X.K = K) : CallR X (.builtin "len") (rLenV K) := by subst h; exact call_len
end
end KX

namespace KX
open PySem L2 PyProof.Rows
section
variable {base : Heap} {P : Program} {w : World} {K : PySem.W.Frag} {mg : Str → Option Value}

/-! ### _law_cell -/
abbrev s_cell : Stmt := top 48
abbrev N_cell : List Str := ["_law_script", "_law_k", "_law_state", "_law_cell_here"]
abbrev P_cell : List Str := ["_law_script", "_law_k"]
theorem sc_cell : FnScope N_cell P_cell (defScope s_cell) := ⟨rfl, rfl, rfl, by decide +kernel, rfl, by decide +kernel, by decide +kernel⟩
def spCell (K : PySem.W.Frag) : Sp := fun vs H Q _ => ∃ (a : Addr) (ns : List Int) (k : Int), vs = [.ref a, .int k] ∧ SqL K H a (ns.map V.int) ∧ ns.length ≤ 63 ∧ 0 ≤ k ∧ k ≤ 63 ∧ ∀ (H' : Hp) (i : Int), Same H H' → Q (.int i) H'
theorem int_item {ns : List Int} {i : Nat} {x : V} (h : (ns.map V.int)[i]? = some x) : ∃ z, x = .int z := by
  rw [List.getElem?_map] at h
  cases e : ns[i]? with
  | none => rw [e] at h; cases h
  | some z => rw [e] at h; exact ⟨z, (Option.some.inj h).symm⟩
theorem cutV_int {ns : List Int} {lo hi : Option Int} : ∃ ms : List Int, cutV (ns.map V.int) lo hi = ms.map V.int := by
  unfold cutV
  rw [← List.map_drop, ← List.map_take]
  exact ⟨_, rfl⟩
theorem ok_cell {f : Addr} {fd : FuncData} (F : Fun K "_law_cell" "_law_cell" s_cell f fd) (T : Bl mg) : FnOk P w K mg base CX0 1 f fd P_cell (spCell K) := by
  refine F.ok sc_cell (fun vs H Q E h => ?_) (fun cdv A outer s H vs Q E hr h => ?_)
  · obtain ⟨a, ns, k, rfl, _⟩ := h
    rfl
  obtain ⟨a, ns, k, rfl, hS, h63, h0, h1, q⟩ := h
  have hl : (ns.map V.int).length = ns.length := List.length_map _
  refine ⟨_, (pss_cons (ps_if (pt_cmpR op_lt (pv 1) (pe_callB (call_lenK K rfl) (by rfl) T.len PySem.boot_len (pa_cons (pv 0) pa_nil)) (nomark _))
      (pss_one (ps_ret (pe_ix (ix_listK K rfl) (pv 0) (pv 1) (fun _ _ => rfl))))
      pss_nil)
    (pss_cons (ps_set (i := 2) sc_cell.nd rfl (Or.inl rfl) (pe_op op_mod (pe_op op_mul pe_int (pe_op op_add (pe_op op_add (pe_op op_mul (pv 1) (pv 1)) (pe_op op_mul pe_int (pv 1))) pe_int)) pe_int))
    (pss_cons (ps_for PassesOwn.never rfl (pi_list (pe_slice (sl_listK K rfl) (pv 0) po_none (po_some pe_int))) (pg_name (i := 3) sc_cell.nd rfl (Or.inl rfl))
      (pss_one (ps_set (i := 2) sc_cell.nd rfl (Or.inl rfl) (pe_op op_mod (pe_op op_add (pe_op op_mul (pv 2) pe_int) (pv 3)) pe_int))))
    (pss_one (ps_ret (pv 2)))))), ?_⟩
  refine ⟨_, rfl, _, rfl, .ref a, ns.length, rfl, .inl ⟨_, hS, hl.symm⟩, _, _, rfl, rfl, _, rfl, ?_⟩
  refine ite2 (fun c => ?_) (fun c => ?_)
  · have c' : k < (ns.length : Int) := of_decide_eq_true c
    have hk : k.toNat < ns.length := by omega
    have ek : k = ((k.toNat : Nat) : Int) := by omega
    refine ⟨_, rfl, _, rfl, a, _, k, _, rfl, rfl, hS, at_of (v := .int ns[k.toNat]) ek ?_, ?_⟩
    · rw [List.getElem?_map, List.getElem?_eq_getElem hk] <;> rfl
    · exact q H _ (Same.refl H)
  · refine ⟨_, rfl, _, rfl, _, _, rfl, rfl, .inl ⟨by omega, by omega⟩, _, rfl, _, _, rfl, rfl, .inl ⟨by decide, by decide⟩, _, _, rfl, rfl, _, _, rfl, rfl, _, _, rfl, rfl, .inl ⟨by decide, by decide⟩, _, _, rfl, rfl, (by show (0 : Int) < 1000000007; decide), ?_⟩
    refine ⟨_, rfl, _, rfl, a, _, rfl, hS, fun p hp => ?_⟩
    obtain ⟨ms, hms⟩ := cutV_int (ns := ns) (lo := none) (hi := some 3)
    rw [hms]
    refine ⟨p, rfl, ⟨_, SqL.of upd_same⟩, for_list (K := K) (a := p) (xs := ms.map V.int) (fun i σ H' => ∃ (z : Int) (v : Option V), σ = [some (.ref a), some (.int k), some (.int z), v] ∧ 0 ≤ z ∧ z < 1000000007 ∧ H' = upd H p (.lst (ms.map V.int)))
      ⟨_, none, rfl, by omega, by omega, rfl⟩ (fun i σ H' _ ⟨_, _, _, _, _, e⟩ => by rw [e]; exact SqL.of upd_same) ?_ ?_⟩
    · rintro i x σ H' hx ⟨z, v, rfl, z0, z1, rfl⟩
      obtain ⟨y, rfl⟩ := int_item hx
      refine ⟨_, rfl, _, _, rfl, rfl, .inl ⟨by omega, by omega⟩, _, rfl, _, _, rfl, rfl, _, _, rfl, rfl, (by show (0 : Int) < 1000000007; decide), ?_⟩
      exact ⟨_, _, rfl, by omega, by omega, rfl⟩
    · rintro σ H' ⟨z, v, rfl, z0, z1, rfl⟩
      exact ⟨_, rfl, q _ _ (same_new hp _)⟩

/-! ### _law_pool -/
abbrev s_pool : Stmt := top 49
abbrev N_pool : List Str := ["_law_cell_here", "_law_digits"]
abbrev P_pool : List Str := ["_law_cell_here"]
theorem sc_pool : FnScope N_pool P_pool (defScope s_pool) := ⟨rfl, rfl, rfl, by decide +kernel, rfl, by decide +kernel, by decide +kernel⟩
def spPool : Sp := fun vs H Q _ => ∃ i : Int, vs = [.int i] ∧ ∀ (H' : Hp) (p : Addr), H p = none → Same H H' → PoolAt H' p → Q (.ref p) H'
theorem ok_pool {f : Addr} {fd : FuncData} (F : Fun K "_law_pool" "_law_pool" s_pool f fd) (T : Bl mg) : FnOk P w K mg base CX0 1 f fd P_pool spPool := by
  refine F.ok sc_pool (fun vs H Q E h => ?_) (fun cdv A outer s H vs Q E hr h => ?_)
  · obtain ⟨i, rfl, _⟩ := h
    rfl
  obtain ⟨i, rfl, q⟩ := h
  refine ⟨_, (pss_cons (ps_set (i := 1) sc_pool.nd rfl (Or.inl rfl) pe_int)
    (pss_cons (ps_if (PW.pt (pw_or (pt_cmpR op_lt (pv 0) pe_int (nomark _)) (pw_or1 (pt_cmpR op_ge (pv 0) (pe_op op_pow pe_int pe_int) (nomark _)))))
      (pss_one (ps_set (i := 1) sc_pool.nd rfl (Or.inl rfl) (pe_callB call_abs (by rfl) T.abs (by decide +kernel) (pa_cons (pv 0) pa_nil))))
      pss_nil)
    (pss_one (ps_ret (pe_lst (pa_cons (pe_op op_mod (pv 0) pe_int) (pa_cons (pv 1) (pa_cons pe_int pa_nil)))))))), ?_⟩
  have fin : ∀ d : Int, 0 ≤ d → ∀ p, H p = none → Q (.ref p) (upd H p (.lst [.int (i % 1000000007), .int d, .int 0])) := fun d hd p hp =>
    q _ p hp (same_new hp _) ⟨_, _, _, upd_same, by omega, by omega, hd⟩
  refine ⟨_, rfl, _, _, rfl, rfl, _, rfl, ?_⟩
  refine ite2 (fun c => ?_) (fun c => ?_)
  · have c' : i < 0 := of_decide_eq_true c
    refine iteT ⟨_, rfl, _, rfl, ?_⟩
    refine ⟨_, rfl, _, _, rfl, rfl, (by show (0 : Int) < 1000000007; decide), _, rfl, (by show 3 ≤ sizeLine; decide), fun p hp => fin _ (by split <;> omega) p hp⟩
  · have c' : ¬ i < 0 := of_decide_eq_false (Bool.eq_false_iff.mpr c)
    refine ⟨_, rfl, _, _, rfl, rfl, ⟨by decide, by decide, by decide⟩, _, _, rfl, rfl, _, rfl, ?_⟩
    refine ite2 (fun c2 => ?_) (fun c2 => ?_)
    · refine ⟨_, rfl, _, rfl, ?_⟩
      refine ⟨_, rfl, _, _, rfl, rfl, (by show (0 : Int) < 1000000007; decide), _, rfl, (by show 3 ≤ sizeLine; decide), fun p hp => fin _ (by split <;> omega) p hp⟩
    · exact ⟨_, rfl, _, _, rfl, rfl, (by show (0 : Int) < 1000000007; decide), _, rfl, (by show 3 ≤ sizeLine; decide), fun p hp => fin _ (by omega) p hp⟩

/-! ### _law_draw -/
abbrev s_draw : Stmt := top 50
abbrev N_draw : List Str := ["_law_pool_here", "_law_many", "_law_state", "_law_digit"]
abbrev P_draw : List Str := ["_law_pool_here", "_law_many"]
theorem sc_draw : FnScope N_draw P_draw (defScope s_draw) := ⟨rfl, rfl, rfl, by decide +kernel, rfl, by decide +kernel, by decide +kernel⟩
def spDraw : Sp := fun vs H Q _ => ∃ (p : Addr) (m : Int), vs = [.ref p, .int m] ∧ PoolAt H p ∧ 0 < m ∧ m < 1073741824 ∧ ∀ (H' : Hp) (r : Int), Keep p H H' → PoolAt H' p → 0 ≤ r → r < m → Q (.int r) H'
theorem ok_draw {f : Addr} {fd : FuncData} (F : Fun K "_law_draw" "_law_draw" s_draw f fd) (T : Bl mg) : FnOk P w K mg base CX0 1 f fd P_draw spDraw := by
  refine F.ok sc_draw (fun vs H Q E h => ?_) (fun cdv A outer s H vs Q E hr h => ?_)
  · obtain ⟨p, m, rfl, _⟩ := h
    rfl
  obtain ⟨p, m, rfl, ⟨st, d, c, hp, s0, s1, d0⟩, m0, m1, q⟩ := h
  refine ⟨_, (pss_cons (ps_asg (pe_op op_add (pe_ix (ix_listK K rfl) (pv 0) pe_int (fun _ _ => rfl)) pe_int) (pg_sub (pv 0) pe_int set_list))
    (pss_cons (ps_set (i := 2) sc_draw.nd rfl (Or.inl rfl) (pe_ix (ix_listK K rfl) (pv 0) pe_int (fun _ _ => rfl)))
    (pss_cons (ps_asg (pe_op op_mod (pe_op op_add (pe_op op_add (pe_op op_mul (pv 2) (pe_op op_add (pe_op op_mod (pv 2) pe_int) pe_int)) (pe_op op_mul pe_int (pe_ix (ix_listK K rfl) (pv 0) pe_int (fun _ _ => rfl)))) pe_int) pe_int) (pg_sub (pv 0) pe_int set_list))
    (pss_cons (ps_if (pt_cmpR op_gt (pe_ix (ix_listK K rfl) (pv 0) pe_int (fun _ _ => rfl)) pe_int (nomark _))
      (pss_cons (ps_asg (pe_callB call_divmod (by rfl) T.divmod (by decide +kernel) (pa_cons (pe_ix (ix_listK K rfl) (pv 0) pe_int (fun _ _ => rfl)) (pa_cons (pv 1) pa_nil))) (pg_tup rfl (pgs_cons (pg_sub (pv 0) pe_int set_list) (pgs_cons (pg_name (i := 3) sc_draw.nd rfl (Or.inl rfl)) pgs_nil))))
    (pss_one (ps_ret (pv 3))))
      pss_nil)
    (pss_one (ps_ret (pe_op op_mod (pe_op op_fdiv (pe_ix (ix_listK K rfl) (pv 0) pe_int (fun _ _ => rfl)) pe_int) (pv 1)))))))), ?_⟩
  have at0 : ∀ {x y z : V}, atI [x, y, z] 0 = some x := fun {x y z} => rfl
  have at1 : ∀ {x y z : V}, atI [x, y, z] 1 = some y := fun {x y z} => rfl
  have at2 : ∀ {x y z : V}, atI [x, y, z] 2 = some z := fun {x y z} => rfl
  refine ⟨_, rfl, p, _, _, _, rfl, rfl, SqL.of hp, at2, _, _, rfl, rfl, _, rfl, p, _, _, 2, rfl, rfl, hp, rfl, ?_⟩
  have e1 : (upd H p (.lst ([V.int st, .int d, .int c].set 2 (.int (c + 1))))) p = some (.lst [.int st, .int d, .int (c + 1)]) := upd_same
  generalize hH1 : upd H p (.lst ([V.int st, .int d, .int c].set 2 (.int (c + 1)))) = H1 at e1 ⊢
  have k1 : Keep p H H1 := by rw [← hH1]; exact Keep.self
  refine ⟨_, rfl, p, _, _, _, rfl, rfl, SqL.of e1, at0, ?_⟩
  refine ⟨_, rfl, _, rfl, _, _, rfl, rfl, (by show (0 : Int) < 46007; decide), _, _, rfl, rfl, _, _, rfl, rfl, .inl ⟨by omega, by omega⟩, ?_⟩
  refine ⟨_, rfl, p, _, _, _, rfl, rfl, SqL.of e1, at2, _, _, rfl, rfl, .inl ⟨by decide, by decide⟩, _, _, rfl, rfl, _, _, rfl, rfl, _, _, rfl, rfl, (by show (0 : Int) < 1000000007; decide), ?_⟩
  generalize hz : (st * (st % 46007 + 20011) + 60013 * (c + 1) + 5) % 1000000007 = z
  have z0 : 0 ≤ z := by omega
  have z1 : z < 1000000007 := by omega
  refine ⟨_, rfl, p, _, _, 0, rfl, rfl, e1, rfl, ?_⟩
  generalize hH2 : upd H1 p _ = H2
  have e2 : H2 p = some (.lst [.int z, .int d, .int (c + 1)]) := by rw [← hH2, ← hz]; exact upd_same
  have k2 : Keep p H H2 := k1.trans (by rw [← hH2]; exact Keep.self)
  refine ⟨_, rfl, p, _, _, _, rfl, rfl, SqL.of e2, at1, _, _, rfl, rfl, _, rfl, ?_⟩
  refine ite2 (fun cc => ?_) (fun cc => ?_)
  · refine ⟨_, rfl, p, _, _, _, rfl, rfl, SqL.of e2, at1, _, rfl, _, _, rfl, ⟨m0, by omega⟩, fun t ht => ?_⟩
    have npt : p ≠ t := ne_of_none e2 ht
    refine ⟨t, _, rfl, SqT.of upd_same, rfl, _, _, rfl, _, rfl, p, _, _, 1, rfl, rfl, (by rw [upd_ne npt]; exact e2), rfl, ?_⟩
    refine ⟨_, _, rfl, rfl, _, rfl, ?_⟩
    refine q _ _ (k2.trans ((Keep.new ht _).trans Keep.self)) ⟨_, _, _, upd_same, z0, z1, ?_⟩ (Int.emod_nonneg _ (by omega)) (Int.emod_lt_of_pos _ m0)
    exact Int.ediv_nonneg d0 (by omega)
  · refine ⟨_, rfl, p, _, _, _, rfl, rfl, SqL.of e2, at0, _, _, rfl, rfl, ⟨by decide, by decide⟩, _, rfl, _, _, rfl, rfl, m0, ?_⟩
    exact q _ _ k2 ⟨_, _, _, e2, z0, z1, d0⟩ (Int.emod_nonneg _ (by omega)) (Int.emod_lt_of_pos _ m0)
end
end KX

namespace KX
open PySem L2 PyProof.Rows
/-! ### texts as lists of codes -/
abbrev ql (x : Str) : List Nat := x.cps.toList
theorem ql_len (x : Str) : x.length = (ql x).length := by simp [Str.length]
theorem ql_ext {a b : Str} (h : ql a = ql b) : a = b := Str.ext' (Array.toList_inj.mp h)
theorem ql_app (x y : Str) : ql (x ++ y) = ql x ++ ql y := TL.tl_append x y
theorem ql_one (c : Nat) : ql ⟨#[c]⟩ = [c] := rfl
/-- a name: one to twelve small letters -/
def IsNm (z : Str) : Prop := 1 ≤ z.length ∧ z.length ≤ 12 ∧ ∀ c ∈ ql z, 97 ≤ c ∧ c ≤ 122
def isNmB (z : Str) : Bool := decide (1 ≤ z.length) && decide (z.length ≤ 12) && (ql z).all fun c => decide (97 ≤ c) && decide (c ≤ 122)
theorem isNm_of {z : Str} (h : isNmB z = true) : IsNm z := by
  unfold isNmB at h
  simp only [Bool.and_eq_true, decide_eq_true_eq, List.all_eq_true] at h
  exact ⟨h.1.1, h.1.2, fun c hc => h.2 c hc⟩
/-- text * int -/
def repS (z : Str) (n : Nat) : Str := ⟨(List.replicate n (ql z)).flatten.toArray⟩
theorem ql_rep (z : Str) (n : Nat) : ql (repS z n) = (List.replicate n (ql z)).flatten := rfl
theorem foldl_app (a : Array Nat) : ∀ (n : Nat) (acc : Array Nat), ((List.replicate n a).foldl (· ++ ·) acc).toList = acc.toList ++ (List.replicate n a.toList).flatten
  | 0, acc => by simp
  | n + 1, acc => by
    rw [List.replicate_succ, List.replicate_succ, List.foldl_cons, foldl_app a n, List.flatten_cons, Array.toList_append, List.append_assoc]
section
variable {X : Cx}
theorem op_mulS : OpR X (binaryOp .Mult) (fun x y H Q => ∃ (z : Str) (n : Int), x = .str z ∧ y = .int n ∧ 1 ≤ n ∧ n ≤ 1000 ∧ 1 ≤ z.length ∧ z.length ≤ 1000 ∧ Q (.str (repS z n.toNat)) H) := by
  intro pins s σ H x y v u Q I rx ry h
  obtain ⟨z, n, rfl, rfl, n1, n2, z1, z2, q⟩ := h
  obtain ⟨t, rfl⟩ := rx
  obtain ⟨t', rfl⟩ := ry
  have hs : sizeLine = 16777216 := sizeLine_eq
  have e1 : decide (n < -(2 ^ 63 : Int)) = false := decide_eq_false (by omega)
  have e2 : decide (n ≥ 2 ^ 63) = false := decide_eq_false (by omega)
  have hmul : z.length * n.toNat ≤ 1000 * 1000 := Nat.mul_le_mul z2 (by omega)
  have hz : (z.length == 0) = false := by
    rw [beq_eq_false_iff_ne]
    omega
  refine P.mul_str (by rw [e1, e2]; rfl) (fun _ _ => ?_) (fun _ _ => ?_) ?_
  · have : (1000 : Int) ≤ (2 ^ 63 - 1) / n := by
      refine (Int.le_ediv_iff_mul_le (by omega)).mpr ?_
      omega
    omega
  · show decide (z.length * n.toNat > sizeLine) = false
    exact decide_eq_false (by omega)
  · rw [if_neg (by omega), hz, Bool.or_false]
    by_cases h1 : n = 1
    · subst h1
      rw [if_pos (by rfl)]
      have e : repS z (Int.toNat 1) = z := ql_ext (by rw [ql_rep]; simp)
      rw [e] at q
      exact ⟨.str z, H, I, ⟨t, rfl⟩, q⟩
    · have hb : (n == 1) = false := beq_eq_false_iff_ne.mpr h1
      rw [hb, if_neg Bool.false_ne_true]
      have e : (⟨(List.replicate n.toNat z.cps).foldl (· ++ ·) #[]⟩ : Str) = repS z n.toNat := ql_ext (by
        show ((List.replicate n.toNat z.cps).foldl (· ++ ·) #[]).toList = _
        rw [foldl_app]
        rfl)
      rw [e]
      refine ⟨?_, .str _, H, I.tok _, ⟨_, rfl⟩, q⟩
      have el : (repS z n.toNat).length = n.toNat * z.length := by
        rw [ql_len, ql_rep, List.length_flatten, List.map_replicate, List.sum_replicate_nat, ← ql_len]
      show (repS z n.toNat).length ≤ sizeLine
      rw [el, Nat.mul_comm]
      omega
end
end KX

namespace KX
open PySem L2 PyProof.Rows
/-! ### the mathematics of the names -/
def menuW : List Str := ["data", "href", "text", "part", "page", "use", "for", "end", "else", "slot", "size", "has", "sum", "equal", "name", "x", "y", "items", "id", "link", "null", "by", "let", "if"]
theorem menuW_len : menuW.length = 24 := rfl
theorem menuW_nd : menuW.Nodup := by decide +kernel
theorem menuW_nm : ∀ z ∈ menuW, IsNm z := by
  have h : menuW.all isNmB = true := by decide +kernel
  exact fun z hz => isNm_of (List.all_eq_true.mp h z hz)
def alpha : Str := "abcdefghijklmnopqrstuvwxyz"
theorem alpha_ql : ql alpha = (List.range 26).map (· + 97) := by decide +kernel
theorem alpha_at {j : Int} (h0 : 0 ≤ j) (h1 : j < 26) : atI alpha.cps.toList j = some (97 + j.toNat) := by
  have e : (ql alpha)[j.toNat]? = some (97 + j.toNat) := by
    rw [alpha_ql, List.getElem?_map, List.getElem?_range (by omega)]
    exact congrArg some (Nat.add_comm _ _)
  have ej : j = ((j.toNat : Nat) : Int) := by omega
  rw [ej]
  exact atI_nat e
/-- names that differ -/
def Names (zs : List Str) : Prop := zs.Nodup ∧ ∀ z ∈ zs, IsNm z
theorem nodup_map_range {α : Type} {n : Nat} {g : Nat → α} (h : ∀ i j, i < j → j < n → g i ≠ g j) : ((List.range n).map g).Nodup := by
  unfold List.Nodup
  rw [List.pairwise_map]
  have hp : (List.range n).Pairwise (· < ·) := List.pairwise_lt_range
  refine List.Pairwise.imp_of_mem (fun {a b} ha hb hab => ?_) hp
  exact h a b hab (List.mem_range.mp hb)
/-- 0 -/
def g0 (b : Int) (k : Nat) : Str := menuW.getD ((b + 5 * (k : Int)) % 24).toNat ""
theorem names0 {b : Int} (h0 : 0 ≤ b) (h1 : b < 24) {n : Nat} (hn : n ≤ 24) : Names ((List.range n).map (g0 b)) := by
  refine ⟨nodup_map_range fun i j hij hj e => ?_, fun z hz => ?_⟩
  · have hi' : ((b + 5 * (i : Int)) % 24).toNat < menuW.length := by rw [menuW_len]; omega
    have hj' : ((b + 5 * (j : Int)) % 24).toNat < menuW.length := by rw [menuW_len]; omega
    unfold g0 at e
    rw [List.getD_eq_getElem?_getD, List.getD_eq_getElem?_getD, List.getElem?_eq_getElem hi', List.getElem?_eq_getElem hj'] at e
    have q := (List.getElem_inj menuW_nd).mp (show menuW[((b + 5 * (i : Int)) % 24).toNat] = menuW[((b + 5 * (j : Int)) % 24).toNat] from e)
    omega
  · obtain ⟨k, hk, rfl⟩ := List.mem_map.mp hz
    have hk' : ((b + 5 * (k : Int)) % 24).toNat < menuW.length := by rw [menuW_len]; omega
    refine menuW_nm _ ?_
    unfold g0
    rw [List.getD_eq_getElem?_getD, List.getElem?_eq_getElem hk']
    exact List.getElem_mem hk'
/-- 1 -/
def g1 (b : Int) (k : Nat) : Str := repS ⟨#[97 + ((b + 7 * (k : Int)) % 26).toNat]⟩ (1 + (k : Int) % 12).toNat
theorem names1 {b : Int} (h0 : 0 ≤ b) (h1 : b < 24) {n : Nat} (hn : n ≤ 24) : Names ((List.range n).map (g1 b)) := by
  have e1 : ∀ k, ql (g1 b k) = List.replicate (1 + (k : Int) % 12).toNat (97 + ((b + 7 * (k : Int)) % 26).toNat) := fun k => by
    unfold g1
    rw [ql_rep]
    show (List.replicate _ [_]).flatten = _
    rw [List.flatten_replicate_singleton]
  refine ⟨nodup_map_range fun i j hij hj e => ?_, fun z hz => ?_⟩
  · have q : ql (g1 b i) = ql (g1 b j) := by rw [e]
    rw [e1, e1] at q
    have hd : (List.replicate (1 + (i : Int) % 12).toNat (97 + ((b + 7 * (i : Int)) % 26).toNat)).head? = (List.replicate (1 + (j : Int) % 12).toNat (97 + ((b + 7 * (j : Int)) % 26).toNat)).head? := by rw [q]
    rw [List.head?_replicate, List.head?_replicate, if_neg (by omega), if_neg (by omega)] at hd
    have := Option.some.inj hd
    omega
  · obtain ⟨k, hk, rfl⟩ := List.mem_map.mp hz
    refine ⟨?_, ?_, fun c hc => ?_⟩
    · rw [ql_len, e1, List.length_replicate]
      omega
    · rw [ql_len, e1, List.length_replicate]
      omega
    · rw [e1] at hc
      have := List.eq_of_mem_replicate hc
      omega
/-- 2 -/
def g2 (stem : Str) (a b : Int) (k : Nat) : Str := cutS stem none (some a) ++ ⟨#[97 + ((b + 5 * (k : Int)) % 26).toNat]⟩ ++ cutS stem (some a) none
theorem ql_cut_to {z : Str} {a : Int} (h0 : 0 ≤ a) (h1 : a ≤ (z.length : Int)) : ql (cutS z none (some a)) = (ql z).take a.toNat := by
  have e : a = ((a.toNat : Nat) : Int) := by omega
  show ((z.cps.toList.drop (HT.sIx z.length 0 none)).take (HT.sIx z.length z.length (some a) - HT.sIx z.length 0 none)) = _
  rw [HT.sIx_none, e, HT.sIx_nat, List.drop_zero, Nat.sub_zero, Int.toNat_natCast, Nat.min_eq_left (by omega)]
theorem ql_cut_from {z : Str} {a : Int} (h0 : 0 ≤ a) (h1 : a ≤ (z.length : Int)) : ql (cutS z (some a) none) = (ql z).drop a.toNat := by
  have e : a = ((a.toNat : Nat) : Int) := by omega
  show ((z.cps.toList.drop (HT.sIx z.length 0 (some a))).take (HT.sIx z.length z.length none - HT.sIx z.length 0 (some a))) = _
  rw [HT.sIx_none, e, HT.sIx_nat, Int.toNat_natCast, Nat.min_eq_left (by omega)]
  have hl := ql_len z
  exact List.take_of_length_le (by rw [List.length_drop]; show (ql z).length - _ ≤ _; omega)
theorem ql_g2 {stem : Str} {a b : Int} (h0 : 0 ≤ a) (h1 : a ≤ (stem.length : Int)) (k : Nat) : ql (g2 stem a b k) = (ql stem).take a.toNat ++ [97 + ((b + 5 * (k : Int)) % 26).toNat] ++ (ql stem).drop a.toNat := by
  unfold g2
  rw [ql_app, ql_app, ql_cut_to h0 h1, ql_cut_from h0 h1]
theorem len_g2 {stem : Str} {a b : Int} (h0 : 0 ≤ a) (h1 : a ≤ (stem.length : Int)) (k : Nat) : (g2 stem a b k).length = stem.length + 1 := by
  have hl := ql_len stem
  rw [ql_len, ql_g2 h0 h1, List.length_append, List.length_append, List.length_take, List.length_drop, List.length_singleton, ql_len]
  omega
theorem g2_ne {stem : Str} {a b : Int} (h0 : 0 ≤ a) (h1 : a ≤ (stem.length : Int)) {i j : Nat} (hij : i < j) (hj : j < 24) : g2 stem a b i ≠ g2 stem a b j := fun e => by
  have q : ql (g2 stem a b i) = ql (g2 stem a b j) := by rw [e]
  rw [ql_g2 h0 h1, ql_g2 h0 h1] at q
  have q1 := List.append_inj_left q (by simp)
  have q2 := List.append_cancel_left q1
  have q3 := List.singleton_inj.mp q2
  omega
theorem g2_nm {stem : Str} {a b : Int} (h0 : 0 ≤ a) (h1 : a ≤ (stem.length : Int)) (hs : stem.length ≤ 11) (hc : ∀ c ∈ ql stem, 97 ≤ c ∧ c ≤ 122) (k : Nat) : IsNm (g2 stem a b k) := by
  refine ⟨by rw [len_g2 h0 h1]; omega, by rw [len_g2 h0 h1]; omega, fun c h => ?_⟩
  rw [ql_g2 h0 h1] at h
  rcases List.mem_append.mp h with h | h
  · rcases List.mem_append.mp h with h | h
    · exact hc c (List.mem_of_mem_take h)
    · have := List.mem_singleton.mp h
      omega
  · exact hc c (List.mem_of_mem_drop h)
/-- true, false, self are put aside -/
def g3 (z : Str) : Str := if z = "true" ∨ z = "false" ∨ z = "self" then z ++ "x" else z
theorem g3_nm {z : Str} (h : IsNm z) : IsNm (g3 z) := by
  unfold g3
  by_cases c : z = "true" ∨ z = "false" ∨ z = "self"
  · rw [if_pos c]
    rcases c with rfl | rfl | rfl <;> exact isNm_of (by decide +kernel)
  · rw [if_neg c]
    exact h
theorem g3_ne {y z : Str} (hl : y.length = z.length) (h : y ≠ z) : g3 y ≠ g3 z := fun e => by
  have l1 : ∀ x : Str, (x ++ "x").length = x.length + 1 := fun x => by rw [ql_len, ql_app, List.length_append, ← ql_len]; rfl
  unfold g3 at e
  by_cases cy : y = "true" ∨ y = "false" ∨ y = "self"
  · by_cases cz : z = "true" ∨ z = "false" ∨ z = "self"
    · rw [if_pos cy, if_pos cz] at e
      have q : ql (y ++ "x") = ql (z ++ "x") := by rw [e]
      rw [ql_app, ql_app] at q
      exact h (ql_ext (List.append_cancel_right q))
    · rw [if_pos cy, if_neg cz] at e
      have := congrArg Str.length e
      rw [l1] at this
      omega
  · by_cases cz : z = "true" ∨ z = "false" ∨ z = "self"
    · rw [if_neg cy, if_pos cz] at e
      have := congrArg Str.length e
      rw [l1] at this
      omega
    · rw [if_neg cy, if_neg cz] at e
      exact h e
theorem names2 {stem : Str} {a b : Int} (h0 : 0 ≤ a) (h1 : a ≤ (stem.length : Int)) (hs : stem.length ≤ 11) (hc : ∀ c ∈ ql stem, 97 ≤ c ∧ c ≤ 122) {n : Nat} (hn : n ≤ 24) : Names ((List.range n).map fun k => g3 (g2 stem a b k)) := by
  refine ⟨nodup_map_range fun i j hij hj => g3_ne (by rw [len_g2 h0 h1, len_g2 h0 h1]) (g2_ne h0 h1 hij (by omega)), fun z hz => ?_⟩
  obtain ⟨k, _, rfl⟩ := List.mem_map.mp hz
  exact g3_nm (g2_nm h0 h1 hs hc k)
/-! ### joined one-letter texts -/
def One (z : Str) : Prop := ∃ c, ql z = [c] ∧ 97 ≤ c ∧ c ≤ 122
theorem one_len {z : Str} (h : One z) : z.length = 1 := by
  obtain ⟨c, e, _⟩ := h
  rw [ql_len, e]
  rfl
theorem sum_len : ∀ {zs : List Str}, (∀ z ∈ zs, One z) → (zs.map (·.length)).sum = zs.length
  | [], _ => rfl
  | z :: r, h => by
    have q := sum_len (zs := r) fun x hx => h x (List.mem_cons_of_mem _ hx)
    rw [List.map_cons, List.sum_cons, q, one_len (h z List.mem_cons_self), List.length_cons]
    omega
theorem joinL_nil : ∀ ls : List (List Nat), TL.joinL [] ls = ls.flatten
  | [] => rfl
  | [p] => by simp [TL.joinL]
  | p :: q :: r => by
    have ih := joinL_nil (q :: r)
    show p ++ ([] ++ TL.joinL [] (q :: r)) = _
    rw [ih]
    rfl
theorem ql_join0 (zs : List Str) : ql (Txt.join "" zs) = (zs.map ql).flatten := by
  rw [TL.join_eq]
  have q := TL.tl_join "" zs
  show TL.tl (Str.join "" zs) = _
  rw [q]
  exact joinL_nil _
theorem stem_len : ∀ {zs : List Str}, (∀ z ∈ zs, One z) → ((zs.map ql).flatten).length = zs.length
  | [], _ => rfl
  | z :: r, h => by
    have q := stem_len (zs := r) fun x hx => h x (List.mem_cons_of_mem _ hx)
    obtain ⟨c, e, _⟩ := h z List.mem_cons_self
    rw [List.map_cons, List.flatten_cons, List.length_append, q, e]
    show 1 + r.length = r.length + 1
    omega
theorem stem_in {zs : List Str} (h : ∀ z ∈ zs, One z) : ∀ c ∈ (zs.map ql).flatten, 97 ≤ c ∧ c ≤ 122 := fun c hc => by
  obtain ⟨l, hl, hc⟩ := List.mem_flatten.mp hc
  obtain ⟨z, hz, rfl⟩ := List.mem_map.mp hl
  obtain ⟨d, e, h1, h2⟩ := h z hz
  rw [e] at hc
  have := List.mem_singleton.mp hc
  omega
theorem inV3 (z a b c : Str) : inV (.str z) [.str a, .str b, .str c] = true ↔ (z = a ∨ z = b ∨ z = c) := by
  show ((a == z) || ((b == z) || ((c == z) || false))) = true ↔ _
  simp only [Bool.or_eq_true, beq_iff_eq, Bool.false_eq_true, or_false]
  constructor
  · rintro (h | h | h)
    · exact .inl h.symm
    · exact .inr (.inl h.symm)
    · exact .inr (.inr h.symm)
  · rintro (h | h | h)
    · exact .inl h.symm
    · exact .inr (.inl h.symm)
    · exact .inr (.inr h.symm)
end KX

namespace KX
open PySem L2 PyProof.Rows
/-- a def of the module that keeps a promise -/
structure Def (P : Program) (w : World) (K : PySem.W.Frag) (mg : Str → Option Value) (base : Heap) (x : Str) (n : Nat) (ps : List Str) (sp : Sp) (f : Addr) (fd : FuncData) : Prop where
  g : mg x = some (.ref f)
  kp : PySem.W.keepIn K (.ref f) = true
  b : Binds K fd ps []
  ok : FnOk P w K mg base CX0 n f fd ps sp
section
variable {base : Heap} {P : Program} {w : World} {K : PySem.W.Frag} {mg : Str → Option Value}
abbrev s_words : Stmt := top 51
abbrev N_words : List Str := ["_law_pool_here", "_law_many", "_law_letters", "_law_menu", "_law_way", "_law_begin", "_law_stem", "_law_at", "_law_found", "_law_k", "_law_word"]
abbrev P_words : List Str := ["_law_pool_here", "_law_many"]
theorem sc_words : FnScope N_words P_words (defScope s_words) := ⟨rfl, rfl, rfl, by decide +kernel, rfl, by decide +kernel, by decide +kernel⟩
def spWords : Sp := fun vs H Q _ => ∃ (p : Addr) (m : Int), vs = [.ref p, .int m] ∧ PoolAt H p ∧ 0 ≤ m ∧ m ≤ 24 ∧
  ∀ (H' : Hp) (r : Addr) (zs : List Str), Keep p H H' → PoolAt H' p → H r = none → H' r = some (.lst (zs.map V.str)) → zs.length = m.toNat → Names zs → Q (.ref r) H'
theorem ok_words {f fdr : Addr} {fd fdd : FuncData} (F : Fun K "_law_words" "_law_words" s_words f fd) (T : Bl mg) (D_draw : Def P w K mg base "_law_draw" 1 P_draw spDraw fdr fdd) : FnOk P w K mg base CX0 2 f fd P_words spWords := by
  refine F.ok sc_words (fun vs H Q E h => ?_) (fun cdv A outer s H vs Q E hr h => ?_)
  · obtain ⟨p, m, rfl, _⟩ := h
    rfl
  obtain ⟨p, m, rfl, hp, m1, m2, q⟩ := h
  refine ⟨_, (pss_cons (ps_set (i := 2) sc_words.nd rfl (Or.inr rfl) pe_str)
    (pss_cons (ps_set (i := 3) sc_words.nd rfl (Or.inr rfl) (pe_lst (pa_cons pe_str (pa_cons pe_str (pa_cons pe_str (pa_cons pe_str (pa_cons pe_str (pa_cons pe_str (pa_cons pe_str (pa_cons pe_str (pa_cons pe_str (pa_cons pe_str (pa_cons pe_str (pa_cons pe_str pa_nil))))))))))))))
    (pss_cons (ps_set (i := 3) sc_words.nd rfl (Or.inr rfl) (pe_op op_cat (pv 3) (pe_lst (pa_cons pe_str (pa_cons pe_str (pa_cons pe_str (pa_cons pe_str (pa_cons pe_str (pa_cons pe_str (pa_cons pe_str (pa_cons pe_str (pa_cons pe_str (pa_cons pe_str (pa_cons pe_str (pa_cons pe_str pa_nil)))))))))))))))
    (pss_cons (ps_asg (pe_tup (pa_cons (pe_call D_draw.ok (hr.mono (by first | decide | omega)) rfl D_draw.g D_draw.kp D_draw.b .nil pass0 (pa_cons (pv 0) (pa_cons pe_int pa_nil))) (pa_cons (pe_call D_draw.ok (hr.mono (by first | decide | omega)) rfl D_draw.g D_draw.kp D_draw.b .nil pass0 (pa_cons (pv 0) (pa_cons pe_int pa_nil))) pa_nil))) (pg_tup rfl (pgs_cons (pg_name (i := 4) sc_words.nd rfl (Or.inl rfl)) (pgs_cons (pg_name (i := 5) sc_words.nd rfl (Or.inr rfl)) pgs_nil))))
    (pss_cons (ps_if (pt_cmpR op_eq (pv 4) pe_int (nomark _))
      (pss_one (ps_ret (pe_lc (own := [("_law_k", 9)]) (g := (gName 9)) (tt := tYes) rfl sc_words.nd (pi_range1 rfl T.range (pa_cons (pv 1) pa_nil)) (blkOk_by (own := [("_law_k", 9)]) (N := N_words) (sc := defScope s_words) (by decide +kernel)) (fun _ _ _ _ _ => (pg_name (i := 9) sc_words.nd rfl (Or.inl rfl))) (fun _ _ _ _ _ => pts_nil) (fun _ _ _ _ _ => (pe_ix (ix_listK K rfl) (pv 3) (pe_op op_mod (pe_op op_add (pv 5) (pe_op op_mul pe_int (pv 9))) pe_int) (fun _ _ => rfl))))))
      pss_nil)
    (pss_cons (ps_if (pt_cmpR op_eq (pv 4) pe_int (nomark _))
      (pss_one (ps_ret (pe_lc (own := [("_law_k", 9)]) (g := (gName 9)) (tt := tYes) rfl sc_words.nd (pi_range1 rfl T.range (pa_cons (pv 1) pa_nil)) (blkOk_by (own := [("_law_k", 9)]) (N := N_words) (sc := defScope s_words) (by decide +kernel)) (fun _ _ _ _ _ => (pg_name (i := 9) sc_words.nd rfl (Or.inl rfl))) (fun _ _ _ _ _ => pts_nil) (fun _ _ _ _ _ => (pe_op op_mulS (pe_ix ix_str (pv 2) (pe_op op_mod (pe_op op_add (pv 5) (pe_op op_mul pe_int (pv 9))) pe_int) (fun _ _ => rfl)) (pe_op op_add pe_int (pe_op op_mod (pv 9) pe_int)))))))
      pss_nil)
    (pss_cons (ps_set (i := 6) sc_words.nd rfl (Or.inr rfl) (pe_join pe_str (pe_lc (own := [("_law_k", 9)]) (g := (gName 9)) (tt := tYes) rfl sc_words.nd (pi_range1 rfl T.range (pa_cons (pe_call D_draw.ok (hr.mono (by first | decide | omega)) rfl D_draw.g D_draw.kp D_draw.b .nil pass0 (pa_cons (pv 0) (pa_cons pe_int pa_nil))) pa_nil)) (blkOk_by (own := [("_law_k", 9)]) (N := N_words) (sc := defScope s_words) (by decide +kernel)) (fun _ _ _ _ _ => (pg_name (i := 9) sc_words.nd rfl (Or.inl rfl))) (fun _ _ _ _ _ => pts_nil) (fun _ _ _ _ _ => (pe_ix ix_str (pv 2) (pe_call D_draw.ok (hr.mono (by first | decide | omega)) rfl D_draw.g D_draw.kp D_draw.b .nil pass0 (pa_cons (pv 0) (pa_cons pe_int pa_nil))) (fun _ _ => rfl))))))
    (pss_cons (ps_set (i := 7) sc_words.nd rfl (Or.inr rfl) (pe_call D_draw.ok (hr.mono (by first | decide | omega)) rfl D_draw.g D_draw.kp D_draw.b .nil pass0 (pa_cons (pv 0) (pa_cons (pe_op op_add (pe_callB (call_lenK K rfl) (by rfl) T.len PySem.boot_len (pa_cons (pv 6) pa_nil)) pe_int) pa_nil))))
    (pss_cons (ps_setLc (i := 8) (own := [("_law_k", 9)]) (g := (gName 9)) (tt := tYes) rfl sc_words.nd rfl rfl (sw_true rfl rfl rfl (by decide +kernel)) (pi_range1 rfl T.range (pa_cons (pv 1) pa_nil)) (blkOk_by (own := [("_law_k", 9)]) (N := N_words) (sc := defScope s_words) (by decide +kernel)) (fun _ _ _ _ _ => (pg_name (i := 9) sc_words.nd rfl (Or.inl rfl))) (fun _ _ _ _ _ => pts_nil) (fun _ _ _ _ _ => (pe_op op_add_str (pe_op op_add_str (pe_slice sl_str (pv 6) po_none (po_some (pv 7))) (pe_ix ix_str (pv 2) (pe_op op_mod (pe_op op_add (pv 5) (pe_op op_mul pe_int (pv 9))) pe_int) (fun _ _ => rfl))) (pe_slice sl_str (pv 6) (po_some (pv 7)) po_none))))
    (pss_one (ps_ret (pe_lc (own := [("_law_word", 10)]) (g := (gName 10)) (tt := tYes) rfl sc_words.nd (pi_list (pv 8)) (blkOk_by (own := [("_law_word", 10)]) (N := N_words) (sc := defScope s_words) (by decide +kernel)) (fun _ _ _ _ _ => (pg_name (i := 10) sc_words.nd rfl (Or.inl rfl))) (fun _ _ _ _ _ => pts_nil) (fun _ _ _ _ _ => (pe_ifExp (pt_cmpR (op_inK K rfl) (pv 10) (pe_lst (pa_cons pe_str (pa_cons pe_str (pa_cons pe_str pa_nil)))) (by with_unfolding_all rfl)) (pe_op op_add_str (pv 10) pe_str) (pv 10))))))))))))))), ?_⟩
  have small : ∀ n : Nat, n ≤ 1000 → n ≤ sizeLine := fun n h => Nat.le_of_lt (small1000 h)
  refine ⟨(by show 12 ≤ sizeLine; decide), fun l1 hl1 => ?_⟩
  refine ⟨_, rfl, (by show 12 ≤ sizeLine; decide), fun l2 hl2 => ?_⟩
  have n12 : l1 ≠ l2 := ne_of_none upd_same hl2
  refine ⟨l1, l2, _, _, rfl, rfl, Eq.trans (upd_ne n12) upd_same, upd_same, (by show 24 ≤ sizeLine; decide), fun l hl => ?_⟩
  generalize hH3 : upd (upd (upd H l1 _) l2 _) l _ = H3
  have e3 : H3 l = some (.lst (menuW.map V.str)) := by rw [← hH3]; exact upd_same
  have s3 : Same H H3 := by rw [← hH3]; exact (same_new hl1 _).trans ((same_new hl2 _).trans (same_new hl _))
  have k3 : Keep p H H3 := Same.keep s3
  have p3 := hp.same s3
  have nlp : l ≠ p := (hp.same ((same_new hl1 _).trans (same_new hl2 _))).ne hl
  clear hH3 hl hl1 hl2 n12
  refine ⟨_, rfl, p, 3, rfl, p3, by decide, by decide, fun H4 r1 k4 p4 a0 a1 => ?_⟩
  refine ⟨_, rfl, p, 24, rfl, p4, by decide, by decide, fun H5 r2 k5 p5 b0 b1 => ?_⟩
  refine ⟨(by show 2 ≤ sizeLine; decide), fun t ht => ?_⟩
  refine ⟨t, _, rfl, SqT.of upd_same, rfl, _, _, rfl, _, _, rfl, rfl, ?_⟩
  generalize hH6 : upd H5 t _ = H6
  have s6 : Same H5 H6 := by rw [← hH6]; exact same_new ht _
  have k6 : Keep p H H6 := k3.trans (k4.trans (k5.trans (Same.keep s6)))
  have p6 := p5.same s6
  have e6 : H6 l = some (.lst (menuW.map V.str)) := s6 _ _ (k5 _ _ nlp (k4 _ _ nlp e3))
  clear hH6 ht k3 p3 e3 k4 p4 k5 p5 s6 s3
  have fin : ∀ (Hx H' : Hp) (D : Addr) (g : Nat → Str), Keep p H Hx → Hx D = none → D ≠ p → Keep p Hx H' → PoolAt H' p → H' D = some (.lst ((List.range m.toNat).map fun k => V.str (g k))) → Names ((List.range m.toNat).map g) → Q (.ref D) H' :=
    fun Hx H' D g k1 n1 nD k2 pp e z => q H' D _ (k1.trans k2) pp (k1.gone nD n1) (by rw [List.map_map]; exact e) (by rw [List.length_map, List.length_range]) z
  have hm : ((m.toNat : Nat) : Int) = m := by omega
  refine ⟨_, rfl, rfl, _, rfl, ?_⟩
  refine ite2 (fun c => ?_) (fun c => ?_)
  · refine ⟨_, rfl, m, rfl, by omega, by omega, fun D hD => ?_⟩
    have nD := p6.ne hD
    refine lc_range (lo := 0) (n := m.toNat) (fun i H' => Keep p H6 H' ∧ PoolAt H' p ∧ H' D = some (.lst ((List.range i).map fun k => V.str (g0 r2 k)))) ⟨Keep.new hD _, p6.upd nD, upd_same⟩ ?_ (fun H' ⟨k7, p7, e7⟩ => fin H6 H' D _ k6 hD nD k7 p7 e7 (names0 b0 b1 (by omega)))
    rintro i H' hi ⟨k7, p7, e7⟩
    refine ⟨rfl, yesT ?_⟩
    refine ⟨_, rfl, _, rfl, _, rfl, _, _, rfl, rfl, .inl ⟨by decide, by decide⟩, _, _, rfl, rfl, _, _, rfl, rfl, (by show (0 : Int) < 24; decide), ?_⟩
    have hj : ((r2 + 5 * (i : Int)) % 24).toNat < menuW.length := by rw [menuW_len]; omega
    refine ⟨l, _, _, .str (g0 r2 i), rfl, rfl, SqL.of (k7 _ _ nlp e6), at_of (j := ((r2 + 5 * (i : Int)) % 24).toNat) (by show (r2 + 5 * (0 + (i : Int))) % 24 = _; omega) ?_, _, e7, ?_, ?_⟩
    · rw [List.getElem?_map, List.getElem?_eq_getElem hj]
      unfold g0
      rw [List.getD_eq_getElem?_getD, List.getElem?_eq_getElem hj]
      rfl
    · rw [List.length_map, List.length_range]
      exact small1000 (by omega)
    · exact ⟨k7.upd hD, p7.upd nD, by rw [upd_same, map_snoc (fun k => V.str (g0 r2 k))]⟩
  · refine ⟨_, rfl, rfl, _, rfl, ?_⟩
    refine ite2 (fun c2 => ?_) (fun c2 => ?_)
    · refine ⟨_, rfl, m, rfl, by omega, by omega, fun D hD => ?_⟩
      have nD := p6.ne hD
      refine lc_range (lo := 0) (n := m.toNat) (fun i H' => Keep p H6 H' ∧ PoolAt H' p ∧ H' D = some (.lst ((List.range i).map fun k => V.str (g1 r2 k)))) ⟨Keep.new hD _, p6.upd nD, upd_same⟩ ?_ (fun H' ⟨k7, p7, e7⟩ => fin H6 H' D _ k6 hD nD k7 p7 e7 (names1 b0 b1 (by omega)))
      rintro i H' hi ⟨k7, p7, e7⟩
      refine ⟨rfl, yesT ?_⟩
      refine ⟨_, rfl, _, rfl, _, rfl, _, _, rfl, rfl, .inl ⟨by decide, by decide⟩, _, _, rfl, rfl, _, _, rfl, rfl, (by show (0 : Int) < 26; decide), ?_⟩
      have z : (0 : Int) + (i : Int) = i := Int.zero_add _
      rw [z]
      refine ⟨alpha, _, _, rfl, rfl, (by show 26 ≤ sizeLine; decide), alpha_at (j := (r2 + 7 * (i : Int)) % 26) (by omega) (by omega), ?_⟩
      refine ⟨_, rfl, _, _, rfl, rfl, (by show (0 : Int) < 12; decide), _, _, rfl, rfl, ?_⟩
      refine ⟨_, _, rfl, rfl, by omega, by omega, (by show 1 ≤ 1; decide), (by show 1 ≤ 1000; decide), _, e7, ?_, ?_⟩
      · rw [List.length_map, List.length_range]
        exact small1000 (by omega)
      · exact ⟨k7.upd hD, p7.upd nD, by rw [upd_same]; exact congrArg (fun x => some (HO.lst x)) (map_snoc (fun k => V.str (g1 r2 k)) i)⟩
    · -- stem
      refine ⟨⟨_, rfl⟩, _, rfl, p, 12, rfl, p6, by decide, by decide, fun H7 r3 k7 p7 c0 c1 => ⟨r3, rfl, by omega, by omega, fun D hD => ?_⟩⟩
      have nD := p7.ne hD
      refine lc_range (lo := 0) (n := r3.toNat) (fun i H' => Keep p H7 H' ∧ PoolAt H' p ∧ ∃ zs : List Str, H' D = some (.lst (zs.map V.str)) ∧ zs.length = i ∧ ∀ z ∈ zs, One z) ⟨Keep.new hD _, p7.upd nD, [], upd_same, rfl, fun z hz => by cases hz⟩ ?_ ?_
      · rintro i H' hi ⟨k8, p8, zs, e8, l8, o8⟩
        refine ⟨rfl, yesT ?_⟩
        refine ⟨_, rfl, _, rfl, p, 26, rfl, p8, by decide, by decide, fun H9 r4 k9 p9 d0 d1 => ?_⟩
        refine ⟨alpha, _, _, rfl, rfl, (by show 26 ≤ sizeLine; decide), alpha_at d0 d1, _, k9 _ _ nD e8, ?_, ?_⟩
        · rw [List.length_map]
          exact small1000 (by omega)
        · refine ⟨(k8.trans k9).upd hD, p9.upd nD, zs ++ [⟨#[97 + r4.toNat]⟩], ?_, ?_, fun z hz => ?_⟩
          · rw [upd_same, List.map_append]
            rfl
          · rw [List.length_append, l8]
            rfl
          · rcases List.mem_append.mp hz with hz | hz
            · exact o8 z hz
            · rw [List.mem_singleton.mp hz]
              exact ⟨97 + r4.toNat, rfl, by omega, by omega⟩
      rintro H8 ⟨k8, p8, zs, e8, l8, o8⟩
      refine ⟨"", D, zs, rfl, rfl, .inl (SqL.of e8), ?_, ?_⟩
      · rw [sum_len o8]
        show zs.length + zs.length * 0 ≤ 16777216
        omega
      have hst : ql (Txt.join "" zs) = (zs.map ql).flatten := ql_join0 zs
      have hsl : (Txt.join "" zs).length ≤ 11 := by
        rw [ql_len, hst, stem_len o8]
        omega
      have hsc : ∀ c ∈ ql (Txt.join "" zs), 97 ≤ c ∧ c ≤ 122 := by
        rw [hst]
        exact stem_in o8
      generalize Txt.join "" zs = stem at hsl hsc
      have ks : Keep p H6 H8 := k7.trans k8
      have hz1 : stem.length ≤ sizeLine := small _ (by omega)
      clear hst e8 k8 k7 hD l8 o8
      -- at
      refine ⟨_, rfl, _, rfl, .str stem, stem.length, rfl, ⟨hz1, rfl⟩, _, _, rfl, rfl, p, ((stem.length : Int) + 1), rfl, p8, by omega, by omega, fun H9 a k9 p9 f0 f1 => ?_⟩
      have f1' : a ≤ (stem.length : Int) := by omega
      -- found
      refine ⟨_, rfl, m, rfl, by omega, by omega, fun D2 hD2 => ?_⟩
      have nD2 := p9.ne hD2
      refine lc_range (lo := 0) (n := m.toNat) (fun i H' => Keep p H9 H' ∧ PoolAt H' p ∧ H' D2 = some (.lst ((List.range i).map fun k => V.str (g2 stem a r2 k)))) ⟨Keep.new hD2 _, p9.upd nD2, upd_same⟩ ?_ ?_
      · rintro i H' hi ⟨k10, p10, e10⟩
        refine ⟨rfl, yesT ?_⟩
        have z : (0 : Int) + (i : Int) = i := Int.zero_add _
        rw [z]
        have l1 := cutS_length stem none (some a)
        have l2 := cutS_length stem (some a) none
        refine ⟨_, rfl, _, rfl, _, rfl, stem, rfl, hz1, _, rfl, _, rfl, _, rfl, _, _, rfl, rfl, .inl ⟨by decide, by decide⟩, _, _, rfl, rfl, _, _, rfl, rfl, (by show (0 : Int) < 26; decide), ?_⟩
        refine ⟨alpha, _, _, rfl, rfl, (by show 26 ≤ sizeLine; decide), alpha_at (j := (r2 + 5 * (i : Int)) % 26) (by omega) (by omega), _, _, rfl, rfl, ?_, ?_⟩
        · exact small _ (by show _ + 1 ≤ 1000; omega)
        refine ⟨_, rfl, _, rfl, _, rfl, stem, rfl, hz1, _, _, rfl, rfl, ?_, ?_⟩
        · have l3 : (cutS stem none (some a) ++ (⟨#[97 + ((r2 + 5 * (i : Int)) % 26).toNat]⟩ : Str)).length = (cutS stem none (some a)).length + 1 := by
            rw [ql_len, ql_app, List.length_append, ← ql_len]
            rfl
          exact small _ (by omega)
        · refine ⟨_, e10, ?_, k10.upd hD2, p10.upd nD2, by rw [upd_same]; exact congrArg (fun x => some (HO.lst x)) (map_snoc (fun k => V.str (g2 stem a r2 k)) i)⟩
          rw [List.length_map, List.length_range]
          exact small1000 (by omega)
      rintro H10 ⟨k10, p10, e10⟩
      refine ⟨_, rfl, D2, rfl, ⟨_, SqL.of e10⟩, fun D3 hD3 => ?_⟩
      have nD3 := p10.ne hD3
      refine lc_list (K := K) (a := D2) (xs := (List.range m.toNat).map fun k => V.str (g2 stem a r2 k)) (fun i H' => Keep p H10 H' ∧ PoolAt H' p ∧ H' D3 = some (.lst ((List.range i).map fun k => V.str (g3 (g2 stem a r2 k))))) ⟨Keep.new hD3 _, p10.upd nD3, upd_same⟩
        (fun i H' _ ⟨k11, p11, e11⟩ => SqL.of (k11 _ _ nD2 e10)) ?_ (fun H' ⟨k11, p11, e11⟩ => fin H10 H' D3 (fun k => g3 (g2 stem a r2 k)) (k6.trans (ks.trans (k9.trans k10))) hD3 nD3 k11 p11 (by rw [List.length_map, List.length_range] at e11; exact e11) (names2 f0 f1' hsl hsc (by omega)))
      rintro i x H' hx ⟨k11, p11, e11⟩
      obtain ⟨hi, rfl⟩ : i < m.toNat ∧ x = V.str (g2 stem a r2 i) := by
        have hlt := (List.getElem?_eq_some_iff.mp hx).1
        rw [List.length_map, List.length_range] at hlt
        rw [List.getElem?_map, List.getElem?_range hlt] at hx
        exact ⟨hlt, (Option.some.inj hx).symm⟩
      refine ⟨rfl, yesT ?_⟩
      refine ⟨_, rfl, (by show 3 ≤ sizeLine; decide), fun l3 hl3 => ⟨l3, _, rfl, .inl (SqL.of upd_same), rfl, rfl, _, rfl, ?_⟩⟩
      have e12 : (upd H' l3 (.lst [V.str "true", V.str "false", V.str "self"])) D3 = some (.lst ((List.range i).map fun k => V.str (g3 (g2 stem a r2 k)))) := by
        rw [upd_ne (ne_of_none e11 hl3)]
        exact e11
      have nl3 := p11.ne hl3
      have wl : (g2 stem a r2 i).length ≤ 12 := by rw [len_g2 f0 f1']; omega
      have step : ∀ z : Str, g3 (g2 stem a r2 i) = z → ∃ acc, (upd H' l3 (.lst [V.str "true", V.str "false", V.str "self"])) D3 = some (.lst acc) ∧ acc.length < sizeLine ∧ (Keep p H10 (upd (upd H' l3 (.lst [V.str "true", V.str "false", V.str "self"])) D3 (.lst (acc ++ [V.str z]))) ∧ PoolAt (upd (upd H' l3 (.lst [V.str "true", V.str "false", V.str "self"])) D3 (.lst (acc ++ [V.str z]))) p ∧ (upd (upd H' l3 (.lst [V.str "true", V.str "false", V.str "self"])) D3 (.lst (acc ++ [V.str z]))) D3 = some (.lst ((List.range (i + 1)).map fun k => V.str (g3 (g2 stem a r2 k))))) := fun z ez => by
        refine ⟨_, e12, ?_, (k11.trans (Keep.new hl3 _)).upd hD3, (p11.upd nl3).upd nD3, ?_⟩
        · rw [List.length_map, List.length_range]
          exact small1000 (by omega)
        · rw [upd_same, ← ez]
          exact congrArg (fun x => some (HO.lst x)) (map_snoc (fun k => V.str (g3 (g2 stem a r2 k))) i)
      refine ite2 (fun cc => ?_) (fun cc => ?_)
      · have cc' := (inV3 _ _ _ _).mp cc
        refine ⟨_, rfl, _, _, rfl, rfl, small _ (by show _ + 1 ≤ 1000; omega), ?_⟩
        exact step _ (by unfold g3; rw [if_pos cc'])
      · refine ⟨_, rfl, ?_⟩
        exact step _ (by unfold g3; rw [if_neg (fun h => cc ((inV3 _ _ _ _).mpr h))])
end
end KX

namespace KX
open PySem PySem.Spec L2 PyProof.Rows
/-! ### defs whose calls want to know that nothing is being shown -/
/-- what a def does where no repr is under way -/
structure FnG (P : Program) (w : World) (K : PySem.W.Frag) (mg : Str → Option Value) (base : Heap) (k : Nat) (f : Addr) (fd : FuncData) (ps : List Str) (sp : Sp) : Prop where
  long : ∀ vs H Q, sp vs H Q E0 → vs.length = ps.length
  does : ∀ (A : Around) (outer : List Env) (s : Shared) (H : Hp) (args : Args) (us : List Value) (vs : List V) (Q : VK), A.guards = some [] → Room k A → Env0 P w K mg base A outer s H → BindsTo s fd args (ps.zip us) → Vals vs us → sp vs H Q E0 →
    codeAny (model P w) A (.call (.ref f) args) (CR CX0 outer P w H s Q E0) s
structure DefG (P : Program) (w : World) (K : PySem.W.Frag) (mg : Str → Option Value) (base : Heap) (x : Str) (n : Nat) (ps : List Str) (sp : Sp) (f : Addr) (fd : FuncData) : Prop where
  named : mg x = some (.ref f)
  kept : PySem.W.keepIn K (.ref f) = true
  binds : Binds K fd ps []
  fn : FnG P w K mg base n f fd ps sp
theorem FnOk.g {P : Program} {w : World} {K : PySem.W.Frag} {mg : Str → Option Value} {base : Heap} {k : Nat} {f : Addr} {fd : FuncData} {ps : List Str} {sp : Sp} (F : FnOk P w K mg base CX0 k f fd ps sp) : FnG P w K mg base k f fd ps sp :=
  ⟨fun vs H Q => F.len vs H Q E0, fun A outer s H args us vs Q _ => F.run A outer s H args us vs Q E0⟩
section
variable {X : Cx}
/-- f(e, ..) of such a def -/
theorem pe_callG {k : Nat} {f : Addr} {fd : FuncData} {ps : List Str} {sp : Sp} {x : Str} {p pos : Pos} {e : Expr} {es : List Expr} {t : TA} (quiet : X.A.guards = some []) (D : DefG X.prog X.w X.K X.mg X.base x k ps sp f fd) (room : Room k X.A) (isG : Gl X x) (args : PA X (e :: es) t)
    (noDebug : (x == ("__debug__" : Str)) = false := by decide) (stars : starEach (e :: es) X.env = (false, eval e X.env) :: starEach es X.env := by rfl) (noStar : (backTo pos (starEach es X.env)).any (·.1) = false := by rfl) :
    PE X (.Call (.Name x p) (e :: es) [] pos) (tCall sp [] E0 t) := by
  constructor
  intro pins s σ H Q I want
  refine wpAny_Call_Name_kw (ld_glob I isG D.named ?_ noDebug)
  refine PySem.W.callWith_K (h₀ := X.base) I.ok.mod.kin D.kept (thn (args.run pos pins s σ H _ I want) ?_) stars noStar
  rintro us s1 ⟨vs, H1, J, rel, want1⟩
  have asked : sp vs H1 Q E0 := by
    have q : sp (vs ++ []) H1 Q E0 := want1
    rwa [List.append_nil] at q
  have ul : us.length = ps.length := rel.length.symm.trans (D.fn.long _ _ _ asked)
  have bound : BindsTo s1 fd ⟨us, []⟩ (ps.zip us) := by
    have q := D.binds s1 us J.kIn (by rw [List.append_nil]; exact ul)
    rwa [List.append_nil] at q
  refine ⟨J.kIn, wpAny_call (codeAny_mono (D.fn.does X.A X.stack s1 H1 ⟨us, []⟩ us vs Q quiet room J.env0 bound rel asked) ?_)⟩
  rintro (e | fl) s' h
  · exact h.elim
  · cases fl with
    | ret u => exact J.after h
    | next => exact h.elim
    | brk => exact h.elim
    | cont => exact h.elim
end
section
variable {base : Heap} {P : Program} {w : World} {K : PySem.W.Frag} {mg : Str → Option Value}
/-- a def's body, walked where nothing is being shown -/
theorem Fun.g {x qual : Str} {st : Stmt} {f : Addr} {fd : FuncData} {N ps : List Str} {k : Nat} {sp : Sp} (F : Fun K x qual st f fd) (S : FnScope N ps (defScope st)) (long : ∀ vs H Q, sp vs H Q E0 → vs.length = ps.length)
    (body : ∀ (cdv : Value) (A : Around) (outer : List Env) (s : Shared) (H : Hp) (vs : List V) (Q : VK), (cxOf CX0 P w K mg base N qual (defScope st) f cdv A outer s H E0).nox.A.guards = some [] → Room k (A.deeper (envOfC qual (defScope st) s.heap.objs.size f cdv)) → sp vs H Q E0 →
      ∃ t, PSs (cxOf CX0 P w K mg base N qual (defScope st) f cdv A outer s H E0).nox (defBody st) t ∧ t { nx := fun _ H' => Q .non H', rt := Q } (start N vs) H) : FnG P w K mg base (k + 1) f fd ps sp := by
  obtain ⟨oc, od, kV, doc, pm, an, cdv, ct, osl, rfl, lk, code⟩ := F.ex
  refine ⟨long, ?_⟩
  intro A outer s H args us vs Q quiet room e0 bound rel want
  have given := long _ _ _ want
  have here : ∀ b o, base.get? b = some o → s.heap.get? b = some o := fun b o e => (e0.bs b o e).1
  have kIn : K.In s.heap := e0.mod.kin.keeps here
  have kinds : ∀ y ∈ ps.zip us, (defScope st).names.lookup y.1 = some .local ∨ ((defScope st).names.lookup y.1 = some .cell ∧ ((cellsFrom (s.heap.objs.size + 1) (defScope st).names []).lookup y.1).isSome = true) := by
    rintro ⟨n, v⟩ hy
    exact (S.par n (List.of_mem_zip hy).1).imp id fun q => ⟨q, PySem.W.cellsFrom_some _ _ _ (.inl q)⟩
  refine codeAny_call_function room.depth (kIn _ _ lk) rfl S.co S.gen rfl (PySem.W.codeRec_of kIn code) (bound _ _ _ _ (wpAny_newFunctionEnv_cells S.kind kinds ?_))
  rintro env rfl s1 at1
  refine ⟨(e0.mod.nolimit.keeps here).keeps at1.toInCall.keep, codeAny_func ?_⟩
  obtain ⟨t, run, wish⟩ := body cdv A outer s H vs Q quiet (room.deeper _) want
  refine wpAny_mono (run.nox.run [] s1 (start N vs) H _ (inv_start S room.hd e0 given rel at1) wish) ?_ fun _ _ z => z
  rintro fl s' h
  cases fl with
  | ret u =>
    obtain ⟨v, σ', H', J', r, q⟩ := h
    exact ⟨v, H', J'.os, J'.bare, J'.base, J'.hok, r, q⟩
  | next =>
    obtain ⟨σ', H', J', q⟩ := h
    exact ⟨V.non, H', J'.os, J'.bare, J'.base, J'.hok, rfl, q⟩
  | brk => exact h.elim fun _ z => z.elim fun _ z => z.2.elim
  | cont => exact h.elim fun _ z => z.elim fun _ z => z.2.elim
/-- how a law's script may be seen: a list apart from all else, or one of the module's own -/
structure Seen (P : Program) (w : World) (K : PySem.W.Frag) (h : Heap) (a : Addr) (xs : List V) (H : Hp) : Prop where
  none' : ∀ b, b ≠ a → H b = none
  frozen : H a = none ∨ ∃ o ys, H a = some (.frz o (.lst ys))
  free : H a = none ∨ K.lookup a = none
  hok : HOk P w H h
  seq : SqL K H a xs
theorem seen_of {h : Heap} {a : Addr} {vs : List Value} {xs : List V} (kIn : K.In h) (at' : h.get? a = some { cls := .type "list", data := .seq vs.toArray }) (rel : Vals xs vs) (short : xs.length ≤ sizeLine) : ∃ H, Seen P w K h a xs H := by
  have short' : vs.toArray.size ≤ sizeLine := by
    rw [List.size_toArray, ← rel.length]
    exact short
  cases known : K.lookup a with
  | some o =>
    have e := (kIn a o known).symm.trans at'
    obtain rfl := Option.some.inj e
    exact ⟨fun _ => none, fun _ _ => rfl, .inl rfl, .inl rfl, fun _ _ z => (nomatch z), .inr ⟨_, _, _, known, rfl, rfl, rfl, short', rel⟩⟩
  | none =>
    have one : ∀ {b u}, (fun b => if b = a then some (HO.frz { cls := .type "list", data := .seq vs.toArray } (.lst xs)) else none) b = some u → b = a ∧ u = .frz { cls := .type "list", data := .seq vs.toArray } (.lst xs) := by
      intro b u z
      by_cases hb : b = a
      · exact ⟨hb, (Option.some.inj ((if_pos hb).symm.trans z)).symm⟩
      · exact nomatch (if_neg hb).symm.trans z
    refine ⟨fun b => if b = a then some (.frz { cls := .type "list", data := .seq vs.toArray } (.lst xs)) else none, fun b hb => if_neg hb, .inr ⟨_, xs, if_pos rfl⟩, .inr known, ?_, .inl (.inr ⟨_, if_pos rfl⟩)⟩
    intro b u z
    obtain ⟨rfl, rfl⟩ := one z
    exact ⟨at', short, vs, _, rel, at'⟩
/-- the law's def is called with its script -/
theorem script_call {mb : Str → Option Value} {k : Nat} {fa a : Addr} {fd : FuncData} {x : Str} {sp : Sp} {s : Shared} {vs : List Value} {ns : List Int} (kIn : K.In s.heap) (ns' : s.heap.Ns mainGlobals mg) (nb : s.heap.Ns builtinsNs mb)
    (boot : ∀ x : Str, x ≠ "__name__" → mb x = bootBuiltins x) (free : s.heap.NoLimit) (gens : s.gens = #[]) (at' : s.heap.get? a = some { cls := .type "list", data := .seq vs.toArray }) (whole : IntsAre vs ns) (short : ns.length ≤ sizeLine) (room : Room k callerA)
    (fn : ∀ base : Heap, K.In base → base.Ns mainGlobals mg → FnG P w K mg base k fa fd [x] sp) (binds : ∀ (s : Shared) (u : Value), BindsTo s fd ⟨[u], []⟩ [(x, u)]) (asked : ∀ H : Hp, SqL K H a (ns.map V.int) → sp [.ref a] H (fun v _ => v = .bl true) E0) :
    codeAny (model P w) callerA (.call (.ref fa) ⟨[.ref a], []⟩) (fun r s' => r = .ok (.ret (.bool true)) ∧ OldK s.heap s'.heap ∧ s'.os = s.os ∧ AllBare s'.gens) s := by
  obtain ⟨H, S⟩ := seen_of (P := P) (w := w) kIn at' (vals_ints whole) (by rw [List.length_map]; exact short)
  have keeps : ∀ {b o}, s.heap.get? b = some o → (b = a → H a = none) → (hidT s.heap H).get? b = some o := fun {b o} e q => hidT_get e (by
    by_cases hb : b = a
    · rw [hb]
      exact q hb
    · exact S.none' b hb)
  have spaces : ∀ {b m}, s.heap.Ns b m → (hidT s.heap H).Ns b m := by
    rintro b m ⟨o, es, ep, e, d, r⟩
    refine ⟨o, es, ep, keeps e fun hb => ?_, d, r⟩
    subst hb
    obtain rfl := Option.some.inj (e.symm.trans at')
    exact nomatch (show Data.seq vs.toArray _ = Data.dict es ep from d)
  have kIn' : K.In (hidT s.heap H) := fun b o e => keeps (kIn b o e) fun hb => S.free.resolve_right fun z => by
    subst hb
    rw [z] at e
    cases e
  have e0 : Env0 P w K mg (hidT s.heap H) callerA [] s H := by
    obtain ⟨mc, f1, f2⟩ := free
    refine ⟨rfl, ⟨kIn', spaces ns', ⟨mb, spaces nb, boot⟩, ⟨mc, spaces f1, f2⟩⟩, fun b o e => of_hidT e, ?_, trivial, fun b hb => (nomatch hb), S.hok, .of_eq gens⟩
    rw [hidT_size]
    exact Nat.le_refl _
  refine codeAny_mono ((fn _ kIn' (spaces ns')).does callerA [] s H ⟨[.ref a], []⟩ [.ref a] [.ref a] _ rfl room e0 (binds s _) (.cons rfl .nil) (asked H S.seq)) ?_
  rintro (e | fl) s' h
  · exact h.elim
  cases fl with
  | next => exact h.elim
  | brk => exact h.elim
  | cont => exact h.elim
  | ret u =>
    obtain ⟨v, H', os, bare, un, hok', rv, rfl⟩ := h
    obtain rfl : u = Value.bool true := rv
    refine ⟨rfl, OldK.of_keep fun b o e => ?_, os, bare⟩
    by_cases hb : H b = none
    · exact un.keep b o e hb (fun z => nomatch z) (fun z => nomatch z)
    · have ha : b = a := Classical.byContradiction fun z => hb (S.none' b z)
      subst ha
      obtain ⟨ob, ys, fz⟩ := S.frozen.resolve_left hb
      have old := (S.hok b _ fz).1
      exact (hok' b _ (un.frzs b ob _ fz)).1.trans (old.symm.trans e)
end
/-- the end of a law whose defs show nested values -/
theorem walk_g {l : PySem.W.OpenLaw} {n k : Nat} {q : Program} {loose : List Str} {XP : (Str → Option Value) → Heap → Prop} {YP : World → Heap → Prop} {d : DefRec} {x : Str} (most : l.most = some n) (small : n ≤ sizeLine) (plain : d.params.defaults = []) (room : Room k callerA)
    (law : ∀ (w : World) (mg : Str → Option Value) (fa : Addr) (h : Heap), YP w h → h.Ns mainGlobals mg → mg d.name = some (.ref fa) → ∃ (K : PySem.W.Frag) (fd : FuncData) (sp : Sp), K.In h ∧ (∀ (s : Shared) (u : Value), BindsTo s fd ⟨[u], []⟩ [(x, u)]) ∧
      (∀ (H : Hp) (a : Addr) (ns : List Int), ns.length ≤ n → SqL K H a (ns.map V.int) → sp [.ref a] H (fun v _ => v = .bl true) E0) ∧ ∀ base : Heap, K.In base → base.Ns mainGlobals mg → FnG l.prog w K mg base k fa fd [x] sp) :
    PySem.W.WalkO q loose XP YP l.row.toRowW d [] (fun f vs => PySem.call f vs) := by
  apply Att.attach_call most plain
  intro w s0 s1 mg mb fa o pm cd doc a vs ns G Y ho hd hcd named script whole long gens
  obtain ⟨K, fd, sp, kIn, binds, asked, fn⟩ := law w mg fa _ Y G.T.g named
  exact script_call kIn G.T.g G.T.b G.T.builtins G.T.nolimit gens script whole (Nat.le_trans long small) room fn binds fun H => asked H a ns long
end KX

namespace KX
open PySem PySem.Spec L2 PyProof.Rows
/-! ### data on the abstract heap, dicts too -/
def keyD : Key → PyData
  | .inl i => .int i
  | .inr x => .str x
mutual
inductive Dq (K : PySem.W.Frag) (H : Hp) : V → PyData → Prop
  | non : Dq K H .non .none
  | bl (b : Bool) : Dq K H (.bl b) (.bool b)
  | int (i : Int) : Dq K H (.int i) (.int i)
  | str (x : Str) : Dq K H (.str x) (.str x)
  | lst {a : Addr} {xs : List V} {ds : List PyData} : H a = some (.lst xs) → DqAll K H xs ds → Dq K H (.ref a) (.list ds)
  | tup {a : Addr} {xs : List V} {ds : List PyData} : H a = some (.tup xs) → DqAll K H xs ds → Dq K H (.ref a) (.tuple ds)
  | dct {a : Addr} {kvs : List (Key × V)} {ds : List (PyData × PyData)} : H a = some (.dK kvs) → DqKv K H kvs ds → Dq K H (.ref a) (.dict ds)
inductive DqAll (K : PySem.W.Frag) (H : Hp) : List V → List PyData → Prop
  | nil : DqAll K H [] []
  | cons {v : V} {vs : List V} {d : PyData} {ds : List PyData} : Dq K H v d → DqAll K H vs ds → DqAll K H (v :: vs) (d :: ds)
inductive DqKv (K : PySem.W.Frag) (H : Hp) : List (Key × V) → List (PyData × PyData) → Prop
  | nil : DqKv K H [] []
  | cons {k : Key} {v : V} {r : List (Key × V)} {d : PyData} {ds : List (PyData × PyData)} : Dq K H v d → DqKv K H r ds → DqKv K H ((k, v) :: r) ((keyD k, d) :: ds)
end
theorem Same.seqT {K : PySem.W.Frag} {H H' : Hp} {a : Addr} {xs : List V} (e : Same H H') (h : SqT K H a xs) : SqT K H' a xs :=
  h.imp (Or.imp (e a _) fun ⟨o, k⟩ => ⟨o, e a _ k⟩) id
mutual
theorem Dq.same {K : PySem.W.Frag} {H H' : Hp} (e : Same H H') : ∀ (d : PyData) (v : V), Dq K H v d → Dq K H' v d
  | .none, _, .non => .non
  | .bool _, _, .bl b => .bl b
  | .int _, _, .int i => .int i
  | .str _, _, .str x => .str x
  | .list ds, _, .lst hs ha => .lst (e _ _ hs) (DqAll.same e ds _ ha)
  | .tuple ds, _, .tup hs ha => .tup (e _ _ hs) (DqAll.same e ds _ ha)
  | .dict ds, _, .dct hs ha => .dct (e _ _ hs) (DqKv.same e ds _ ha)
theorem DqAll.same {K : PySem.W.Frag} {H H' : Hp} (e : Same H H') : ∀ (ds : List PyData) (vs : List V), DqAll K H vs ds → DqAll K H' vs ds
  | [], _, .nil => .nil
  | d :: ds, _, .cons h1 h2 => .cons (Dq.same e d _ h1) (DqAll.same e ds _ h2)
theorem DqKv.same {K : PySem.W.Frag} {H H' : Hp} (e : Same H H') : ∀ (ds : List (PyData × PyData)) (vs : List (Key × V)), DqKv K H vs ds → DqKv K H' vs ds
  | [], _, .nil => .nil
  | (_, d) :: ds, _, .cons h1 h2 => .cons (Dq.same e d _ h1) (DqKv.same e ds _ h2)
end
/-- the heap without p -/
def hide (p : Addr) (H : Hp) : Hp := fun b => if b = p then none else H b
theorem hide_ne {p b : Addr} {H : Hp} (h : b ≠ p) : hide p H b = H b := if_neg h
theorem hide_sub (p : Addr) (H : Hp) : Same (hide p H) H := fun b o e => by
  by_cases h : b = p
  · subst h
    rw [show hide b H b = none from if_pos rfl] at e
    cases e
  · rw [hide_ne h] at e
    exact e
theorem Keep.hide {p : Addr} {H H' : Hp} (k : Keep p H H') : Same (hide p H) (hide p H') := fun b o e => by
  by_cases h : b = p
  · subst h
    rw [show KX.hide b H b = none from if_pos rfl] at e
    cases e
  · rw [hide_ne h] at e
    rw [hide_ne h]
    exact k b o h e
/-- what is new in H' -/
def sub (H H' : Hp) : Hp := fun b => match H b with
  | none => H' b
  | some _ => none
theorem sub_new {H H' : Hp} {b : Addr} (h : H b = none) : sub H H' b = H' b := by
  unfold sub
  rw [h]
theorem sub_old {H H' : Hp} {b : Addr} {o : HO} (h : H b = some o) : sub H H' b = none := by
  unfold sub
  rw [h]
theorem sub_same (H H' : Hp) : Same (sub H H') H' := fun b o e => by
  cases h : H b with
  | none => rw [sub_new h] at e; exact e
  | some u => rw [sub_old h] at e; cases e
/-- what was there is there -/
def Dom (H H' : Hp) : Prop := ∀ b, H' b = none → H b = none
theorem Dom.trans {H H1 H2 : Hp} (a : Dom H H1) (b : Dom H1 H2) : Dom H H2 := fun c h => a c (b c h)
theorem Same.dom {H H' : Hp} (s : Same H H') : Dom H H' := fun b h => s.free h
theorem dom_upd {H : Hp} {a : Addr} {o : HO} : Dom H (upd H a o) := fun b h => by
  by_cases e : b = a
  · subst e
    rw [upd_same] at h
    cases h
  · rw [upd_ne e] at h
    exact h
theorem Keep.dom {p : Addr} {H H' : Hp} (k : Keep p H H') (pp : PoolAt H' p) : Dom H H' := fun b h => by
  by_cases e : b = p
  · subst e
    obtain ⟨_, _, _, q, _⟩ := pp
    rw [q] at h
    cases h
  · exact k.gone e h
theorem sub_left {H0 H1 H2 : Hp} (d : Dom H0 H1) : Same (sub H1 H2) (sub H0 H2) := fun b o e => by
  cases h : H1 b with
  | none => rw [sub_new h] at e; rw [sub_new (d b h)]; exact e
  | some u => rw [sub_old h] at e; cases e
theorem sub_keep {p : Addr} {H0 H2 H3 : Hp} (k : Keep p H2 H3) (hp : ∃ o, H0 p = some o) : Same (sub H0 H2) (sub H0 H3) := fun b o e => by
  cases h : H0 b with
  | none =>
    rw [sub_new h] at e
    rw [sub_new h]
    refine k b o (fun z => ?_) e
    obtain ⟨u, hu⟩ := hp
    rw [z, hu] at h
    cases h
  | some u => rw [sub_old h] at e; cases e
theorem sub_upd {H0 H2 : Hp} {a : Addr} {o : HO} (h : ∃ u, H0 a = some u) : Same (sub H0 H2) (sub H0 (upd H2 a o)) := fun b u e => by
  cases q : H0 b with
  | none =>
    rw [sub_new q] at e
    rw [sub_new q, upd_ne (fun z => by
      obtain ⟨x, hx⟩ := h
      rw [z, hx] at q
      cases q)]
    exact e
  | some x => rw [sub_old q] at e; cases e
theorem sub_fresh {H0 H : Hp} {t : Addr} {o : HO} (h : H t = none) : Same (sub H0 H) (sub H0 (upd H t o)) := fun b u e => by
  cases q : H0 b with
  | none =>
    rw [sub_new q] at e
    rw [sub_new q, upd_ne (ne_of_none e h)]
    exact e
  | some x => rw [sub_old q] at e; cases e
theorem sub_hide {p : Addr} {H H' : Hp} (h : ∃ o, H p = some o) : Same (sub H H') (hide p H') := fun b o e => by
  cases q : H b with
  | none =>
    rw [sub_new q] at e
    rw [hide_ne (fun z => by
      obtain ⟨x, hx⟩ := h
      rw [z, hx] at q
      cases q)]
    exact e
  | some u => rw [sub_old q] at e; cases e
theorem PoolAt.has {H : Hp} {p : Addr} (h : PoolAt H p) : ∃ o, H p = some o := by
  obtain ⟨_, _, _, e, _⟩ := h
  exact ⟨_, e⟩
mutual
theorem Dq.det {K : PySem.W.Frag} {H : Hp} : ∀ (d : PyData) (v : V) (e : PyData), Dq K H v d → Dq K H v e → d = e
  | .none, _, _, .non, .non => rfl
  | .bool _, _, _, .bl b, .bl _ => rfl
  | .int _, _, _, .int i, .int _ => rfl
  | .str _, _, _, .str x, .str _ => rfl
  | .list ds, _, _, .lst hs ha, h2 => by
    cases h2 with
    | lst hs2 ha2 =>
      rw [hs] at hs2
      cases hs2
      rw [DqAll.det ds _ _ ha ha2]
    | tup hs2 _ => rw [hs] at hs2; cases hs2
    | dct hs2 _ => rw [hs] at hs2; cases hs2
  | .tuple ds, _, _, .tup hs ha, h2 => by
    cases h2 with
    | tup hs2 ha2 =>
      rw [hs] at hs2
      cases hs2
      rw [DqAll.det ds _ _ ha ha2]
    | lst hs2 _ => rw [hs] at hs2; cases hs2
    | dct hs2 _ => rw [hs] at hs2; cases hs2
  | .dict ds, _, _, .dct hs ha, h2 => by
    cases h2 with
    | dct hs2 ha2 =>
      rw [hs] at hs2
      cases hs2
      rw [DqKv.det ds _ _ ha ha2]
    | lst hs2 _ => rw [hs] at hs2; cases hs2
    | tup hs2 _ => rw [hs] at hs2; cases hs2
theorem DqAll.det {K : PySem.W.Frag} {H : Hp} : ∀ (ds : List PyData) (vs : List V) (es : List PyData), DqAll K H vs ds → DqAll K H vs es → ds = es
  | [], _, _, .nil, .nil => rfl
  | d :: ds, _, _, .cons h1 h2, .cons g1 g2 => by rw [Dq.det d _ _ h1 g1, DqAll.det ds _ _ h2 g2]
theorem DqKv.det {K : PySem.W.Frag} {H : Hp} : ∀ (ds : List (PyData × PyData)) (vs : List (Key × V)) (es : List (PyData × PyData)), DqKv K H vs ds → DqKv K H vs es → ds = es
  | [], _, _, .nil, .nil => rfl
  | (_, d) :: ds, _, _, .cons h1 h2, .cons g1 g2 => by rw [Dq.det d _ _ h1 g1, DqKv.det ds _ _ h2 g2]
end
/-! what is less deep than the thing at q does not hold it -/
mutual
theorem Dq.avoid {K : PySem.W.Frag} {H : Hp} {q : Addr} {D : PyData} (hD : Dq K H (.ref q) D) : ∀ (d : PyData) (v : V), Dq K H v d → d.depth < D.depth → Dq K (hide q H) v d
  | .none, _, .non, _ => .non
  | .bool _, _, .bl b, _ => .bl b
  | .int _, _, .int i, _ => .int i
  | .str _, _, .str x, _ => .str x
  | .list ds, _, .lst (a := a) hs ha, hd => by
    have ne : a ≠ q := fun z => by
      have := Dq.det _ _ _ (Dq.lst hs ha) (z ▸ hD)
      rw [this] at hd
      exact Nat.lt_irrefl _ hd
    refine .lst (by rw [hide_ne ne]; exact hs) (DqAll.avoid hD ds _ ha ?_)
    simp only [PyData.depth] at hd
    omega
  | .tuple ds, _, .tup (a := a) hs ha, hd => by
    have ne : a ≠ q := fun z => by
      have := Dq.det _ _ _ (Dq.tup hs ha) (z ▸ hD)
      rw [this] at hd
      exact Nat.lt_irrefl _ hd
    refine .tup (by rw [hide_ne ne]; exact hs) (DqAll.avoid hD ds _ ha ?_)
    simp only [PyData.depth] at hd
    omega
  | .dict ds, _, .dct (a := a) hs ha, hd => by
    have ne : a ≠ q := fun z => by
      have := Dq.det _ _ _ (Dq.dct hs ha) (z ▸ hD)
      rw [this] at hd
      exact Nat.lt_irrefl _ hd
    refine .dct (by rw [hide_ne ne]; exact hs) (DqKv.avoid hD ds _ ha ?_)
    simp only [PyData.depth] at hd
    omega
theorem DqAll.avoid {K : PySem.W.Frag} {H : Hp} {q : Addr} {D : PyData} (hD : Dq K H (.ref q) D) : ∀ (ds : List PyData) (vs : List V), DqAll K H vs ds → PyData.depthAll ds < D.depth → DqAll K (hide q H) vs ds
  | [], _, .nil, _ => .nil
  | d :: ds, _, .cons h1 h2, hd => by
    simp only [PyData.depthAll] at hd
    exact .cons (Dq.avoid hD d _ h1 (by omega)) (DqAll.avoid hD ds _ h2 (by omega))
theorem DqKv.avoid {K : PySem.W.Frag} {H : Hp} {q : Addr} {D : PyData} (hD : Dq K H (.ref q) D) : ∀ (ds : List (PyData × PyData)) (vs : List (Key × V)), DqKv K H vs ds → PyData.depthKv ds < D.depth → DqKv K (hide q H) vs ds
  | [], _, .nil, _ => .nil
  | (_, d) :: ds, _, .cons h1 h2, hd => by
    simp only [PyData.depthKv] at hd
    exact .cons (Dq.avoid hD d _ h1 (by omega)) (DqKv.avoid hD ds _ h2 (by omega))
end
theorem DqAll.snoc {K : PySem.W.Frag} {H : Hp} {v : V} {d : PyData} (h : Dq K H v d) : ∀ {vs : List V} {ds : List PyData}, DqAll K H vs ds → DqAll K H (vs ++ [v]) (ds ++ [d])
  | _, _, .nil => .cons h .nil
  | _, _, .cons h1 h2 => .cons h1 (DqAll.snoc h h2)
theorem DqKv.snoc {K : PySem.W.Frag} {H : Hp} {k : Key} {v : V} {d : PyData} (h : Dq K H v d) : ∀ {vs : List (Key × V)} {ds : List (PyData × PyData)}, DqKv K H vs ds → DqKv K H (vs ++ [(k, v)]) (ds ++ [(keyD k, d)])
  | _, _, .nil => .cons h .nil
  | _, _, .cons h1 h2 => .cons h1 (DqKv.snoc h h2)
theorem DqAll.length {K : PySem.W.Frag} {H : Hp} : ∀ {vs : List V} {ds : List PyData}, DqAll K H vs ds → vs.length = ds.length
  | _, _, .nil => rfl
  | _, _, .cons _ h2 => by rw [List.length_cons, List.length_cons, DqAll.length h2]
theorem DqAll.get {K : PySem.W.Frag} {H : Hp} : ∀ {vs : List V} {ds : List PyData} {i : Nat} {v : V}, DqAll K H vs ds → vs[i]? = some v → ∃ d, ds[i]? = some d ∧ Dq K H v d
  | _, _, _, _, .nil, e => by simp at e
  | _, _, 0, _, .cons h _, e => by simp at e; subst e; exact ⟨_, rfl, h⟩
  | _, _, i + 1, _, .cons _ t, e => by
    obtain ⟨d, h1, h2⟩ := DqAll.get (i := i) t (by simpa using e)
    exact ⟨d, by simpa using h1, h2⟩
end KX

namespace KX
open PySem PySem.Spec L2 PyProof.Rows
/-- a sign that values may have -/
def AllowC (c : Nat) : Prop := c = 10 ∨ (32 ≤ c ∧ c ≤ 126 ∧ c ≠ 37)
instance (c : Nat) : Decidable (AllowC c) := by unfold AllowC; exact inferInstance
def TxOk (z : Str) : Prop := z.length ≤ 16 ∧ ∀ c ∈ ql z, AllowC c
def txB (n : Nat) (z : Str) : Bool := decide (z.length ≤ n) && (ql z).all fun c => decide (AllowC c)
theorem txB_of {n : Nat} {z : Str} (h : txB n z = true) : z.length ≤ n ∧ ∀ c ∈ ql z, AllowC c := by
  unfold txB at h
  simp only [Bool.and_eq_true, decide_eq_true_eq, List.all_eq_true] at h
  exact ⟨h.1, fun c hc => h.2 c hc⟩
def menuC : List Str := ["", "a", "A b", "<", "&", "&lt;", "\"", "~", "/", "?a=1;", "\\", "\n", "{x}", "}", "</p>", "'", "data", "0", "-7"]
theorem menuC_ok : ∀ z ∈ menuC, z.length ≤ 5 ∧ ∀ c ∈ ql z, AllowC c := by
  have h : menuC.all (txB 5) = true := by decide +kernel
  exact fun z hz => txB_of (List.all_eq_true.mp h z hz)
def signsC : Str := "ab <>&\"~/;=.-_Z9{}\\\n"
theorem signsC_ok : signsC.length = 20 ∧ ∀ c ∈ ql signsC, AllowC c := by
  have h : txB 20 signsC = true := by decide +kernel
  exact ⟨by decide +kernel, (txB_of h).2⟩
theorem menuC_at {j : Int} (h0 : 0 ≤ j) (h1 : j < 19) : ∃ z, z ∈ menuC ∧ atI (menuC.map V.str) j = some (.str z) := by
  have hj : j.toNat < menuC.length := by show j.toNat < 19; omega
  refine ⟨menuC[j.toNat], List.getElem_mem hj, at_of (j := j.toNat) (by omega) ?_⟩
  rw [List.getElem?_map, List.getElem?_eq_getElem hj]
  rfl
theorem signsC_at {j : Int} (h0 : 0 ≤ j) (h1 : j < 20) : ∃ c, AllowC c ∧ atI signsC.cps.toList j = some c := by
  have hl : (ql signsC).length = 20 := by rw [← ql_len]; exact signsC_ok.1
  have hj : j.toNat < (ql signsC).length := by omega
  have ej : j = ((j.toNat : Nat) : Int) := by omega
  refine ⟨(ql signsC)[j.toNat], signsC_ok.2 _ (List.getElem_mem hj), ?_⟩
  have q : atI (ql signsC) ((j.toNat : Nat) : Int) = some (ql signsC)[j.toNat] := atI_nat (List.getElem?_eq_getElem hj)
  rw [← ej] at q
  exact q
/-- a text of one sign -/
def OneC (z : Str) : Prop := ∃ c, ql z = [c] ∧ AllowC c
theorem oneC_len {z : Str} (h : OneC z) : z.length = 1 := by
  obtain ⟨c, e, _⟩ := h
  rw [ql_len, e]
  rfl
theorem oneC_sum : ∀ {zs : List Str}, (∀ z ∈ zs, OneC z) → (zs.map (·.length)).sum = zs.length
  | [], _ => rfl
  | z :: r, h => by
    have q := oneC_sum (zs := r) fun x hx => h x (List.mem_cons_of_mem _ hx)
    rw [List.map_cons, List.sum_cons, q, oneC_len (h z List.mem_cons_self), List.length_cons]
    omega
theorem oneC_flat : ∀ {zs : List Str}, (∀ z ∈ zs, OneC z) → ((zs.map ql).flatten).length = zs.length
  | [], _ => rfl
  | z :: r, h => by
    have q := oneC_flat (zs := r) fun x hx => h x (List.mem_cons_of_mem _ hx)
    obtain ⟨c, e, _⟩ := h z List.mem_cons_self
    rw [List.map_cons, List.flatten_cons, List.length_append, q, e]
    show 1 + r.length = r.length + 1
    omega
theorem oneC_in {zs : List Str} (h : ∀ z ∈ zs, OneC z) : ∀ c ∈ (zs.map ql).flatten, AllowC c := fun c hc => by
  obtain ⟨l, hl, hc⟩ := List.mem_flatten.mp hc
  obtain ⟨z, hz, rfl⟩ := List.mem_map.mp hl
  obtain ⟨d, e, h1⟩ := h z hz
  rw [e] at hc
  rw [List.mem_singleton.mp hc]
  exact h1
section
variable {base : Heap} {P : Program} {w : World} {K : PySem.W.Frag} {mg : Str → Option Value}
abbrev s_chars : Stmt := top 52
abbrev N_chars : List Str := ["_law_pool_here", "_law_menu", "_law_way", "_law_signs", "_law_k"]
abbrev P_chars : List Str := ["_law_pool_here"]
theorem sc_chars : FnScope N_chars P_chars (defScope s_chars) := ⟨rfl, rfl, rfl, by decide +kernel, rfl, by decide +kernel, by decide +kernel⟩
def spChars : Sp := fun vs H Q _ => ∃ p : Addr, vs = [.ref p] ∧ PoolAt H p ∧ ∀ (H' : Hp) (z : Str), Keep p H H' → PoolAt H' p → TxOk z → Q (.str z) H'
theorem ok_chars {f fdr : Addr} {fd fdd : FuncData} (F : Fun K "_law_chars" "_law_chars" s_chars f fd) (T : Bl mg) (D_draw : Def P w K mg base "_law_draw" 1 P_draw spDraw fdr fdd) : FnOk P w K mg base CX0 2 f fd P_chars spChars := by
  refine F.ok sc_chars (fun vs H Q E h => ?_) (fun cdv A outer s H vs Q E hr h => ?_)
  · obtain ⟨p, rfl, _⟩ := h
    rfl
  obtain ⟨p, rfl, hp, q⟩ := h
  refine ⟨_, (pss_cons (ps_set (i := 1) sc_chars.nd rfl (Or.inl rfl) (pe_lst (pa_cons pe_str (pa_cons pe_str (pa_cons pe_str (pa_cons pe_str (pa_cons pe_str (pa_cons pe_str (pa_cons pe_str (pa_cons pe_str (pa_cons pe_str (pa_cons pe_str (pa_cons pe_str (pa_cons pe_str (pa_cons pe_str (pa_cons pe_str pa_nil))))))))))))))))
    (pss_cons (ps_set (i := 1) sc_chars.nd rfl (Or.inl rfl) (pe_op op_cat (pv 1) (pe_lst (pa_cons pe_str (pa_cons pe_str (pa_cons pe_str (pa_cons pe_str (pa_cons pe_str pa_nil))))))))
    (pss_cons (ps_set (i := 2) sc_chars.nd rfl (Or.inl rfl) (pe_call D_draw.ok (hr.mono (by first | decide | omega)) rfl D_draw.g D_draw.kp D_draw.b .nil pass0 (pa_cons (pv 0) (pa_cons pe_int pa_nil))))
    (pss_cons (ps_if (pt_cmpR op_eq (pv 2) pe_int (nomark _))
      (pss_one (ps_ret (pe_ix (ix_listK K rfl) (pv 1) (pe_call D_draw.ok (hr.mono (by first | decide | omega)) rfl D_draw.g D_draw.kp D_draw.b .nil pass0 (pa_cons (pv 0) (pa_cons pe_int pa_nil))) (fun _ _ => rfl))))
      pss_nil)
    (pss_cons (ps_if (pt_cmpR op_eq (pv 2) pe_int (nomark _))
      (pss_one (ps_ret (pe_op op_add_str (pe_ix (ix_listK K rfl) (pv 1) (pe_call D_draw.ok (hr.mono (by first | decide | omega)) rfl D_draw.g D_draw.kp D_draw.b .nil pass0 (pa_cons (pv 0) (pa_cons pe_int pa_nil))) (fun _ _ => rfl)) (pe_ix (ix_listK K rfl) (pv 1) (pe_call D_draw.ok (hr.mono (by first | decide | omega)) rfl D_draw.g D_draw.kp D_draw.b .nil pass0 (pa_cons (pv 0) (pa_cons pe_int pa_nil))) (fun _ _ => rfl)))))
      pss_nil)
    (pss_cons (ps_set (i := 3) sc_chars.nd rfl (Or.inr rfl) pe_str)
    (pss_one (ps_ret (pe_join pe_str (pe_lc (own := [("_law_k", 4)]) (g := (gName 4)) (tt := tYes) rfl sc_chars.nd (pi_range1 rfl T.range (pa_cons (pe_call D_draw.ok (hr.mono (by first | decide | omega)) rfl D_draw.g D_draw.kp D_draw.b .nil pass0 (pa_cons (pv 0) (pa_cons pe_int pa_nil))) pa_nil)) (blkOk_by (own := [("_law_k", 4)]) (N := N_chars) (sc := defScope s_chars) (by decide +kernel)) (fun _ _ _ _ _ => (pg_name (i := 4) sc_chars.nd rfl (Or.inl rfl))) (fun _ _ _ _ _ => pts_nil) (fun _ _ _ _ _ => (pe_ix ix_str (pv 3) (pe_call D_draw.ok (hr.mono (by first | decide | omega)) rfl D_draw.g D_draw.kp D_draw.b .nil pass0 (pa_cons (pv 0) (pa_cons pe_int pa_nil))) (fun _ _ => rfl))))))))))))), ?_⟩
  have small : ∀ n : Nat, n ≤ 1000 → n ≤ sizeLine := fun n h => Nat.le_of_lt (small1000 h)
  refine ⟨(by show 14 ≤ sizeLine; decide), fun l1 hl1 => ?_⟩
  refine ⟨_, rfl, (by show 5 ≤ sizeLine; decide), fun l2 hl2 => ?_⟩
  have n12 : l1 ≠ l2 := ne_of_none upd_same hl2
  refine ⟨l1, l2, _, _, rfl, rfl, Eq.trans (upd_ne n12) upd_same, upd_same, (by show 19 ≤ sizeLine; decide), fun l hl => ?_⟩
  generalize hH3 : upd (upd (upd H l1 _) l2 _) l _ = H3
  have e3 : H3 l = some (.lst (menuC.map V.str)) := by rw [← hH3]; exact upd_same
  have s3 : Same H H3 := by rw [← hH3]; exact (same_new hl1 _).trans ((same_new hl2 _).trans (same_new hl _))
  have k3 : Keep p H H3 := Same.keep s3
  have p3 := hp.same s3
  have nlp : l ≠ p := (hp.same ((same_new hl1 _).trans (same_new hl2 _))).ne hl
  clear hH3 hl hl1 hl2 n12
  refine ⟨_, rfl, p, 3, rfl, p3, by decide, by decide, fun H4 r1 k4 p4 a0 a1 => ?_⟩
  refine ⟨_, rfl, rfl, _, rfl, ?_⟩
  refine ite2 (fun c => ?_) (fun c => ?_)
  · refine ⟨_, rfl, _, rfl, p, 19, rfl, p4, by decide, by decide, fun H5 r2 k5 p5 b0 b1 => ?_⟩
    obtain ⟨z, hz, ez⟩ := menuC_at b0 b1
    obtain ⟨z1, z2⟩ := menuC_ok z hz
    exact ⟨l, _, _, _, rfl, rfl, SqL.of (k5 _ _ nlp (k4 _ _ nlp e3)), ez, q _ _ (k3.trans (k4.trans k5)) p5 ⟨by omega, z2⟩⟩
  refine ⟨_, rfl, rfl, _, rfl, ?_⟩
  refine ite2 (fun c2 => ?_) (fun c2 => ?_)
  · refine ⟨_, rfl, _, rfl, p, 19, rfl, p4, by decide, by decide, fun H5 r2 k5 p5 b0 b1 => ?_⟩
    obtain ⟨z, hz, ez⟩ := menuC_at b0 b1
    obtain ⟨z1, z2⟩ := menuC_ok z hz
    refine ⟨l, _, _, _, rfl, rfl, SqL.of (k5 _ _ nlp (k4 _ _ nlp e3)), ez, ?_⟩
    refine ⟨_, rfl, _, rfl, p, 19, rfl, p5, by decide, by decide, fun H6 r3 k6 p6 d0 d1 => ?_⟩
    obtain ⟨y, hy, ey⟩ := menuC_at d0 d1
    obtain ⟨y1, y2⟩ := menuC_ok y hy
    refine ⟨l, _, _, _, rfl, rfl, SqL.of (k6 _ _ nlp (k5 _ _ nlp (k4 _ _ nlp e3))), ey, _, _, rfl, rfl, small _ (by omega), ?_⟩
    refine q _ _ (k3.trans (k4.trans (k5.trans k6))) p6 ⟨?_, fun c hc => ?_⟩
    · rw [ql_len, ql_app, List.length_append, ← ql_len, ← ql_len]
      omega
    · rw [ql_app] at hc
      rcases List.mem_append.mp hc with hc | hc
      · exact z2 c hc
      · exact y2 c hc
  · refine ⟨⟨_, rfl⟩, _, rfl, p, 9, rfl, p4, by decide, by decide, fun H7 r3 k7 p7 c0 c1 => ⟨r3, rfl, by omega, by omega, fun D hD => ?_⟩⟩
    have nD := p7.ne hD
    refine lc_range (lo := 0) (n := r3.toNat) (fun i H' => Keep p H7 H' ∧ PoolAt H' p ∧ ∃ zs : List Str, H' D = some (.lst (zs.map V.str)) ∧ zs.length = i ∧ ∀ z ∈ zs, OneC z) ⟨Keep.new hD _, p7.upd nD, [], upd_same, rfl, fun z hz => by cases hz⟩ ?_ ?_
    · rintro i H' hi ⟨k8, p8, zs, e8, l8, o8⟩
      refine ⟨rfl, yesT ?_⟩
      refine ⟨_, rfl, _, rfl, p, 20, rfl, p8, by decide, by decide, fun H9 r4 k9 p9 d0 d1 => ?_⟩
      obtain ⟨c, hc, ec⟩ := signsC_at d0 d1
      refine ⟨signsC, _, _, rfl, rfl, (by show 20 ≤ sizeLine; decide), ec, _, k9 _ _ nD e8, ?_, ?_⟩
      · rw [List.length_map]
        exact small1000 (by omega)
      · refine ⟨(k8.trans k9).upd hD, p9.upd nD, zs ++ [⟨#[c]⟩], ?_, ?_, fun z hz => ?_⟩
        · rw [upd_same, List.map_append]
          rfl
        · rw [List.length_append, l8]
          rfl
        · rcases List.mem_append.mp hz with hz | hz
          · exact o8 z hz
          · rw [List.mem_singleton.mp hz]
            exact ⟨c, rfl, hc⟩
    rintro H8 ⟨k8, p8, zs, e8, l8, o8⟩
    refine ⟨"", D, zs, rfl, rfl, .inl (SqL.of e8), ?_, ?_⟩
    · rw [oneC_sum o8]
      show zs.length + zs.length * 0 ≤ 16777216
      omega
    refine q _ _ (k3.trans (k4.trans (k7.trans k8))) p8 ⟨?_, ?_⟩
    · rw [ql_len, ql_join0, oneC_flat o8]
      omega
    · rw [ql_join0]
      exact oneC_in o8
end
end KX

namespace KX
open PySem PySem.Spec L2 PyProof.Rows
/-! ### the forms of types -/
inductive Fm where
  | text | number | flag
  | list (f : Fm)
  | opt (f : Fm)
  | rcd (fs : List (Str × Fm))
  | keyed (k : Str) (num : Bool) (w : Str) (f : Fm)
def kword : Bool → Str
  | true => "number"
  | false => "text"
mutual
def enc : Fm → PyData
  | .text => .tuple [.str "text"]
  | .number => .tuple [.str "number"]
  | .flag => .tuple [.str "flag"]
  | .list f => .tuple [.str "list", enc f]
  | .opt f => .tuple [.str "optional", enc f]
  | .rcd fs => .tuple [.str "record", .tuple (encFs fs)]
  | .keyed k num w f => .tuple [.str "keyed", .tuple [.str "record", .tuple [.tuple [.str k, .tuple [.str (kword num)]], .tuple [.str w, enc f]]], .str k]
def encFs : List (Str × Fm) → List PyData
  | [] => []
  | (w, f) :: r => .tuple [.str w, enc f] :: encFs r
end
def Fm.isOpt : Fm → Bool
  | .opt _ => true
  | _ => false
/-- a form of at most this many levels -/
def okF : Nat → Fm → Prop
  | _, .text => True
  | _, .number => True
  | _, .flag => True
  | 0, _ => False
  | n + 1, .list f => okF n f
  | n + 1, .opt f => okF n f ∧ f.isOpt = false
  | n + 1, .rcd fs => Names (fs.map (·.1)) ∧ sortedS (fs.map (·.1)) = true ∧ 1 ≤ fs.length ∧ fs.length ≤ 3 ∧ ∀ q ∈ fs, okF n q.2
  | n + 1, .keyed k _ w f => Names [k, w] ∧ sortedS [k, w] = true ∧ okF n f
theorem okF_up : ∀ (n : Nat) (f : Fm), okF n f → okF (n + 1) f
  | _, .text, _ => by simp [okF]
  | _, .number, _ => by simp [okF]
  | _, .flag, _ => by simp [okF]
  | 0, .list _, h => by simp [okF] at h
  | 0, .opt _, h => by simp [okF] at h
  | 0, .rcd _, h => by simp [okF] at h
  | 0, .keyed _ _ _ _, h => by simp [okF] at h
  | n + 1, .list f, h => by
    have h' : okF n f := by simpa [okF] using h
    show okF (n + 1 + 1) (.list f)
    simp only [okF]
    exact okF_up n f h'
  | n + 1, .opt f, h => by
    have h' : okF n f ∧ f.isOpt = false := by simpa [okF] using h
    show okF (n + 1 + 1) (.opt f)
    simp only [okF]
    exact ⟨okF_up n f h'.1, h'.2⟩
  | n + 1, .rcd fs, h => by
    have h' : Names (fs.map (·.1)) ∧ sortedS (fs.map (·.1)) = true ∧ 1 ≤ fs.length ∧ fs.length ≤ 3 ∧ ∀ q ∈ fs, okF n q.2 := by simpa only [okF] using h
    show okF (n + 1 + 1) (.rcd fs)
    simp only [okF]
    exact ⟨h'.1, h'.2.1, h'.2.2.1, h'.2.2.2.1, fun q hq => okF_up n q.2 (h'.2.2.2.2 q hq)⟩
  | n + 1, .keyed k num w f, h => by
    have h' : Names [k, w] ∧ sortedS [k, w] = true ∧ okF n f := by simpa only [okF] using h
    show okF (n + 1 + 1) (.keyed k num w f)
    simp only [okF]
    exact ⟨h'.1, h'.2.1, okF_up n f h'.2.2⟩
theorem encFs_snoc (w : Str) (f : Fm) : ∀ fs : List (Str × Fm), encFs (fs ++ [(w, f)]) = encFs fs ++ [.tuple [.str w, enc f]]
  | [] => by simp [encFs]
  | (w', f') :: r => by simp [encFs, encFs_snoc w f r]
theorem Names.perm {ys zs : List Str} (h : Names zs) (p : ys.Perm zs) : Names ys := ⟨p.nodup_iff.mpr h.1, fun z hz => h.2 z (p.mem_iff.mp hz)⟩
/-- the first word of a form -/
def Fm.word : Fm → Str
  | .text => "text"
  | .number => "number"
  | .flag => "flag"
  | .list _ => "list"
  | .opt _ => "optional"
  | .rcd _ => "record"
  | .keyed _ _ _ _ => "keyed"
theorem enc_head {K : PySem.W.Frag} {H : Hp} {v : V} (f : Fm) (h : Dq K H v (enc f)) : ∃ a xs, v = .ref a ∧ H a = some (.tup xs) ∧ xs[0]? = some (.str f.word) := by
  cases f <;> (simp only [enc] at h; cases h with | tup hs ha => cases ha with | cons h1 h2 => cases h1; exact ⟨_, _, rfl, hs, rfl⟩)
section
variable {base : Heap} {P : Program} {w : World} {K : PySem.W.Frag} {mg : Str → Option Value}
abbrev s_form : Stmt := top 53
abbrev N_form : List Str := ["_law_pool_here", "_law_deep", "_law_way", "_law_words_here", "_law_fields", "_law_key", "_law_inner", "_law_word"]
abbrev P_form : List Str := ["_law_pool_here", "_law_deep"]
theorem sc_form : FnScope N_form P_form (defScope s_form) := ⟨rfl, rfl, rfl, by decide +kernel, rfl, by decide +kernel, by decide +kernel⟩
/-- with that many levels less one (with none: it is not asked) -/
def spFormL (K : PySem.W.Frag) : Nat → Sp
  | 0 => fun _ _ _ _ => False
  | n + 1 => fun vs H Q _ => ∃ p : Addr, vs = [.ref p, .int (n : Int)] ∧ PoolAt H p ∧
    ∀ (H' : Hp) (v : V) (f : Fm), Keep p H H' → PoolAt H' p → Dq K (sub H H') v (enc f) → okF n f → Q v H'
theorem ok_formS {f fdr fwo : Addr} {fd fdd fdw : FuncData} {n : Nat} (F : Fun K "_law_form" "_law_form" s_form f fd) (T : Bl mg) (D_draw : Def P w K mg base "_law_draw" 1 P_draw spDraw fdr fdd) (D_words : Def P w K mg base "_law_words" 2 P_words spWords fwo fdw)
    (D_form : Def P w K mg base "_law_form" (n + 2) P_form (spFormL K n) f fd) : FnOk P w K mg base CX0 (n + 3) f fd P_form (spFormL K (n + 1)) := by
  refine F.ok sc_form (fun vs H Q E h => ?_) (fun cdv A outer s H vs Q E hr h => ?_)
  · obtain ⟨p, rfl, _⟩ := h
    rfl
  obtain ⟨p, rfl, hp, q⟩ := h
  refine ⟨_, (pss_cons (ps_set (i := 2) sc_form.nd rfl (Or.inl rfl) (pe_call D_draw.ok (hr.mono (by first | decide | omega)) rfl D_draw.g D_draw.kp D_draw.b .nil pass0 (pa_cons (pv 0) (pa_cons pe_int pa_nil))))
    (pss_cons (ps_if (PW.pt (pw_or (pt_cmpR op_eq (pv 1) pe_int (nomark _)) (pw_or1 (pt_cmpR op_lt (pv 2) pe_int (nomark _)))))
      (pss_one (ps_ret (pe_ix (ix_listK K rfl) (pe_lst (pa_cons (pe_tup (pa_cons pe_str pa_nil)) (pa_cons (pe_tup (pa_cons pe_str pa_nil)) (pa_cons (pe_tup (pa_cons pe_str pa_nil)) (pa_cons (pe_tup (pa_cons pe_str pa_nil)) pa_nil))))) (pe_op op_mod (pv 2) pe_int) (fun _ _ => rfl))))
      pss_nil)
    (pss_cons (ps_if (pt_cmpR op_eq (pv 2) pe_int (nomark _))
      (pss_one (ps_ret (pe_tup (pa_cons pe_str (pa_cons (pe_call D_form.ok (hr.mono (by first | decide | omega)) rfl D_form.g D_form.kp D_form.b .nil pass0 (pa_cons (pv 0) (pa_cons (pe_op op_sub (pv 1) pe_int) pa_nil))) pa_nil)))))
      pss_nil)
    (pss_cons (ps_if (pt_cmpR (op_inK K rfl) (pv 2) (pe_lst (pa_cons pe_int (pa_cons pe_int pa_nil))) (by with_unfolding_all rfl))
      (pss_cons (ps_set (i := 3) sc_form.nd rfl (Or.inl rfl) (pe_callB cr_sortedS (by rfl) T.sorted (by decide +kernel) (pa_cons (pe_call D_words.ok (hr.mono (by first | decide | omega)) rfl D_words.g D_words.kp D_words.b .nil pass0 (pa_cons (pv 0) (pa_cons (pe_op op_add pe_int (pe_call D_draw.ok (hr.mono (by first | decide | omega)) rfl D_draw.g D_draw.kp D_draw.b .nil pass0 (pa_cons (pv 0) (pa_cons pe_int pa_nil)))) pa_nil))) pa_nil)))
    (pss_cons (ps_setLc (i := 4) (own := [("_law_word", 7)]) (g := (gName 7)) (tt := tYes) rfl sc_form.nd rfl rfl (sw_true rfl rfl rfl (by decide +kernel)) (pi_list (pv 3)) (blkOk_by (own := [("_law_word", 7)]) (N := N_form) (sc := defScope s_form) (by decide +kernel)) (fun _ _ _ _ _ => (pg_name (i := 7) sc_form.nd rfl (Or.inl rfl))) (fun _ _ _ _ _ => pts_nil) (fun _ _ _ _ _ => (pe_tup (pa_cons (pv 7) (pa_cons (pe_call D_form.ok (hr.mono (by first | decide | omega)) rfl D_form.g D_form.kp D_form.b .nil pass0 (pa_cons (pv 0) (pa_cons (pe_op op_sub (pv 1) pe_int) pa_nil))) pa_nil)))))
    (pss_one (ps_ret (pe_tup (pa_cons pe_str (pa_cons (pe_callTy call_tuple_of (by rfl) T.tuple (by decide +kernel) (pa_cons (pv 4) pa_nil)) pa_nil)))))))
      pss_nil)
    (pss_cons (ps_if (pt_cmpR op_eq (pv 2) pe_int (nomark _))
      (pss_cons (ps_set (i := 3) sc_form.nd rfl (Or.inl rfl) (pe_callB cr_sortedS (by rfl) T.sorted (by decide +kernel) (pa_cons (pe_call D_words.ok (hr.mono (by first | decide | omega)) rfl D_words.g D_words.kp D_words.b .nil pass0 (pa_cons (pv 0) (pa_cons pe_int pa_nil))) pa_nil)))
    (pss_cons (ps_set (i := 5) sc_form.nd rfl (Or.inl rfl) (pe_ix (ix_listK K rfl) (pe_lst (pa_cons pe_str (pa_cons pe_str pa_nil))) (pe_call D_draw.ok (hr.mono (by first | decide | omega)) rfl D_draw.g D_draw.kp D_draw.b .nil pass0 (pa_cons (pv 0) (pa_cons pe_int pa_nil))) (fun _ _ => rfl)))
    (pss_one (ps_ret (pe_tup (pa_cons pe_str (pa_cons (pe_tup (pa_cons pe_str (pa_cons (pe_tup (pa_cons (pe_tup (pa_cons (pe_ix (ix_listK K rfl) (pv 3) pe_int (fun _ _ => rfl)) (pa_cons (pe_tup (pa_cons (pv 5) pa_nil)) pa_nil))) (pa_cons (pe_tup (pa_cons (pe_ix (ix_listK K rfl) (pv 3) pe_int (fun _ _ => rfl)) (pa_cons (pe_call D_form.ok (hr.mono (by first | decide | omega)) rfl D_form.g D_form.kp D_form.b .nil pass0 (pa_cons (pv 0) (pa_cons (pe_op op_sub (pv 1) pe_int) pa_nil))) pa_nil))) pa_nil))) pa_nil))) (pa_cons (pe_ix (ix_listK K rfl) (pv 3) pe_int (fun _ _ => rfl)) pa_nil))))))))
      pss_nil)
    (pss_cons (ps_set (i := 6) sc_form.nd rfl (Or.inl rfl) (pe_call D_form.ok (hr.mono (by first | decide | omega)) rfl D_form.g D_form.kp D_form.b .nil pass0 (pa_cons (pv 0) (pa_cons (pe_op op_sub (pv 1) pe_int) pa_nil))))
    (pss_one (ps_ret (pe_ifExp (pt_cmpR op_eq (pe_ix (ix_tupK K rfl) (pv 6) pe_int (fun _ _ => rfl)) pe_str (nomark _)) (pv 6) (pe_tup (pa_cons pe_str (pa_cons (pv 6) pa_nil)))))))))))), ?_⟩
  have small : ∀ n : Nat, n ≤ 1000 → n ≤ sizeLine := fun n h => Nat.le_of_lt (small1000 h)
  refine ⟨_, rfl, p, 10, rfl, hp, by decide, by decide, fun H1 r k1 p1 a0 a1 => ?_⟩
  have d1 : Dom H H1 := k1.dom p1
  have hasP := hp.has
  -- the forms without parts
  have leaf : ∀ (t1 t2 t3 t4 l : Addr), H1 t1 = none → (upd H1 t1 (.tup [.str "text"])) t2 = none → (upd (upd H1 t1 (.tup [.str "text"])) t2 (.tup [.str "text"])) t3 = none →
      (upd (upd (upd H1 t1 (.tup [.str "text"])) t2 (.tup [.str "text"])) t3 (.tup [.str "number"])) t4 = none →
      (upd (upd (upd (upd H1 t1 (.tup [.str "text"])) t2 (.tup [.str "text"])) t3 (.tup [.str "number"])) t4 (.tup [.str "flag"])) l = none →
      ∀ H2 : Hp, H2 = upd (upd (upd (upd (upd H1 t1 (.tup [.str "text"])) t2 (.tup [.str "text"])) t3 (.tup [.str "number"])) t4 (.tup [.str "flag"])) l (.lst [.ref t1, .ref t2, .ref t3, .ref t4]) →
      ∃ x : V, atI [V.ref t1, .ref t2, .ref t3, .ref t4] (r % 4) = some x ∧ Q x H2 := by
    intro t1 t2 t3 t4 l h1 h2 h3 h4 hl H2 e2
    have n1 : t1 ≠ t2 := ne_of_none upd_same h2
    have g1 : H t1 = none := d1 _ h1
    have g2 : H t2 = none := (d1.trans dom_upd) _ h2
    have g3 : H t3 = none := (d1.trans (dom_upd.trans dom_upd)) _ h3
    have g4 : H t4 = none := (d1.trans (dom_upd.trans (dom_upd.trans dom_upd))) _ h4
    have s1 := same_new h1 (.tup [.str "text"])
    have s2 := same_new h2 (.tup [.str "text"])
    have s3 := same_new h3 (.tup [.str "number"])
    have s4 := same_new h4 (.tup [.str "flag"])
    have s5 := same_new hl (.lst [.ref t1, .ref t2, .ref t3, .ref t4])
    have kk : Same H1 H2 := by rw [e2]; exact s1.trans (s2.trans (s3.trans (s4.trans s5)))
    have f1 : H2 t1 = some (.tup [.str "text"]) := by rw [e2]; exact (s2.trans (s3.trans (s4.trans s5))) _ _ upd_same
    have f2 : H2 t2 = some (.tup [.str "text"]) := by rw [e2]; exact (s3.trans (s4.trans s5)) _ _ upd_same
    have f3 : H2 t3 = some (.tup [.str "number"]) := by rw [e2]; exact (s4.trans s5) _ _ upd_same
    have f4 : H2 t4 = some (.tup [.str "flag"]) := by rw [e2]; exact s5 _ _ upd_same
    have f5 : H2 l = some (.lst [.ref t1, .ref t2, .ref t3, .ref t4]) := by rw [e2]; exact upd_same
    have fin : ∀ (t : Addr) (z : Str) (f : Fm), H t = none → H2 t = some (.tup [.str z]) → enc f = .tuple [.str z] → okF n f → Q (.ref t) H2 := fun t z f gt ft ef okf =>
      q H2 _ f (k1.trans (Same.keep kk)) (p1.same kk) (by rw [ef]; exact .tup (by rw [sub_new gt]; exact ft) (.cons (.str z) .nil)) okf
    rcases (show r % 4 = 0 ∨ r % 4 = 1 ∨ r % 4 = 2 ∨ r % 4 = 3 by omega) with e | e | e | e
    · exact ⟨.ref t1, by rw [e]; rfl, fin t1 "text" .text g1 f1 (by simp [enc]) (by simp [okF])⟩
    · exact ⟨.ref t2, by rw [e]; rfl, fin t2 "text" .text g2 f2 (by simp [enc]) (by simp [okF])⟩
    · exact ⟨.ref t3, by rw [e]; rfl, fin t3 "number" .number g3 f3 (by simp [enc]) (by simp [okF])⟩
    · exact ⟨.ref t4, by rw [e]; rfl, fin t4 "flag" .flag g4 f4 (by simp [enc]) (by simp [okF])⟩
  refine ⟨_, rfl, rfl, _, rfl, ?_⟩
  refine ite2 (fun c => iteT ?_) (fun c => ?_)
  · refine ⟨(by show 1 ≤ sizeLine; decide), fun t1 h1 => ⟨(by show 1 ≤ sizeLine; decide), fun t2 h2 => ⟨(by show 1 ≤ sizeLine; decide), fun t3 h3 => ⟨(by show 1 ≤ sizeLine; decide), fun t4 h4 => ⟨(by show 4 ≤ sizeLine; decide), fun l hl => ?_⟩⟩⟩⟩⟩
    obtain ⟨x, ex, qx⟩ := leaf t1 t2 t3 t4 l h1 h2 h3 h4 hl _ rfl
    exact ⟨_, rfl, _, _, rfl, rfl, (by show (0 : Int) < 4; decide), l, _, _, x, rfl, rfl, SqL.of upd_same, ex, qx⟩
  refine ⟨_, rfl, _, _, rfl, rfl, _, rfl, ?_⟩
  refine ite2 (fun c2 => ?_) (fun c2 => ?_)
  · refine ⟨(by show 1 ≤ sizeLine; decide), fun t1 h1 => ⟨(by show 1 ≤ sizeLine; decide), fun t2 h2 => ⟨(by show 1 ≤ sizeLine; decide), fun t3 h3 => ⟨(by show 1 ≤ sizeLine; decide), fun t4 h4 => ⟨(by show 4 ≤ sizeLine; decide), fun l hl => ?_⟩⟩⟩⟩⟩
    obtain ⟨x, ex, qx⟩ := leaf t1 t2 t3 t4 l h1 h2 h3 h4 hl _ rfl
    exact ⟨_, rfl, _, _, rfl, rfl, (by show (0 : Int) < 4; decide), l, _, _, x, rfl, rfl, SqL.of upd_same, ex, qx⟩
  clear leaf
  -- from here on there is a level left
  obtain ⟨n', rfl⟩ : ∃ n', n = n' + 1 := by
    cases n with
    | zero => exact absurd (show decide (V.int ((0 : Nat) : Int) = V.int 0) = true by decide) c
    | succ n' => exact ⟨n', rfl⟩
  have hn : ((n' + 1 : Nat) : Int) - 1 = (n' : Int) := by omega
  have arg : ([V.ref p, V.int (((n' + 1 : Nat) : Int) - 1)] : List V) ++ [] = [.ref p, .int (n' : Int)] := by rw [hn]; rfl
  refine ⟨_, rfl, rfl, _, rfl, ?_⟩
  refine ite2 (fun c3 => ?_) (fun c3 => ?_)
  · refine ⟨_, rfl, _, rfl, _, _, rfl, rfl, p, arg, p1, fun H2 v f k2 p2 dv okf => ⟨(by show 2 ≤ sizeLine; decide), fun t ht => ?_⟩⟩
    have gt : H t = none := d1 _ (k2.dom p2 _ ht)
    refine q _ _ (.list f) (k1.trans (k2.trans (Keep.new ht _))) (p2.same (same_new ht _)) ?_ (by simpa only [okF] using okf)
    simp only [enc]
    refine .tup (by rw [sub_new gt]; exact upd_same) (.cons (.str _) (.cons ?_ .nil))
    exact Dq.same ((sub_left d1).trans (sub_fresh ht)) _ _ dv
  refine ⟨_, rfl, (by show 2 ≤ sizeLine; decide), fun l56 hl56 => ⟨l56, _, rfl, .inl (SqL.of upd_same), rfl, rfl, _, rfl, ?_⟩⟩
  generalize hH2 : upd H1 l56 _ = H2
  have s2 : Same H1 H2 := by rw [← hH2]; exact same_new hl56 _
  have k2 : Keep p H H2 := k1.trans (Same.keep s2)
  have p2 := p1.same s2
  have d2 : Dom H H2 := d1.trans (Same.dom s2)
  clear hH2 hl56 s2
  refine ite2 (fun c4 => ?_) (fun c4 => ?_)
  · -- a record
    refine ⟨_, rfl, _, rfl, p, 3, rfl, p2, by decide, by decide, fun H3 r3 k3 p3 b0 b1 => ⟨_, _, rfl, rfl, p, 1 + r3, rfl, p3, by omega, by omega, fun H4 lw zs k4 p4 n4 e4 z4 nm4 => ?_⟩⟩
    refine ⟨lw, zs, rfl, SqL.of e4, by omega, fun ys l5 perm srt n5 => ?_⟩
    have ylen : ys.length = zs.length := perm.length_eq
    have ynm : Names ys := nm4.perm perm
    generalize hH5 : upd H4 l5 _ = H5
    have s5 : Same H4 H5 := by rw [← hH5]; exact same_new n5 _
    have e5 : H5 l5 = some (.lst (ys.map V.str)) := by rw [← hH5]; exact upd_same
    have k5 : Keep p H H5 := k2.trans (k3.trans (k4.trans (Same.keep s5)))
    have p5 := p4.same s5
    have n5p : l5 ≠ p := p4.ne n5
    clear hH5 s5 n5 e4 n4 k3 p3 k4 p4
    refine ⟨_, rfl, l5, rfl, ⟨_, SqL.of e5⟩, fun D hD => ?_⟩
    have nD := p5.ne hD
    obtain ⟨H6, hH6⟩ : ∃ H6, H6 = upd H5 D (.lst []) := ⟨_, rfl⟩
    have s6 : Same H5 H6 := by rw [hH6]; exact same_new hD _
    have e6 : H6 D = some (.lst []) := by rw [hH6]; exact upd_same
    have p6 := p5.same s6
    have l6 : H6 l5 = some (.lst (ys.map V.str)) := s6 _ _ e5
    have nl : l5 ≠ D := ne_of_none e5 hD
    have has6 : ∃ u, H6 p = some u := p6.has
    have hasD : ∃ u, H6 D = some u := ⟨_, e6⟩
    have d56 : Dom H H6 := (k5.trans (Same.keep s6)).dom p6
    refine lc_list (K := K) (a := l5) (xs := ys.map V.str) (fun i H' => Keep p H5 H' ∧ PoolAt H' p ∧ Dom H6 H' ∧ ∃ (vs : List V) (fs : List (Str × Fm)), H' D = some (.lst vs) ∧ DqAll K (sub H6 H') vs (encFs fs) ∧ fs.map (·.1) = ys.take i ∧ vs.length = i ∧ ∀ g ∈ fs, okF n' g.2)
      (by rw [← hH6]; exact ⟨Same.keep s6, p6, fun _ z => z, [], [], e6, .nil, rfl, rfl, fun _ z => by cases z⟩) (fun i H' _ ⟨k, _⟩ => SqL.of (k _ _ n5p e5)) ?_ ?_
    · rintro i x H' hx ⟨k7, p7, d67, vs, fs, e7, dv7, m7, z7, o7⟩
      obtain ⟨hi, rfl⟩ : ∃ hi : i < ys.length, x = V.str ys[i] := by
        have hlt := (List.getElem?_eq_some_iff.mp hx).1
        rw [List.length_map] at hlt
        rw [List.getElem?_map, List.getElem?_eq_getElem hlt] at hx
        exact ⟨hlt, (Option.some.inj hx).symm⟩
      refine ⟨rfl, yesT ?_⟩
      refine ⟨_, rfl, _, rfl, _, rfl, _, _, rfl, rfl, p, arg, p7, fun H8 v f k8 p8 dv okf => ⟨(by show 2 ≤ sizeLine; decide), fun t ht => ?_⟩⟩
      have e8 : H8 D = some (.lst vs) := k8 _ _ nD e7
      have ntD : t ≠ D := (ne_of_none e8 ht).symm
      have d68 : Dom H6 H8 := d67.trans (k8.dom p8)
      have g6 : H6 t = none := d68 _ ht
      refine ⟨vs, by rw [upd_ne ntD.symm]; exact e8, by rw [z7]; exact small1000 (by omega), ?_⟩
      refine ⟨(k7.trans (k8.trans (Keep.new ht _))).upd hD, (p8.same (same_new ht _)).upd nD, d68.trans (dom_upd.trans dom_upd), vs ++ [.ref t], fs ++ [(ys[i], f)], upd_same, ?_, ?_, ?_, ?_⟩
      · rw [encFs_snoc]
        have carry : Same (sub H6 H8) (sub H6 (upd (upd H8 t (.tup [.str ys[i], v])) D (.lst (vs ++ [.ref t])))) := (sub_fresh ht).trans (sub_upd hasD)
        refine DqAll.snoc ?_ (DqAll.same ((sub_keep k8 has6).trans carry) _ _ dv7)
        refine .tup ?_ (.cons (.str _) (.cons (Dq.same ((sub_left d67).trans carry) _ _ dv) .nil))
        rw [sub_new g6, upd_ne ntD]
        exact upd_same
      · rw [List.map_append, m7, List.take_succ, List.getElem?_eq_getElem hi]
        rfl
      · rw [List.length_append, z7]
        rfl
      · intro g hg
        rcases List.mem_append.mp hg with hg | hg
        · exact o7 g hg
        · rw [List.mem_singleton.mp hg]
          exact okf
    rintro H7 ⟨k7, p7, d67, vs, fs, e7, dv7, m7, z7, o7⟩
    rw [List.length_map] at m7 z7
    rw [List.take_length] at m7
    refine ⟨_, rfl, D, vs, rfl, .inl ⟨SqL.of e7, fun l8 hl8 => ⟨(by show 2 ≤ sizeLine; decide), fun t ht => ?_⟩⟩⟩
    have g8 : H l8 = none := d56 _ (d67 _ hl8)
    have gt : H t = none := (d56.trans d67) _ (dom_upd _ ht)
    have n8 : l8 ≠ t := ne_of_none upd_same ht
    refine q _ _ (.rcd fs) (k5.trans (k7.trans ((Keep.new hl8 _).trans (Keep.new ht _)))) (p7.same ((same_new hl8 _).trans (same_new ht _))) ?_ ?_
    · simp only [enc]
      refine .tup (by rw [sub_new gt]; exact upd_same) (.cons (.str _) (.cons (.tup (by rw [sub_new g8, upd_ne n8]; exact upd_same) ?_) .nil))
      exact DqAll.same ((sub_left d56).trans ((sub_fresh hl8).trans (sub_fresh ht))) _ _ dv7
    · have fl : fs.length = ys.length := by rw [← m7, List.length_map]
      simp only [okF]
      rw [m7]
      exact ⟨ynm, srt, by omega, by omega, o7⟩
  refine ⟨_, rfl, rfl, _, rfl, ?_⟩
  refine ite2 (fun c5 => ?_) (fun c5 => ?_)
  · -- a list by a key
    refine ⟨_, rfl, p, 2, rfl, p2, by decide, by decide, fun H4 lw zs k4 p4 n4 e4 z4 nm4 => ?_⟩
    refine ⟨lw, zs, rfl, SqL.of e4, by omega, fun ys l5 perm srt n5 => ?_⟩
    have ylen : ys.length = zs.length := perm.length_eq
    have ynm : Names ys := nm4.perm perm
    obtain ⟨y0, y1, rfl⟩ : ∃ y0 y1, ys = [y0, y1] := by
      match ys, (show ys.length = 2 by omega) with
      | [a, b], _ => exact ⟨a, b, rfl⟩
    generalize hH5 : upd H4 l5 _ = H5
    have s5 : Same H4 H5 := by rw [← hH5]; exact same_new n5 _
    have e5 : H5 l5 = some (.lst [.str y0, .str y1]) := by rw [← hH5]; exact upd_same
    have k5 : Keep p H H5 := k2.trans (k4.trans (Same.keep s5))
    have p5 := p4.same s5
    have n5p : l5 ≠ p := p4.ne n5
    clear hH5 s5 n5 e4 n4 k4 p4
    refine ⟨(by show 2 ≤ sizeLine; decide), fun lk hlk => ?_⟩
    have p6 := p5.same (same_new hlk (.lst [.str "text", .str "number"]))
    refine ⟨_, rfl, p, 2, rfl, p6, by decide, by decide, fun H7 r2 k7 p7 b0 b1 => ?_⟩
    obtain ⟨num, enum⟩ : ∃ num : Bool, atI [V.str "text", .str "number"] r2 = some (.str (kword num)) := by
      rcases (show r2 = 0 ∨ r2 = 1 by omega) with e | e
      · exact ⟨false, by rw [e]; rfl⟩
      · exact ⟨true, by rw [e]; rfl⟩
    refine ⟨lk, _, r2, _, rfl, rfl, SqL.of (k7 _ _ (p5.ne hlk) upd_same), enum, ?_⟩
    have e7 : H7 l5 = some (.lst [.str y0, .str y1]) := k7 _ _ n5p (same_new hlk _ _ _ e5)
    have kH7 : Keep p H H7 := k5.trans ((Keep.new hlk _).trans k7)
    have dH7 : Dom H H7 := kH7.dom p7
    clear k7 p6 hlk e5 k5 p5
    refine ⟨_, rfl, l5, _, 0, _, rfl, rfl, SqL.of e7, rfl, _, rfl, (by show 1 ≤ sizeLine; decide), fun t1 h1 => ⟨(by show 2 ≤ sizeLine; decide), fun t2 h2 => ?_⟩⟩
    obtain ⟨H8, hH8⟩ : ∃ H8, H8 = upd (upd H7 t1 (.tup [.str (kword num)])) t2 (.tup [.str y0, .ref t1]) := ⟨_, rfl⟩
    rw [← hH8]
    have n12 : t1 ≠ t2 := ne_of_none upd_same h2
    have s8 : Same H7 H8 := by rw [hH8]; exact (same_new h1 _).trans (same_new h2 _)
    have f1 : H8 t1 = some (.tup [.str (kword num)]) := by rw [hH8, upd_ne n12]; exact upd_same
    have f2 : H8 t2 = some (.tup [.str y0, .ref t1]) := by rw [hH8]; exact upd_same
    have g1 : H t1 = none := dH7 _ h1
    have g2 : H t2 = none := dH7 _ (dom_upd _ h2)
    have e8 := s8 _ _ e7
    have p8 := p7.same s8
    have d8 : Dom H H8 := dH7.trans (Same.dom s8)
    have k8 : Keep p H H8 := kH7.trans (Same.keep s8)
    have m1 : t1 ≠ p := p7.ne h1
    have m2 : t2 ≠ p := (p7.same (same_new h1 (.tup [.str (kword num)]))).ne h2
    clear hH8 h1 h2 s8 kH7 dH7
    refine ⟨_, rfl, l5, _, 1, _, rfl, rfl, SqL.of e8, rfl, _, rfl, _, rfl, _, _, rfl, rfl, p, arg, p8, fun H9 v f k9 p9 dv okf => ?_⟩
    have q1 := k9 _ _ m1 f1
    have q2 := k9 _ _ m2 f2
    have e9 := k9 _ _ n5p e8
    have d9 : Dom H H9 := d8.trans (k9.dom p9)
    refine ⟨(by show 2 ≤ sizeLine; decide), fun t3 h3 => ⟨(by show 2 ≤ sizeLine; decide), fun t4 h4 => ⟨(by show 2 ≤ sizeLine; decide), fun t5 h5 => ?_⟩⟩⟩
    have s3 := same_new h3 (.tup [.str y1, v])
    have s4 := same_new h4 (.tup [.ref t2, .ref t3])
    have s5 := same_new h5 (.tup [.str "record", .ref t4])
    refine ⟨_, rfl, l5, _, 0, _, rfl, rfl, SqL.of ((s3.trans (s4.trans s5)) _ _ e9), rfl, (by show 3 ≤ sizeLine; decide), fun t6 h6 => ?_⟩
    have s6 := same_new h6 (.tup [.str "keyed", .ref t5, .str y0])
    have g3 : H t3 = none := d9 _ h3
    have g4 : H t4 = none := (d9.trans dom_upd) _ h4
    have g5 : H t5 = none := (d9.trans (dom_upd.trans dom_upd)) _ h5
    have g6 : H t6 = none := (d9.trans (dom_upd.trans (dom_upd.trans dom_upd))) _ h6
    have all := s3.trans (s4.trans (s5.trans s6))
    refine q _ _ (.keyed y0 num y1 f) (k8.trans (k9.trans (Same.keep all))) (p9.same all) ?_ ?_
    · simp only [enc]
      refine .tup (by rw [sub_new g6]; exact upd_same) (.cons (.str _) (.cons ?_ (.cons (.str _) .nil)))
      refine .tup (by rw [sub_new g5]; exact s6 _ _ upd_same) (.cons (.str _) (.cons ?_ .nil))
      refine .tup (by rw [sub_new g4]; exact (s5.trans s6) _ _ upd_same) (.cons ?_ (.cons ?_ .nil))
      · refine .tup (by rw [sub_new g2]; exact all _ _ q2) (.cons (.str _) (.cons ?_ .nil))
        exact .tup (by rw [sub_new g1]; exact all _ _ q1) (.cons (.str _) .nil)
      · refine .tup (by rw [sub_new g3]; exact (s4.trans (s5.trans s6)) _ _ upd_same) (.cons (.str _) (.cons ?_ .nil))
        refine Dq.same ((sub_left d8).trans ?_) _ _ dv
        exact (sub_fresh h3).trans ((sub_fresh h4).trans ((sub_fresh h5).trans (sub_fresh h6)))
    · simp only [okF]
      exact ⟨ynm, srt, okf⟩
  · refine ⟨_, rfl, _, rfl, _, _, rfl, rfl, p, arg, p2, fun H3 v f k3 p3 dv okf => ?_⟩
    have d3 : Dom H2 H3 := k3.dom p3
    obtain ⟨a, xs, rfl, ea, e0⟩ := enc_head f (Dq.same (sub_same _ _) _ _ dv)
    refine ⟨_, rfl, a, xs, 0, .str f.word, rfl, rfl, SqT.of ea, at_of (j := 0) rfl e0, rfl, _, rfl, ?_⟩
    refine ite2 (fun c6 => ?_) (fun c6 => ?_)
    · exact ⟨_, rfl, q _ _ f (k2.trans k3) p3 (Dq.same (sub_left d2) _ _ dv) (okF_up _ _ okf)⟩
    · refine ⟨_, rfl, (by show 2 ≤ sizeLine; decide), fun t ht => ?_⟩
      have gt : H t = none := (d2.trans d3) _ ht
      refine q _ _ (.opt f) (k2.trans (k3.trans (Keep.new ht _))) (p3.same (same_new ht _)) ?_ ?_
      · simp only [enc]
        refine .tup (by rw [sub_new gt]; exact upd_same) (.cons (.str _) (.cons ?_ .nil))
        exact Dq.same ((sub_left d2).trans (sub_fresh ht)) _ _ dv
      · simp only [okF]
        refine ⟨okf, ?_⟩
        cases f with
        | opt g => exact absurd (show decide (V.str (Fm.opt g).word = V.str "optional") = true from decide_eq_true rfl) c6
        | _ => rfl
theorem ok_form {f fdr fwo : Addr} {fd fdd fdw : FuncData} (F : Fun K "_law_form" "_law_form" s_form f fd) (T : Bl mg) (g : mg "_law_form" = some (.ref f)) (b : Binds K fd P_form []) (D_draw : Def P w K mg base "_law_draw" 1 P_draw spDraw fdr fdd) (D_words : Def P w K mg base "_law_words" 2 P_words spWords fwo fdw) :
    ∀ n : Nat, FnOk P w K mg base CX0 (n + 2) f fd P_form (spFormL K n)
  | 0 => ⟨fun _ _ _ _ h => h.elim, fun _ _ _ _ _ _ _ _ _ _ _ _ _ h => h.elim⟩
  | n + 1 => ok_formS F T D_draw D_words ⟨g, F.kp, b, ok_form F T g b D_draw D_words n⟩
end
end KX

namespace KX
open PySem PySem.Spec L2 PyProof.Rows
/-! ### things of a form -/
def keyOf (num : Bool) (i : Nat) (d : PyData) : Prop := if num = true then ∃ j : Int, d = .int j ∧ 3 * (i : Int) ≤ j ∧ j < 3 * (i : Int) + 3 else d = .str (repS "k" (i + 1))
inductive Fit : Fm → PyData → Prop
  | text {z : Str} : TxOk z → Fit .text (.str z)
  | number {i : Int} : i.natAbs ≤ 10 ^ 20 → Fit .number (.int i)
  | flag (b : Bool) : Fit .flag (.bool b)
  | optN (f : Fm) : Fit (.opt f) .none
  | opt {f : Fm} {d : PyData} : Fit f d → Fit (.opt f) d
  | list {f : Fm} {ds : List PyData} : ds.length ≤ 3 → (∀ x ∈ ds, Fit f x) → Fit (.list f) (.tuple ds)
  | rcd {fs : List (Str × Fm)} {kvs : List (PyData × PyData)} : kvs.map (·.1) = fs.map (fun q => PyData.str q.1) → (∀ (i : Nat) (q : Str × Fm) (kv : PyData × PyData), fs[i]? = some q → kvs[i]? = some kv → Fit q.2 kv.2) → Fit (.rcd fs) (.dict kvs)
  | keyed {k : Str} {num : Bool} {w : Str} {f : Fm} {rows : List (PyData × PyData)} : rows.length ≤ 3 → (∀ (i : Nat) (r : PyData × PyData), rows[i]? = some r → keyOf num i r.1) → (∀ r ∈ rows, Fit f r.2) →
      Fit (.keyed k num w f) (.tuple (rows.map fun r => .dict [(.str k, r.1), (.str w, r.2)]))
/-- a form, a keyed list counted as two levels -/
def okD : Nat → Fm → Prop
  | _, .text => True
  | _, .number => True
  | _, .flag => True
  | n + 1, .list f => okD n f
  | n + 1, .opt f => okD n f
  | n + 1, .rcd fs => (fs.map (·.1)).Nodup ∧ fs.length ≤ 3 ∧ ∀ q ∈ fs, okD n q.2
  | n + 2, .keyed k _ w f => k ≠ w ∧ okD n f
  | _, _ => False
theorem okD_up : ∀ (n : Nat) (f : Fm), okD n f → okD (n + 1) f
  | _, .text, _ => by simp [okD]
  | _, .number, _ => by simp [okD]
  | _, .flag, _ => by simp [okD]
  | 0, .list _, h => by simp [okD] at h
  | 0, .opt _, h => by simp [okD] at h
  | 0, .rcd _, h => by simp [okD] at h
  | 0, .keyed _ _ _ _, h => by simp [okD] at h
  | 1, .keyed _ _ _ _, h => by simp [okD] at h
  | n + 1, .list f, h => by
    have h' : okD n f := by simpa [okD] using h
    show okD (n + 1 + 1) (.list f)
    simp only [okD]
    exact okD_up n f h'
  | n + 1, .opt f, h => by
    have h' : okD n f := by simpa [okD] using h
    show okD (n + 1 + 1) (.opt f)
    simp only [okD]
    exact okD_up n f h'
  | n + 1, .rcd fs, h => by
    have h' : (fs.map (·.1)).Nodup ∧ fs.length ≤ 3 ∧ ∀ q ∈ fs, okD n q.2 := by simpa only [okD] using h
    show okD (n + 1 + 1) (.rcd fs)
    simp only [okD]
    exact ⟨h'.1, h'.2.1, fun q hq => okD_up n q.2 (h'.2.2 q hq)⟩
  | n + 2, .keyed k num w f, h => by
    have h' : k ≠ w ∧ okD n f := by simpa only [okD] using h
    show okD (n + 1 + 2) (.keyed k num w f)
    simp only [okD]
    exact ⟨h'.1, okD_up n f h'.2⟩
theorem okD_of : ∀ (n : Nat) (f : Fm), okF n f → okD (2 * n) f
  | _, .text, _ => by simp [okD]
  | _, .number, _ => by simp [okD]
  | _, .flag, _ => by simp [okD]
  | 0, .list _, h => by simp [okF] at h
  | 0, .opt _, h => by simp [okF] at h
  | 0, .rcd _, h => by simp [okF] at h
  | 0, .keyed _ _ _ _, h => by simp [okF] at h
  | n + 1, .list f, h => by
    have h' : okF n f := by simpa [okF] using h
    show okD (2 * n + 1 + 1) (.list f)
    simp only [okD]
    exact okD_up _ f (okD_of n f h')
  | n + 1, .opt f, h => by
    have h' : okF n f ∧ f.isOpt = false := by simpa [okF] using h
    show okD (2 * n + 1 + 1) (.opt f)
    simp only [okD]
    exact okD_up _ f (okD_of n f h'.1)
  | n + 1, .rcd fs, h => by
    have h' : Names (fs.map (·.1)) ∧ sortedS (fs.map (·.1)) = true ∧ 1 ≤ fs.length ∧ fs.length ≤ 3 ∧ ∀ q ∈ fs, okF n q.2 := by simpa only [okF] using h
    show okD (2 * n + 1 + 1) (.rcd fs)
    simp only [okD]
    exact ⟨h'.1.1, h'.2.2.2.1, fun q hq => okD_up _ q.2 (okD_of n q.2 (h'.2.2.2.2 q hq))⟩
  | n + 1, .keyed k num w f, h => by
    have h' : Names [k, w] ∧ sortedS [k, w] = true ∧ okF n f := by simpa only [okF] using h
    show okD (2 * n + 2) (.keyed k num w f)
    simp only [okD]
    refine ⟨fun e => ?_, okD_of n f h'.2.2⟩
    have := h'.1.1
    rw [e] at this
    simp at this
theorem if_ff {c : Bool} {A B : Prop} (hc : c = false) (h : B) : if c = true then A else B := by
  rw [hc]
  exact iteF h
theorem if_tt {c : Bool} {A B : Prop} (hc : c = true) (h : A) : if c = true then A else B := by
  rw [hc]
  exact iteT h
mutual
theorem Dq.dp {K : PySem.W.Frag} {H : Hp} : ∀ (d : PyData) (v : V), Dq K H v d → d.hasDict = false → Dp K H v d
  | .none, _, .non, _ => .non
  | .bool _, _, .bl b, _ => .bl b
  | .int _, _, .int i, _ => .int i
  | .str _, _, .str x, _ => .str x
  | .list ds, _, .lst hs ha, h => .lst (SqL.of hs) (DqAll.dp ds _ ha (by simpa only [PyData.hasDict] using h))
  | .tuple ds, _, .tup hs ha, h => .tup (SqT.of hs) (DqAll.dp ds _ ha (by simpa only [PyData.hasDict] using h))
  | .dict _, _, .dct _ _, h => by simp [PyData.hasDict] at h
theorem DqAll.dp {K : PySem.W.Frag} {H : Hp} : ∀ (ds : List PyData) (vs : List V), DqAll K H vs ds → PyData.hasDictAll ds = false → DpAll K H vs ds
  | [], _, .nil, _ => .nil
  | d :: ds, _, .cons h1 h2, h => by
    simp only [PyData.hasDictAll, Bool.or_eq_false_iff] at h
    exact .cons (Dq.dp d _ h1 h.1) (DqAll.dp ds _ h2 h.2)
end
/-- the heap without these -/
def hideL (as : List Addr) (H : Hp) : Hp := fun b => if b ∈ as then none else H b
theorem hideL_ne {as : List Addr} {b : Addr} {H : Hp} (h : b ∉ as) : hideL as H b = H b := if_neg h
theorem hideL_some {as : List Addr} {b : Addr} {H : Hp} {o : HO} (h : hideL as H b = some o) : b ∉ as ∧ H b = some o := by
  by_cases z : b ∈ as
  · rw [show hideL as H b = none from if_pos z] at h
    cases h
  · rw [hideL_ne z] at h
    exact ⟨z, h⟩
theorem sub_some {H H' : Hp} {b : Addr} {o : HO} (h : sub H H' b = some o) : H b = none ∧ H' b = some o := by
  cases q : H b with
  | none => rw [sub_new q] at h; exact ⟨rfl, h⟩
  | some u => rw [sub_old q] at h; cases h
theorem put_new {kvs : List (Key × V)} {k : Key} (v : V) (h : k ∉ kvs.map (·.1)) : putK kvs k v = kvs ++ [(k, v)] := by
  unfold putK
  rw [if_neg]
  intro z
  obtain ⟨q, hq, e⟩ := List.any_eq_true.mp z
  exact h (List.mem_map.mpr ⟨q, hq, of_decide_eq_true e⟩)
theorem encFs_get {K : PySem.W.Frag} {H : Hp} : ∀ {ps : List V} {fs : List (Str × Fm)} {i : Nat} {x : V}, DqAll K H ps (encFs fs) → ps[i]? = some x →
    ∃ (w : Str) (f : Fm) (t : Addr) (y : V), fs[i]? = some (w, f) ∧ x = .ref t ∧ H t = some (.tup [.str w, y]) ∧ Dq K H y (enc f)
  | _, [], i, x, h, e => by
    simp only [encFs] at h
    cases h
    simp at e
  | _, (w, f) :: r, i, x, h, e => by
    simp only [encFs] at h
    cases h with
    | cons h1 h2 =>
      cases i with
      | zero =>
        simp at e
        subst e
        cases h1 with
        | tup hs ha =>
          cases ha with
          | cons g1 g2 =>
            cases g1
            cases g2 with
            | cons g3 g4 =>
              cases g4
              exact ⟨w, f, _, _, rfl, rfl, hs, g3⟩
      | succ i =>
        obtain ⟨w', f', t, y, z1, z2⟩ := encFs_get (i := i) h2 (by simpa using e)
        exact ⟨w', f', t, y, by simpa using z1, z2⟩
/-- a row of a keyed list: its dict's place, its key, its other value and what that is -/
structure Rw where
  a : Addr
  u : V
  y : V
  x : PyData
/-- rows as they stand: dicts of their own, whose values hold none of them -/
structure RowsAt (K : PySem.W.Frag) (H : Hp) (kw ww : Str) (g : Fm) (rs : List Rw) : Prop where
  nd : (rs.map (·.a)).Nodup
  dct : ∀ r ∈ rs, H r.a = some (.dK [(Sum.inr kw, r.u), (Sum.inr ww, r.y)])
  val : ∀ r ∈ rs, Dq K (hideL (rs.map (·.a)) H) r.y r.x
  fit : ∀ r ∈ rs, Fit g r.x
theorem RowsAt.same {K : PySem.W.Frag} {H H' : Hp} {kw ww : Str} {g : Fm} {rs : List Rw} (h : RowsAt K H kw ww g rs) (s : Same H H') : RowsAt K H' kw ww g rs :=
  ⟨h.nd, fun r hr => s _ _ (h.dct r hr), fun r hr => Dq.same (fun b o e => by
    obtain ⟨z, e⟩ := hideL_some e
    rw [hideL_ne z]
    exact s _ _ e) _ _ (h.val r hr), h.fit⟩
theorem RowsAt.snoc {K : PySem.W.Frag} {H0 H H' : Hp} {kw ww : Str} {g : Fm} {rs : List Rw} {r : Rw} (h : RowsAt K (sub H0 H) kw ww g rs) (s : Same (sub H0 H) (sub H0 H')) (d : Dom H0 H)
    (e : sub H H' r.a = some (.dK [(Sum.inr kw, r.u), (Sum.inr ww, r.y)])) (v : Dq K (hide r.a (sub H H')) r.y r.x) (f : Fit g r.x) : RowsAt K (sub H0 H') kw ww g (rs ++ [r]) := by
  have h' := h.same s
  obtain ⟨na, ea⟩ := sub_some e
  have nin : r.a ∉ rs.map (·.a) := fun z => by
    obtain ⟨q, hq, eq⟩ := List.mem_map.mp z
    have := (sub_some (h.dct q hq)).2
    rw [eq, na] at this
    cases this
  refine ⟨?_, ?_, ?_, ?_⟩
  · rw [List.map_append]
    exact nd_snoc h.nd nin
  · intro q hq
    rcases List.mem_append.mp hq with hq | hq
    · exact h'.dct q hq
    · rw [List.mem_singleton.mp hq, sub_new (d _ na)]
      exact ea
  · intro q hq
    rcases List.mem_append.mp hq with hq | hq
    · refine Dq.same (fun b o eb => ?_) _ _ (h.val q hq)
      obtain ⟨z, eb⟩ := hideL_some eb
      have z2 : b ∉ (rs ++ [r]).map (·.a) := by
        rw [List.map_append]
        intro m
        rcases List.mem_append.mp m with m | m
        · exact z m
        · have e1 : b = r.a := List.mem_singleton.mp m
          have := (sub_some eb).2
          rw [e1, na] at this
          cases this
      rw [hideL_ne z2]
      exact s _ _ eb
    · rw [List.mem_singleton.mp hq]
      refine Dq.same (fun b o eb => ?_) _ _ v
      by_cases hb : b = r.a
      · subst hb
        rw [show hide r.a (sub H H') r.a = none from if_pos rfl] at eb
        cases eb
      rw [hide_ne hb] at eb
      obtain ⟨nb, eb⟩ := sub_some eb
      have z2 : b ∉ (rs ++ [r]).map (·.a) := by
        rw [List.map_append]
        intro m
        rcases List.mem_append.mp m with m | m
        · obtain ⟨q2, hq2, eq2⟩ := List.mem_map.mp m
          have := (sub_some (h.dct q2 hq2)).2
          rw [eq2, nb] at this
          cases this
        · exact hb (List.mem_singleton.mp m)
      rw [hideL_ne z2, sub_new (d _ nb)]
      exact eb
  · intro q hq
    rcases List.mem_append.mp hq with hq | hq
    · exact h.fit q hq
    · rw [List.mem_singleton.mp hq]
      exact f
/-- the key of the i-th row is stored -/
theorem RowsAt.set {K : PySem.W.Frag} {H0 H : Hp} {kw ww : Str} {g : Fm} {rs : List Rw} {i : Nat} {r : Rw} {u : V} (h : RowsAt K (sub H0 H) kw ww g rs) (hi : rs[i]? = some r) :
    RowsAt K (sub H0 (upd H r.a (.dK [(Sum.inr kw, u), (Sum.inr ww, r.y)]))) kw ww g (rs.set i { r with u := u }) := by
  have hr := List.mem_of_getElem? hi
  have ma : (rs.set i { r with u := u }).map (·.a) = rs.map (·.a) := by
    rw [List.map_set]
    show (rs.map (·.a)).set i r.a = _
    apply List.ext_getElem?
    intro j
    rw [List.getElem?_set]
    by_cases e : i = j
    · subst e
      have hl := (List.getElem?_eq_some_iff.mp hi).1
      rw [if_pos rfl, if_pos (by rw [List.length_map]; exact hl), List.getElem?_map, hi]
      rfl
    · rw [if_neg e]
  have na := (sub_some (h.dct r hr)).1
  have memb : ∀ q ∈ rs.set i { r with u := u }, q = { r with u := u } ∨ (q ∈ rs ∧ q.a ≠ r.a) := by
    intro q hq
    obtain ⟨j, hj⟩ := List.getElem?_of_mem hq
    rw [List.getElem?_set] at hj
    by_cases e : i = j
    · rw [if_pos e] at hj
      split at hj
      · exact .inl (Option.some.inj hj).symm
      · cases hj
    · rw [if_neg e] at hj
      refine .inr ⟨List.mem_of_getElem? hj, fun z => e ?_⟩
      have j1 := (List.getElem?_eq_some_iff.mp hj).1
      have i1 := (List.getElem?_eq_some_iff.mp hi).1
      refine (List.getElem_inj h.nd (h₀ := by rw [List.length_map]; exact i1) (h₁ := by rw [List.length_map]; exact j1)).mp ?_
      rw [List.getElem_map, List.getElem_map, (List.getElem?_eq_some_iff.mp hi).2, (List.getElem?_eq_some_iff.mp hj).2]
      exact z.symm
  have carry : ∀ {v : V} {x : PyData}, Dq K (hideL (rs.map (·.a)) (sub H0 H)) v x → Dq K (hideL (rs.map (·.a)) (sub H0 (upd H r.a (.dK [(Sum.inr kw, u), (Sum.inr ww, r.y)])))) v x := fun hv => Dq.same (fun b o eb => by
    obtain ⟨z, eb⟩ := hideL_some eb
    obtain ⟨nb, eb⟩ := sub_some eb
    have hb : b ≠ r.a := fun e => z (List.mem_map.mpr ⟨r, hr, e.symm⟩)
    rw [hideL_ne z, sub_new nb, upd_ne hb]
    exact eb) _ _ hv
  refine ⟨by rw [ma]; exact h.nd, ?_, ?_, ?_⟩
  · intro q hq
    rcases memb q hq with rfl | ⟨hq, ne⟩
    · show sub H0 (upd H r.a _) r.a = _
      rw [sub_new na]
      exact upd_same
    · obtain ⟨nb, eb⟩ := sub_some (h.dct q hq)
      rw [sub_new nb, upd_ne ne]
      exact eb
  · intro q hq
    rw [ma]
    rcases memb q hq with rfl | ⟨hq, ne⟩
    · exact carry (h.val r hr)
    · exact carry (h.val q hq)
  · intro q hq
    rcases memb q hq with rfl | ⟨hq, ne⟩
    · exact h.fit r hr
    · exact h.fit q hq
theorem DqKv.inv {K : PySem.W.Frag} {S : Hp} {kk : List (Key × V)} {L : List (PyData × PyData)} (h : DqKv K S kk L) : ∀ (k0 d0 : PyData) (ds : List (PyData × PyData)), L = (k0, d0) :: ds →
    ∃ q u r, kk = (q, u) :: r ∧ keyD q = k0 ∧ Dq K S u d0 ∧ DqKv K S r ds := by
  cases h with
  | nil => intro _ _ _ e; cases e
  | cons h1 h2 =>
    intro k0 d0 ds e
    simp only [List.cons.injEq, Prod.mk.injEq] at e
    obtain ⟨⟨rfl, rfl⟩, rfl⟩ := e
    exact ⟨_, _, _, rfl, rfl, h1, h2⟩
def kform : Bool → Fm
  | true => .number
  | false => .text
theorem enc_kform (num : Bool) : enc (kform num) = .tuple [.str (kword num)] := by cases num <;> simp [kform, enc, kword]
theorem row_of {K : PySem.W.Frag} {S : Hp} {kw ww : Str} {kf g : Fm} {y : V} {d : PyData} (h : Dq K S y d) (f : Fit (.rcd [(kw, kf), (ww, g)]) d) :
    ∃ r : Rw, y = .ref r.a ∧ S r.a = some (.dK [(Sum.inr kw, r.u), (Sum.inr ww, r.y)]) ∧ Dq K (hide r.a S) r.y r.x ∧ Fit g r.x := by
  have h0 := h
  cases f with
  | rcd m ft =>
    rename_i kvs
    match kvs, m with
    | [(k0, d0), (k1, d1)], m =>
      simp only [List.map_cons, List.map_nil, List.cons.injEq, and_true] at m
      obtain ⟨rfl, rfl⟩ := m
      have f1 := ft 1 (ww, g) (.str ww, d1) rfl rfl
      cases h with
      | dct hs ha =>
        rename_i aa kk
        obtain ⟨q0, u0, r0, rfl, z0, a1, ha⟩ := DqKv.inv ha _ _ _ rfl
        obtain ⟨q1, u1, r1, rfl, z1, a3, ha⟩ := DqKv.inv ha _ _ _ rfl
        cases ha
        have e0 : q0 = Sum.inr kw := by
          cases q0 with
          | inl i => simp [keyD] at z0
          | inr x => simp only [keyD, PyData.str.injEq] at z0; rw [z0]
        have e1 : q1 = Sum.inr ww := by
          cases q1 with
          | inl i => simp [keyD] at z1
          | inr x => simp only [keyD, PyData.str.injEq] at z1; rw [z1]
        subst e0 e1
        refine ⟨⟨aa, u0, u1, d1⟩, rfl, hs, ?_, f1⟩
        refine Dq.avoid h0 _ _ a3 ?_
        simp only [PyData.depth, PyData.depthKv]
        omega
theorem encFs_len : ∀ fs : List (Str × Fm), (encFs fs).length = fs.length
  | [] => rfl
  | (_, _) :: r => by simp [encFs, encFs_len r]
section
variable {base : Heap} {P : Program} {w : World} {K : PySem.W.Frag} {mg : Str → Option Value}
abbrev s_thing : Stmt := top 54
abbrev N_thing : List Str := ["_law_pool_here", "_law_form_here", "_law_found", "_law_word", "_law_inner", "_law_k", "_law_numbers"]
abbrev P_thing : List Str := ["_law_pool_here", "_law_form_here"]
theorem sc_thing : FnScope N_thing P_thing (defScope s_thing) := ⟨rfl, rfl, rfl, by decide +kernel, rfl, by decide +kernel, by decide +kernel⟩
def spThingL (K : PySem.W.Frag) : Nat → Sp
  | 0 => fun _ _ _ _ => False
  | n + 1 => fun vs H Q _ => ∃ (p : Addr) (v : V) (f : Fm), vs = [.ref p, v] ∧ PoolAt H p ∧ Dq K (hide p H) v (enc f) ∧ okD n f ∧
    ∀ (H' : Hp) (y : V) (d : PyData), Keep p H H' → PoolAt H' p → Dq K (sub H H') y d → Fit f d → Q y H'
theorem ok_thingS {f fdr fch : Addr} {fd fdd fdc : FuncData} {n : Nat} (F : Fun K "_law_thing_of" "_law_thing_of" s_thing f fd) (T : Bl mg) (D_draw : Def P w K mg base "_law_draw" 1 P_draw spDraw fdr fdd) (D_chars : Def P w K mg base "_law_chars" 2 P_chars spChars fch fdc)
    (D_thing_of : Def P w K mg base "_law_thing_of" (n + 2) P_thing (spThingL K n) f fd) : FnOk P w K mg base CX0 (n + 3) f fd P_thing (spThingL K (n + 1)) := by
  refine F.ok sc_thing (fun vs H Q E h => ?_) (fun cdv A outer s H vs Q E hr h => ?_)
  · obtain ⟨p, v, f, rfl, _⟩ := h
    rfl
  obtain ⟨p, v, fm, rfl, hp, dv, okf, q⟩ := h
  refine ⟨_, (pss_cons (ps_if (pt_cmpR op_eq (pe_ix (ix_tupK K rfl) (pv 1) pe_int (fun _ _ => rfl)) pe_str (nomark _))
      (pss_one (ps_ret (pe_call D_chars.ok (hr.mono (by first | decide | omega)) rfl D_chars.g D_chars.kp D_chars.b .nil pass0 (pa_cons (pv 0) pa_nil))))
      pss_nil)
    (pss_cons (ps_if (pt_cmpR op_eq (pe_ix (ix_tupK K rfl) (pv 1) pe_int (fun _ _ => rfl)) pe_str (nomark _))
      (pss_one (ps_ret (pe_ix (ix_listK K rfl) (pe_lst (pa_cons (pe_call D_draw.ok (hr.mono (by first | decide | omega)) rfl D_draw.g D_draw.kp D_draw.b .nil pass0 (pa_cons (pv 0) (pa_cons pe_int pa_nil))) (pa_cons (pe_un un_neg (pe_call D_draw.ok (hr.mono (by first | decide | omega)) rfl D_draw.g D_draw.kp D_draw.b .nil pass0 (pa_cons (pv 0) (pa_cons pe_int pa_nil)))) (pa_cons (pe_op op_sub (pe_op op_pow pe_int pe_int) (pe_call D_draw.ok (hr.mono (by first | decide | omega)) rfl D_draw.g D_draw.kp D_draw.b .nil pass0 (pa_cons (pv 0) (pa_cons pe_int pa_nil)))) pa_nil)))) (pe_call D_draw.ok (hr.mono (by first | decide | omega)) rfl D_draw.g D_draw.kp D_draw.b .nil pass0 (pa_cons (pv 0) (pa_cons pe_int pa_nil))) (fun _ _ => rfl))))
      pss_nil)
    (pss_cons (ps_if (pt_cmpR op_eq (pe_ix (ix_tupK K rfl) (pv 1) pe_int (fun _ _ => rfl)) pe_str (nomark _))
      (pss_one (ps_ret (pe_cmpR op_eq (pe_call D_draw.ok (hr.mono (by first | decide | omega)) rfl D_draw.g D_draw.kp D_draw.b .nil pass0 (pa_cons (pv 0) (pa_cons pe_int pa_nil))) pe_int (nomark _))))
      pss_nil)
    (pss_cons (ps_if (pt_cmpR op_eq (pe_ix (ix_tupK K rfl) (pv 1) pe_int (fun _ _ => rfl)) pe_str (nomark _))
      (pss_one (ps_ret (pe_ifExp (pt_cmpR op_gt (pe_call D_draw.ok (hr.mono (by first | decide | omega)) rfl D_draw.g D_draw.kp D_draw.b .nil pass0 (pa_cons (pv 0) (pa_cons pe_int pa_nil))) pe_int (nomark _)) (pe_call D_thing_of.ok (hr.mono (by first | decide | omega)) rfl D_thing_of.g D_thing_of.kp D_thing_of.b .nil pass0 (pa_cons (pv 0) (pa_cons (pe_ix (ix_tupK K rfl) (pv 1) pe_int (fun _ _ => rfl)) pa_nil))) pe_non)))
      pss_nil)
    (pss_cons (ps_if (pt_cmpR op_eq (pe_ix (ix_tupK K rfl) (pv 1) pe_int (fun _ _ => rfl)) pe_str (nomark _))
      (pss_cons (ps_set (i := 2) sc_thing.nd rfl (Or.inl rfl) pe_dnewK)
    (pss_cons (ps_for PassesOwn.never rfl (pi_tup (pe_ix (ix_tupK K rfl) (pv 1) pe_int (fun _ _ => rfl))) (pg_tup rfl (pgs_cons (pg_name (i := 3) sc_thing.nd rfl (Or.inl rfl)) (pgs_cons (pg_name (i := 4) sc_thing.nd rfl (Or.inl rfl)) pgs_nil)))
      (pss_one (ps_dput (hu_of hr) (pv 2) (pv 3) (pe_call D_thing_of.ok (hr.mono (by first | decide | omega)) rfl D_thing_of.g D_thing_of.kp D_thing_of.b .nil pass0 (pa_cons (pv 0) (pa_cons (pv 4) pa_nil))) rfl)))
    (pss_one (ps_ret (pv 2)))))
      pss_nil)
    (pss_cons (ps_setLc (i := 2) (own := [("_law_k", 5)]) (g := (gName 5)) (tt := tYes) rfl sc_thing.nd rfl rfl (sw_true rfl rfl rfl (by decide +kernel)) (pi_range1 rfl T.range (pa_cons (pe_call D_draw.ok (hr.mono (by first | decide | omega)) rfl D_draw.g D_draw.kp D_draw.b .nil pass0 (pa_cons (pv 0) (pa_cons pe_int pa_nil))) pa_nil)) (blkOk_by (own := [("_law_k", 5)]) (N := N_thing) (sc := defScope s_thing) (by decide +kernel)) (fun _ _ _ _ _ => (pg_name (i := 5) sc_thing.nd rfl (Or.inl rfl))) (fun _ _ _ _ _ => pts_nil) (fun _ _ _ _ _ => (pe_call D_thing_of.ok (hr.mono (by first | decide | omega)) rfl D_thing_of.g D_thing_of.kp D_thing_of.b .nil pass0 (pa_cons (pv 0) (pa_cons (pe_ix (ix_tupK K rfl) (pv 1) pe_int (fun _ _ => rfl)) pa_nil)))))
    (pss_cons (ps_if (pt_cmpR op_eq (pe_ix (ix_tupK K rfl) (pv 1) pe_int (fun _ _ => rfl)) pe_str (nomark _))
      (pss_one (ps_for PassesOwn.never rfl (pi_range1 rfl T.range (pa_cons (pe_callB (call_lenK K rfl) (by rfl) T.len PySem.boot_len (pa_cons (pv 2) pa_nil)) pa_nil)) (pg_name (i := 5) sc_thing.nd rfl (Or.inl rfl))
      (pss_cons (ps_set (i := 6) sc_thing.nd rfl (Or.inl rfl) (pe_cmpR (op_eqK K rfl hr.units) (pe_ix (ix_tupK K rfl) (pe_ix (ix_tupK K rfl) (pe_ix (ix_tupK K rfl) (pe_ix (ix_tupK K rfl) (pv 1) pe_int (fun _ _ => rfl)) pe_int (fun _ _ => rfl)) pe_int (fun _ _ => rfl)) pe_int (fun _ _ => rfl)) (pe_tup (pa_cons pe_str pa_nil)) (nomark _)))
    (pss_one (ps_dput (hu_of hr) (pe_ix (ix_listK K rfl) (pv 2) (pv 5) (fun _ _ => rfl)) (pe_ix (ix_tupK K rfl) (pv 1) pe_int (fun _ _ => rfl)) (pe_ifExp (pt_val (pv 6)) (pe_op op_add (pe_op op_mul (pv 5) pe_int) (pe_call D_draw.ok (hr.mono (by first | decide | omega)) rfl D_draw.g D_draw.kp D_draw.b .nil pass0 (pa_cons (pv 0) (pa_cons pe_int pa_nil)))) (pe_op op_mulS pe_str (pe_op op_add (pv 5) pe_int))) rfl)))))
      pss_nil)
    (pss_one (ps_ret (pe_callTy call_tuple_of (by rfl) T.tuple (by decide +kernel) (pa_cons (pv 2) pa_nil))))))))))), ?_⟩
  have small : ∀ n : Nat, n ≤ 1000 → n ≤ sizeLine := fun n h => Nat.le_of_lt (small1000 h)
  have hasP := hp.has
  obtain ⟨a, xs, rfl, ea, e0⟩ := enc_head fm dv
  have eaH : H a = some (.tup xs) := hide_sub p H _ _ ea
  have at0 : atI xs 0 = some (.str fm.word) := at_of (j := 0) rfl e0
  cases fm with
  | text =>
    refine ⟨_, rfl, a, xs, 0, .str _, rfl, rfl, SqT.of eaH, at0, rfl, _, rfl, ?_⟩
    refine if_tt (by decide) ?_
    exact ⟨_, rfl, p, rfl, hp, fun H' z k pp tx => q H' _ _ k pp (.str z) (.text tx)⟩
  | number =>
    refine ⟨_, rfl, a, xs, 0, .str _, rfl, rfl, SqT.of eaH, at0, rfl, _, rfl, ?_⟩
    refine if_ff (by decide) ?_
    refine ⟨_, rfl, a, xs, 0, .str _, rfl, rfl, SqT.of eaH, at0, rfl, _, rfl, ?_⟩
    refine if_tt (by decide) ?_
    refine ⟨_, rfl, p, 10, rfl, hp, by decide, by decide, fun H1 r1 k1 p1 a0 a1 => ?_⟩
    refine ⟨_, rfl, p, 100, rfl, p1, by decide, by decide, fun H2 r2 k2 p2 b0 b1 => ⟨_, rfl, _, _, rfl, rfl, ⟨by decide, by decide, by decide⟩, ?_⟩⟩
    refine ⟨_, rfl, p, 5, rfl, p2, by decide, by decide, fun H3 r3 k3 p3 c0 c1 => ⟨_, _, rfl, rfl, (by show 3 ≤ sizeLine; decide), fun l hl => ?_⟩⟩
    have p4 := p3.same (same_new hl (.lst [.int r1, .int (-r2), .int ((10 : Int) ^ (20 : Int).toNat - r3)]))
    refine ⟨_, rfl, p, 3, rfl, p4, by decide, by decide, fun H5 r4 k5 p5 d0 d1 => ?_⟩
    have e5 := k5 _ _ (p3.ne hl) upd_same
    have pw : (10 : Int) ^ (20 : Int).toNat = 100000000000000000000 := by decide
    have kk := k1.trans (k2.trans (k3.trans ((Keep.new hl (.lst [.int r1, .int (-r2), .int ((10 : Int) ^ (20 : Int).toNat - r3)])).trans k5)))
    obtain ⟨z, ez, bz⟩ : ∃ z : Int, atI [V.int r1, .int (-r2), .int ((10 : Int) ^ (20 : Int).toNat - r3)] r4 = some (.int z) ∧ z.natAbs ≤ 10 ^ 20 := by
      have big : (10 : Nat) ^ 20 = 100000000000000000000 := by decide
      rw [big]
      rcases (show r4 = 0 ∨ r4 = 1 ∨ r4 = 2 by omega) with e | e | e
      · exact ⟨r1, by rw [e]; rfl, by omega⟩
      · exact ⟨-r2, by rw [e]; rfl, by omega⟩
      · exact ⟨_, by rw [e]; rfl, by rw [pw]; omega⟩
    exact ⟨l, _, r4, _, rfl, rfl, SqL.of e5, ez, q _ _ _ kk p5 (.int z) (.number bz)⟩
  | flag =>
    refine ⟨_, rfl, a, xs, 0, .str _, rfl, rfl, SqT.of eaH, at0, rfl, _, rfl, ?_⟩
    refine if_ff (by decide) ?_
    refine ⟨_, rfl, a, xs, 0, .str _, rfl, rfl, SqT.of eaH, at0, rfl, _, rfl, ?_⟩
    refine if_ff (by decide) ?_
    refine ⟨_, rfl, a, xs, 0, .str _, rfl, rfl, SqT.of eaH, at0, rfl, _, rfl, ?_⟩
    refine if_tt (by decide) ?_
    exact ⟨_, rfl, p, 2, rfl, hp, by decide, by decide, fun H1 r1 k1 p1 a0 a1 => ⟨rfl, q _ _ _ k1 p1 (.bl _) (.flag _)⟩⟩
  | opt g =>
    refine ⟨_, rfl, a, xs, 0, .str _, rfl, rfl, SqT.of eaH, at0, rfl, _, rfl, ?_⟩
    refine if_ff (show decide (V.str ("optional" : Str) = V.str ("text" : Str)) = false by decide) ?_
    refine ⟨_, rfl, a, xs, 0, .str _, rfl, rfl, SqT.of eaH, at0, rfl, _, rfl, ?_⟩
    refine if_ff (show decide (V.str ("optional" : Str) = V.str ("number" : Str)) = false by decide) ?_
    refine ⟨_, rfl, a, xs, 0, .str _, rfl, rfl, SqT.of eaH, at0, rfl, _, rfl, ?_⟩
    refine if_ff (show decide (V.str ("optional" : Str) = V.str ("flag" : Str)) = false by decide) ?_
    refine ⟨_, rfl, a, xs, 0, .str _, rfl, rfl, SqT.of eaH, at0, rfl, _, rfl, ?_⟩
    refine if_tt (show decide (V.str ("optional" : Str) = V.str ("optional" : Str)) = true by decide) ?_
    obtain ⟨n', rfl, okg⟩ : ∃ n', n = n' + 1 ∧ okD n' g := by
      match n, okf with
      | n' + 1, h => exact ⟨n', rfl, by simpa only [okD] using h⟩
    simp only [enc] at dv
    obtain ⟨x1, exs, dx1⟩ : ∃ x1, xs = [.str "optional", x1] ∧ Dq K (hide p H) x1 (enc g) := by
      cases dv with
      | tup hs ha =>
        rw [ea] at hs
        cases hs
        cases ha with
        | cons h1 h2 =>
          cases h1
          cases h2 with
          | cons h3 h4 =>
            cases h4
            exact ⟨_, rfl, h3⟩
    refine ⟨_, rfl, p, 3, rfl, hp, by decide, by decide, fun H1 r1 k1 p1 a0 a1 => ⟨_, _, rfl, rfl, _, rfl, ?_⟩⟩
    have dom1 := k1.dom p1
    refine ite2 (fun c => ?_) (fun c => ?_)
    · have ea1 : H1 a = some (.tup xs) := hide_sub p H1 _ _ (k1.hide _ _ ea)
      refine ⟨_, rfl, _, rfl, a, xs, 1, x1, rfl, rfl, SqT.of ea1, by rw [exs]; rfl, ?_⟩
      refine ⟨p, x1, g, rfl, p1, Dq.same k1.hide _ _ dx1, okg, fun H2 y d k2 p2 dy fy => ?_⟩
      exact q _ _ _ (k1.trans k2) p2 (Dq.same (sub_left dom1) _ _ dy) (.opt fy)
    · exact q _ _ _ k1 p1 .non (.optN g)
  | list g =>
    refine ⟨_, rfl, a, xs, 0, .str _, rfl, rfl, SqT.of eaH, at0, rfl, _, rfl, ?_⟩
    refine if_ff (show decide (V.str ("list" : Str) = V.str ("text" : Str)) = false by decide) ?_
    refine ⟨_, rfl, a, xs, 0, .str _, rfl, rfl, SqT.of eaH, at0, rfl, _, rfl, ?_⟩
    refine if_ff (show decide (V.str ("list" : Str) = V.str ("number" : Str)) = false by decide) ?_
    refine ⟨_, rfl, a, xs, 0, .str _, rfl, rfl, SqT.of eaH, at0, rfl, _, rfl, ?_⟩
    refine if_ff (show decide (V.str ("list" : Str) = V.str ("flag" : Str)) = false by decide) ?_
    refine ⟨_, rfl, a, xs, 0, .str _, rfl, rfl, SqT.of eaH, at0, rfl, _, rfl, ?_⟩
    refine if_ff (show decide (V.str ("list" : Str) = V.str ("optional" : Str)) = false by decide) ?_
    refine ⟨_, rfl, a, xs, 0, .str _, rfl, rfl, SqT.of eaH, at0, rfl, _, rfl, ?_⟩
    refine if_ff (show decide (V.str ("list" : Str) = V.str ("record" : Str)) = false by decide) ?_
    obtain ⟨n', rfl, okg⟩ : ∃ n', n = n' + 1 ∧ okD n' g := by
      match n, okf with
      | n' + 1, h => exact ⟨n', rfl, by simpa only [okD] using h⟩
    simp only [enc] at dv
    obtain ⟨x1, exs, dx1⟩ : ∃ x1, xs = [.str "list", x1] ∧ Dq K (hide p H) x1 (enc g) := by
      cases dv with
      | tup hs ha =>
        rw [ea] at hs
        cases hs
        cases ha with
        | cons h1 h2 =>
          cases h1
          cases h2 with
          | cons h3 h4 =>
            cases h4
            exact ⟨_, rfl, h3⟩
    refine ⟨_, rfl, p, 4, rfl, hp, by decide, by decide, fun H1 r1 k1 p1 a0 a1 => ⟨r1, rfl, by omega, by omega, fun D hD => ?_⟩⟩
    have nD := p1.ne hD
    have dom1 := k1.dom p1
    obtain ⟨H2, hH2⟩ : ∃ H2, H2 = upd H1 D (.lst []) := ⟨_, rfl⟩
    have s2 : Same H1 H2 := by rw [hH2]; exact same_new hD _
    have e2 : H2 D = some (.lst []) := by rw [hH2]; exact upd_same
    have p2 := p1.same s2
    have has2 : ∃ u, H2 p = some u := p2.has
    have hasD : ∃ u, H2 D = some u := ⟨_, e2⟩
    have dom2 : Dom H H2 := dom1.trans (Same.dom s2)
    refine lc_range (lo := 0) (n := r1.toNat) (fun i H' => Keep p H1 H' ∧ PoolAt H' p ∧ Dom H2 H' ∧ ∃ (vs : List V) (ds : List PyData), H' D = some (.lst vs) ∧ vs.length = i ∧ DqAll K (sub H2 H') vs ds ∧ ∀ x ∈ ds, Fit g x)
      (by rw [← hH2]; exact ⟨Same.keep s2, p2, fun _ z => z, [], [], e2, rfl, .nil, fun _ z => by cases z⟩) ?_ ?_
    · rintro i H' hi ⟨k3, p3, d3, vs, ds, e3, z3, dv3, f3⟩
      refine ⟨rfl, yesT ?_⟩
      have ea1 : H' a = some (.tup xs) := hide_sub p H' _ _ ((k1.trans k3).hide _ _ ea)
      refine ⟨_, rfl, _, rfl, a, xs, 1, x1, rfl, rfl, SqT.of ea1, by rw [exs]; rfl, p, x1, g, rfl, p3, Dq.same (k1.trans k3).hide _ _ dx1, okg, fun H4 y d k4 p4 dy fy => ?_⟩
      refine ⟨vs, k4 _ _ nD e3, by rw [z3]; exact small1000 (by omega), (k3.trans k4).upd hD, p4.upd nD, d3.trans ((k4.dom p4).trans dom_upd), vs ++ [y], ds ++ [d], upd_same, by rw [List.length_append, z3]; rfl, ?_, ?_⟩
      · exact DqAll.snoc (Dq.same ((sub_left d3).trans (sub_upd hasD)) _ _ dy) (DqAll.same ((sub_keep k4 has2).trans (sub_upd hasD)) _ _ dv3)
      · intro x hx
        rcases List.mem_append.mp hx with hx | hx
        · exact f3 x hx
        · rw [List.mem_singleton.mp hx]
          exact fy
    rintro H3 ⟨k3, p3, d3, vs, ds, e3, z3, dv3, f3⟩
    have ea3 : H3 a = some (.tup xs) := hide_sub p H3 _ _ ((k1.trans k3).hide _ _ ea)
    refine ⟨_, rfl, a, xs, 0, .str _, rfl, rfl, SqT.of ea3, at0, rfl, _, rfl, ?_⟩
    refine if_ff (show decide (V.str ("list" : Str) = V.str ("keyed" : Str)) = false by decide) ?_
    refine ⟨_, rfl, D, vs, rfl, .inl ⟨SqL.of e3, fun t ht => ?_⟩⟩
    have gt : H t = none := (dom2.trans d3) _ ht
    refine q _ _ (.tuple ds) (k1.trans (k3.trans (Keep.new ht _))) (p3.same (same_new ht _)) ?_ (.list ?_ f3)
    · exact .tup (by rw [sub_new gt]; exact upd_same) (DqAll.same ((sub_left dom2).trans (sub_fresh ht)) _ _ dv3)
    · rw [← DqAll.length dv3]
      omega
  | rcd fs =>
    refine ⟨_, rfl, a, xs, 0, .str _, rfl, rfl, SqT.of eaH, at0, rfl, _, rfl, ?_⟩
    refine if_ff (show decide (V.str ("record" : Str) = V.str ("text" : Str)) = false by decide) ?_
    refine ⟨_, rfl, a, xs, 0, .str _, rfl, rfl, SqT.of eaH, at0, rfl, _, rfl, ?_⟩
    refine if_ff (show decide (V.str ("record" : Str) = V.str ("number" : Str)) = false by decide) ?_
    refine ⟨_, rfl, a, xs, 0, .str _, rfl, rfl, SqT.of eaH, at0, rfl, _, rfl, ?_⟩
    refine if_ff (show decide (V.str ("record" : Str) = V.str ("flag" : Str)) = false by decide) ?_
    refine ⟨_, rfl, a, xs, 0, .str _, rfl, rfl, SqT.of eaH, at0, rfl, _, rfl, ?_⟩
    refine if_ff (show decide (V.str ("record" : Str) = V.str ("optional" : Str)) = false by decide) ?_
    refine ⟨_, rfl, a, xs, 0, .str _, rfl, rfl, SqT.of eaH, at0, rfl, _, rfl, ?_⟩
    refine if_tt (show decide (V.str ("record" : Str) = V.str ("record" : Str)) = true by decide) ?_
    obtain ⟨n', rfl, nd, l3, okg⟩ : ∃ n', n = n' + 1 ∧ (fs.map (·.1)).Nodup ∧ fs.length ≤ 3 ∧ ∀ z ∈ fs, okD n' z.2 := by
      match n, okf with
      | n' + 1, h => exact ⟨n', rfl, by simpa only [okD] using h⟩
    simp only [enc] at dv
    obtain ⟨b, ps, exs, eb, dps⟩ : ∃ b ps, xs = [.str "record", .ref b] ∧ hide p H b = some (.tup ps) ∧ DqAll K (hide p H) ps (encFs fs) := by
      cases dv with
      | tup hs ha =>
        rw [ea] at hs
        cases hs
        cases ha with
        | cons h1 h2 =>
          cases h1
          cases h2 with
          | cons h3 h4 =>
            cases h4
            cases h3 with
            | tup g1 g2 => exact ⟨_, _, rfl, g1, g2⟩
    intro dx hdx
    have ndx := hp.ne hdx
    obtain ⟨H1, hH1⟩ : ∃ H1, H1 = upd H dx (.dK []) := ⟨_, rfl⟩
    rw [← hH1]
    have s1 : Same H H1 := by rw [hH1]; exact same_new hdx _
    have e1 : H1 dx = some (.dK []) := by rw [hH1]; exact upd_same
    have k1 : Keep p H H1 := Same.keep s1
    have p1 := hp.same s1
    have has1 : ∃ u, H1 p = some u := p1.has
    have hasD : ∃ u, H1 dx = some u := ⟨_, e1⟩
    have dom1 : Dom H H1 := Same.dom s1
    have plen : ps.length = fs.length := by rw [DqAll.length dps, encFs_len]
    refine ⟨_, rfl, a, xs, 1, .ref b, rfl, rfl, SqT.of (s1 _ _ eaH), by rw [exs]; rfl, b, rfl, ⟨_, SqT.of (s1 _ _ (hide_sub p H _ _ eb))⟩, ?_⟩
    refine for_tup (K := K) (a := b) (xs := ps) (fun i σ H' => ∃ s3 s4 : Option V, σ = [some (.ref p), some (.ref a), some (.ref dx), s3, s4, none, none] ∧ Keep p H H' ∧ PoolAt H' p ∧ Dom H1 H' ∧
        ∃ (kvs : List (Key × V)) (ds : List (PyData × PyData)), H' dx = some (.dK kvs) ∧ kvs.map (·.1) = (fs.take i).map (fun z => Sum.inr z.1) ∧ ds.map (·.1) = (fs.take i).map (fun z => PyData.str z.1) ∧ DqKv K (sub H1 H') kvs ds ∧
          ∀ (j : Nat) (z : Str × Fm) (kv : PyData × PyData), fs[j]? = some z → ds[j]? = some kv → Fit z.2 kv.2)
      ⟨none, none, rfl, k1, p1, fun _ z => z, [], [], e1, rfl, rfl, .nil, fun j z kv _ h => by simp at h⟩ (fun i σ H' _ ⟨_, _, _, k, _⟩ => SqT.of (hide_sub p H' _ _ (k.hide _ _ eb))) ?_ ?_
    · rintro i x σ H' hx ⟨s3, s4, rfl, k2, p2, d2, kvs, ds, e2, m2, w2, dv2, f2⟩
      obtain ⟨ww, g, t, y0, hfs, rfl, et, dy0⟩ := encFs_get dps hx
      have hi : i < fs.length := (List.getElem?_eq_some_iff.mp hfs).1
      refine ⟨t, _, rfl, SqT.of (hide_sub p H' _ _ (k2.hide _ _ et)), rfl, _, _, rfl, _, _, rfl, rfl, ?_⟩
      refine ⟨_, rfl, _, rfl, p, y0, g, rfl, p2, Dq.same k2.hide _ _ dy0, okg _ (List.mem_of_getElem? hfs), fun H3 y d k3 p3 dy fy => ?_⟩
      have e3 := k3 _ _ ndx e2
      have klen : kvs.length = i := by
        have := congrArg List.length m2
        rw [List.length_map, List.length_map, List.length_take, Nat.min_eq_left (by omega)] at this
        exact this
      refine ⟨_, rfl, _, rfl, dx, _, rfl, DPut.k (k := Sum.inr ww) e3 (by rw [klen]; exact small1000 (by omega)), ?_⟩
      have fresh : Sum.inr ww ∉ kvs.map (·.1) := by
        rw [m2]
        intro z
        obtain ⟨u, hu, e⟩ := List.mem_map.mp z
        have e' : u.1 = ww := Sum.inr.inj e
        obtain ⟨j, hj, ej⟩ := List.mem_iff_getElem.mp hu
        rw [List.length_take] at hj
        rw [List.getElem_take] at ej
        have hj2 : j < (fs.map (·.1)).length := by rw [List.length_map]; omega
        have hi2 : i < (fs.map (·.1)).length := by rw [List.length_map]; exact hi
        have := (List.getElem_inj nd (h₀ := hj2) (h₁ := hi2)).mp (by
          rw [List.getElem_map, List.getElem_map, ej, e']
          have := (List.getElem?_eq_some_iff.mp hfs).2
          rw [this])
        omega
      rw [put_new y fresh]
      have tk : fs.take (i + 1) = fs.take i ++ [(ww, g)] := by rw [List.take_succ, hfs]; rfl
      have carry : Same (sub H1 H3) (sub H1 (upd H3 dx (.dK (kvs ++ [(Sum.inr ww, y)])))) := sub_upd hasD
      refine ⟨_, _, rfl, (k2.trans k3).upd hdx, p3.upd ndx, d2.trans ((k3.dom p3).trans dom_upd), kvs ++ [(Sum.inr ww, y)], ds ++ [(.str ww, d)], upd_same, ?_, ?_, ?_, ?_⟩
      · rw [tk, List.map_append, List.map_append, m2]
        rfl
      · rw [tk, List.map_append, List.map_append, w2]
        rfl
      · exact DqKv.snoc (k := Sum.inr ww) (Dq.same ((sub_left d2).trans carry) _ _ dy) (DqKv.same ((sub_keep k3 has1).trans carry) _ _ dv2)
      · intro j z kv hz hkv
        have dlen : ds.length = i := by
          have := congrArg List.length w2
          rw [List.length_map, List.length_map, List.length_take, Nat.min_eq_left (by omega)] at this
          exact this
        by_cases hj : j < i
        · rw [List.getElem?_append_left (by omega)] at hkv
          exact f2 j z kv hz hkv
        · have hj2 := (List.getElem?_eq_some_iff.mp hkv).1
          rw [List.length_append, List.length_singleton] at hj2
          have ej : j = i := by omega
          subst ej
          rw [hfs] at hz
          cases hz
          rw [List.getElem?_append_right (by omega), dlen, Nat.sub_self] at hkv
          cases hkv
          exact fy
    · rintro σ H' ⟨s3, s4, rfl, k2, p2, d2, kvs, ds, e2, m2, w2, dv2, f2⟩
      rw [plen, List.take_length] at w2
      refine ⟨_, rfl, q _ _ (.dict ds) k2 p2 (.dct (by rw [sub_new hdx]; exact e2) (DqKv.same (sub_left dom1) _ _ dv2)) (.rcd w2 f2)⟩
  | keyed kw num ww g =>
    refine ⟨_, rfl, a, xs, 0, .str _, rfl, rfl, SqT.of eaH, at0, rfl, _, rfl, ?_⟩
    refine if_ff (show decide (V.str ("keyed" : Str) = V.str ("text" : Str)) = false by decide) ?_
    refine ⟨_, rfl, a, xs, 0, .str _, rfl, rfl, SqT.of eaH, at0, rfl, _, rfl, ?_⟩
    refine if_ff (show decide (V.str ("keyed" : Str) = V.str ("number" : Str)) = false by decide) ?_
    refine ⟨_, rfl, a, xs, 0, .str _, rfl, rfl, SqT.of eaH, at0, rfl, _, rfl, ?_⟩
    refine if_ff (show decide (V.str ("keyed" : Str) = V.str ("flag" : Str)) = false by decide) ?_
    refine ⟨_, rfl, a, xs, 0, .str _, rfl, rfl, SqT.of eaH, at0, rfl, _, rfl, ?_⟩
    refine if_ff (show decide (V.str ("keyed" : Str) = V.str ("optional" : Str)) = false by decide) ?_
    refine ⟨_, rfl, a, xs, 0, .str _, rfl, rfl, SqT.of eaH, at0, rfl, _, rfl, ?_⟩
    refine if_ff (show decide (V.str ("keyed" : Str) = V.str ("record" : Str)) = false by decide) ?_
    obtain ⟨n', rfl, nkw, okg⟩ : ∃ n', n = n' + 2 ∧ kw ≠ ww ∧ okD n' g := by
      match n, okf with
      | n' + 2, h => exact ⟨n', rfl, by simpa only [okD] using h⟩
      | 1, h => simp [okD] at h
      | 0, h => simp [okD] at h
    obtain ⟨b, c, e0', h0', exs, db, eb, ec, ee, eh⟩ : ∃ b c e h : Addr, xs = [.str "keyed", .ref b, .str kw] ∧ Dq K (hide p H) (.ref b) (enc (.rcd [(kw, kform num), (ww, g)])) ∧ hide p H b = some (.tup [.str "record", .ref c]) ∧
        (∃ e1, hide p H c = some (.tup [.ref e, .ref e1])) ∧ hide p H e = some (.tup [.str kw, .ref h]) ∧ hide p H h = some (.tup [.str (kword num)]) := by
      simp only [enc] at dv
      cases dv with
      | tup hs ha =>
        rw [ea] at hs
        cases hs
        cases ha with
        | cons h1 h2 =>
          cases h1
          cases h2 with
          | cons h3 h4 =>
            cases h4 with
            | cons h5 h6 =>
              cases h5
              cases h6
              have hb := h3
              cases h3 with
              | tup b1 b2 =>
                cases b2 with
                | cons b3 b4 =>
                  cases b3
                  cases b4 with
                  | cons b5 b6 =>
                    cases b6
                    cases b5 with
                    | tup c1 c2 =>
                      cases c2 with
                      | cons c3 c4 =>
                        cases c4 with
                        | cons c5 c6 =>
                          cases c6
                          cases c3 with
                          | tup e1 e2 =>
                            cases e2 with
                            | cons e3 e4 =>
                              cases e3
                              cases e4 with
                              | cons e5 e6 =>
                                cases e6
                                cases e5 with
                                | tup g1 g2 =>
                                  cases g2 with
                                  | cons g3 g4 =>
                                    cases g3
                                    cases g4
                                    cases c5 with
                                    | tup x1 x2 =>
                                      refine ⟨_, _, _, _, rfl, ?_, b1, ⟨_, c1⟩, e1, g1⟩
                                      simp only [enc, encFs, enc_kform]
                                      exact hb
    obtain ⟨e1', ec⟩ := ec
    have okr : okD (n' + 1) (.rcd [(kw, kform num), (ww, g)]) := by
      simp only [okD]
      refine ⟨by simp [nkw], by simp, fun z hz => ?_⟩
      rcases List.mem_cons.mp hz with rfl | hz
      · cases num <;> simp [kform, okD]
      · rw [List.mem_singleton.mp hz]
        exact okg
    refine ⟨_, rfl, p, 4, rfl, hp, by decide, by decide, fun H1 r1 k1 p1 a0 a1 => ⟨r1, rfl, by omega, by omega, fun D hD => ?_⟩⟩
    have nD := p1.ne hD
    have dom1 := k1.dom p1
    obtain ⟨H2, hH2⟩ : ∃ H2, H2 = upd H1 D (.lst []) := ⟨_, rfl⟩
    have s2 : Same H1 H2 := by rw [hH2]; exact same_new hD _
    have e2 : H2 D = some (.lst []) := by rw [hH2]; exact upd_same
    have p2 := p1.same s2
    have has2 : ∃ u, H2 p = some u := p2.has
    have hasD : ∃ u, H2 D = some u := ⟨_, e2⟩
    have dom2 : Dom H H2 := dom1.trans (Same.dom s2)
    refine lc_range (lo := 0) (n := r1.toNat) (fun i H' => Keep p H1 H' ∧ PoolAt H' p ∧ Dom H2 H' ∧ ∃ rs : List Rw, H' D = some (.lst (rs.map fun r => .ref r.a)) ∧ rs.length = i ∧ RowsAt K (sub H2 H') kw ww g rs)
      (by rw [← hH2]; exact ⟨Same.keep s2, p2, fun _ z => z, [], e2, rfl, ⟨by simp, (by simp), (by simp), (by simp)⟩⟩) ?_ ?_
    · rintro i H' hi ⟨k3, p3, d3, rs, e3, z3, R3⟩
      refine ⟨rfl, yesT ?_⟩
      have ea1 : H' a = some (.tup xs) := hide_sub p H' _ _ ((k1.trans k3).hide _ _ ea)
      refine ⟨_, rfl, _, rfl, a, xs, 1, .ref b, rfl, rfl, SqT.of ea1, by rw [exs]; rfl, p, .ref b, _, rfl, p3, Dq.same (k1.trans k3).hide _ _ db, okr, fun H4 y d k4 p4 dy fy => ?_⟩
      obtain ⟨r, rfl, er, vr, fr⟩ := row_of dy fy
      have ndA : r.a ≠ D := fun z => by
        have := (sub_some er).1
        rw [z, e3] at this
        cases this
      refine ⟨_, k4 _ _ nD e3, by rw [List.length_map, z3]; exact small1000 (by omega), (k3.trans k4).upd hD, p4.upd nD, d3.trans ((k4.dom p4).trans dom_upd), rs ++ [r], by rw [upd_same, List.map_append]; rfl, by rw [List.length_append, z3]; rfl, ?_⟩
      have R4 := RowsAt.snoc (H' := H4) R3 (sub_keep k4 has2) d3 er vr fr
      exact R4.same (sub_upd hasD)
    rintro H3 ⟨k3, p3, d3, rs, e3, z3, R3⟩
    have ea3 : H3 a = some (.tup xs) := hide_sub p H3 _ _ ((k1.trans k3).hide _ _ ea)
    refine ⟨_, rfl, a, xs, 0, .str _, rfl, rfl, SqT.of ea3, at0, rfl, _, rfl, ?_⟩
    refine if_tt (show decide (V.str ("keyed" : Str) = V.str ("keyed" : Str)) = true by decide) ?_
    -- the keys
    refine ⟨_, rfl, .ref D, rs.length, rfl, .inl ⟨_, SqL.of e3, by rw [List.length_map]⟩, rs.length, rfl, by omega, by omega, ?_⟩
    rw [Int.toNat_natCast]
    refine for_range (lo := 0) (n := rs.length) (fun i σ H' => ∃ s5 s6 : Option V, σ = [some (.ref p), some (.ref a), some (.ref D), none, none, s5, s6] ∧ Keep p H1 H' ∧ PoolAt H' p ∧ Dom H2 H' ∧
        ∃ rs' : List Rw, H' D = some (.lst (rs'.map fun r => .ref r.a)) ∧ rs'.length = rs.length ∧ RowsAt K (sub H2 H') kw ww g rs' ∧ ∀ (j : Nat) (r : Rw), j < i → rs'[j]? = some r → ∃ kd, keyOf num j kd ∧ ∀ S, Dq K S r.u kd)
      ⟨none, none, rfl, k3, p3, d3, rs, e3, rfl, R3, fun j r h => absurd h (Nat.not_lt_zero j)⟩ ?_ ?_
    · rintro i σ H' hi ⟨s5, s6, rfl, k4, p4, d4, rs', e4, z4, R4, ky⟩
      have hh : Same (hide p H) (hide p H') := (k1.trans k4).hide
      have up : ∀ {q : Addr} {o : HO}, hide p H q = some o → H' q = some o := fun {q o} e => hide_sub p H' _ _ (hh _ _ e)
      refine ⟨_, rfl, a, xs, 1, .ref b, rfl, rfl, SqT.of (up ea), by rw [exs]; rfl, b, _, 1, .ref c, rfl, rfl, SqT.of (up eb), rfl, c, _, 0, .ref e0', rfl, rfl, SqT.of (up ec), rfl, e0', _, 1, .ref h0', rfl, rfl, SqT.of (up ee), rfl, ?_⟩
      refine ⟨(by show 1 ≤ sizeLine; decide), fun t ht => ?_⟩
      have nth : h0' ≠ t := ne_of_none (up eh) ht
      refine ⟨.tuple [.str (kword num)], .tuple [.str "number"], .tup (SqT.of (by rw [upd_ne nth]; exact up eh)) (.cons (.str _) .nil), .tup (SqT.of upd_same) (.cons (.str _) .nil), (by cases num <;> decide +kernel), (by decide +kernel), ?_⟩
      have eqn : PyData.eqv (.tuple [.str (kword num)]) (.tuple [.str "number"]) = num := by cases num <;> decide +kernel
      rw [eqn]
      obtain ⟨H5, hH5⟩ : ∃ H5, H5 = upd H' t (.tup [.str "number"]) := ⟨_, rfl⟩
      rw [← hH5]
      have s5' : Same H' H5 := by rw [hH5]; exact same_new ht _
      have p5 := p4.same s5'
      have k5 : Keep p H1 H5 := k4.trans (Same.keep s5')
      have d5 : Dom H2 H5 := d4.trans (Same.dom s5')
      have e5 := s5' _ _ e4
      have R5 : RowsAt K (sub H2 H5) kw ww g rs' := R4.same (by rw [hH5]; exact sub_fresh ht)
      have i' : i < rs'.length := by omega
      -- the row, stored
      have store : ∀ (H6 : Hp) (u : V) (kd : PyData), Keep p H5 H6 → PoolAt H6 p → keyOf num i kd → (∀ S, Dq K S u kd) → ∃ (s5 s6 : Option V), ([some (.ref p), some (.ref a), some (.ref D), none, none, some (.int (0 + (i : Int))), some (.bl num)] : L2.St) = [some (.ref p), some (.ref a), some (.ref D), none, none, s5, s6] ∧
          ∃ (q1 : Addr) (xs1 : List V) (i1 : Int) (v1 : V), V.ref D = .ref q1 ∧ V.int (0 + (i : Int)) = .int i1 ∧ SqL K H6 q1 xs1 ∧ atI xs1 i1 = some v1 ∧ ∃ (a2 : Addr) (H7 : Hp), v1 = .ref a2 ∧ H6 a = some (.tup xs) ∧ DPut H6 a2 (.str kw) u H7 ∧ Keep p H1 H7 ∧ PoolAt H7 p ∧ Dom H2 H7 ∧
            ∃ rs' : List Rw, H7 D = some (.lst (rs'.map fun r => .ref r.a)) ∧ rs'.length = rs.length ∧ RowsAt K (sub H2 H7) kw ww g rs' ∧ ∀ (j : Nat) (r : Rw), j < i + 1 → rs'[j]? = some r → ∃ kd, keyOf num j kd ∧ ∀ S, Dq K S r.u kd := by
        intro H6 u kd k6 p6 hk hu
        have e6 := k6 _ _ nD e5
        have R6 : RowsAt K (sub H2 H6) kw ww g rs' := R5.same (sub_keep k6 has2)
        have hr : rs'[i]? = some rs'[i] := List.getElem?_eq_getElem i'
        have dr := R6.dct _ (List.mem_of_getElem? hr)
        have nrD : rs'[i].a ≠ D := fun z => by
          have := (sub_some dr).2
          rw [z, e6] at this
          cases this
        have nrp : rs'[i].a ≠ p := fun z => by
          have := (sub_some dr).1
          obtain ⟨u, hu⟩ := has2
          rw [z, hu] at this
          cases this
        refine ⟨_, _, rfl, D, _, _, .ref rs'[i].a, rfl, rfl, SqL.of e6, at_of (j := i) (by omega) (by rw [List.getElem?_map, hr]; rfl), rs'[i].a, _, rfl, hide_sub p H6 _ _ ((k1.trans (k5.trans k6)).hide _ _ ea), DPut.k (k := Sum.inr kw) (sub_some dr).2 (by show 2 < sizeLine; decide), ?_⟩
        have pk : putK [(Sum.inr kw, rs'[i].u), (Sum.inr ww, rs'[i].y)] (Sum.inr kw) u = ([(Sum.inr kw, u), (Sum.inr ww, rs'[i].y)] : List (Key × V)) := by
          have nk : ¬ (Sum.inr ww : Key) = Sum.inr kw := fun z => nkw (Sum.inr.inj z).symm
          unfold putK
          rw [if_pos (by simp)]
          simp [nk]
        rw [pk]
        have nH1 : H1 rs'[i].a = none := by
          have := (sub_some dr).1
          rw [hH2, upd_ne nrD] at this
          exact this
        refine ⟨(k5.trans k6).upd nH1, p6.upd nrp, d5.trans ((k6.dom p6).trans dom_upd), rs'.set i { rs'[i] with u := u }, ?_, ?_, R6.set hr, ?_⟩
        · rw [upd_ne nrD.symm, e6, List.map_set]
          refine congrArg (fun z => some (HO.lst z)) ?_
          apply List.ext_getElem?
          intro j
          rw [List.getElem?_set]
          by_cases e : i = j
          · subst e
            rw [if_pos rfl, if_pos (by rw [List.length_map]; exact i'), List.getElem?_map, hr]
            rfl
          · rw [if_neg e]
        · rw [List.length_set]
          exact z4
        · intro j r hj hrj
          rw [List.getElem?_set] at hrj
          by_cases e : i = j
          · rw [if_pos e, if_pos i'] at hrj
            have := Option.some.inj hrj
            subst e
            rw [← this]
            exact ⟨kd, hk, hu⟩
          · rw [if_neg e] at hrj
            exact ky j r (by omega) hrj
      cases num with
      | true =>
        refine ⟨_, rfl, _, rfl, iteT ?_⟩
        refine ⟨_, rfl, _, _, rfl, rfl, .inr ⟨by decide, by decide⟩, ?_⟩
        refine ⟨_, rfl, p, 3, rfl, p5, by decide, by decide, fun H6 r2 k6 p6 b0 b1 => ⟨_, _, rfl, rfl, ?_⟩⟩
        obtain ⟨t5, t6, es, q1, xs1, i1, v1, g1, g2, g3, g4, a2, H7, g5, g6, g7, g8⟩ := store H6 (.int ((0 + (i : Int)) * 3 + r2)) (.int ((0 + (i : Int)) * 3 + r2)) k6 p6 ⟨_, rfl, by omega, by omega⟩ (fun S => .int _)
        refine ⟨_, rfl, _, rfl, q1, xs1, i1, v1, g1, g2, g3, g4, ?_⟩
        refine ⟨_, rfl, a, xs, 2, .str kw, rfl, rfl, SqT.of g6, by rw [exs]; rfl, a2, H7, g5, g7, t5, t6, es, g8⟩
      | false =>
        refine ⟨_, rfl, _, rfl, iteF ?_⟩
        refine ⟨_, rfl, _, _, rfl, rfl, ?_⟩
        refine ⟨_, _, rfl, rfl, by omega, by omega, (by show 1 ≤ 1; decide), (by show 1 ≤ 1000; decide), ?_⟩
        have en : (0 + (i : Int) + 1).toNat = i + 1 := by omega
        obtain ⟨t5, t6, es, q1, xs1, i1, v1, g1, g2, g3, g4, a2, H7, g5, g6, g7, g8⟩ := store H5 (.str (repS "k" (0 + (i : Int) + 1).toNat)) (.str (repS "k" (0 + (i : Int) + 1).toNat)) (Keep.refl _ _) p5 (by rw [en]; rfl) (fun S => .str _)
        refine ⟨_, rfl, _, rfl, q1, xs1, i1, v1, g1, g2, g3, g4, ?_⟩
        refine ⟨_, rfl, a, xs, 2, .str kw, rfl, rfl, SqT.of g6, by rw [exs]; rfl, a2, H7, g5, g7, t5, t6, es, g8⟩
    · rintro σ H' ⟨s5, s6, rfl, k4, p4, d4, rs', e4, z4, R4, ky⟩
      refine ⟨_, rfl, D, _, rfl, .inl ⟨SqL.of e4, fun t ht => ?_⟩⟩
      have gt : H t = none := (dom2.trans d4) _ ht
      -- the rows as they are at last
      obtain ⟨rows, hl, hk, hf, hd⟩ : ∃ rows : List (PyData × PyData), rows.length = rs'.length ∧ (∀ (i : Nat) (r : PyData × PyData), rows[i]? = some r → keyOf num i r.1) ∧ (∀ r ∈ rows, Fit g r.2) ∧
          DqAll K (sub H H') (rs'.map fun r => .ref r.a) (rows.map fun r => .dict [(.str kw, r.1), (.str ww, r.2)]) := by
        have R5 : RowsAt K (sub H H') kw ww g rs' := R4.same (sub_left dom2)
        have gen : ∀ (tl : List Rw) (m : Nat), (∀ r ∈ tl, r ∈ rs') → (∀ (j : Nat) (r : Rw), tl[j]? = some r → ∃ kd, keyOf num (m + j) kd ∧ ∀ S, Dq K S r.u kd) →
            ∃ rows : List (PyData × PyData), rows.length = tl.length ∧ (∀ (i : Nat) (r : PyData × PyData), rows[i]? = some r → keyOf num (m + i) r.1) ∧ (∀ r ∈ rows, Fit g r.2) ∧
              DqAll K (sub H H') (tl.map fun r => .ref r.a) (rows.map fun r => .dict [(.str kw, r.1), (.str ww, r.2)]) := by
          intro tl
          induction tl with
          | nil => exact fun m _ _ => ⟨[], rfl, (fun i r h => by simp at h), (fun r h => by cases h), .nil⟩
          | cons r tl ih =>
            intro m hm hkk
            obtain ⟨rows, h1, h2, h3, h4⟩ := ih (m + 1) (fun x hx => hm x (List.mem_cons_of_mem _ hx)) (fun j x hx => by
              have := hkk (j + 1) x (by simpa using hx)
              rw [show m + 1 + j = m + (j + 1) by omega]
              exact this)
            obtain ⟨kd, q1, q2⟩ := hkk 0 r rfl
            have hr := hm r List.mem_cons_self
            refine ⟨(kd, r.x) :: rows, by rw [List.length_cons, List.length_cons, h1], fun i x hx => ?_, fun x hx => ?_, ?_⟩
            · cases i with
              | zero =>
                simp at hx
                rw [← hx]
                exact q1
              | succ i =>
                have := h2 i x (by simpa using hx)
                rw [show m + (i + 1) = m + 1 + i by omega]
                exact this
            · rcases List.mem_cons.mp hx with rfl | hx
              · exact R5.fit r hr
              · exact h3 x hx
            · refine .cons ?_ h4
              refine .dct (R5.dct r hr) (DqKv.cons (k := Sum.inr kw) (q2 _) (DqKv.cons (k := Sum.inr ww) ?_ .nil))
              exact Dq.same (fun b o e => (hideL_some e).2) _ _ (R5.val r hr)
        have := gen rs' 0 (fun r hr => hr) (fun j r hr => ky j r (by
          have := (List.getElem?_eq_some_iff.mp hr).1
          omega) (by simpa using hr) |> fun ⟨kd, h1, h2⟩ => ⟨kd, by rw [Nat.zero_add]; exact h1, h2⟩)
        obtain ⟨rows, h1, h2, h3, h4⟩ := this
        exact ⟨rows, h1, fun i r hr => by
          have := h2 i r hr
          rw [Nat.zero_add] at this
          exact this, h3, h4⟩
      refine q _ _ (.tuple (rows.map fun r => .dict [(.str kw, r.1), (.str ww, r.2)])) (k1.trans (k4.trans (Keep.new ht _))) (p4.same (same_new ht _)) ?_ (.keyed (by omega) hk hf)
      exact .tup (by rw [sub_new gt]; exact upd_same) (DqAll.same (sub_fresh ht) _ _ hd)
theorem ok_thing {f fdr fch : Addr} {fd fdd fdc : FuncData} (F : Fun K "_law_thing_of" "_law_thing_of" s_thing f fd) (T : Bl mg) (g : mg "_law_thing_of" = some (.ref f)) (b : Binds K fd P_thing []) (D_draw : Def P w K mg base "_law_draw" 1 P_draw spDraw fdr fdd) (D_chars : Def P w K mg base "_law_chars" 2 P_chars spChars fch fdc) :
    ∀ n : Nat, FnOk P w K mg base CX0 (n + 2) f fd P_thing (spThingL K n)
  | 0 => ⟨fun _ _ _ _ h => h.elim, fun _ _ _ _ _ _ _ _ _ _ _ _ _ h => h.elim⟩
  | n + 1 => ok_thingS F T D_draw D_chars ⟨g, F.kp, b, ok_thing F T g b D_draw D_chars n⟩
end
end KX

namespace KX
open PySem PySem.Spec L2 PyProof.Rows
/-! ### list(d.values()) -/
theorem vals_snd : ∀ {rows : List (Key × V)} {vs : List (Key × Value)}, KV rows vs → Vals (rows.map Prod.snd) (vs.map Prod.snd)
  | _, _, .nil => .nil
  | _, _, .cons one more => .cons one.2 (vals_snd more)
theorem snd_of_items {κ : Type} {vs : List (κ × Value)} {acc : Array Value} (z : acc.size = vs.length) (each : ∀ (j : Nat) (v : Value), acc[j]? = some v → ∃ k, vs[j]? = some (k, v)) : acc.toList = vs.map Prod.snd := by
  apply List.ext_getElem?
  intro j
  rw [Array.getElem?_toList, List.getElem?_map]
  cases q : acc[j]? with
  | none =>
    rw [Array.getElem?_eq_none_iff] at q
    rw [List.getElem?_eq_none (by omega)]
    rfl
  | some v =>
    obtain ⟨k, ek⟩ := each j v q
    rw [ek]
    rfl
def tListVals (te : TE) : TE := fun σ H Q => te σ H fun x G => ∃ (m : Addr) (rows : List (Key × V)), x = .ref m ∧ G m = some (.dK rows) ∧ ∀ l, G l = none → Q (.ref l) (upd G l (.lst (rows.map Prod.snd)))
section
variable {X : Cx} {e : Expr} {te : TE} {p apos cpos pos : Pos}
theorem pe_listVals (calm : X.calm = true) (isG : Gl X "list") (own : X.mg "list" = none) (recv : PE X e te)
    (attr : attributeBase e "values" X.env (eval e X.env) = eval e X.env := by rfl) (row : (apos.endLine == cpos.line) = true := by rfl)
    (stars : starEach [.Call (.Attribute e "values" apos) [] [] cpos] X.env = (false, eval (.Call (.Attribute e "values" apos) [] [] cpos) X.env) :: starEach [] X.env := by rfl) :
    PE X (.Call (.Name "list" p) [.Call (.Attribute e "values" apos) [] [] cpos] [] pos) (tListVals te) := by
  constructor
  intro pins s σ H Q I want
  have calls : wpAny (model X.prog X.w) X.A (eval (.Call (.Attribute e "values" apos) [] [] cpos) X.env) (fun u s2 => wpAny (model X.prog X.w) X.A (call (.type "list") [u]) (EP X pins σ Q) X.xe s2) X.xe s := by
    refine wpAny_Call_method (T := "dict") (id := "dict.values") attr rfl row PySem.F.plainAttrs_dict PySem.F.slot_dict_values PySem.F.type_dict_values ?_
    refine thn (recv.run pins s σ H _ I want) ?_
    rintro u s1 ⟨x, G, J, rx, m, rows, rfl, em, q⟩
    have eu : u = Value.ref m := rx
    subst eu
    obtain ⟨short, low, vs, kv, dict⟩ := J.hok m _ em
    obtain ⟨ep, stands⟩ := dict.dictAt
    have len : rows.length = vs.length := Paired.length kv
    refine ⟨dict.typeIs, dict.mapOf.noDict, ?_⟩
    generalize hv : ({ cls := .type "dict_values", data := .fields #[.ref m] } : Obj) = view
    have J2 : Inv X pins σ G { s1 with heap := s1.heap.push view } := J.kept (t' := s1.toks) (fun b o there => Heap.get?_push_of_some _ there)
    refine method_meetsIn PySem.F.slot_dict_values PySem.F.entry_dict_values rfl (PySem.evalArgs_none ⟨rfl, dict.typeIs, PySem.F.args_dict_values_1 _, _, meets_dict_values (mixKind X.prog X.w) m low, ⟨vs, dict⟩, ?_⟩)
    rw [hv]
    have src : (s1.heap.push view).IsValuesView s1.heap.objs.size m ∧ (s1.heap.push view).DictAt (mixKind X.prog X.w) m vs ep := ⟨by subst hv; exact ⟨_, Heap.get?_push_size _ rfl, rfl, rfl⟩, stands.push _⟩
    refine PySem.W.kdl_call (PySem.W.kdl_values (knd := mixKind X.prog X.w) (kvs := vs) (ep := ep)) (J.ok.hd calm) src (by omega) ?_
    intro h' tk acc c keeps made items
    have all : acc.toList = vs.map Prod.snd := snd_of_items items.1 items.2
    refine ⟨.ref _, _, J2.laid (t' := tk) (o := .lst (rows.map Prod.snd)) keeps (Nat.le_refl _) ?_, rfl, q _ (J2.hok.fresh (Nat.le_refl _))⟩
    refine ⟨by rw [List.length_map]; exact short, acc.toList, c, ?_, ?_⟩
    · rw [all]
      exact vals_snd kv
    · rw [Array.toArray_toList]
      exact made
  have known : bootBuiltins "list" = some (Value.type "list") := by decide +kernel
  refine wpAny_Call_Name_kw (ld_blt I isG own known ?_)
  refine PyProof.Rows.callWith_type1 ?_ stars rfl
  rw [stars]
  exact Calls.spliced_cons (thn calls fun u s2 h => Calls.spliced_nil h)
end
end KX

namespace KX
open PySem PySem.Spec L2 PyProof.Rows
/-! ### signs -/
/-- the whole numbers of the module, each with its token -/
structure Lm (mg : Str → Option Value) (t : Str → Tok) : Prop where
  NEWLINE : mg "NEWLINE" = some (.int 10 (t "NEWLINE"))
  SPACE : mg "SPACE" = some (.int 32 (t "SPACE"))
  PERCENT : mg "PERCENT" = some (.int 37 (t "PERCENT"))
  TILDE : mg "TILDE" = some (.int 126 (t "TILDE"))
  MAX_ELEMENTS : mg "MAX_ELEMENTS" = some (.int 60 (t "MAX_ELEMENTS"))
  MAX_LEVELS : mg "MAX_LEVELS" = some (.int 6 (t "MAX_LEVELS"))
  MAX_LETTERS : mg "MAX_LETTERS" = some (.int 12 (t "MAX_LETTERS"))
theorem one_lt (c d : Nat) : (⟨#[c]⟩ : Str).cps.toList < (⟨#[d]⟩ : Str).cps.toList ↔ c < d := by
  show [c] < [d] ↔ c < d
  constructor
  · intro h
    rcases h with _ | h | h
    · assumption
    · cases h
  · exact List.Lex.rel
theorem one_le (c d : Nat) : (!decide ((⟨#[d]⟩ : Str).cps.toList < (⟨#[c]⟩ : Str).cps.toList)) = decide (c ≤ d) := by
  have e : decide ((⟨#[d]⟩ : Str).cps.toList < (⟨#[c]⟩ : Str).cps.toList) = decide (d < c) := by
    rw [decide_eq_decide]
    exact one_lt d c
  rw [e, Bool.eq_iff_iff]
  simp only [Bool.not_eq_true', decide_eq_false_iff_not, decide_eq_true_eq]
  omega
/-- a text as values have it -/
def TxV (z : Str) : Prop := z.length ≤ 64 ∧ ∀ c ∈ ql z, AllowC c
theorem Same.updNew {G G' : Hp} {D : Addr} {o : HO} (k : Same G G') (new : G D = none) : Same G (upd G' D o) := fun b u there =>
  (upd_ne (ne_of_none there new)).trans (k b u there)
theorem Same.unlock {G G' : Hp} {d : Addr} {f u : HO} (k : Same (upd G d f) G') (was : G d = some u) : Same G (upd G' d u) := by
  intro b o there
  rcases Classical.em (b = d) with rfl | other
  · exact upd_same.trans (was.symm.trans there)
  · exact (upd_ne other).trans (k b o ((upd_ne other).trans there))
theorem less_line {n : Nat} (h : n ≤ 1000) : n < sizeLine := small1000 h
def trues (n : Nat) : List V := (List.replicate n true).map V.bl
theorem trues_more (n : Nat) : trues n ++ [V.bl true] = trues (n + 1) := by
  simp [trues, List.replicate_succ']
theorem trues_len (n : Nat) : (trues n).length = n := by simp [trues]
theorem trues_all (n : Nat) : (List.replicate n true).all id = true := by simp
section
variable {base : Heap} {P : Program} {w : World} {K : PySem.W.Frag} {mg : Str → Option Value} {tk : Str → Tok}
abbrev s_is_sign : Stmt := top 5
abbrev N_is_sign : List Str := ["sign", "code"]
abbrev P_is_sign : List Str := ["sign"]
theorem sc_is_sign : FnScope N_is_sign P_is_sign (defScope s_is_sign) := ⟨rfl, rfl, rfl, by decide +kernel, rfl, by decide +kernel, by decide +kernel⟩
def spSign : Sp := fun vs H Q _ => ∃ c : Nat, vs = [.str ⟨#[c]⟩] ∧ AllowC c ∧ Q (.bl true) H
theorem ok_is_sign {f : Addr} {fd : FuncData} (F : Fun K "is_sign" "is_sign" s_is_sign f fd) (T : Bl mg) (L : Lm mg tk) : FnOk P w K mg base CX0 1 f fd P_is_sign spSign := by
  refine F.ok sc_is_sign (fun vs H Q E h => ?_) (fun cdv A outer s H vs Q E hr h => ?_)
  · obtain ⟨c, rfl, _⟩ := h
    rfl
  obtain ⟨c, rfl, hc, q⟩ := h
  refine ⟨_, (pss_cons (ps_set (i := 1) sc_is_sign.nd rfl (Or.inl rfl) (pe_callB call_ord (by rfl) T.ord (by decide +kernel) (pa_cons (pv 0) pa_nil)))
    (pss_one (ps_ret (pe_or (pe_cmpR op_eq (pv 1) (pe_glob (v := .int 10) rfl L.NEWLINE ⟨_, rfl⟩) (nomark _)) (pe_one (pe_and (pe_chain op_le op_le (pe_glob (v := .int 32) rfl L.SPACE ⟨_, rfl⟩) (pv 1) (pe_glob (v := .int 126) rfl L.TILDE ⟨_, rfl⟩)) (pe_one (pe_cmpR op_ne (pv 1) (pe_glob (v := .int 37) rfl L.PERCENT ⟨_, rfl⟩) (nomark _))))))))), ?_⟩
  refine ⟨_, rfl, _, rfl, rfl, _, rfl, rfl, _, rfl, ite2 (fun _ => q) (fun n => ?_)⟩
  have hn : c ≠ 10 := fun e => n (by rw [e]; rfl)
  have h2 : 32 ≤ c ∧ c ≤ 126 ∧ c ≠ 37 := hc.resolve_left hn
  refine ⟨_, rfl, _, _, rfl, rfl, _, rfl, if_tt (decide_eq_true (by show (32 : Int) ≤ (c : Int); omega)) ⟨_, _, rfl, rfl, _, rfl, if_tt (decide_eq_true (by show (c : Int) ≤ (126 : Int); omega)) ⟨_, rfl, rfl, ?_⟩⟩⟩
  have e : (!decide (V.int (c : Int) = V.int 37)) = true := by
    simp only [V.int.injEq, Bool.not_eq_true', decide_eq_false_iff_not]
    omega
  have e' : (!decide (V.int (((⟨#[c]⟩ : Str).cps.getD 0 0 : Nat) : Int) = V.int 37)) = true := e
  rw [e']
  exact q
abbrev s_is_text : Stmt := top 6
abbrev N_is_text : List Str := ["thing", "sign"]
abbrev P_is_text : List Str := ["thing"]
theorem sc_is_text : FnScope N_is_text P_is_text (defScope s_is_text) := ⟨rfl, rfl, rfl, by decide +kernel, rfl, by decide +kernel, by decide +kernel⟩
/-- a text is one, a tuple and a dict are none -/
def spText : Sp := fun vs H Q _ => (∃ z : Str, vs = [.str z] ∧ TxV z ∧ ∀ H', Same H H' → Q (.bl true) H') ∨ (∃ a, vs = [.ref a] ∧ ((∃ xs, H a = some (.tup xs)) ∨ ∃ kvs, H a = some (.dK kvs)) ∧ Q (.bl false) H)
theorem ok_is_text {f g : Addr} {fd gd : FuncData} (F : Fun K "is_text" "is_text" s_is_text f fd) (T : Bl mg) (D_is_sign : Def P w K mg base "is_sign" 1 P_is_sign spSign g gd) : FnOk P w K mg base CX0 2 f fd P_is_text spText := by
  refine F.ok sc_is_text (fun vs H Q E h => ?_) (fun cdv A outer s H vs Q E hr h => ?_)
  · rcases h with ⟨c, rfl, _⟩ | ⟨c, rfl, _⟩ <;> rfl
  refine ⟨_, (pss_one (ps_ret (pe_and (pe_callB call_isi (by rfl) T.isinstance (by decide +kernel) (pa_cons (pv 0) (pa_cons (pe_bltn (v := .ty "str") (by rfl) T.str (by decide +kernel) rfl) pa_nil))) (pe_one (pe_callB (cr_all rfl) (by rfl) T.all (by decide +kernel) (pa_cons (pe_lc (own := [("sign", 1)]) (g := (gName 1)) (tt := tYes) rfl sc_is_text.nd (pi_str (pv 0)) (blkOk_by (own := [("sign", 1)]) (N := N_is_text) (sc := defScope s_is_text) (by decide +kernel)) (fun _ _ _ _ _ => (pg_name (i := 1) sc_is_text.nd rfl (Or.inl rfl))) (fun _ _ _ _ _ => pts_nil) (fun _ _ _ _ _ => (pe_call D_is_sign.ok (hr.mono (by first | decide | omega)) rfl D_is_sign.g D_is_sign.kp D_is_sign.b .nil pass0 (pa_cons (pv 1) pa_nil)))) pa_nil)))))), ?_⟩
  rcases h with ⟨z, rfl, ⟨z1, z2⟩, q⟩ | ⟨a, rfl, ha, q⟩
  · refine ⟨_, rfl, _, _, _, _, true, rfl, .ty _, .base (.str _), kit_ty (by decide +kernel), _, rfl, if_tt rfl ?_⟩
    refine ⟨_, rfl, z, rfl, fun D new => ?_⟩
    refine lc_it walk_str (fun i H' => Same H H' ∧ H' D = some (.lst (trues i))) ⟨same_new new _, upd_same⟩ (fun _ _ _ _ => trivial) ?_ ?_
    · rintro i x G G' hi ⟨kept, made⟩ ⟨rfl, c, at', rfl⟩
      have cm : c ∈ ql z := List.mem_of_getElem? (by rw [← Array.getElem?_toList] at at'; exact at')
      have sz : z.cps.size = z.length := rfl
      refine ⟨rfl, yesT ⟨_, rfl, c, rfl, z2 c cm, _, made, ?_, Same.updNew kept new, ?_⟩⟩
      · rw [trues_len]
        exact less_line (by omega)
      · rw [upd_same, trues_more]
    · rintro G ⟨kept, made⟩
      refine ⟨D, _, rfl, SqL.of made, ?_⟩
      rw [trues_all]
      exact q G kept
  · rcases ha with ⟨xs, ha⟩ | ⟨kvs, ha⟩
    · exact ⟨_, rfl, _, _, _, _, false, rfl, .ty _, .base (.tup ha), kit_ty (by decide +kernel), _, rfl, if_ff rfl q⟩
    · exact ⟨_, rfl, _, _, _, _, false, rfl, .ty _, .base (.dK ha), kit_ty (by decide +kernel), _, rfl, if_ff rfl q⟩
abbrev s_is_letter : Stmt := top 7
abbrev N_is_letter : List Str := ["sign"]
abbrev P_is_letter : List Str := ["sign"]
theorem sc_is_letter : FnScope N_is_letter P_is_letter (defScope s_is_letter) := ⟨rfl, rfl, rfl, by decide +kernel, rfl, by decide +kernel, by decide +kernel⟩
def spBetween (lo hi : Nat) : Sp := fun vs H Q _ => ∃ c : Nat, vs = [.str ⟨#[c]⟩] ∧ Q (.bl (decide (lo ≤ c ∧ c ≤ hi))) H
theorem between_of {lo hi c : Nat} {Q : VK} {H : Hp} (q : Q (.bl (decide (lo ≤ c ∧ c ≤ hi))) H) : if decide (lo ≤ c) = true then Q (.bl (decide (c ≤ hi))) H else Q (.bl false) H := by
  refine ite2 (fun a => ?_) (fun a => ?_)
  · rw [decide_eq_true_eq] at a
    have e : decide (c ≤ hi) = decide (lo ≤ c ∧ c ≤ hi) := by
      rw [decide_eq_decide]
      exact ⟨fun b => ⟨a, b⟩, fun b => b.2⟩
    rw [e]
    exact q
  · rw [decide_eq_true_eq] at a
    rw [decide_eq_false (fun h => a h.1)] at q
    exact q
theorem ok_is_letter {f : Addr} {fd : FuncData} (F : Fun K "is_letter" "is_letter" s_is_letter f fd) : FnOk P w K mg base CX0 1 f fd P_is_letter (spBetween 97 122) := by
  refine F.ok sc_is_letter (fun vs H Q E h => ?_) (fun cdv A outer s H vs Q E hr h => ?_)
  · obtain ⟨c, rfl, _⟩ := h
    rfl
  obtain ⟨c, rfl, q⟩ := h
  refine ⟨_, (pss_one (ps_ret (pe_chain op_le_str op_le_str pe_str (pv 0) pe_str))), ?_⟩
  have lo : (!decide ((⟨#[c]⟩ : Str).cps.toList < (("a" : Str)).cps.toList)) = decide (97 ≤ c) := one_le 97 c
  have hi : (!decide ((("z" : Str)).cps.toList < (⟨#[c]⟩ : Str).cps.toList)) = decide (c ≤ 122) := one_le c 122
  have both := between_of q
  refine ⟨_, rfl, _, _, rfl, rfl, _, rfl, ?_⟩
  rw [lo]
  refine ite2 (fun a => ⟨_, _, rfl, rfl, ?_⟩) (fun a => ?_)
  · rw [if_pos a] at both
    rw [hi]
    exact both
  · rw [if_neg a] at both
    exact both
abbrev s_is_digit : Stmt := top 8
abbrev N_is_digit : List Str := ["sign"]
abbrev P_is_digit : List Str := ["sign"]
theorem sc_is_digit : FnScope N_is_digit P_is_digit (defScope s_is_digit) := ⟨rfl, rfl, rfl, by decide +kernel, rfl, by decide +kernel, by decide +kernel⟩
theorem ok_is_digit {f : Addr} {fd : FuncData} (F : Fun K "is_digit" "is_digit" s_is_digit f fd) : FnOk P w K mg base CX0 1 f fd P_is_digit (spBetween 48 57) := by
  refine F.ok sc_is_digit (fun vs H Q E h => ?_) (fun cdv A outer s H vs Q E hr h => ?_)
  · obtain ⟨c, rfl, _⟩ := h
    rfl
  obtain ⟨c, rfl, q⟩ := h
  refine ⟨_, (pss_one (ps_ret (pe_chain op_le_str op_le_str pe_str (pv 0) pe_str))), ?_⟩
  have lo : (!decide ((⟨#[c]⟩ : Str).cps.toList < (("0" : Str)).cps.toList)) = decide (48 ≤ c) := one_le 48 c
  have hi : (!decide ((("9" : Str)).cps.toList < (⟨#[c]⟩ : Str).cps.toList)) = decide (c ≤ 57) := one_le c 57
  have both := between_of q
  refine ⟨_, rfl, _, _, rfl, rfl, _, rfl, ?_⟩
  rw [lo]
  refine ite2 (fun a => ⟨_, _, rfl, rfl, ?_⟩) (fun a => ?_)
  · rw [if_pos a] at both
    rw [hi]
    exact both
  · rw [if_neg a] at both
    exact both
abbrev s_stands : Stmt := top 10
abbrev N_stands : List Str := ["sign"]
abbrev P_stands : List Str := ["sign"]
theorem sc_stands : FnScope N_stands P_stands (defScope s_stands) := ⟨rfl, rfl, rfl, by decide +kernel, rfl, by decide +kernel, by decide +kernel⟩
def upC (c : Nat) : Bool := decide (97 ≤ c ∧ c ≤ 122) || (decide (65 ≤ c ∧ c ≤ 90) || (decide (48 ≤ c ∧ c ≤ 57) || decide (c ∈ ("-_." : Str).cps.toList)))
def spStands : Sp := fun vs H Q _ => ∃ c : Nat, vs = [.str ⟨#[c]⟩] ∧ Q (.bl (upC c)) H
theorem ok_stands {f fl fdg : Addr} {fd fld fdd : FuncData} (F : Fun K "stands_for_itself" "stands_for_itself" s_stands f fd) (D_is_letter : Def P w K mg base "is_letter" 1 P_is_letter (spBetween 97 122) fl fld) (D_is_digit : Def P w K mg base "is_digit" 1 P_is_digit (spBetween 48 57) fdg fdd) :
    FnOk P w K mg base CX0 2 f fd P_stands spStands := by
  refine F.ok sc_stands (fun vs H Q E h => ?_) (fun cdv A outer s H vs Q E hr h => ?_)
  · obtain ⟨c, rfl, _⟩ := h
    rfl
  obtain ⟨c, rfl, q⟩ := h
  refine ⟨_, (pss_one (ps_ret (pe_or (pe_call D_is_letter.ok (hr.mono (by first | decide | omega)) rfl D_is_letter.g D_is_letter.kp D_is_letter.b .nil pass0 (pa_cons (pv 0) pa_nil)) (pe_or (pe_chain op_le_str op_le_str pe_str (pv 0) pe_str) (pe_or (pe_call D_is_digit.ok (hr.mono (by first | decide | omega)) rfl D_is_digit.g D_is_digit.kp D_is_digit.b .nil pass0 (pa_cons (pv 0) pa_nil)) (pe_one (pe_cmpR op_in_sign (pv 0) pe_str (by with_unfolding_all rfl)))))))), ?_⟩
  refine ⟨_, rfl, c, rfl, _, rfl, ?_⟩
  unfold upC at q
  cases a1 : decide (97 ≤ c ∧ c ≤ 122) with
  | true => exact iteT (by rw [a1] at q; exact q)
  | false =>
    rw [a1, Bool.false_or] at q
    refine iteF ?_
    have lo : (!decide ((⟨#[c]⟩ : Str).cps.toList < (("A" : Str)).cps.toList)) = decide (65 ≤ c) := one_le 65 c
    have hi : (!decide ((("Z" : Str)).cps.toList < (⟨#[c]⟩ : Str).cps.toList)) = decide (c ≤ 90) := one_le c 90
    have both := between_of (lo := 65) (hi := 90) (c := c) (H := H) (Q := fun v G => ∃ k, v = .bl k ∧ if k = true then Q (.bl true) G else ∃ v, ([some (V.str ⟨#[c]⟩)] : L2.St)[0]? = some (some v) ∧ spBetween 48 57 ([v] ++ []) G (fun v H1 => ∃ k, v = .bl k ∧ if k = true then Q (.bl true) H1 else ∃ v, ([some (V.str ⟨#[c]⟩)] : L2.St)[0]? = some (some v) ∧ ∃ (d : Nat) (z : Str), v = .str ⟨#[d]⟩ ∧ V.str ("-_." : Str) = .str z ∧ Q (.bl (decide (d ∈ z.cps.toList))) H1) (fun _ _ _ => False)) ?_
    · refine ⟨_, rfl, _, _, rfl, rfl, _, rfl, ?_⟩
      rw [lo]
      refine ite2 (fun a => ⟨_, _, rfl, rfl, ?_⟩) (fun a => ?_)
      · rw [if_pos a] at both
        rw [hi]
        exact both
      · rw [if_neg a] at both
        exact both
    · refine ⟨_, rfl, ?_⟩
      cases a2 : decide (65 ≤ c ∧ c ≤ 90) with
      | true => exact iteT (by rw [a2] at q; exact q)
      | false =>
        rw [a2, Bool.false_or] at q
        refine iteF ⟨_, rfl, c, rfl, _, rfl, ?_⟩
        cases a3 : decide (48 ≤ c ∧ c ≤ 57) with
        | true => exact iteT (by rw [a3] at q; exact q)
        | false =>
          rw [a3, Bool.false_or] at q
          exact iteF ⟨_, rfl, c, _, rfl, rfl, q⟩
end
end KX

namespace KX
open PySem PySem.Spec L2 PyProof.Rows CwR
/-! ### where a token is out already: comprehensions, calls, joins -/
theorem thnT {α : Type} {t : Sem α} {Q Q' : α → Shared → Prop} {M : Model} {A : Around} {E : Value → Shared → Prop} {s : Shared} (run : wpAny M A t Q (fun _ _ => False) s) (k : ∀ a s', s.toks ≤ s'.toks → Q a s' → Q' a s') : wpAny M A t Q' E s :=
  wpAny_mono (wpAny_toks run) (fun a s' both => k a s' both.1 both.2) fun _ _ no => no.2.elim
theorem thnE {α : Type} {t : Sem α} {Q Q' : α → Shared → Prop} {M : Model} {A : Around} {E : Value → Shared → Prop} {s : Shared} (run : wpAny M A t Q E s) (k : ∀ a s', s.toks ≤ s'.toks → Q a s' → Q' a s') : wpAny M A t Q' E s :=
  wpAny_mono (wpAny_toks run) (fun a s' both => k a s' both.1 both.2) fun _ _ no => no.2
/-- one turn's wish -/
abbrev TurnW (J : It) (g : TG) (te : TE) (vs : List Nat) (σ : L2.St) (D : Addr) (Qd : Hp → Prop) (W : Nat → Nat → Hp → Prop) : Prop :=
  ∀ i m H, W i m H → (J.stop i H ∧ Qd H) ∨ (J.go i H ∧ ∃ Nx : Hp → Prop, (∀ H', Nx H' → ∃ m', m' < m ∧ W (i + 1) m' H') ∧ ∀ x H', J.yld i H x H' → g x (wipe σ vs) H' fun σ2 H2 => wipe σ2 vs = wipe σ vs ∧ tYes σ2 H2 fun b H3 => if b = true then
    te σ2 H3 fun y H4 => ∃ acc, H4 D = some (.lst acc) ∧ acc.length < sizeLine ∧ Nx (upd H4 D (.lst (acc ++ [y]))) else Nx H3)
section
variable {X : Cx}
/-- the state at a turn's beginning -/
structure At (B : Cx) (fp : List Addr) (tn : Nat → Heap → Prop) (W : Nat → Nat → Hp → Prop) (σ : L2.St) (n : Nat) (s : Shared) (i : Nat) (H : Hp) : Prop where
  tok : 1 ≤ s.toks
  inv : Inv B [] σ H s
  it : tn i s.heap
  off : ∀ b ∈ fp, H b = none
  w : W i n H
theorem loopT {s0 : Shared} {H0 : Hp} {scope sc2 : Scope} {ce : Env} {fp : List Addr} {elt tg iter : Expr} {pos : Pos} {it D : Addr} {tn : Nat → Heap → Prop} {J : It} {g : TG} {te : TE} {vs : List Nat} {σ : L2.St} {Qd : Hp → Prop} {W : Nat → Nat → Hp → Prop} {R : Result → Shared → Prop}
    (calm : X.calm = true) (T : Turn X.prog X.w X.K tg J fp it tn)
    (mine : ∀ {σ' : L2.St} {H' : Hp} {s' : Shared}, Inv (X.blk s0 H0 scope ce fp) [] σ' H' s' → (∀ b ∈ fp, H' b = none) → ∀ b ∈ fp, FpOk (X.blk s0 H0 scope ce fp) [] H' b)
    (pg : PG (X.blk s0 H0 scope ce fp) tg g) (pe : PET (X.blk s0 H0 scope ce fp) elt te) (turn : TurnW J g te vs σ D Qd W)
    (leave : ∀ s' H', Inv (X.blk s0 H0 scope ce fp) [] (wipe σ vs) H' s' → Qd H' → R (.ok .next) s') {n : Nat} {s : Shared} (start : ∃ i H, At (X.blk s0 H0 scope ce fp) fp tn W (wipe σ vs) n s i H) :
    codeAny (model X.prog X.w) X.A (.compLoop (.ListComp elt [⟨tg, iter, [], 0⟩] sc2 pos) 0 (.ref it) (.ref D) ce) R s := by
  refine compLoop_any (fun n s' => ∃ i H', At (X.blk s0 H0 scope ce fp) fp tn W (wipe σ vs) n s' i H') ?_ n start
  clear start s n
  rintro n s ⟨i, H, a⟩
  have mineNow := mine a.inv a.off
  rcases turn i n H a.w with ⟨halts, wanted⟩ | ⟨goes, Nx, less, body⟩
  · refine thnF (T.done (X.blk s0 H0 scope ce fp) rfl rfl rfl calm i [] s _ H (fun _ _ => False) a.inv mineNow a.it halts) ?_
    rintro r s1 ⟨rfl, J1⟩
    exact leave s1 H J1 wanted
  refine thnT (T.item (X.blk s0 H0 scope ce fp) rfl rfl rfl calm i [] s _ H (fun _ _ => False) a.inv mineNow a.it goes) ?_
  rintro r s1 t1 ⟨u, rfl, more⟩
  refine thnT more ?_
  rintro _ s2 t2 ⟨x, H2, J2, rel, came, stands, off2⟩
  have J2' := J2.pinned (mine J2 off2) (T.obj _ _ stands)
  refine thnT (pg.run _ s2 _ H2 x u _ J2' rel (body x H2 came)) ?_
  rintro _ s3 t3 ⟨σ3, H3, J3, kept3, want3⟩
  have want3 : te σ3 H3 fun y H4 => ∃ acc, H4 D = some (.lst acc) ∧ acc.length < sizeLine ∧ Nx (upd H4 D (.lst (acc ++ [y]))) := by
    have z : (if true = true then te σ3 H3 fun y H4 => ∃ acc, H4 D = some (.lst acc) ∧ acc.length < sizeLine ∧ Nx (upd H4 D (.lst (acc ++ [y]))) else Nx H3) := want3
    rw [if_pos rfl] at z
    exact z
  refine wpAny_tests_nil ?_
  show if true = true then _ else _
  rw [if_pos rfl]
  have out3 : 1 ≤ s3.toks := Nat.le_trans a.tok (Nat.le_trans t1 (Nat.le_trans t2 t3))
  refine thnT (pe _ s3 σ3 H3 _ out3 J3 want3) ?_
  rintro v s4 t4 ⟨y, H4, J4, rel4, acc, made, short, nx⟩
  refine thnT (E := fun _ _ => False) (Q := fun _ s5 => Inv (X.blk s0 H0 scope ce fp) ([] ++ pinsAt fp s2.heap) σ3 (upd H4 D (.lst (acc ++ [y]))) s5) (app_ok (X := X.blk s0 H0 scope ce fp) J4 made short rel4 fun _ J5 => J5) ?_ |> fun k => wpAny_mono k (fun _ _ z => z) (fun _ _ z => z.elim)
  intro _ s5 t5 J5
  obtain ⟨m, ml, w5⟩ := less _ nx
  have pin5 : ∀ b ∈ fp, ∀ o, s2.heap.get? b = some o → s5.heap.get? b = some o ∧ upd H4 D (.lst (acc ++ [y])) b = none := by
    intro b hb o e
    have pp := J5.pin (b, o) (List.mem_append_right _ (List.mem_append_right _ (mem_pinsAt hb e)))
    exact ⟨pp.1, pp.2.1⟩
  refine ⟨m, ml, i + 1, _, Nat.le_trans out3 (Nat.le_trans t4 t5), ?_, T.keep _ _ _ stands (fun b hb o e => (pin5 b hb o e).1), ?_, w5⟩
  · refine (J5.unpinned (pins := [])).weak ?_ ?_
    · rw [← kept3, wipe_length]
    · intro j v e
      rw [← kept3] at e
      exact (wipe_some e).1
  · intro b hb
    obtain ⟨o, e, _⟩ := T.obj _ _ stands b hb
    exact (pin5 b hb o e).2
/-- a comprehension's block is made, run and left -/
theorem blockT {elt tg iter : Expr} {scope : Scope} {own : List (Str × Nat)} {pos pos' : Pos} {wi : TI} {g : TG} {te : TE} {use : Option (Value → Sem Unit)} {Qf : Value → Shared → Prop} (calm : X.calm = true) (nd : X.N.Nodup) (hi : PI X tg iter wi) (ok : BlkOk X.N X.env.scope scope own)
    (hg : ∀ (s : Shared) (H : Hp) (C : Addr) (cl : List (Str × Addr)) (fp : List Addr), PG (X.blk s H scope (compEnvC scope cl C X.env) fp) tg g)
    (he : ∀ (s : Shared) (H : Hp) (C : Addr) (cl : List (Str × Addr)) (fp : List Addr), PET (X.blk s H scope (compEnvC scope cl C X.env) fp) elt te)
    (plain : ∀ x, foldedSetIterable iter X.env x = pure x) {pins : List (Addr × Obj)} {s : Shared} {σ : L2.St} {H : Hp} {Q : VK} (out : 1 ≤ s.toks) (I : Inv X pins σ H s) (want : tLc wi g tYes te (own.map (·.2)) σ H Q)
    (back : ∀ D C s' m H', Inv X pins σ H' s' → Q (.ref D) H' → s'.heap.Ns C m → FpOk X pins H' C → compPost (model X.prog X.w) X.A X.xe use Qf (.ref D) C (.ok .next) s') :
    wpAny (model X.prog X.w) X.A (comprehension (.ListComp elt [⟨tg, iter, [], 0⟩] scope pos) scope X.env pos' (newList []) false (eval iter X.env) use) Qf X.xe s := by
  have caught : ∀ y ∈ scope.names, y.2 = .free → ∃ c, X.env.cells.lookup y.1 = some c := by
    intro y hy e
    exact I.ok.has _ ((ok.free y hy e).imp id id)
  refine wpAny_comprehension_free (use := use) rfl plain (closure_ok caught) ok.kind (fun y hy e => (ok.uniq y hy).trans (congrArg some e)) ?_
  refine thnE (hi.run pins s σ H _ I want) fun xv s1 t1 came => thnE came fun itv s2 t2 made => ?_
  obtain ⟨it, fp, tn, J, H2, rfl, I2, T, stands, mine2, wish⟩ := made
  refine wpAny_newObj_type (newEnv_comp ?_) (Nat.zero_le _)
  obtain ⟨D, eD⟩ : ∃ D, D = s2.heap.objs.size := ⟨_, rfl⟩
  have new : H2 D = none := I2.hok.fresh (Nat.le_of_eq eD.symm)
  obtain ⟨W, ⟨m0, first⟩, turn⟩ := wish D new
  obtain ⟨s3, e3⟩ : ∃ s3 : Shared, s3 = { s2 with heap := s2.heap.push { cls := .type "list", data := .seq ([] : List Value).toArray } } := ⟨_, rfl⟩
  have h3 : s3.heap = s2.heap.push { cls := .type "list", data := .seq ([] : List Value).toArray } := by rw [e3]
  obtain ⟨H3, eH⟩ : ∃ H3, H3 = upd H2 D (.lst []) := ⟨_, rfl⟩
  have I3 : Inv X pins σ H3 s3 := by
    rw [e3, eH]
    refine I2.laid (t' := s2.toks) (fun b o there => Heap.get?_push_of_some _ there) (Nat.le_of_eq eD.symm) ⟨Nat.zero_le _, [], 0, .nil, ?_⟩
    rw [eD]
    exact Heap.get?_push_size _ rfl
  have up : ∀ b o, s2.heap.get? b = some o → s3.heap.get? b = some o := by
    intro b o there
    rw [h3]
    exact Heap.get?_push_of_some _ there
  have below : ∀ b ∈ fp, b < s2.heap.objs.size := by
    intro b hb
    obtain ⟨o, there, _⟩ := T.obj _ _ stands b hb
    exact Heap.lt_size there
  have mine3 : ∀ b ∈ fp, FpOk X pins H3 b ∧ b < s3.heap.objs.size := by
    intro b hb
    have lt := below b hb
    refine ⟨⟨?_, (mine2 b hb).2⟩, ?_⟩
    · rw [eH, upd_ne (by rw [eD]; exact Nat.ne_of_lt lt)]
      exact (mine2 b hb).1
    · rw [h3, Heap.size_push]
      exact Nat.lt_succ_of_lt lt
  have off3 : ∀ b ∈ fp, H3 b = none := fun b hb => (mine3 b hb).1.1
  rw [← eH] at first
  have I4 := block_start I3 ok nd mine3
  obtain ⟨ce, ec⟩ : ∃ ce, ce = compEnvC scope (cellsFrom (s3.heap.objs.size + 1) scope.names (cloFrom X.env.cells scope.names [])) s3.heap.objs.size X.env := ⟨_, rfl⟩
  have place : ce.locals = s3.heap.objs.size := by rw [ec]; rfl
  have pg : PG (X.blk s3 H3 scope ce fp) tg g := by rw [ec]; exact hg _ _ _ _ _
  have pe : PET (X.blk s3 H3 scope ce fp) elt te := by rw [ec]; exact he _ _ _ _ _
  rw [← ec] at I4
  have stands3 : tn 0 s3.heap := T.keep _ _ _ stands fun b _ o there => up b o there
  have mine : ∀ {σ' : L2.St} {H' : Hp} {s' : Shared}, Inv (X.blk s3 H3 scope ce fp) [] σ' H' s' → (∀ b ∈ fp, H' b = none) → ∀ b ∈ fp, FpOk (X.blk s3 H3 scope ce fp) [] H' b := by
    intro σ' H' s' I' off b hb
    have of := I'.ok.exf b hb
    exact ⟨off b hb, of.1, I'.ok.exfs b hb, .inl hb, fun x c e => of.2 x c e, fun p hp => nomatch (List.mem_append.mp hp).elim id id⟩
  have leave : ∀ s' H', Inv (X.blk s3 H3 scope ce fp) [] (wipe σ (own.map (·.2))) H' s' → Q (.ref D) H' → compPost (model X.prog X.w) X.A X.xe use Qf (.ref D) s3.heap.objs.size (.ok .next) s' := by
    intro s' H' I' q
    have I5 : Inv X pins σ H' s' := I3.call' (ch := fp) I'.os I'.base I'.hok I'.bare fun b hb => by
      obtain ⟨_, f1, _, f3, f4, f5⟩ := (mine3 b hb).1
      exact ⟨f3, f1, f4, f5⟩
    have gone : H' s3.heap.objs.size = none := by
      rw [← place]
      exact I'.free
    obtain ⟨m, ns, _⟩ := I'.loc
    have ns : s'.heap.Ns ce.locals m := ns
    rw [place] at ns
    exact back D s3.heap.objs.size s' m H' I5 q ns (I3.fpOk (Nat.le_refl _) gone)
  have loop := fun s4 (h : s4 = ({ s3 with heap := pushCells (s3.heap.push { cls := .type "dict", data := .dict #[] }) scope.names } : Shared)) (I4 : Inv (X.blk s3 H3 scope ce fp) [] (wipe σ (own.map (·.2))) H3 s4) (st4 : tn 0 s4.heap) =>
    loopT (X := X) (sc2 := scope) (pos := pos) (iter := iter) (R := compPost (model X.prog X.w) X.A X.xe use Qf (.ref D) s3.heap.objs.size) calm T mine pg pe turn leave (s := s4) (n := m0) ⟨0, H3, by rw [h, e3]; exact Nat.le_trans out (Nat.le_trans t1 t2), I4, st4, off3, first⟩
  have st4 : tn 0 (pushCells (s3.heap.push { cls := .type "dict", data := .dict #[] }) scope.names) := T.keep _ _ _ stands3 fun b _ o there => pushCells_keeps _ _ _ _ (Heap.get?_push_of_some _ there)
  have all := loop _ rfl I4 st4
  rw [← e3, ← eD]
  subst ec
  exact codeAny_compStart_list all (T.self X.A 0 _ _ _ st4 all)
/-- [e for x in xs], a token being out -/
theorem pet_lc {elt tg iter : Expr} {scope : Scope} {own : List (Str × Nat)} {pos : Pos} {wi : TI} {g : TG} {te : TE} (calm : X.calm = true) (nd : X.N.Nodup) (hi : PI X tg iter wi) (ok : BlkOk X.N X.env.scope scope own)
    (hg : ∀ (s : Shared) (H : Hp) (C : Addr) (cl : List (Str × Addr)) (fp : List Addr), PG (X.blk s H scope (compEnvC scope cl C X.env) fp) tg g)
    (he : ∀ (s : Shared) (H : Hp) (C : Addr) (cl : List (Str × Addr)) (fp : List Addr), PET (X.blk s H scope (compEnvC scope cl C X.env) fp) elt te)
    (plain : ∀ x, foldedSetIterable iter X.env x = pure x := by intro _; rfl) : PET X (.ListComp elt [⟨tg, iter, [], 0⟩] scope pos) (tLc wi g tYes te (own.map (·.2))) := by
  intro pins s σ H Q out I want
  rw [eval_ListComp]
  refine blockT calm nd hi ok hg he plain out I want ?_
  rintro D C s' m H' J q ns ⟨f0, f1, f2, f3, f4, f5⟩
  refine ⟨m, ns, fun h2 but => ⟨.ref D, H', ?_, rfl, q⟩⟩
  exact J.turned (t' := s'.toks) (fun b o other there => (but.2 b other).trans there) f0 f1 f3 f4 f5
/-- name = [..], a token being out -/
theorem pst_setLc {i : Nat} {y : Str} {py : Pos} {elt tg iter : Expr} {scope : Scope} {own : List (Str × Nat)} {pos spos : Pos} {wi : TI} {g : TG} {te : TE} (calm : X.calm = true) (nd : X.N.Nodup) (slot : X.N[i]? = some y) (loc : X.env.scope.names.lookup y = some .local)
    (swap : swapsWith (.ListComp elt [⟨tg, iter, [], 0⟩] scope pos) (some (.Name y py)) spos.line X.env = pure true) (hi : PI X tg iter wi) (ok : BlkOk X.N X.env.scope scope own)
    (hg : ∀ (s : Shared) (H : Hp) (C : Addr) (cl : List (Str × Addr)) (fp : List Addr), PG (X.blk s H scope (compEnvC scope cl C X.env) fp) tg g)
    (he : ∀ (s : Shared) (H : Hp) (C : Addr) (cl : List (Str × Addr)) (fp : List Addr), PET (X.blk s H scope (compEnvC scope cl C X.env) fp) elt te)
    (plain : ∀ x, foldedSetIterable iter X.env x = pure x := by intro _; rfl) : PST X (.Assign [.Name y py] (.ListComp elt [⟨tg, iter, [], 0⟩] scope pos) spos) (tAsg (tLc wi g tYes te (own.map (·.2))) (gName i)) := by
  intro pins s σ H D out I want
  rw [exec_Assign_Name_used _ _ _ _ swap]
  refine wpAny_bind (wpAny_standAt (wpAny_bind (wpAny_bind ?_)))
  refine thn (blockT (Qf := fun _ s' => SP X pins D .next s') (use := some (assign (.Name y py) X.env)) calm nd hi ok hg he plain (Q := fun x G => gName i x σ G D.nx) out I want ?_) fun _ s' h => wpAny_pure (wpAny_pure h)
  rintro L C s' m H' J q ns ⟨f0, f1, f2, f3, f4, f5⟩
  refine wpAny_assign_Name (store_ok2 (v := V.ref L) J nd slot (.inl loc) rfl (fun s2 J2 whence => ?_) (.inr loc))
  obtain ⟨a, but, which⟩ := whence
  have apart : C ≠ a := by
    intro e
    subst e
    exact which.elim (fun z => f1 z) fun z => f4 y C z rfl
  refine ⟨m, ns.sameBut but apart, fun h3 but3 => ⟨_, H', ?_, q⟩⟩
  exact J2.turned (t' := s2.toks) (fun b o other there => (but3.2 b other).trans there) f0 f1 f3 f4 f5
/-- name = e, a token being out -/
theorem pst_set {i : Nat} {x : Str} {e : Expr} {te : TE} {pos pos' : Pos} (nd : X.N.Nodup) (slot : X.N[i]? = some x) (loc : Loc X.env.scope x) (he : PET X e te) (keeps : swapsWith e (some (.Name x pos')) pos.line X.env = pure false := by rfl)
    (sure : X.fn x = true ∨ X.env.scope.names.lookup x = some .local := by first | exact .inl rfl | exact .inr rfl | assumption) : PST X (.Assign [.Name x pos'] e pos) (tAsg te (gName i)) := by
  intro pins s σ H D out I want
  refine wpAny_Assign_Name (thn (he pins s σ H _ out I want) ?_) keeps
  rintro v s1 ⟨y, H1, J, rel, q⟩
  exact store_ok J nd slot loc rel (fun s2 J2 => ⟨_, H1, J2, q⟩) sure
/-- sep.join(e), a token being out -/
theorem pet_join {o e : Expr} {to te : TE} {apos pos : Pos} (ho : PE X o to) (he : PET X e te) (stars : starEach [e] X.env = [(false, eval e X.env)] := by rfl) (attr : attributeBase o "join" X.env (eval o X.env) = eval o X.env := by rfl) (row : (apos.endLine == pos.line) = true := by rfl) :
    PET X (.Call (.Attribute o "join" apos) [e] [] pos) (tM1 (fun x xs H Q => ∃ a p, ∃ ys : List Str, x = .str a ∧ xs = [.ref p] ∧ (SqL X.K H p (ys.map V.str) ∨ SqT X.K H p (ys.map V.str)) ∧ (ys.map (·.length)).sum + ys.length * a.length ≤ 16777216 ∧ Q (.str (Txt.join a ys)) H) to te) := by
  intro pins s σ H Q out I want
  refine PySem.Call_method1 attr stars row (thnE (ho.run pins s σ H _ I want) ?_)
  rintro v s1 t1 ⟨x, H1, J, rel, ⟨a, rfl⟩, want1⟩
  obtain ⟨t, rfl⟩ := _root_.id rel
  refine ⟨"str", _, PySem.F.plainAttrs_str, PySem.F.slot_str_join, PySem.F.type_str_join, typeIs_str _ _ _, (fun _ z => nomatch z), Calls.callWith_builtin rfl (Calls.evalArgs_plain (Calls.spliced_cons ?_))⟩
  refine thn (he pins s1 σ H1 _ (Nat.le_trans out t1) J want1) ?_
  rintro u s2 ⟨y, H2, J2, rel2, want2⟩
  exact Calls.spliced_nil (mt_join pins s2 σ H2 _ [y] _ [u] Q J2 rel (.cons rel2 .nil) want2)
end
/-! ### defs whose calls want a token that is out -/
structure FnT (P : Program) (w : World) (K : PySem.W.Frag) (mg : Str → Option Value) (base : Heap) (k : Nat) (f : Addr) (fd : FuncData) (ps : List Str) (sp : Sp) : Prop where
  len : ∀ vs H Q E, sp vs H Q E → vs.length = ps.length
  run : ∀ (A : Around) (outer : List Env) (s : Shared) (H : Hp) (args : Args) (us : List Value) (vs : List V) (Q : VK), 1 ≤ s.toks → Room k A → Env0 P w K mg base A outer s H → BindsTo s fd args (ps.zip us) → Vals vs us → sp vs H Q E0 →
    codeAny (model P w) A (.call (.ref f) args) (CR CX0 outer P w H s Q E0) s
structure DefT (P : Program) (w : World) (K : PySem.W.Frag) (mg : Str → Option Value) (base : Heap) (x : Str) (n : Nat) (ps : List Str) (sp : Sp) (f : Addr) (fd : FuncData) : Prop where
  g : mg x = some (.ref f)
  kp : PySem.W.keepIn K (.ref f) = true
  b : Binds K fd ps []
  ok : FnT P w K mg base n f fd ps sp
theorem FnOk.t {P : Program} {w : World} {K : PySem.W.Frag} {mg : Str → Option Value} {base : Heap} {k : Nat} {f : Addr} {fd : FuncData} {ps : List Str} {sp : Sp} (F : FnOk P w K mg base CX0 k f fd ps sp) : FnT P w K mg base k f fd ps sp :=
  ⟨F.len, fun A outer s H args us vs Q _ => F.run A outer s H args us vs Q E0⟩
section
variable {X : Cx}
theorem PSsT.nox {st : List Stmt} {t : TS} (h : PSsT X.nox st t) : PSsT X st t := by
  intro pins s σ H D out I want
  exact wpAny_mono (h pins s σ H D out (I.wish _) want) (fun _ _ z => z.unwish) fun _ _ no => no.elim
theorem pet_call {k : Nat} {f : Addr} {fd : FuncData} {ps : List Str} {sp : Sp} {x : Str} {p pos : Pos} {e : Expr} {es : List Expr} {t : TA} (D : DefT X.prog X.w X.K X.mg X.base x k ps sp f fd) (room : Room k X.A) (isG : Gl X x) (ha : PA X (e :: es) t)
    (hdb : (x == ("__debug__" : Str)) = false := by decide) (stars : starEach (e :: es) X.env = (false, eval e X.env) :: starEach es X.env := by rfl) (noStar : (backTo pos (starEach es X.env)).any (·.1) = false := by rfl) :
    PET X (.Call (.Name x p) (e :: es) [] pos) (tCall sp [] E0 t) := by
  intro pins s σ H Q out I want
  refine wpAny_Call_Name_kw (ld_glob I isG D.g ?_ hdb)
  refine PySem.W.callWith_K (h₀ := X.base) I.ok.mod.kin D.kp (thnE (ha.run pos pins s σ H _ I want) ?_) stars noStar
  rintro us s1 t1 ⟨vs, H1, J, rel, want1⟩
  refine ⟨J.kIn, ?_⟩
  have want1 : sp (vs ++ []) H1 Q E0 := want1
  rw [List.append_nil] at want1
  have ul : (us ++ []).length = ps.length := by
    rw [List.append_nil, ← rel.length]
    exact D.ok.len _ _ _ _ want1
  have bound := D.b s1 us J.kIn ul
  rw [List.append_nil] at bound
  refine wpAny_call (codeAny_mono (D.ok.run X.A X.stack s1 H1 ⟨us, []⟩ us vs Q (Nat.le_trans out t1) room J.env0 bound rel want1) ?_)
  rintro (e | fl) s' h
  · exact h.elim
  · cases fl with
    | ret u => exact J.after h
    | next => exact h.elim
    | brk => exact h.elim
    | cont => exact h.elim
end
section
variable {base : Heap} {P : Program} {w : World} {K : PySem.W.Frag} {mg : Str → Option Value}
/-- a body that wants a token, called where one is out -/
theorem Fun.tok {x qual : Str} {st : Stmt} {f : Addr} {fd : FuncData} {N ps : List Str} {k : Nat} {sp : Sp} (F : Fun K x qual st f fd) (S : FnScope N ps (defScope st)) (len : ∀ vs H Q E, sp vs H Q E → vs.length = ps.length)
    (body : ∀ (cdv : Value) (A : Around) (outer : List Env) (s : Shared) (H : Hp) (vs : List V) (Q : VK), Room k (A.deeper (envOfC qual (defScope st) s.heap.objs.size f cdv)) → sp vs H Q E0 →
      ∃ t, PSsT (cxOf CX0 P w K mg base N qual (defScope st) f cdv A outer s H E0).nox (defBody st) t ∧ t { nx := fun _ H' => Q .non H', rt := Q } (start N vs) H) : FnT P w K mg base (k + 1) f fd ps sp := by
  obtain ⟨oc, od, kV, doc, pm, an, cdv, ct, osl, rfl, lk, code⟩ := F.ex
  refine ⟨len, ?_⟩
  intro A outer s H args us vs Q out room e0 bound rel want
  have given := len _ _ _ _ want
  have here : ∀ b o, base.get? b = some o → s.heap.get? b = some o := fun b o e => (e0.bs b o e).1
  have kIn : K.In s.heap := e0.mod.kin.keeps here
  have free : s.heap.NoLimit := e0.mod.nolimit.keeps here
  have kinds : ∀ y ∈ ps.zip us, (defScope st).names.lookup y.1 = some .local ∨ ((defScope st).names.lookup y.1 = some .cell ∧ ((cellsFrom (s.heap.objs.size + 1) (defScope st).names []).lookup y.1).isSome = true) := by
    rintro ⟨n, v⟩ hy
    exact (S.par n (List.of_mem_zip hy).1).imp id fun q => ⟨q, PySem.W.cellsFrom_some _ _ _ (.inl q)⟩
  refine codeAny_call_function room.depth (kIn _ _ lk) rfl S.co S.gen rfl (PySem.W.codeRec_of kIn code) (bound _ _ _ _ ?_)
  refine wpAny_mono (wpAny_toks_of out (wpAny_newFunctionEnv_cells (Q := fun env s1 => env = newEnv (defScope st) s.heap.objs.size mainGlobals (cellsFrom (s.heap.objs.size + 1) (defScope st).names []) _ _ _ none _ ∧ InCallC s env.locals (bindL env.kindOf (ps.zip us) fun _ => none) env.cells (bindC env.kindOf (ps.zip us) fun _ => none) s1) S.kind kinds fun env he s1 at1 => ⟨he, at1⟩)) ?_ fun _ _ z => z.2
  rintro env s1 ⟨out1, rfl, at1⟩
  refine ⟨free.keeps at1.toInCall.keep, codeAny_func ?_⟩
  obtain ⟨t, does, wish⟩ := body cdv A outer s H vs Q (room.deeper _) want
  have J : Inv (cxOf CX0 P w K mg base N qual (defScope st) f cdv A outer s H E0) [] (start N vs) H s1 := inv_start S room.hd e0 given rel at1
  refine wpAny_mono (PSsT.nox does [] s1 (start N vs) H _ out1 J wish) ?_ fun _ _ z => z
  intro fl s' h
  cases fl with
  | ret u =>
    obtain ⟨v, σ', H', J', r, q⟩ := h
    exact ⟨v, H', J'.os, J'.bare, J'.base, J'.hok, r, q⟩
  | next =>
    obtain ⟨σ', H', J', q⟩ := h
    exact ⟨V.non, H', J'.os, J'.bare, J'.base, J'.hok, rfl, q⟩
  | brk => obtain ⟨_, _, _, q⟩ := h; exact q.elim
  | cont => obtain ⟨_, _, _, q⟩ := h; exact q.elim
/-- a def without cells gives a token out by its parameters -/
theorem Fun.okT {x qual : Str} {st : Stmt} {f : Addr} {fd : FuncData} {N ps : List Str} {k : Nat} {sp : Sp} (F : Fun K x qual st f fd) (S : FnScope N ps (defScope st)) (noCell : ∀ y ∈ (defScope st).names, y.2 ≠ .cell) (one : 1 ≤ ps.length) (len : ∀ vs H Q E, sp vs H Q E → vs.length = ps.length)
    (body : ∀ (cdv : Value) (A : Around) (outer : List Env) (s : Shared) (H : Hp) (vs : List V) (Q : VK) (E : XK), Room k (A.deeper (envOfC qual (defScope st) s.heap.objs.size f cdv)) → sp vs H Q E →
      ∃ t, PSsT (cxOf CX0 P w K mg base N qual (defScope st) f cdv A outer s H E).nox (defBody st) t ∧ t { nx := fun _ H' => Q .non H', rt := Q } (start N vs) H) : FnOk P w K mg base CX0 (k + 1) f fd ps sp := by
  obtain ⟨oc, od, kV, doc, pm, an, cdv, ct, osl, rfl, lk, code⟩ := F.ex
  refine fn_ofT lk code S noCell one len ?_
  intro A outer s H vs Q E room want
  obtain ⟨t, does, wish⟩ := body cdv A outer s H vs Q E room want
  exact ⟨t, PSsT.nox does, wish⟩
end
end KX

namespace KX
open PySem PySem.Spec L2 PyProof.Rows CwR
/-! ### for a, b in pairs: x = x.replace(a, b), the pairs written -/
section
variable {X : Cx} {pins : List (Addr × Obj)} {σ : L2.St} {H : Hp} {s : Shared}
/-- the frame's names alone have changed -/
theorem inv_names {h' : Heap} {m' : Str → Option Value} {σ' : L2.St} {t' : Nat} (I : Inv X pins σ H s) (long : σ'.length = σ.length) (but : Heap.SameBut X.env.locals s.heap h') (ns : h'.Ns X.env.locals m')
    (look : ∀ (i : Nat) (x : Str) (v : V), X.N[i]? = some x → σ'[i]? = some (some v) → Vis X.env.scope x → ∃ u, RelV v u ∧ Look X.env h' m' x u) : Inv X pins σ' H { s with heap := h', toks := t' } := by
  have older : ∀ b o, X.s_0.heap.get? b = some o → h'.get? b = s.heap.get? b := fun b o e => but.2 b (Nat.ne_of_lt (Nat.lt_of_lt_of_le (Heap.lt_size e) I.ok.above))
  constructor
  case ok => exact I.ok
  case os => exact I.os
  case bare => exact I.bare
  case base =>
    constructor
    · intro b o e n hb hx
      exact (older b o e).trans (I.base.keep b o e n hb hx)
    · intro b o e n hb hx
      obtain ⟨sl, q⟩ := I.base.slot b o e n hb hx
      exact ⟨sl, (older b o e).trans q⟩
    · exact I.base.free
    · intro b o e hx
      obtain ⟨o', q⟩ := I.base.there b o e hx
      exact ⟨o', (older b o e).trans q⟩
    · exact I.base.tups
    · exact I.base.frzs
    · exact I.base.tbls
  case loc => exact ⟨m', ns, look⟩
  case cell =>
    intro x c e
    obtain ⟨v, z⟩ := I.cell x c e
    exact ⟨v, z.sameBut but (I.cne x c e)⟩
  case free => exact I.free
  case freeC => exact I.freeC
  case pin =>
    intro p hp
    obtain ⟨e, n, ne, rest⟩ := I.pin p hp
    exact ⟨(but.2 p.1 ne).trans e, n, ne, rest⟩
  case hok =>
    intro b o e
    refine (I.hok b o e).stay (fun c v which there => (but.2 c ?_).trans there) (fun _ z => z) fun _ _ z => z
    intro same
    have gone := I.free
    rw [← same] at gone
    rcases which with z | z
    · rw [← z, gone] at e
      cases e
    · rw [gone] at z
      cases z
  case len => exact long.trans I.len
/-- between two turns of a for: m tokens are out, the iterator stands at its i-th place and is nobody's else -/
structure Rest (X : Cx) (pins : List (Addr × Obj)) (m : Nat) (fp : List Addr) (tn : Nat → Heap → Prop) (W : Nat → Nat → L2.St → Hp → Prop) (n : Nat) (s : Shared) (i : Nat) (σ : L2.St) (H : Hp) : Prop where
  out : m ≤ s.toks
  inv : Inv X pins σ H s
  place : tn i s.heap
  off : ∀ b ∈ fp, H b = none
  w : W i n σ H
/-- a body that has kept the iterator's objects leads to the next turn -/
theorem Rest.after {m n i : Nat} {tg : Expr} {J : It} {fp : List Addr} {it : Addr} {tn : Nat → Heap → Prop} {W : Nat → Nat → L2.St → Hp → Prop} {s' : Shared} (T : Turn X.prog X.w X.K tg J fp it tn) (place : tn i s.heap) (out : m ≤ s'.toks)
    (I : Inv X (pins ++ pinsAt fp s.heap) σ H s') (w : W i n σ H) : Rest X pins m fp tn W n s' i σ H := by
  have held : ∀ {b o}, b ∈ fp → s.heap.get? b = some o → s'.heap.get? b = some o ∧ H b = none := fun hb e =>
    let z := I.pin _ (List.mem_append_right _ (List.mem_append_right _ (mem_pinsAt hb e)))
    ⟨z.1, z.2.1⟩
  constructor
  case out => exact out
  case inv => exact I.unpinned
  case place => exact T.keep _ _ _ place fun b hb o e => (held hb e).1
  case off => exact fun b hb => let ⟨_, e, _⟩ := T.obj _ _ place b hb; (held hb e).2
  case w => exact w
/-- a turn of a for: its target and its body at once, m tokens being out -/
def PTurn (m : Nat) (X : Cx) (tg : Expr) (body : List Stmt) (g : TG) (tb : TS) : Prop :=
  ∀ (pins : List (Addr × Obj)) (s : Shared) (σ : L2.St) (H : Hp) (x : V) (u : Value) (D : Ends), m ≤ s.toks → Inv X pins σ H s → RelV x u → g x σ H (fun σ2 H2 => tb D σ2 H2) →
    wpAny (model X.prog X.w) X.A (assign tg X.env u) (fun _ s2 => wpAny (model X.prog X.w) X.A (execs body X.env) (SP X pins D) X.xe s2) X.xe s
theorem for_turns {m : Nat} {tg iter : Expr} {body : List Stmt} {wi : TI} {g : TG} {tb : TS} {pos : Pos} (own : PassesOwn (model X.prog X.w) X.A X.env X.xe) (calm : X.calm = true) (hi : PI X tg iter wi) (turn : PTurn m X tg body g tb)
    (plain : ∀ x, foldedSetIterable iter X.env x = pure x) {D : Ends} (out : m ≤ s.toks) (I : Inv X pins σ H s) (want : tFor wi g tb D σ H) : wpAny (model X.prog X.w) X.A (exec (.For tg iter body [] pos) X.env) (SP X pins D) X.xe s := by
  apply wpAny_For _ plain
  apply thnE (hi.run pins s σ H _ I want)
  intro v s1 t1 came
  apply thnE came
  rintro itv s2 t2 ⟨it, fp, tn, J, H2, rfl, I2, T, place, mine, W, ⟨n0, first⟩, each⟩
  have start : Rest X pins m fp tn W n0 s2 0 σ H2 := ⟨Nat.le_trans out (Nat.le_trans t1 t2), I2, place, fun b hb => (mine b hb).1, first⟩
  apply codeAny_forLoop_any (fun n s' => ∃ i σ' H', Rest X pins m fp tn W n s' i σ' H') _ n0 ⟨0, σ, H2, start⟩
  clear start first n0 place I2 came want
  rintro n sa ⟨i, σa, Ha, r⟩
  have fpOk : ∀ b ∈ fp, FpOk X pins Ha b := fun b hb => ⟨r.off b hb, (mine b hb).2⟩
  apply wpAny_passesOwn own
  rcases each i n σa Ha r.w with ⟨halts, wanted⟩ | ⟨goes, N, less, step⟩
  · apply thn (T.done X rfl rfl rfl calm i pins sa σa Ha X.xe r.inv fpOk r.place halts)
    rintro _ sb ⟨rfl, Ib⟩
    exact wpAny_execs_nil ⟨σa, Ha, Ib, wanted⟩
  apply thnE (T.item X rfl rfl rfl calm i pins sa σa Ha X.xe r.inv fpOk r.place goes)
  rintro _ sb tb1 ⟨u, rfl, bound⟩
  apply wpAny_passesOwn own
  apply thnE bound
  rintro _ sc tc ⟨x, Hc, Ic, rel, gave, placeC, offC⟩
  have outC : m ≤ sc.toks := Nat.le_trans r.out (Nat.le_trans tb1 tc)
  have pinned := Ic.pinned (fun b hb => ⟨offC b hb, (mine b hb).2⟩) (T.obj _ _ placeC)
  apply wpAny_passesOwn own
  apply thnE (turn _ sc σa Hc x u _ outC pinned rel (step x Hc gave))
  intro _ sd td ran
  apply wpAny_passesOwn own
  apply thnE ran
  intro f se te done
  have outE : m ≤ se.toks := Nat.le_trans outC (Nat.le_trans td te)
  have next : ∀ {σ' H'}, Inv X (pins ++ pinsAt fp sc.heap) σ' H' se → N σ' H' → ∃ k, k < n ∧ ∃ i σ' H', Rest X pins m fp tn W k se i σ' H' := fun Ie ne =>
    let ⟨k, lt, w⟩ := less _ _ ne
    ⟨k, lt, _, _, _, Rest.after T placeC outE Ie w⟩
  match f, done with
  | .next, ⟨_, _, Ie, ne⟩ => exact next Ie ne
  | .cont, ⟨_, _, Ie, ne⟩ => exact next Ie ne
  | .brk, ⟨σ', H', Ie, q⟩ => exact ⟨σ', H', Ie.unpinned, q⟩
  | .ret _, ⟨y, σ', H', Ie, rel', q⟩ => exact ⟨y, σ', H', Ie.unpinned, rel', q⟩
/-- .. where no token needs to be out -/
theorem ps_forR {tg iter : Expr} {body : List Stmt} {wi : TI} {g : TG} {tb : TS} {pos : Pos} (own : PassesOwn (model X.prog X.w) X.A X.env X.xe) (calm : X.calm = true) (hi : PI X tg iter wi) (turn : PTurn 0 X tg body g tb)
    (plain : ∀ x, foldedSetIterable iter X.env x = pure x := by intro _; rfl) : PS X (.For tg iter body [] pos) (tFor wi g tb) :=
  ⟨fun _ _ _ _ _ => for_turns own calm hi turn plain (Nat.zero_le _)⟩
/-- .. where one is -/
theorem pst_forT {tg iter : Expr} {body : List Stmt} {wi : TI} {g : TG} {tb : TS} {pos : Pos} (own : PassesOwn (model X.prog X.w) X.A X.env X.xe) (calm : X.calm = true) (hi : PI X tg iter wi) (hg : PG X tg g) (hb : PSsT X body tb)
    (plain : ∀ x, foldedSetIterable iter X.env x = pure x := by intro _; rfl) : PST X (.For tg iter body [] pos) (tFor wi g tb) := by
  intro pins s σ H D out I want
  refine for_turns (m := 1) own calm hi ?_ plain out I want
  intro pins s σ H x u D out I rel want
  apply thnE (hg.run pins s σ H x u _ I rel want)
  rintro _ s1 t1 ⟨σ1, H1, J, q⟩
  exact hb pins s1 σ1 H1 D (Nat.le_trans out t1) J q
/-- two texts in a written tuple -/
structure WPair (K : PySem.W.Frag) (a : Addr) (y z : Str) : Prop where
  at' : ∃ (o : Obj) (n : Nat) (t u : Tok), K.lookup a = some o ∧ o.cls = .type "tuple" ∧ o.data = .seq #[.str y t, .str z u] n ∧ t ≠ 0 ∧ u ≠ 0 ∧ t ≠ u
  ne : (y == z) = false
/-- the three names: the text, the sign, its writing -/
def gRepl (K : PySem.W.Frag) : TG := fun x σ H N => ∃ (a : Addr) (text y z : Str) (v1 v2 : Option V), x = .ref a ∧ WPair K a y z ∧ σ = [some (.str text), v1, v2] ∧ text.length + (text.length + 1) * z.length ≤ 16777216 ∧ N [some (.str (Txt.replace text y z)), none, none] H
theorem turn_repl {n0 n1 n2 : Str} {p0 p1 p2 p3 p4 p5 pt pa pc ps : Pos} {kt : Nat} (names : X.N = [n0, n1, n2]) (apart : X.N.Nodup) (l0 : X.env.scope.names.lookup n0 = some .local) (l1 : X.env.scope.names.lookup n1 = some .local) (l2 : X.env.scope.names.lookup n2 = some .local)
    (d0 : (n0 == ("__debug__" : Str)) = false) (d1 : (n1 == ("__debug__" : Str)) = false) (d2 : (n2 == ("__debug__" : Str)) = false) (calm : X.calm = true)
    (each : (assignEach [Expr.Name n1 p1, Expr.Name n2 p2] X.env).map (·.2) = [assign (.Name n1 p1) X.env, assign (.Name n2 p2) X.env]) (two : (assignEach [Expr.Name n1 p1, Expr.Name n2 p2] X.env).length = 2) (noStar : (assignEach [Expr.Name n1 p1, Expr.Name n2 p2] X.env).findIdx? (·.1) = none)
    (stars : starEach [Expr.Name n1 p4, Expr.Name n2 p5] X.env = [(false, eval (.Name n1 p4) X.env), (false, eval (.Name n2 p5) X.env)])
    (attr : attributeBase (.Name n0 p3) "replace" X.env (eval (.Name n0 p3) X.env) = eval (.Name n0 p3) X.env) (row : (pa.endLine == pc.line) = true)
    (keeps : swapsWith (.Call (.Attribute (.Name n0 p3) "replace" pa) [.Name n1 p4, .Name n2 p5] [] pc) (some (.Name n0 p0)) ps.line X.env = pure false) :
    PTurn 0 X (.Tuple [.Name n1 p1, .Name n2 p2] kt pt) [.Assign [.Name n0 p0] (.Call (.Attribute (.Name n0 p3) "replace" pa) [.Name n1 p4, .Name n2 p5] [] pc) ps] (gRepl X.K) tNext := by
  intro pins s σ H x u D _ I rel want
  obtain ⟨a, text, y, z, v1, v2, rfl, ⟨⟨o, cnt, t, w, found, cls, data, t0, w0, tw⟩, yz⟩, rfl, size, next⟩ := want
  obtain rfl : u = .ref a := rel
  have tup : IsTup s.heap a #[.str y t, .str z w] := ⟨o, I.kIn a o found, cls, cnt, data⟩
  refine assign_Tuple_tuple (I.ok.hd calm) tup two noStar ?_
  intro h1 grown
  have J : Inv X pins [some (.str text), v1, v2] H { s with heap := h1 } := I.kept (t' := s.toks) fun b ob e => grown b ob (Nat.ne_of_lt (Heap.lt_size e)) e
  rw [each]
  obtain ⟨m, ns, locs⟩ := id J.loc
  have fun' : (X.env.scope.kind == .class || (X.env.scope.kind == .module && X.env.locals != X.env.globals)) = false := by
    rw [I.ok.kind]
    rfl
  have n01 : n0 ≠ n1 := by
    intro e
    rw [names, e] at apart
    simp at apart
  have n02 : n0 ≠ n2 := by
    intro e
    rw [names, e] at apart
    simp at apart
  have n12 : n1 ≠ n2 := by
    intro e
    rw [names, e] at apart
    simp at apart
  obtain ⟨u0, r0, look0⟩ := locs 0 n0 (.str text) (by rw [names]; rfl) rfl (.inl l0)
  obtain ⟨tt, rfl⟩ := r0
  have m0 : m n0 = some (.str text tt) := by
    rcases look0 with ⟨_, q⟩ | ⟨k, _⟩
    · exact q
    · have k' : X.env.scope.names.lookup n0 = some .cell ∨ X.env.scope.names.lookup n0 = some .free := k
      rw [l0] at k'
      rcases k' with k' | k' <;> cases k'
  refine assignInOrder_cons (wpAny_assign_Name (wpAny_storeName_local l1 ns (fun h2 ns2 but2 => ?_) fun'))
  refine assignInOrder_cons (wpAny_assign_Name (wpAny_storeName_local l2 ns2 (fun h3 ns3 but3 => assignInOrder_nil ?_) fun'))
  refine wpAny_execs_cons (wpAny_Assign_Name ?_ keeps)
  refine PySem.Call_method2 attr stars row (wpAny_Name (wpAny_loadName_local I.ok.kind l0 ns3 (v := .str text tt) ?_ ?_) d0)
  · simp [n01, n02, m0]
  refine ⟨"str", _, PySem.F.plainAttrs_str, PySem.F.slot_str_replace,
    PySem.F.type_str_replace, typeIs_str _ _ _, (fun _ e => nomatch e), Calls.callWith_builtin rfl (Calls.evalArgs_plain (Calls.spliced_cons ?_))⟩
  refine wpAny_Name (wpAny_loadName_local I.ok.kind l1 ns3 (v := .str y t) ?_ ?_) d1
  · simp [n12]
  refine Calls.spliced_cons (wpAny_Name (wpAny_loadName_local I.ok.kind l2 ns3 (v := .str z w) ?_ ?_) d2)
  · simp
  refine Calls.spliced_nil (PySem.SC.replace t0 w0 tw yz size fun t' k => ?_)
  refine wpAny_storeName_local l0 ns3 (fun h4 ns4 but4 => wpAny_execs_nil ⟨_, H, ?_, next⟩) fun'
  refine inv_names (s := { s with heap := h1 }) J rfl ((but2.trans but3).trans but4) ns4 ?_
  intro i x v hx hv vis
  have i0 : i = 0 ∧ v = .str (Txt.replace text y z) := by
    match i, hv with
    | 0, hv => exact ⟨rfl, by simpa using hv.symm⟩
    | 1, hv => simp at hv
    | 2, hv => simp at hv
    | i + 3, hv => simp at hv
  obtain ⟨rfl, rfl⟩ := i0
  rw [names] at hx
  obtain rfl : n0 = x := Option.some.inj hx
  exact ⟨.str (Txt.replace text y z) t', ⟨t', rfl⟩, .inl ⟨l0, by simp⟩⟩
end
end KX

namespace KX
open PySem PySem.Spec L2 PyProof.Rows
/-! ### sorted texts are in one order -/
theorem rising_pw : ∀ (l : List Str) (p : Str), risingS p l = true → (∀ x ∈ l, p.cps.toList ≤ x.cps.toList) ∧ l.Pairwise (fun a b => a.cps.toList ≤ b.cps.toList)
  | [], _, _ => ⟨(fun _ h => nomatch h), List.Pairwise.nil⟩
  | x :: r, p, h => by
    unfold risingS at h
    simp only [Bool.and_eq_true, Bool.not_eq_true', ltCps_eq, decide_eq_false_iff_not] at h
    obtain ⟨h1, h2⟩ := rising_pw r x h.2
    have hp : p.cps.toList ≤ x.cps.toList := List.not_lt.mp h.1
    refine ⟨fun y hy => ?_, .cons h1 h2⟩
    rcases List.mem_cons.mp hy with rfl | hy
    · exact hp
    · exact List.le_trans hp (h1 y hy)
theorem sorted_pw {l : List Str} (h : sortedS l = true) : l.Pairwise (fun a b => a.cps.toList ≤ b.cps.toList) := by
  cases l with
  | nil => exact .nil
  | cons x r =>
    obtain ⟨h1, h2⟩ := rising_pw r x h
    exact .cons h1 h2
/-! ### rows in the order of their names -/
def insP (r : Str × Str) : List (Str × Str) → List (Str × Str)
  | [] => [r]
  | a :: l => if a.1.cps.toList < r.1.cps.toList then a :: insP r l else r :: a :: l
def sortP (l : List (Str × Str)) : List (Str × Str) := l.foldr insP []
theorem insP_perm (r : Str × Str) : ∀ l, (insP r l).Perm (r :: l)
  | [] => .refl _
  | a :: l => by
    unfold insP
    split
    · exact ((insP_perm r l).cons a).trans (.swap r a l)
    · exact .refl _
theorem sortP_perm : ∀ l, (sortP l).Perm l
  | [] => .refl _
  | a :: l => (insP_perm a (sortP l)).trans ((sortP_perm l).cons a)
abbrev leP (a b : Str × Str) : Prop := a.1.cps.toList ≤ b.1.cps.toList
theorem insP_pw (r : Str × Str) : ∀ l, l.Pairwise leP → (insP r l).Pairwise leP
  | [], _ => List.pairwise_singleton _ _
  | a :: l, h => by
    obtain ⟨h1, h2⟩ := List.pairwise_cons.mp h
    unfold insP
    split
    · rename_i lt
      refine .cons (fun b hb => ?_) (insP_pw r l h2)
      rcases List.mem_cons.mp ((insP_perm r l).mem_iff.mp hb) with rfl | hb
      · exact List.le_of_lt lt
      · exact h1 b hb
    · rename_i ge
      have le : leP r a := List.not_lt.mp ge
      refine .cons (fun b hb => ?_) h
      rcases List.mem_cons.mp hb with rfl | hb
      · exact le
      · exact List.le_trans le (h1 b hb)
theorem sortP_pw : ∀ l, (sortP l).Pairwise leP
  | [] => .nil
  | a :: l => insP_pw a _ (sortP_pw l)
/-- rows whose second part hangs on the name alone, by a sorted list of the names -/
theorem sortP_eq {l : List (Str × Str)} {ys : List Str} (f : Str → Str) (perm : ys.Perm (l.map (·.1))) (srt : sortedS ys = true) (val : ∀ r ∈ l, r.2 = f r.1) : sortP l = ys.map fun y => (y, f y) := by
  have el : (l.map (·.1)).map (fun y => (y, f y)) = l := by
    rw [List.map_map]
    refine (List.map_congr_left fun r hr => ?_).trans (List.map_id l)
    show (r.1, f r.1) = r
    rw [← val r hr]
  have pl : (ys.map fun y => (y, f y)).Perm l := by
    have z := perm.map (fun y => (y, f y))
    rwa [el] at z
  refine List.Perm.eq_of_pairwise (le := leP) ?_ (sortP_pw l) ?_ ((sortP_perm l).trans pl.symm)
  · intro a b ha hb h h'
    have e : a.1 = b.1 := ql_ext (List.le_antisymm h h')
    have va := val a ((sortP_perm l).mem_iff.mp ha)
    have vb := val b (pl.mem_iff.mp hb)
    exact Prod.ext e (by rw [va, vb, e])
  · rw [List.pairwise_map]
    exact sorted_pw srt
/-! ### lengths -/
theorem len_app (x y : Str) : (x ++ y).length = x.length + y.length := by
  rw [ql_len, ql_app, List.length_append, ← ql_len, ← ql_len]
theorem joinL_len (S : List Nat) : ∀ ls : List (List Nat), (TL.joinL S ls).length ≤ (ls.map List.length).sum + ls.length * S.length
  | [] => Nat.zero_le _
  | [p] => by
    show p.length ≤ _
    simp
  | p :: q :: r => by
    have ih := joinL_len S (q :: r)
    show (p ++ (S ++ TL.joinL S (q :: r))).length ≤ _
    rw [List.length_append, List.length_append]
    simp only [List.map_cons, List.sum_cons, List.length_cons, Nat.add_mul, Nat.one_mul] at ih ⊢
    omega
theorem ql_join (z : Str) (zs : List Str) : ql (Txt.join z zs) = TL.joinL (ql z) (zs.map ql) := by
  rw [TL.join_eq]
  exact TL.tl_join z zs
theorem join_len (z : Str) (zs : List Str) : (Txt.join z zs).length ≤ (zs.map (·.length)).sum + zs.length * z.length := by
  have h := joinL_len (ql z) (zs.map ql)
  rw [ql_len, ql_join]
  rw [List.length_map, List.map_map] at h
  rw [ql_len z]
  have e : (List.length ∘ ql) = fun y : Str => y.length := funext fun y => (ql_len y).symm
  rw [e] at h
  exact h
theorem sum_le {α : Type} {f : α → Nat} {B : Nat} : ∀ {l : List α}, (∀ x ∈ l, f x ≤ B) → (l.map f).sum ≤ l.length * B
  | [], _ => Nat.zero_le _
  | x :: l, h => by
    have ih := sum_le (f := f) (B := B) (l := l) fun y hy => h y (List.mem_cons_of_mem _ hy)
    have hx := h x List.mem_cons_self
    rw [List.map_cons, List.sum_cons, List.length_cons, Nat.add_mul, Nat.one_mul]
    omega
/-- what is behind a replacing of one sign by two -/
theorem repl_len {x y z : Str} {n : Nat} (hx : x.length ≤ n) (hz : z.length ≤ 2) : (Txt.replace x y z).length ≤ 3 * n + 2 := by
  have h := TK.replace_len x y z
  have : (x.length + 1) * z.length ≤ (n + 1) * 2 := Nat.mul_le_mul (by omega) hz
  omega
theorem repl_fits {x z : Str} {n : Nat} (hx : x.length ≤ n) (hz : z.length ≤ 2) (hn : n ≤ 1000000) : x.length + (x.length + 1) * z.length ≤ 16777216 := by
  have : (x.length + 1) * z.length ≤ (n + 1) * 2 := Nat.mul_le_mul (by omega) hz
  omega
/-! ### literals -/
def litA (z : Str) : Str := Txt.replace z "\\" "\\\\"
def litB (z : Str) : Str := Txt.replace (litA z) "\"" "\\\""
def litC (z : Str) : Str := Txt.replace (litB z) "\n" "\\n"
def litT (z : Str) : Str := Txt.replace (litC z) "<" "\\l"
theorem litA_len {z : Str} (h : z.length ≤ 64) : (litA z).length ≤ 194 := repl_len h (by decide)
theorem litB_len {z : Str} (h : z.length ≤ 64) : (litB z).length ≤ 584 := repl_len (litA_len h) (by decide)
theorem litC_len {z : Str} (h : z.length ≤ 64) : (litC z).length ≤ 1754 := repl_len (litB_len h) (by decide)
theorem litT_len {z : Str} (h : z.length ≤ 64) : (litT z).length ≤ 5264 := repl_len (litC_len h) (by decide)
def rowS (r : Str × Str) : Str := "\"" ++ r.1 ++ "\":" ++ r.2
def keyS : PyData → Str
  | .str z => z
  | _ => ""
mutual
def lit : PyData → Str
  | .none => "null"
  | .bool b => if b = true then "true" else "false"
  | .int i => toString i
  | .str z => "\"" ++ litT z ++ "\""
  | .list _ => ""
  | .tuple ds => "[" ++ Txt.join "," (litL ds) ++ "]"
  | .dict kvs => "{" ++ Txt.join "," ((sortP (litKv kvs)).map rowS) ++ "}"
def litL : List PyData → List Str
  | [] => []
  | d :: ds => lit d :: litL ds
def litKv : List (PyData × PyData) → List (Str × Str)
  | [] => []
  | (k, d) :: r => (keyS k, lit d) :: litKv r
end
theorem litL_map : ∀ ds : List PyData, litL ds = ds.map lit
  | [] => by simp [litL]
  | d :: ds => by simp [litL, litL_map ds]
theorem litKv_map : ∀ kvs : List (PyData × PyData), litKv kvs = kvs.map fun kv => (keyS kv.1, lit kv.2)
  | [] => by simp [litKv]
  | (k, d) :: r => by simp [litKv, litKv_map r]
/-- values as they are drawn: small, of at most this many levels -/
def Vd : Nat → PyData → Prop
  | n + 1, .tuple ds => ds.length ≤ 3 ∧ ∀ x ∈ ds, Vd n x
  | n + 1, .dict kvs => (kvs.length ≤ 3 ∧ (kvs.map (·.1)).Nodup ∧ ∀ kv ∈ kvs, ∃ z, kv.1 = .str z ∧ IsNm z) ∧ ∀ kv ∈ kvs, Vd n kv.2
  | _, .none => True
  | _, .bool _ => True
  | _, .int i => i.natAbs ≤ 10 ^ 40
  | _, .str z => TxV z
  | _, .list _ => False
  | 0, .tuple _ => False
  | 0, .dict _ => False
/-- by what stands on top -/
def Vk : PyData → Prop
  | .str z => TxV z
  | .list _ => False
  | .tuple ds => ds.length ≤ 3
  | .dict kvs => kvs.length ≤ 3 ∧ (kvs.map (·.1)).Nodup ∧ ∀ kv ∈ kvs, ∃ z, kv.1 = .str z ∧ IsNm z
  | .int i => i.natAbs ≤ 10 ^ 40
  | _ => True
theorem Vd.vk : ∀ {n : Nat} {d : PyData}, Vd n d → Vk d
  | _, .none, _ => trivial
  | _, .bool _, _ => trivial
  | _, .int _, h => by simpa only [Vd, Vk] using h
  | _, .str z, h => by simpa only [Vd, Vk] using h
  | n + 1, .tuple ds, h => by
    have h' : ds.length ≤ 3 ∧ ∀ x ∈ ds, Vd n x := by simpa only [Vd] using h
    exact h'.1
  | n + 1, .dict kvs, h => by
    have h' : (kvs.length ≤ 3 ∧ (kvs.map (·.1)).Nodup ∧ ∀ kv ∈ kvs, ∃ z, kv.1 = .str z ∧ IsNm z) ∧ ∀ kv ∈ kvs, Vd n kv.2 := by simpa only [Vd] using h
    exact h'.1
  | 0, .tuple _, h => by simp [Vd] at h
  | 0, .dict _, h => by simp [Vd] at h
  | _, .list _, h => by simp [Vd] at h
theorem Vd.up : ∀ {n : Nat} {d : PyData}, Vd n d → Vd (n + 1) d
  | _, .none, _ => by simp [Vd]
  | _, .bool _, _ => by simp [Vd]
  | _, .int _, h => by simpa only [Vd] using h
  | _, .str z, h => by simpa only [Vd] using h
  | n + 1, .tuple ds, h => by
    have h' : ds.length ≤ 3 ∧ ∀ x ∈ ds, Vd n x := by simpa only [Vd] using h
    show Vd (n + 1 + 1) (.tuple ds)
    simp only [Vd]
    exact ⟨h'.1, fun x hx => (h'.2 x hx).up⟩
  | n + 1, .dict kvs, h => by
    have h' : (kvs.length ≤ 3 ∧ (kvs.map (·.1)).Nodup ∧ ∀ kv ∈ kvs, ∃ z, kv.1 = .str z ∧ IsNm z) ∧ ∀ kv ∈ kvs, Vd n kv.2 := by simpa only [Vd] using h
    show Vd (n + 1 + 1) (.dict kvs)
    simp only [Vd]
    exact ⟨h'.1, fun x hx => (h'.2 x hx).up⟩
  | 0, .tuple _, h => by simp [Vd] at h
  | 0, .dict _, h => by simp [Vd] at h
  | _, .list _, h => by simp [Vd] at h
theorem Vd.ups {n : Nat} {d : PyData} (h : Vd n d) : ∀ k, Vd (n + k) d
  | 0 => h
  | k + 1 => (Vd.ups h k).up
/-- how long a literal may be -/
def Lb : Nat → Nat
  | 0 => 6000
  | n + 1 => 3 * (Lb n + 20) + 2
theorem Lb_up (n : Nat) : 6000 ≤ Lb n := by
  induction n with
  | zero => exact Nat.le_refl _
  | succ n ih =>
    show 6000 ≤ 3 * (Lb n + 20) + 2
    omega
theorem int_len {i : Int} (h : i.natAbs ≤ 10 ^ 40) : (toString i : Str).length ≤ 42 := by
  have less : i.natAbs < 10 ^ 41 := Nat.lt_of_le_of_lt h (by decide)
  have e := int_text_length_le10 (k := 41) (by decide) less
  show (Str.ofString (toString i)).length ≤ 42
  rw [PySem.ofString_length]
  omega
theorem nm_len {z : Str} (h : IsNm z) : z.length ≤ 12 := h.2.1
theorem lit_len : ∀ (n : Nat) (d : PyData), Vd n d → (lit d).length ≤ Lb n
  | n, .none, _ => by
    have := Lb_up n
    have e : (lit .none).length = 4 := by simp only [lit]; rfl
    omega
  | n, .bool b, _ => by
    have := Lb_up n
    have e : (lit (.bool b)).length ≤ 5 := by cases b <;> (simp only [lit]; decide)
    omega
  | n, .int i, h => by
    have := Lb_up n
    have h' : i.natAbs ≤ 10 ^ 40 := by simpa only [Vd] using h
    have e := int_len h'
    simp only [lit]
    omega
  | n, .str z, h => by
    have := Lb_up n
    have h' : TxV z := by simpa only [Vd] using h
    have e := litT_len h'.1
    simp only [lit]
    rw [len_app, len_app]
    show 1 + (litT z).length + 1 ≤ _
    omega
  | n + 1, .tuple ds, h => by
    have h' : ds.length ≤ 3 ∧ ∀ x ∈ ds, Vd n x := by simpa only [Vd] using h
    simp only [lit]
    rw [len_app, len_app, litL_map]
    have j := join_len "," (ds.map lit)
    have each : ∀ x ∈ ds.map lit, x.length ≤ Lb n := by
      intro x hx
      obtain ⟨d, hd, rfl⟩ := List.mem_map.mp hx
      exact lit_len n d (h'.2 d hd)
    have s := sum_le (f := fun x : Str => x.length) each
    rw [List.length_map] at j s
    have m : ds.length * Lb n ≤ 3 * Lb n := Nat.mul_le_mul_right _ h'.1
    have z : (("," : Str)).length = 1 := rfl
    rw [z] at j
    show 1 + (Txt.join "," (ds.map lit)).length + 1 ≤ 3 * (Lb n + 20) + 2
    omega
  | n + 1, .dict kvs, h => by
    have h' : (kvs.length ≤ 3 ∧ (kvs.map (·.1)).Nodup ∧ ∀ kv ∈ kvs, ∃ z, kv.1 = .str z ∧ IsNm z) ∧ ∀ kv ∈ kvs, Vd n kv.2 := by simpa only [Vd] using h
    simp only [lit]
    rw [len_app, len_app]
    have j := join_len "," ((sortP (litKv kvs)).map rowS)
    have each : ∀ x ∈ (sortP (litKv kvs)).map rowS, x.length ≤ Lb n + 15 := by
      intro x hx
      obtain ⟨r, hr, rfl⟩ := List.mem_map.mp hx
      have hr := (sortP_perm _).mem_iff.mp hr
      rw [litKv_map] at hr
      obtain ⟨kv, hk, rfl⟩ := List.mem_map.mp hr
      obtain ⟨z, ez, nm⟩ := h'.1.2.2 kv hk
      have l := lit_len n kv.2 (h'.2 kv hk)
      unfold rowS
      rw [len_app, len_app, len_app]
      simp only
      rw [ez]
      show 1 + z.length + 2 + (lit kv.2).length ≤ _
      have := nm_len nm
      omega
    have s := sum_le (f := fun x : Str => x.length) each
    have cnt : ((sortP (litKv kvs)).map rowS).length = kvs.length := by rw [List.length_map, (sortP_perm _).length_eq, litKv_map, List.length_map]
    rw [cnt] at j s
    have m : kvs.length * (Lb n + 15) ≤ 3 * (Lb n + 15) := Nat.mul_le_mul_right _ h'.1.1
    have z : (("," : Str)).length = 1 := rfl
    rw [z] at j
    show 1 + (Txt.join "," _).length + 1 ≤ 3 * (Lb n + 20) + 2
    have := h'.1.1
    omega
  | 0, .tuple _, h => by simp [Vd] at h
  | 0, .dict _, h => by simp [Vd] at h
  | _, .list _, h => by simp [Vd] at h
end KX

namespace KX
open PySem PySem.Spec L2 PyProof.Rows
/-! ### two digits by sixteen -/
def dig16 (d : Nat) : Nat := if d < 10 then 48 + d else 87 + d
def hex2 (c : Nat) : Str := ⟨#[dig16 (c / 16), dig16 (c % 16)]⟩
theorem gives_cut {v : Value} {T : String} {n : Nat} {k : String → Sem Fin} {m : Made} (is : ∀ s : Shared, s.TypeIs v T) (no : (Value.type T == Value.type "builtin_function_or_method") = false)
    (g : ∀ name, Gives (k name) m) : Gives (do let name ← typeNameOfCut n v; k name) m := by
  intro prog w A R s want
  refine wpAny_bind ?_
  unfold typeNameOfCut shownTypeOf
  refine wpAny_bind (wpAny_bind (wpAny_typeOf (is s) ?_))
  simp only [no, Bool.false_eq_true, if_false]
  exact wpAny_pure (wpAny_pure (g _ prog w A R s want))
theorem spec02x (name : String) : Builtin.Float.parseFormatSpec ("02x" : Str).cps.toList name 62 = .ok { fill := 48, align := 61, width := some 2, type := some 120 } := by
  rfl
theorem tree02x : ∃ F : Nat → Str, (∀ (c : Nat) (t u : Tok), Builtin.«int.__format__» ⟨[.int (c : Int) t, .str "02x" u], []⟩ = (typeNameOf (.str "02x" u) >>= fun _ => typeNameOfCut 200 (.int (c : Int) t) >>= fun _ => retStr (F c))) ∧ ∀ c, c < 128 → F c = hex2 c :=
  by
  refine ⟨?F, fun c t u => ?one, ?two⟩
  case one => exact rfl
  case two => decide +kernel
theorem fmt02x {c : Nat} (h : c < 128) (t u : Tok) : Gives (Builtin.«int.__format__» ⟨[.int (c : Int) t, .str "02x" u], []⟩) (.str (hex2 c)) := by
  obtain ⟨F, tree, same⟩ := tree02x
  rw [tree, same c h]
  refine gives_after_typeNameOf (T := "str") (fun s => typeIs_str s _ _) (by decide) fun _ => ?_
  exact gives_cut (T := "int") (fun s => typeIs_int s _ _) (by decide) fun _ => .of_eq rfl
/-- {e:02x} of a sign's number -/
def tHex (te : TE) : TE := fun σ H Q => te σ H fun x H1 => ∃ c : Nat, x = .int (c : Int) ∧ c < 128 ∧ Q (.str (hex2 c)) H1
section
variable {X : Cx}
theorem pe_hex {e : Expr} {te : TE} {j : Nat} {p p' pos : Pos} (he : PE X e te) : PE X (.FormattedValue e (-1) (some (.JoinedStr [.Constant (.str "02x") j p] p')) pos) (tHex te) := by
  constructor
  intro pins s σ H Q I want
  refine wpAny_FormattedValue_spec (thn (he.run pins s σ H _ I want) ?_)
  rintro v s1 ⟨x, H1, J, rel, c, rfl, small, q⟩
  obtain ⟨t, rfl⟩ := rel
  refine wpAny_JoinedStr_one (Calls.Constant_str ⟨_, _, rfl, ?_⟩)
  refine wpAny_formatField_spec (by decide) (fun s' => typeIs_int s' _ _) PySem.F.slot_int_format PySem.F.entry_int_format PySem.F.args_int_format_2 (fun u => fmt02x small t u) ?_ (by decide) (by show 2 ≤ sizeLine; decide)
  exact ⟨.str (hex2 c), H1, (J.tok _), ⟨_, rfl⟩, q⟩
end
/-! ### codes -/
def codeC (c : Nat) : Str := if upC c = true then ⟨#[c]⟩ else "~" ++ hex2 c
def codeS (z : Str) : Str := Txt.join "" ((ql z).map codeC)
theorem codeC_len (c : Nat) : (codeC c).length ≤ 3 := by
  unfold codeC
  split
  · show 1 ≤ 3
    decide
  · rw [len_app]
    show 1 + 2 ≤ 3
    decide
end KX

namespace KX
open PySem PySem.Spec L2 PyProof.Rows CwR
/-! ### the writings -/
def wText (z : Str) : Str := Txt.replace (Txt.replace z "&" "&amp;") "<" "&lt;"
def wAttr (z : Str) : Str := Txt.replace (wText z) "\"" "&quot;"
theorem repl_len6 {x y z : Str} {n : Nat} (hx : x.length ≤ n) (hz : z.length ≤ 6) : (Txt.replace x y z).length ≤ 7 * n + 6 := by
  have h := TK.replace_len x y z
  have : (x.length + 1) * z.length ≤ (n + 1) * 6 := Nat.mul_le_mul (by omega) hz
  omega
theorem repl_fits6 {x z : Str} {n : Nat} (hx : x.length ≤ n) (hz : z.length ≤ 6) (hn : n ≤ 1000000) : x.length + (x.length + 1) * z.length ≤ 16777216 := by
  have : (x.length + 1) * z.length ≤ (n + 1) * 6 := Nat.mul_le_mul (by omega) hz
  omega
theorem wText1_len {z : Str} (h : z.length ≤ 64) : (Txt.replace z "&" "&amp;").length ≤ 454 := repl_len6 h (by decide)
theorem wText_len {z : Str} (h : z.length ≤ 64) : (wText z).length ≤ 3184 := repl_len6 (wText1_len h) (by decide)
theorem wAttr_len {z : Str} (h : z.length ≤ 64) : (wAttr z).length ≤ 22294 := repl_len6 (wText_len h) (by decide)
section
variable {base : Heap} {P : Program} {w : World} {K : PySem.W.Frag} {mg : Str → Option Value} {tk : Str → Tok}
abbrev s_write_text : Stmt := top 11
abbrev N_write_text : List Str := ["text"]
abbrev P_write_text : List Str := ["text"]
theorem sc_write_text : FnScope N_write_text P_write_text (defScope s_write_text) := ⟨rfl, rfl, rfl, by decide +kernel, rfl, by decide +kernel, by decide +kernel⟩
def spStr (f : Str → Str) : Sp := fun vs H Q _ => ∃ z : Str, vs = [.str z] ∧ z.length ≤ 64 ∧ Q (.str (f z)) H
theorem ok_write_text {f : Addr} {fd : FuncData} (F : Fun K "write_text" "write_text" s_write_text f fd) : FnOk P w K mg base CX0 1 f fd P_write_text (spStr wText) := by
  refine Fun.okT F sc_write_text (by decide +kernel) (by decide) (fun vs H Q E h => ?_) (fun cdv A outer s H vs Q E hr h => ?_)
  · obtain ⟨c, rfl, _⟩ := h
    rfl
  obtain ⟨z, rfl, hz, q⟩ := h
  exact ⟨_, psst_one (pst_ret (pet_replT (pet_replC (pv 0)))), _, rfl, z, rfl, repl_fits6 hz (by decide) (by decide), _, rfl, repl_fits6 (wText1_len hz) (by decide) (by decide), q⟩
abbrev s_write_attribute : Stmt := top 12
abbrev N_write_attribute : List Str := ["text"]
abbrev P_write_attribute : List Str := ["text"]
theorem sc_write_attribute : FnScope N_write_attribute P_write_attribute (defScope s_write_attribute) := ⟨rfl, rfl, rfl, by decide +kernel, rfl, by decide +kernel, by decide +kernel⟩
theorem ok_write_attribute {f g : Addr} {fd gd : FuncData} (F : Fun K "write_attribute" "write_attribute" s_write_attribute f fd) (D_write_text : Def P w K mg base "write_text" 1 P_write_text (spStr wText) g gd) : FnOk P w K mg base CX0 2 f fd P_write_attribute (spStr wAttr) := by
  refine Fun.okT F sc_write_attribute (by decide +kernel) (by decide) (fun vs H Q E h => ?_) (fun cdv A outer s H vs Q E hr h => ?_)
  · obtain ⟨c, rfl, _⟩ := h
    rfl
  obtain ⟨z, rfl, hz, q⟩ := h
  exact ⟨_, psst_one (pst_ret (pet_replC (pe_call D_write_text.ok (hr.mono (by first | decide | omega)) rfl D_write_text.g D_write_text.kp D_write_text.b .nil pass0 (pa_cons (pv 0) pa_nil)))), _, rfl, z, rfl, hz, _, rfl, repl_fits6 (wText_len hz) (by decide) (by decide), q⟩
abbrev s_write_code : Stmt := top 13
abbrev N_write_code : List Str := ["text", "sign"]
abbrev P_write_code : List Str := ["text"]
theorem sc_write_code : FnScope N_write_code P_write_code (defScope s_write_code) := ⟨rfl, rfl, rfl, by decide +kernel, rfl, by decide +kernel, by decide +kernel⟩
def spCode : Sp := fun vs H Q _ => ∃ z : Str, vs = [.str z] ∧ TxV z ∧ ∀ H', Same H H' → Q (.str (codeS z)) H'
theorem ok_write_code {f g : Addr} {fd gd : FuncData} (F : Fun K "write_code" "write_code" s_write_code f fd) (T : Bl mg) (D_stands_for_itself : Def P w K mg base "stands_for_itself" 2 P_stands spStands g gd) : FnOk P w K mg base CX0 3 f fd P_write_code spCode := by
  refine F.ok sc_write_code (fun vs H Q E h => ?_) (fun cdv A outer s H vs Q E hr h => ?_)
  · obtain ⟨c, rfl, _⟩ := h
    rfl
  obtain ⟨z, rfl, ⟨z1, z2⟩, q⟩ := h
  refine ⟨_, (pss_one (ps_ret (pe_join pe_str (pe_lc (own := [("sign", 1)]) (g := (gName 1)) (tt := tYes) rfl sc_write_code.nd (pi_str (pv 0)) (blkOk_by (own := [("sign", 1)]) (N := N_write_code) (sc := defScope s_write_code) (by decide +kernel)) (fun _ _ _ _ _ => (pg_name (i := 1) sc_write_code.nd rfl (Or.inl rfl))) (fun _ _ _ _ _ => pts_nil) (fun _ _ _ _ _ => (pe_ifExp (pt_val (pe_call D_stands_for_itself.ok (hr.mono (by first | decide | omega)) rfl D_stands_for_itself.g D_stands_for_itself.kp D_stands_for_itself.b .nil pass0 (pa_cons (pv 1) pa_nil))) (pv 1) (pe_joined (PJ.cons pe_str (PJ.cons (pe_hex (pe_callB call_ord (by rfl) T.ord (by decide +kernel) (pa_cons (pv 1) pa_nil))) PJ.nil))))))))), ?_⟩
  refine ⟨⟨_, rfl⟩, _, rfl, z, rfl, fun D new => ?_⟩
  refine lc_it walk_str (fun i G => Same H G ∧ G D = some (.lst (((ql z).take i).map fun c => .str (codeC c)))) ⟨same_new new _, upd_same⟩ (fun _ _ _ _ => trivial) ?_ ?_
  · rintro i x G2 G hi ⟨kept, made⟩ ⟨rfl, c, at', rfl⟩
    have at2 : (ql z)[i]? = some c := by rw [← Array.getElem?_toList] at at'; exact at'
    have cm : c ∈ ql z := List.mem_of_getElem? at2
    have ok := z2 c cm
    have lt : c < 128 := by rcases ok with h | h <;> omega
    have sz : z.cps.size = z.length := rfl
    have more : ((ql z).take (i + 1)).map (fun c => V.str (codeC c)) = ((ql z).take i).map (fun c => V.str (codeC c)) ++ [.str (codeC c)] := by
      rw [List.take_succ, at2, List.map_append]
      rfl
    have fin : ∀ y : Str, y = codeC c → ∃ acc, G D = some (.lst acc) ∧ acc.length < sizeLine ∧ Same H (upd G D (.lst (acc ++ [V.str y]))) ∧ upd G D (.lst (acc ++ [V.str y])) D = some (.lst (((ql z).take (i + 1)).map fun c => .str (codeC c))) := by
      rintro y rfl
      refine ⟨_, made, ?_, Same.updNew kept new, ?_⟩
      · rw [List.length_map, List.length_take]
        exact less_line (by omega)
      · rw [upd_same, more]
    refine ⟨rfl, yesT ⟨_, rfl, c, rfl, _, rfl, ?_⟩⟩
    cases e : upC c with
    | true => exact iteT ⟨_, rfl, fin _ (by unfold codeC; rw [e]; rfl)⟩
    | false =>
      refine iteF ⟨_, rfl, (by show 1 ≤ sizeLine; decide), _, rfl, _, rfl, rfl, c, rfl, lt, _, rfl, ?_, ?_⟩
      · exact Nat.le_of_lt (less_line (by show 0 + 1 + 2 ≤ 1000; decide))
      · refine fin _ ?_
        unfold codeC
        rw [e]
        rfl
  · rintro G ⟨kept, made⟩
    have all : (ql z).take z.cps.size = ql z := List.take_of_length_le (Nat.le_of_eq rfl)
    rw [all] at made
    refine ⟨"", D, (ql z).map codeC, rfl, rfl, .inl (SqL.of (by rw [List.map_map]; exact made)), ?_, q G kept⟩
    have s := sum_le (f := fun c => (codeC c).length) (B := 3) (l := ql z) fun c _ => codeC_len c
    rw [List.map_map, List.length_map]
    have l := ql_len z
    show ((ql z).map fun c => (codeC c).length).sum + (ql z).length * 0 ≤ _
    omega
end
end KX

namespace KX
open PySem PySem.Spec L2 PyProof.Rows CwR
/-- a written tuple -/
def WTup (K : PySem.W.Frag) (a : Addr) (xs : List V) : Prop := ∃ (o : Obj) (its : Array Value) (n : Nat), K.lookup a = some o ∧ o.cls = .type "tuple" ∧ o.data = .seq its n ∧ its.size ≤ sizeLine ∧ Vals xs its.toList
theorem WTup.sq {K : PySem.W.Frag} {a : Addr} {xs : List V} (h : WTup K a xs) (H : Hp) : SqT K H a xs := .inr h
/-- the module's written tuples -/
structure Wr (K : PySem.W.Frag) (mg : Str → Option Value) (E a0 a1 a2 a3 : Addr) : Prop where
  ESCAPES : mg "ESCAPES" = some (.ref E)
  pairs : WTup K E [.ref a0, .ref a1, .ref a2, .ref a3]
  p0 : WPair K a0 "\\" "\\\\"
  p1 : WPair K a1 "\"" "\\\""
  p2 : WPair K a2 "\n" "\\n"
  p3 : WPair K a3 "<" "\\l"
section
variable {base : Heap} {P : Program} {w : World} {K : PySem.W.Frag} {mg : Str → Option Value} {tk : Str → Tok} {We w0 w1 w2 w3 : Addr}
abbrev s_wtext : Stmt := top 30
abbrev N_wtext : List Str := ["text", "sign", "writing"]
abbrev P_wtext : List Str := ["text"]
theorem sc_wtext : FnScope N_wtext P_wtext (defScope s_wtext) := ⟨rfl, rfl, rfl, by decide +kernel, rfl, by decide +kernel, by decide +kernel⟩
theorem ok_wtext {f : Addr} {fd : FuncData} (F : Fun K "_write_text" "_write_text" s_wtext f fd) (W : Wr K mg We w0 w1 w2 w3) : FnOk P w K mg base CX0 1 f fd P_wtext (spStr fun z => "\"" ++ litT z ++ "\"") := by
  refine F.ok sc_wtext (fun vs H Q E h => ?_) (fun cdv A outer s H vs Q E hr h => ?_)
  · obtain ⟨c, rfl, _⟩ := h
    rfl
  obtain ⟨z, rfl, hz, q⟩ := h
  refine ⟨_, pss_cons (ps_forR PassesOwn.never rfl (pi_tup (pe_glob (v := .ref We) rfl W.ESCAPES rfl)) (turn_repl rfl sc_wtext.nd rfl rfl rfl (by decide) (by decide) (by decide) rfl rfl rfl rfl rfl rfl rfl rfl)) (pss_one (ps_ret (pe_joined (PJ.cons pe_str (PJ.cons (pe_fmt (pv 0)) (PJ.cons pe_str PJ.nil)))))), ?_⟩
  refine ⟨We, rfl, ⟨_, W.pairs.sq H⟩, ?_⟩
  have lens := litA_len hz
  refine for_tup (K := K) (a := We) (xs := [.ref w0, .ref w1, .ref w2, .ref w3]) (fun i σ G => G = H ∧ ∃ v1 v2 : Option V, σ = [some (.str (match i with | 0 => z | 1 => litA z | 2 => litB z | 3 => litC z | _ => litT z)), v1, v2])
    ⟨rfl, none, none, rfl⟩ (fun i σ G _ _ => W.pairs.sq G) ?_ ?_
  · rintro i x σ G hx ⟨rfl, v1, v2, rfl⟩
    match i, hx with
    | 0, hx =>
      obtain rfl : V.ref w0 = x := by simpa using hx
      exact ⟨w0, z, _, _, v1, v2, rfl, W.p0, rfl, repl_fits hz (by decide) (by decide), rfl, none, none, rfl⟩
    | 1, hx =>
      obtain rfl : V.ref w1 = x := by simpa using hx
      exact ⟨w1, litA z, _, _, v1, v2, rfl, W.p1, rfl, repl_fits (litA_len hz) (by decide) (by decide), rfl, none, none, rfl⟩
    | 2, hx =>
      obtain rfl : V.ref w2 = x := by simpa using hx
      exact ⟨w2, litB z, _, _, v1, v2, rfl, W.p2, rfl, repl_fits (litB_len hz) (by decide) (by decide), rfl, none, none, rfl⟩
    | 3, hx =>
      obtain rfl : V.ref w3 = x := by simpa using hx
      exact ⟨w3, litC z, _, _, v1, v2, rfl, W.p3, rfl, repl_fits (litC_len hz) (by decide) (by decide), rfl, none, none, rfl⟩
    | i + 4, hx => simp at hx
  · rintro σ G ⟨rfl, v1, v2, rfl⟩
    have l := litT_len hz
    have big : ∀ n : Nat, n ≤ 10000 → n ≤ sizeLine := fun n h => Nat.le_trans h (by decide)
    refine ⟨_, rfl, (by show 1 ≤ sizeLine; decide), _, rfl, .inl ⟨_, rfl, big _ (by show (litT z).length ≤ 10000; omega), _, rfl, big _ ?_, _, rfl, big _ ?_, q⟩⟩
    · show (("\"" : Str) ++ litT z).length ≤ 10000
      rw [len_app]
      show 1 + _ ≤ _
      omega
    · show (("\"" : Str) ++ litT z ++ "\"").length ≤ 10000
      rw [len_app, len_app]
      show 1 + _ + 1 ≤ _
      omega
abbrev s_is_name : Stmt := top 22
abbrev N_is_name : List Str := ["thing", "letter"]
abbrev P_is_name : List Str := ["thing"]
theorem sc_is_name : FnScope N_is_name P_is_name (defScope s_is_name) := ⟨rfl, rfl, rfl, by decide +kernel, rfl, by decide +kernel, by decide +kernel⟩
def spIsName : Sp := fun vs H Q _ => ∃ z : Str, vs = [.str z] ∧ IsNm z ∧ ∀ H', Same H H' → Q (.bl true) H'
theorem ok_is_name {f g : Addr} {fd gd : FuncData} (F : Fun K "is_name" "is_name" s_is_name f fd) (T : Bl mg) (L : Lm mg tk) (D_is_letter : Def P w K mg base "is_letter" 1 P_is_letter (spBetween 97 122) g gd) : FnOk P w K mg base CX0 2 f fd P_is_name spIsName := by
  refine F.ok sc_is_name (fun vs H Q E h => ?_) (fun cdv A outer s H vs Q E hr h => ?_)
  · obtain ⟨c, rfl, _⟩ := h
    rfl
  obtain ⟨z, rfl, ⟨z1, z2, z3⟩, q⟩ := h
  have zs : z.length ≤ sizeLine := Nat.le_of_lt (less_line (by omega))
  refine ⟨_, (pss_cons (ps_if (PW.pt (pw_or (pt_not (pt_val (pe_callB call_isi (by rfl) T.isinstance (by decide +kernel) (pa_cons (pv 0) (pa_cons (pe_bltn (v := .ty "str") (by rfl) T.str (by decide +kernel) rfl) pa_nil))))) (pw_or1 (pt_not (pt_chain op_le op_le pe_int (pe_callB (call_lenK K rfl) (by rfl) T.len PySem.boot_len (pa_cons (pv 0) pa_nil)) (pe_glob (v := .int 12) rfl L.MAX_LETTERS ⟨_, rfl⟩))))))
      (pss_one (ps_ret pe_bl))
      pss_nil)
    (pss_one (ps_ret (pe_callB (cr_all rfl) (by rfl) T.all (by decide +kernel) (pa_cons (pe_lc (own := [("letter", 1)]) (g := (gName 1)) (tt := tYes) rfl sc_is_name.nd (pi_str (pv 0)) (blkOk_by (own := [("letter", 1)]) (N := N_is_name) (sc := defScope s_is_name) (by decide +kernel)) (fun _ _ _ _ _ => (pg_name (i := 1) sc_is_name.nd rfl (Or.inl rfl))) (fun _ _ _ _ _ => pts_nil) (fun _ _ _ _ _ => (pe_call D_is_letter.ok (hr.mono (by first | decide | omega)) rfl D_is_letter.g D_is_letter.kp D_is_letter.b .nil pass0 (pa_cons (pv 1) pa_nil)))) pa_nil))))), ?_⟩
  refine ⟨_, rfl, _, _, _, _, true, rfl, .ty _, .base (.str _), kit_ty (by decide +kernel), _, rfl, if_ff rfl ?_⟩
  refine ⟨_, rfl, _, z.length, rfl, ⟨zs, rfl⟩, _, _, rfl, rfl, _, rfl, if_tt (decide_eq_true (by omega)) ⟨_, _, rfl, rfl, _, rfl, if_ff ?_ ?_⟩⟩
  · rw [decide_eq_true (by omega)]
    rfl
  refine ⟨_, rfl, z, rfl, fun D new => ?_⟩
  refine lc_it walk_str (fun i G => Same H G ∧ G D = some (.lst (trues i))) ⟨same_new new _, upd_same⟩ (fun _ _ _ _ => trivial) ?_ ?_
  · rintro i x G2 G hi ⟨kept, made⟩ ⟨rfl, c, at', rfl⟩
    have cm : c ∈ ql z := List.mem_of_getElem? (by rw [← Array.getElem?_toList] at at'; exact at')
    have sz : z.cps.size = z.length := rfl
    refine ⟨rfl, yesT ⟨_, rfl, c, rfl, _, made, ?_, Same.updNew kept new, ?_⟩⟩
    · rw [trues_len]
      exact less_line (by omega)
    · rw [upd_same, decide_eq_true (z3 c cm), trues_more]
  · rintro G ⟨kept, made⟩
    refine ⟨D, _, rfl, SqL.of made, ?_⟩
    rw [trues_all]
    exact q G kept
end
end KX

namespace KX
open PySem PySem.Spec L2 PyProof.Rows CwR
theorem keyD_str {k : Key} {z : Str} (h : keyD k = .str z) : k = .inr z := by
  cases k with
  | inl i => cases h
  | inr x => simp only [keyD, PyData.str.injEq] at h; rw [h]
theorem DqKv.length {K : PySem.W.Frag} {H : Hp} : ∀ {vs : List (Key × V)} {ds : List (PyData × PyData)}, DqKv K H vs ds → vs.length = ds.length
  | _, _, .nil => rfl
  | _, _, .cons _ h2 => by rw [List.length_cons, List.length_cons, DqKv.length h2]
theorem DqKv.get {K : PySem.W.Frag} {H : Hp} : ∀ {vs : List (Key × V)} {ds : List (PyData × PyData)} {i : Nat} {k : Key} {v : V}, DqKv K H vs ds → vs[i]? = some (k, v) → ∃ d, ds[i]? = some (keyD k, d) ∧ Dq K H v d
  | _, _, _, _, _, .nil, e => by simp at e
  | _, _, 0, _, _, .cons h _, e => by simp at e; obtain ⟨rfl, rfl⟩ := e; exact ⟨_, rfl, h⟩
  | _, _, i + 1, _, _, .cons _ t, e => by
    obtain ⟨d, h1, h2⟩ := DqKv.get (i := i) t (by simpa using e)
    exact ⟨d, by simpa using h1, h2⟩
def kindS : PyData → Str
  | .none => "absent"
  | .bool _ => "flag"
  | .int _ => "number"
  | .str _ => "text"
  | .list _ => "list"
  | .tuple _ => "list"
  | .dict _ => "record"
section
variable {base : Heap} {P : Program} {w : World} {K : PySem.W.Frag} {mg : Str → Option Value} {tk : Str → Tok}
abbrev s_kind_of : Stmt := top 25
abbrev N_kind_of : List Str := ["thing", "name"]
abbrev P_kind_of : List Str := ["thing"]
theorem sc_kind_of : FnScope N_kind_of P_kind_of (defScope s_kind_of) := ⟨rfl, rfl, rfl, by decide +kernel, rfl, by decide +kernel, by decide +kernel⟩
def spKind (K : PySem.W.Frag) : Sp := fun vs H Q _ => ∃ (v : V) (d : PyData), vs = [v] ∧ Dq K H v d ∧ Vk d ∧ ∀ H', Same H H' → Q (.str (kindS d)) H'
theorem ok_kind_of {f ft fn : Addr} {fd fdt fdn : FuncData} (F : Fun K "kind_of" "kind_of" s_kind_of f fd) (T : Bl mg) (L : Lm mg tk) (D_is_text : Def P w K mg base "is_text" 2 P_is_text spText ft fdt) (D_is_name : Def P w K mg base "is_name" 2 P_is_name spIsName fn fdn) :
    FnOk P w K mg base CX0 3 f fd P_kind_of (spKind K) := by
  refine F.ok sc_kind_of (fun vs H Q E h => ?_) (fun cdv A outer s H vs Q E hr h => ?_)
  · obtain ⟨v, d, rfl, _⟩ := h
    rfl
  obtain ⟨v, d, rfl, hd, hv, q⟩ := h
  refine ⟨_, (pss_cons (ps_if (pt_cmpR op_isN (pv 0) pe_non (nomark _))
      (pss_one (ps_ret pe_str))
      pss_nil)
    (pss_cons (ps_if (pt_val (pe_callB call_isi (by rfl) T.isinstance (by decide +kernel) (pa_cons (pv 0) (pa_cons (pe_bltn (v := .ty "bool") (by rfl) T.bool (by decide +kernel) rfl) pa_nil))))
      (pss_one (ps_ret pe_str))
      pss_nil)
    (pss_cons (ps_if (pt_val (pe_callB call_isi (by rfl) T.isinstance (by decide +kernel) (pa_cons (pv 0) (pa_cons (pe_bltn (v := .ty "int") (by rfl) T.int (by decide +kernel) rfl) pa_nil))))
      (pss_one (ps_ret pe_str))
      pss_nil)
    (pss_cons (ps_if (pt_val (pe_call D_is_text.ok (hr.mono (by first | decide | omega)) rfl D_is_text.g D_is_text.kp D_is_text.b .nil pass0 (pa_cons (pv 0) pa_nil)))
      (pss_one (ps_ret pe_str))
      pss_nil)
    (pss_cons (ps_if (PW.pt (pw_and (pt_val (pe_callB call_isi (by rfl) T.isinstance (by decide +kernel) (pa_cons (pv 0) (pa_cons (pe_bltn (v := .ty "tuple") (by rfl) T.tuple (by decide +kernel) rfl) pa_nil)))) (pw_and1 (pt_cmpR op_le (pe_callB (call_lenK K rfl) (by rfl) T.len PySem.boot_len (pa_cons (pv 0) pa_nil)) (pe_glob (v := .int 60) rfl L.MAX_ELEMENTS ⟨_, rfl⟩) (nomark _)))))
      (pss_one (ps_ret pe_str))
      pss_nil)
    (pss_cons (ps_if (PW.pt (pw_and (pt_val (pe_callB call_isi (by rfl) T.isinstance (by decide +kernel) (pa_cons (pv 0) (pa_cons (pe_bltn (v := .ty "dict") (by rfl) T.dict (by decide +kernel) rfl) pa_nil)))) (pw_and1 (pt_val (pe_callB (cr_all rfl) (by rfl) T.all (by decide +kernel) (pa_cons (pe_lock (pe_lc (own := [("name", 1)]) (g := (gName 1)) (tt := tYes) rfl sc_kind_of.nd (pi_keys (pv 0)) (blkOk_by (own := [("name", 1)]) (N := N_kind_of) (sc := defScope s_kind_of) (by decide +kernel)) (fun _ _ _ _ _ => (pg_name (i := 1) sc_kind_of.nd rfl (Or.inl rfl))) (fun _ _ _ _ _ => pts_nil) (fun _ _ _ _ _ => (pe_call D_is_name.ok (hr.mono (by first | decide | omega)) rfl D_is_name.g D_is_name.kp D_is_name.b .nil pass0 (pa_cons (pv 1) pa_nil))))) pa_nil))))))
      (pss_one (ps_ret pe_str))
      pss_nil)
    (pss_one (ps_ret pe_non)))))))), ?_⟩
  cases hd with
  | non => exact ⟨_, rfl, rfl, _, rfl, if_tt rfl (q _ (Same.refl H))⟩
  | bl b =>
    refine ⟨_, rfl, rfl, _, rfl, if_ff rfl ?_⟩
    refine ⟨_, rfl, _, _, _, _, true, rfl, .ty _, .base (.bl _), kit_ty (by decide +kernel), _, rfl, if_tt rfl ?_⟩
    exact q _ (Same.refl H)
  | int i =>
    refine ⟨_, rfl, rfl, _, rfl, if_ff rfl ?_⟩
    refine ⟨_, rfl, _, _, _, _, false, rfl, .ty _, .base (.int _), kit_ty (by decide +kernel), _, rfl, if_ff rfl ?_⟩
    refine ⟨_, rfl, _, _, _, _, true, rfl, .ty _, .base (.int _), kit_ty (by decide +kernel), _, rfl, if_tt rfl ?_⟩
    exact q _ (Same.refl H)
  | str x =>
    refine ⟨_, rfl, rfl, _, rfl, if_ff rfl ?_⟩
    refine ⟨_, rfl, _, _, _, _, false, rfl, .ty _, .base (.str _), kit_ty (by decide +kernel), _, rfl, if_ff rfl ?_⟩
    refine ⟨_, rfl, _, _, _, _, false, rfl, .ty _, .base (.str _), kit_ty (by decide +kernel), _, rfl, if_ff rfl ?_⟩
    exact ⟨_, rfl, .inl ⟨x, rfl, hv, fun H' same => ⟨_, rfl, if_tt rfl (q _ same)⟩⟩⟩
  | lst => exact hv.elim
  | tup hs ha =>
    rename_i a xs ds
    have hl : ds.length ≤ 3 := hv
    have el := DqAll.length ha
    refine ⟨_, rfl, rfl, _, rfl, if_ff rfl ?_⟩
    refine ⟨_, rfl, _, _, _, _, false, rfl, .ty _, .base (.tup hs), kit_ty (by decide +kernel), _, rfl, if_ff rfl ?_⟩
    refine ⟨_, rfl, _, _, _, _, false, rfl, .ty _, .base (.tup hs), kit_ty (by decide +kernel), _, rfl, if_ff rfl ?_⟩
    refine ⟨_, rfl, .inr ⟨a, rfl, .inl ⟨_, hs⟩, _, rfl, if_ff rfl ?_⟩⟩
    refine ⟨_, rfl, _, _, _, _, true, rfl, .ty _, .base (.tup hs), kit_ty (by decide +kernel), _, rfl, if_tt rfl ?_⟩
    refine ⟨_, rfl, _, xs.length, rfl, .inr ⟨xs, SqT.of hs, rfl⟩, _, _, rfl, rfl, _, rfl, if_tt (decide_eq_true (by omega)) ?_⟩
    exact q _ (Same.refl H)
  | dct hs ha =>
    rename_i a kvs ds
    obtain ⟨hl, _, hk⟩ := hv
    refine ⟨_, rfl, rfl, _, rfl, if_ff rfl ?_⟩
    refine ⟨_, rfl, _, _, _, _, false, rfl, .ty _, .base (.dK hs), kit_ty (by decide +kernel), _, rfl, if_ff rfl ?_⟩
    refine ⟨_, rfl, _, _, _, _, false, rfl, .ty _, .base (.dK hs), kit_ty (by decide +kernel), _, rfl, if_ff rfl ?_⟩
    refine ⟨_, rfl, .inr ⟨a, rfl, .inr ⟨_, hs⟩, _, rfl, if_ff rfl ?_⟩⟩
    refine ⟨_, rfl, _, _, _, _, false, rfl, .ty _, .base (.dK hs), kit_ty (by decide +kernel), _, rfl, if_ff rfl ?_⟩
    refine if_ff rfl ?_
    refine ⟨_, rfl, _, _, _, _, true, rfl, .ty _, .base (.dK hs), kit_ty (by decide +kernel), _, rfl, if_tt rfl ?_⟩
    refine ⟨a, _, hs, trivial, fun od => ⟨_, rfl, a, od, rfl, .inl ⟨kvs, upd_same, fun D hD => ?_⟩⟩⟩
    have hDa : D ≠ a := fun e => by
      rw [e, upd_same] at hD
      cases hD
    have el := DqKv.length ha
    refine lc_it walk_keys (fun i G => Same (upd H a (.frz od (.dK kvs))) G ∧ G D = some (.lst (trues i))) ⟨same_new hD _, upd_same⟩ (fun i G _ p => p.1 _ _ upd_same) ?_ ?_
    · rintro i x G2 G hi ⟨kept, made⟩ ⟨rfl, k, v, hkv, rfl⟩
      obtain ⟨d, e1, e2⟩ := DqKv.get ha hkv
      obtain ⟨z, ez, hz⟩ := hk _ (List.mem_of_getElem? e1)
      have ek := keyD_str ez
      subst ek
      refine ⟨rfl, yesT ?_⟩
      refine ⟨_, rfl, z, rfl, hz, fun G3 same => ⟨_, same _ _ made, ?_, Same.updNew (kept.trans same) hD, ?_⟩⟩
      · rw [trues_len]
        exact less_line (by omega)
      · rw [upd_same, trues_more]
    · rintro G ⟨kept, made⟩
      refine ⟨kept _ _ upd_same, D, _, rfl, SqL.of (by rw [upd_ne hDa]; exact made), ?_⟩
      rw [trues_all]
      exact ⟨_, rfl, if_tt rfl (q _ (Same.unlock kept hs))⟩
abbrev s_within : Stmt := top 26
abbrev N_within : List Str := ["thing", "levels", "kind", "parts", "part"]
abbrev P_within : List Str := ["thing", "levels"]
theorem sc_within : FnScope N_within P_within (defScope s_within) := ⟨rfl, rfl, rfl, by decide +kernel, rfl, by decide +kernel, by decide +kernel⟩
def spWithin (K : PySem.W.Frag) : Nat → Sp
  | 0 => fun _ _ _ _ => False
  | m + 1 => fun vs H Q _ => ∃ (v : V) (d : PyData) (l : Int), vs = [v, .int l] ∧ Dq K H v d ∧ Vd m d ∧ (m : Int) ≤ l ∧ ∀ H', Same H H' → Q (.bl true) H'
theorem ok_withinS {n : Nat} {f fk : Addr} {fd fdk : FuncData} (F : Fun K "_is_value_within" "_is_value_within" s_within f fd) (T : Bl mg) (D_kind_of : Def P w K mg base "kind_of" 3 P_kind_of (spKind K) fk fdk)
    (D_is_value_within : Def P w K mg base "_is_value_within" (n + 3) P_within (spWithin K n) f fd) : FnOk P w K mg base CX0 (n + 4) f fd P_within (spWithin K (n + 1)) := by
  refine F.ok sc_within (fun vs H Q E h => ?_) (fun cdv A outer s H vs Q E hr h => ?_)
  · obtain ⟨v, d, l, rfl, _⟩ := h
    rfl
  obtain ⟨v, d, l, rfl, hd, hv, hnl, q⟩ := h
  refine ⟨_, (pss_cons (ps_set (i := 2) sc_within.nd rfl (Or.inl rfl) (pe_call D_kind_of.ok (hr.mono (by first | decide | omega)) rfl D_kind_of.g D_kind_of.kp D_kind_of.b .nil pass0 (pa_cons (pv 0) pa_nil)))
    (pss_cons (ps_if (pt_cmpR op_eq (pv 2) pe_str (nomark _))
      (pss_one (ps_set (i := 3) sc_within.nd rfl (Or.inl rfl) (pe_callTy call_list_of (by rfl) T.list (by decide +kernel) (pa_cons (pv 0) pa_nil))))
      (pss_one (ps_if (pt_cmpR op_eq (pv 2) pe_str (nomark _))
      (pss_one (ps_set (i := 3) sc_within.nd rfl (Or.inl rfl) (pe_listVals rfl (by rfl) T.list (pv 0))))
      (pss_one (ps_ret (pe_cmpR op_notN (pv 2) pe_non (nomark _)))))))
    (pss_one (ps_ret (pe_and (pe_cmpR op_gt (pv 1) pe_int (nomark _)) (pe_one (pe_callB (cr_all rfl) (by rfl) T.all (by decide +kernel) (pa_cons (pe_lc (own := [("part", 4)]) (g := (gName 4)) (tt := tYes) rfl sc_within.nd (pi_list (pv 3)) (blkOk_by (own := [("part", 4)]) (N := N_within) (sc := defScope s_within) (by decide +kernel)) (fun _ _ _ _ _ => (pg_name (i := 4) sc_within.nd rfl (Or.inl rfl))) (fun _ _ _ _ _ => pts_nil) (fun _ _ _ _ _ => (pe_call D_is_value_within.ok (hr.mono (by first | decide | omega)) rfl D_is_value_within.g D_is_value_within.kp D_is_value_within.b .nil pass0 (pa_cons (pv 4) (pa_cons (pe_op op_sub (pv 1) pe_int) pa_nil))))) pa_nil)))))))), ?_⟩
  refine ⟨_, rfl, v, d, rfl, hd, hv.vk, fun H1 s1 => ?_⟩
  refine ⟨_, rfl, rfl, _, rfl, ?_⟩
  cases hd with
  | non => exact if_ff (show decide (V.str ("absent" : Str) = V.str ("list" : Str)) = false by decide) ⟨_, rfl, rfl, _, rfl, if_ff (show decide (V.str ("absent" : Str) = V.str ("record" : Str)) = false by decide) ⟨_, rfl, rfl, q _ s1⟩⟩
  | bl b => exact if_ff (show decide (V.str ("flag" : Str) = V.str ("list" : Str)) = false by decide) ⟨_, rfl, rfl, _, rfl, if_ff (show decide (V.str ("flag" : Str) = V.str ("record" : Str)) = false by decide) ⟨_, rfl, rfl, q _ s1⟩⟩
  | int i => exact if_ff (show decide (V.str ("number" : Str) = V.str ("list" : Str)) = false by decide) ⟨_, rfl, rfl, _, rfl, if_ff (show decide (V.str ("number" : Str) = V.str ("record" : Str)) = false by decide) ⟨_, rfl, rfl, q _ s1⟩⟩
  | str x => exact if_ff (show decide (V.str ("text" : Str) = V.str ("list" : Str)) = false by decide) ⟨_, rfl, rfl, _, rfl, if_ff (show decide (V.str ("text" : Str) = V.str ("record" : Str)) = false by decide) ⟨_, rfl, rfl, q _ s1⟩⟩
  | lst => exact hv.vk.elim
  | tup hs ha =>
    rename_i a xs ds
    match n, D_is_value_within, hr, hnl, hv with
    | 0, _, _, _, hv => simp [Vd] at hv
    | m + 1, D, hr, hnl, hv =>
      have hv' : ds.length ≤ 3 ∧ ∀ x ∈ ds, Vd m x := by simpa only [Vd] using hv
      have el := DqAll.length ha
      refine if_tt rfl ⟨_, rfl, a, xs, rfl, .inr (SqT.of (s1 _ _ hs)), fun l hl => ?_⟩
      refine ⟨_, rfl, _, _, rfl, rfl, _, rfl, if_tt (decide_eq_true (by omega)) ?_⟩
      refine ⟨_, rfl, l, rfl, ⟨_, SqL.of upd_same⟩, fun D2 hD => ?_⟩
      refine lc_it (walk_list (K := K) (a := l) (xs := xs)) (fun i G => Same (upd H1 l (.lst xs)) G ∧ G D2 = some (.lst (trues i))) ⟨same_new hD _, upd_same⟩ (fun i G _ p => SqL.of (p.1 _ _ upd_same)) ?_ ?_
      · rintro i x G2 G hi ⟨kept, made⟩ ⟨rfl, hx⟩
        obtain ⟨d, e1, e2⟩ := DqAll.get ha hx
        have e3 := hv'.2 d (List.mem_of_getElem? e1)
        refine ⟨rfl, yesT ?_⟩
        refine ⟨_, rfl, _, rfl, _, _, rfl, rfl, x, d, _, rfl, Dq.same (s1.trans ((same_new hl _).trans kept)) _ _ e2, e3, by omega, fun G3 same => ⟨_, same _ _ made, ?_, Same.updNew (kept.trans same) hD, ?_⟩⟩
        · rw [trues_len]
          refine less_line ?_
          omega
        · rw [upd_same, trues_more]
      · rintro G ⟨kept, made⟩
        refine ⟨D2, _, rfl, SqL.of made, ?_⟩
        rw [trues_all]
        exact q _ (s1.trans ((same_new hl _).trans kept))
  | dct hs ha => 
    rename_i a kvs ds
    match n, D_is_value_within, hr, hnl, hv with
    | 0, _, _, _, hv => simp [Vd] at hv
    | m + 1, D, hr, hnl, hv =>
      have hv' : (ds.length ≤ 3 ∧ (ds.map (·.1)).Nodup ∧ ∀ kv ∈ ds, ∃ z, kv.1 = .str z ∧ IsNm z) ∧ ∀ kv ∈ ds, Vd m kv.2 := by simpa only [Vd] using hv
      have el := DqKv.length ha
      refine if_ff (show decide (V.str ("record" : Str) = V.str ("list" : Str)) = false by decide) ⟨_, rfl, rfl, _, rfl, if_tt rfl ⟨_, rfl, a, kvs, rfl, s1 _ _ hs, fun l hl => ?_⟩⟩
      refine ⟨_, rfl, _, _, rfl, rfl, _, rfl, if_tt (decide_eq_true (by omega)) ?_⟩
      refine ⟨_, rfl, l, rfl, ⟨_, SqL.of upd_same⟩, fun D2 hD => ?_⟩
      refine lc_it (walk_list (K := K) (a := l) (xs := kvs.map Prod.snd)) (fun i G => Same (upd H1 l (.lst (kvs.map Prod.snd))) G ∧ G D2 = some (.lst (trues i))) ⟨same_new hD _, upd_same⟩ (fun i G _ p => SqL.of (p.1 _ _ upd_same)) ?_ ?_
      · rintro i x G2 G hi ⟨kept, made⟩ ⟨rfl, hx⟩
        rw [List.length_map] at hi
        obtain ⟨d, e2, e3⟩ : ∃ d, Dq K H x d ∧ Vd m d := by
          rw [List.getElem?_map] at hx
          obtain ⟨⟨k, y⟩, hk, rfl⟩ := Option.map_eq_some_iff.mp hx
          obtain ⟨d, e1, e2⟩ := DqKv.get ha hk
          exact ⟨d, e2, hv'.2 _ (List.mem_of_getElem? e1)⟩
        refine ⟨rfl, yesT ?_⟩
        refine ⟨_, rfl, _, rfl, _, _, rfl, rfl, x, d, _, rfl, Dq.same (s1.trans ((same_new hl _).trans kept)) _ _ e2, e3, by omega, fun G3 same => ⟨_, same _ _ made, ?_, Same.updNew (kept.trans same) hD, ?_⟩⟩
        · rw [trues_len]
          refine less_line ?_
          omega
        · rw [upd_same, trues_more]
      · rintro G ⟨kept, made⟩
        refine ⟨D2, _, rfl, SqL.of made, ?_⟩
        rw [trues_all]
        exact q _ (s1.trans ((same_new hl _).trans kept))
theorem ok_within {f fk : Addr} {fd fdk : FuncData} (F : Fun K "_is_value_within" "_is_value_within" s_within f fd) (T : Bl mg) (g : mg "_is_value_within" = some (.ref f)) (b : Binds K fd P_within []) (D_kind_of : Def P w K mg base "kind_of" 3 P_kind_of (spKind K) fk fdk) :
    ∀ n : Nat, FnOk P w K mg base CX0 (n + 3) f fd P_within (spWithin K n)
  | 0 => ⟨fun _ _ _ _ h => h.elim, fun _ _ _ _ _ _ _ _ _ _ _ _ _ h => h.elim⟩
  | n + 1 => ok_withinS F T D_kind_of ⟨g, F.kp, b, ok_within F T g b D_kind_of n⟩
abbrev s_is_value : Stmt := top 24
abbrev N_is_value : List Str := ["thing"]
abbrev P_is_value : List Str := ["thing"]
theorem sc_is_value : FnScope N_is_value P_is_value (defScope s_is_value) := ⟨rfl, rfl, rfl, by decide +kernel, rfl, by decide +kernel, by decide +kernel⟩
def spIsValue (K : PySem.W.Frag) : Sp := fun vs H Q _ => ∃ (v : V) (d : PyData), vs = [v] ∧ Dq K H v d ∧ Vd 6 d ∧ ∀ H', Same H H' → Q (.bl true) H'
theorem ok_is_value {f g : Addr} {fd gd : FuncData} (F : Fun K "is_value" "is_value" s_is_value f fd) (L : Lm mg tk) (D_is_value_within : Def P w K mg base "_is_value_within" 10 P_within (spWithin K 7) g gd) : FnOk P w K mg base CX0 11 f fd P_is_value (spIsValue K) := by
  refine F.ok sc_is_value (fun vs H Q E h => ?_) (fun cdv A outer s H vs Q E hr h => ?_)
  · obtain ⟨v, d, rfl, _⟩ := h
    rfl
  obtain ⟨v, d, rfl, hd, hv, q⟩ := h
  refine ⟨_, (pss_one (ps_ret (pe_call D_is_value_within.ok (hr.mono (by first | decide | omega)) rfl D_is_value_within.g D_is_value_within.kp D_is_value_within.b .nil pass0 (pa_cons (pv 0) (pa_cons (pe_glob (v := .int 6) rfl L.MAX_LEVELS ⟨_, rfl⟩) pa_nil))))), ?_⟩
  exact ⟨_, rfl, v, d, 6, rfl, hd, hv, by decide, q⟩
end
end KX

namespace KX
open PySem PySem.Spec L2 PyProof.Rows CwR
/-! ### names of a record -/
theorem lookup_nd {β : Type} : ∀ {l : List (Str × β)} {y : Str} {z : β}, (l.map (·.1)).Nodup → (y, z) ∈ l → l.lookup y = some z
  | (a, b) :: r, y, z, nd, h => by
    obtain ⟨nin, nd'⟩ := List.nodup_cons.mp nd
    rw [List.lookup_cons]
    rcases List.mem_cons.mp h with e | inr
    · cases e
      simp
    · have ne : (y == a) = false := by
        rw [beq_eq_false_iff_ne]
        intro e
        exact nin (List.mem_map.mpr ⟨(y, z), inr, e⟩)
      rw [ne]
      exact lookup_nd nd' inr
/-- a record's keys, as texts -/
structure Rec (kvs : List (PyData × PyData)) : Prop where
  few : kvs.length ≤ 3
  nd : (kvs.map (·.1)).Nodup
  nm : ∀ kv ∈ kvs, ∃ z, kv.1 = .str z ∧ IsNm z
theorem Rec.keys {kvs : List (PyData × PyData)} (r : Rec kvs) : kvs.map (·.1) = (kvs.map fun kv => keyS kv.1).map PyData.str := by
  rw [List.map_map]
  refine List.map_congr_left fun kv h => ?_
  obtain ⟨z, e, _⟩ := r.nm kv h
  show kv.1 = .str (keyS kv.1)
  rw [e]
  rfl
theorem Rec.ndS {kvs : List (PyData × PyData)} (r : Rec kvs) : (kvs.map fun kv => keyS kv.1).Nodup := by
  have h := r.nd
  rw [r.keys] at h
  unfold List.Nodup at h ⊢
  rw [List.pairwise_map] at h
  exact h.imp fun ne e => ne (congrArg _ e)
theorem Rec.ndL {kvs : List (PyData × PyData)} (r : Rec kvs) : ((litKv kvs).map (·.1)).Nodup := by
  rw [litKv_map, List.map_map]
  exact r.ndS
/-- the literal by a name -/
def byN (kvs : List (PyData × PyData)) (y : Str) : Str := ((litKv kvs).lookup y).getD ""
theorem Rec.byN {kvs : List (PyData × PyData)} (r : Rec kvs) : ∀ x ∈ litKv kvs, x.2 = byN kvs x.1 := by
  rintro ⟨y, z⟩ h
  unfold KX.byN
  rw [lookup_nd r.ndL h]
  rfl
theorem Rec.byN' {kvs : List (PyData × PyData)} (r : Rec kvs) {y : Str} {d : PyData} (h : (PyData.str y, d) ∈ kvs) : lit d = KX.byN kvs y := by
  refine r.byN (y, lit d) ?_
  rw [litKv_map]
  exact List.mem_map.mpr ⟨_, h, rfl⟩
theorem DqKv.keys {K : PySem.W.Frag} {H : Hp} : ∀ {vs : List (Key × V)} {ds : List (PyData × PyData)}, DqKv K H vs ds → (∀ kv ∈ ds, ∃ z, kv.1 = .str z ∧ IsNm z) → vs.map (·.1) = (ds.map fun kv => keyS kv.1).map Sum.inr
  | _, _, .nil, _ => rfl
  | (k, v) :: vs, _, .cons h1 h2, all => by
    have ih := DqKv.keys h2 fun kv h => all kv (List.mem_cons_of_mem _ h)
    obtain ⟨z, e, _⟩ := all _ List.mem_cons_self
    have e := keyD_str e
    subst e
    rw [List.map_cons, List.map_cons, List.map_cons, ih]
    rfl
/-- what stands at a name -/
theorem DqKv.at' {K : PySem.W.Frag} {H : Hp} : ∀ {vs : List (Key × V)} {ds : List (PyData × PyData)} {y : Str}, DqKv K H vs ds → y ∈ (ds.map fun kv => keyS kv.1) → (∀ kv ∈ ds, ∃ z, kv.1 = .str z ∧ IsNm z) → ∃ v d, valV vs (Sum.inr y) = some v ∧ Dq K H v d ∧ (PyData.str y, d) ∈ ds
  | _, _, y, .nil, h, _ => by cases h
  | (k, v) :: vs, _, y, .cons (d := d) (ds := rest) h1 h2, h, all => by
    obtain ⟨z, e, _⟩ := all _ List.mem_cons_self
    have e := keyD_str e
    subst e
    by_cases c : z = y
    · subst c
      exact ⟨v, d, valV_pos rfl, h1, List.mem_cons_self⟩
    · have h' : y ∈ rest.map fun kv => keyS kv.1 := by
        rw [List.map_cons] at h
        rcases List.mem_cons.mp h with e | h
        · exact absurd e.symm c
        · exact h
      obtain ⟨v', d', e1, e2, e3⟩ := DqKv.at' h2 h' fun kv h => all kv (List.mem_cons_of_mem _ h)
      refine ⟨v', d', ?_, e2, List.mem_cons_of_mem _ e3⟩
      have ne : ¬ (Sum.inr z : Key) = Sum.inr y := fun q => c (Sum.inr.inj q)
      rw [← e1]
      simp [valV, List.find?_cons, ne]
theorem Vk.rec {kvs : List (PyData × PyData)} (h : Vk (.dict kvs)) : Rec kvs := ⟨h.1, h.2.1, h.2.2⟩
theorem fits_join {zs : List Str} {B : Nat} (few : zs.length ≤ 3) (each : ∀ z ∈ zs, z.length ≤ B) (small : B ≤ 5000000) : (zs.map (·.length)).sum + zs.length * (("," : Str)).length ≤ 16777216 := by
  have s := sum_le (f := fun x : Str => x.length) each
  have m : zs.length * B ≤ 3 * B := Nat.mul_le_mul_right _ few
  have e : (("," : Str)).length = 1 := rfl
  rw [e]
  omega
theorem Lb_mono : ∀ {n m : Nat}, n ≤ m → Lb n ≤ Lb m
  | n, 0, h => by
    have : n = 0 := by omega
    subst this
    exact Nat.le_refl _
  | n, m + 1, h => by
    by_cases c : n = m + 1
    · subst c
      exact Nat.le_refl _
    · have ih := Lb_mono (n := n) (m := m) (by omega)
      show Lb n ≤ 3 * (Lb m + 20) + 2
      omega
theorem Lb6 : Lb 6 = 4396558 + 0 ∨ Lb 6 ≤ 4500000 := .inr (by decide)
theorem Lb_small {n : Nat} (h : n ≤ 6) : Lb n ≤ 4500000 := Nat.le_trans (Lb_mono h) (by decide)
/-- str(a text), str(a number) -/
theorem call_str_of {X : Cx} : CallR X (.type "str") (fun xs H Q => (∃ a : Str, xs = [.str a] ∧ Q (.str a) H) ∨ ∃ i : Int, xs = [.int i] ∧ i.natAbs ≤ 10 ^ 40 ∧ Q (.str (toString i)) H) := by
  intro pins s σ H xs us Q I r h
  rcases h with ⟨a, rfl, q⟩ | ⟨i, rfl, small, q⟩
  · exact SkE.call_str_str pins s σ H _ us Q I r ⟨a, rfl, q⟩
  · refine call_str_int pins s σ H _ us Q I r ⟨i, rfl, ?_, q⟩
    have l : i.natAbs < 2 ^ 200 := Nat.lt_of_le_of_lt small (by decide)
    by_cases z : i.natAbs = 0
    · rw [z]
      decide
    · have := (Nat.log2_lt z).mpr l
      omega
section
variable {base : Heap} {P : Program} {w : World} {K : PySem.W.Frag} {mg : Str → Option Value} {tk : Str → Tok}
abbrev s_wlit : Stmt := top 29
abbrev N_wlit : List Str := ["value", "kind", "part", "name"]
abbrev P_wlit : List Str := ["value"]
theorem sc_wlit : FnScope N_wlit P_wlit (defScope s_wlit) := ⟨rfl, rfl, rfl, by decide +kernel, rfl, by decide +kernel, by decide +kernel⟩
def spLit (K : PySem.W.Frag) : Nat → Sp
  | 0 => fun _ _ _ _ => False
  | m + 1 => fun vs H Q _ => ∃ (v : V) (d : PyData), vs = [v] ∧ Dq K H v d ∧ Vd m d ∧ m ≤ 6 ∧ ∀ H', Same H H' → Q (.str (lit d)) H'
theorem ok_wlitS {n : Nat} {f fk fw : Addr} {fd fdk fdw : FuncData} (F : Fun K "write_literal" "write_literal" s_wlit f fd) (T : Bl mg) (D_kind_of : Def P w K mg base "kind_of" 3 P_kind_of (spKind K) fk fdk)
    (D_write_text : Def P w K mg base "_write_text" 1 P_wtext (spStr fun z => "\"" ++ litT z ++ "\"") fw fdw) (D_write_literal : Def P w K mg base "write_literal" (n + 3) P_wlit (spLit K n) f fd) : FnOk P w K mg base CX0 (n + 4) f fd P_wlit (spLit K (n + 1)) := by
  refine F.ok sc_wlit (fun vs H Q E h => ?_) (fun cdv A outer s H vs Q E hr h => ?_)
  · obtain ⟨v, d, rfl, _⟩ := h
    rfl
  obtain ⟨v, d, rfl, hd, hv, n6, q⟩ := h
  refine ⟨_, (pss_cons (ps_set (i := 1) sc_wlit.nd rfl (Or.inl rfl) (pe_call D_kind_of.ok (hr.mono (by first | decide | omega)) rfl D_kind_of.g D_kind_of.kp D_kind_of.b .nil pass0 (pa_cons (pv 0) pa_nil)))
    (pss_cons (ps_if (pt_cmpR op_eq (pv 1) pe_str (nomark _))
      (pss_one (ps_ret (pe_call D_write_text.ok (hr.mono (by first | decide | omega)) rfl D_write_text.g D_write_text.kp D_write_text.b .nil pass0 (pa_cons (pv 0) pa_nil))))
      pss_nil)
    (pss_cons (ps_if (pt_cmpR op_eq (pv 1) pe_str (nomark _))
      (pss_one (ps_ret (pe_op op_add_str (pe_op op_add_str pe_str (pe_join pe_str (pe_lc (own := [("part", 2)]) (g := (gName 2)) (tt := tYes) rfl sc_wlit.nd (pi_tup (pv 0)) (blkOk_by (own := [("part", 2)]) (N := N_wlit) (sc := defScope s_wlit) (by decide +kernel)) (fun _ _ _ _ _ => (pg_name (i := 2) sc_wlit.nd rfl (Or.inl rfl))) (fun _ _ _ _ _ => pts_nil) (fun _ _ _ _ _ => (pe_call D_write_literal.ok (hr.mono (by first | decide | omega)) rfl D_write_literal.g D_write_literal.kp D_write_literal.b .nil pass0 (pa_cons (pv 2) pa_nil)))))) pe_str)))
      pss_nil)
    (pss_cons (ps_if (pt_cmpR op_eq (pv 1) pe_str (nomark _))
      (pss_one (ps_ret (pe_op op_add_str (pe_op op_add_str pe_str (pe_join pe_str (pe_lc (own := [("name", 3)]) (g := (gName 3)) (tt := tYes) rfl sc_wlit.nd (pi_list (pe_callB (call_sortedD rfl) (by rfl) T.sorted (by decide +kernel) (pa_cons (pv 0) pa_nil))) (blkOk_by (own := [("name", 3)]) (N := N_wlit) (sc := defScope s_wlit) (by decide +kernel)) (fun _ _ _ _ _ => (pg_name (i := 3) sc_wlit.nd rfl (Or.inl rfl))) (fun _ _ _ _ _ => pts_nil) (fun _ _ _ _ _ => (pe_op op_add_str (pe_joined (PJ.cons pe_str (PJ.cons (pe_fmt (pv 3)) (PJ.cons pe_str PJ.nil)))) (pe_call D_write_literal.ok (hr.mono (by first | decide | omega)) rfl D_write_literal.g D_write_literal.kp D_write_literal.b .nil pass0 (pa_cons (pe_dget (hu_of hr) (pv 0) (pv 3) (fun _ _ => rfl)) pa_nil))))))) pe_str)))
      pss_nil)
    (pss_cons (ps_if (pt_cmpR op_eq (pv 1) pe_str (nomark _))
      (pss_one (ps_ret (pe_callTy call_str_of (by rfl) T.str (by decide +kernel) (pa_cons (pv 0) pa_nil))))
      pss_nil)
    (pss_cons (ps_if (pt_cmpR op_eq (pv 1) pe_str (nomark _))
      (pss_one (ps_ret (pe_ifExp (pt_val (pv 0)) pe_str pe_str)))
      pss_nil)
    (pss_one (ps_ret pe_str)))))))), ?_⟩
  refine ⟨_, rfl, v, d, rfl, hd, hv.vk, fun H1 s1 => ?_⟩
  refine ⟨_, rfl, rfl, _, rfl, ?_⟩
  have no : ∀ {a b : Str} {A B : Prop}, a ≠ b → B → if decide (V.str a = V.str b) = true then A else B := fun ne h => if_ff (decide_eq_false (by simpa using ne)) h
  cases hd with
  | non => 
    refine no (by simp only [kindS]; decide) ⟨_, rfl, rfl, _, rfl, no (by simp only [kindS]; decide) ⟨_, rfl, rfl, _, rfl, no (by simp only [kindS]; decide) ⟨_, rfl, rfl, _, rfl, no (by simp only [kindS]; decide) ⟨_, rfl, rfl, _, rfl, no (by simp only [kindS]; decide) ?_⟩⟩⟩⟩
    have z := q _ s1
    simp only [lit] at z
    exact z
  | bl b =>
    refine no (by simp only [kindS]; decide) ⟨_, rfl, rfl, _, rfl, no (by simp only [kindS]; decide) ⟨_, rfl, rfl, _, rfl, no (by simp only [kindS]; decide) ⟨_, rfl, rfl, _, rfl, no (by simp only [kindS]; decide) ⟨_, rfl, rfl, _, rfl, if_tt rfl ⟨_, rfl, _, rfl, ?_⟩⟩⟩⟩⟩
    have z := q _ s1
    simp only [lit] at z
    cases b
    · exact iteF z
    · exact iteT z
  | int i =>
    refine no (by simp only [kindS]; decide) ⟨_, rfl, rfl, _, rfl, no (by simp only [kindS]; decide) ⟨_, rfl, rfl, _, rfl, no (by simp only [kindS]; decide) ⟨_, rfl, rfl, _, rfl, if_tt rfl ⟨_, rfl, .inr ⟨i, rfl, by simpa only [Vd] using hv, ?_⟩⟩⟩⟩⟩
    have z := q _ s1
    simp only [lit] at z
    exact z
  | str x =>
    have hx : TxV x := by simpa only [Vd] using hv
    refine if_tt rfl ⟨_, rfl, x, rfl, hx.1, ?_⟩
    have z := q _ s1
    simp only [lit] at z
    exact z
  | lst => exact hv.vk.elim
  | tup hs ha =>
    rename_i a xs ds
    match n, D_write_literal, hr, n6, hv with
    | 0, _, _, _, hv => simp [Vd] at hv
    | m + 1, D, hr, n6, hv =>
      have hv' : ds.length ≤ 3 ∧ ∀ x ∈ ds, Vd m x := by simpa only [Vd] using hv
      have el := DqAll.length ha
      refine no (by simp only [kindS]; decide) ⟨_, rfl, rfl, _, rfl, if_tt rfl ?_⟩
      refine ⟨⟨_, rfl⟩, _, rfl, a, rfl, ⟨_, SqT.of (s1 _ _ hs)⟩, fun D2 new => ?_⟩
      refine lc_it (walk_tup (K := K) (a := a) (xs := xs)) (fun i G => Same H1 G ∧ G D2 = some (.lst ((ds.take i).map fun d => .str (lit d)))) ⟨same_new new _, upd_same⟩ (fun i G _ p => SqT.of (p.1 _ _ (s1 _ _ hs))) ?_ ?_
      · rintro i x G2 G hi ⟨kept, made⟩ ⟨rfl, hx⟩
        obtain ⟨d, e1, e2⟩ := DqAll.get ha hx
        refine ⟨rfl, yesT ⟨_, rfl, x, d, rfl, Dq.same (s1.trans kept) _ _ e2, hv'.2 d (List.mem_of_getElem? e1), by omega, fun G3 same => ⟨_, same _ _ made, ?_, Same.updNew (kept.trans same) new, ?_⟩⟩⟩
        · rw [List.length_map, List.length_take]
          exact less_line (by omega)
        · rw [upd_same, List.take_succ, e1, List.map_append]
          rfl
      · rintro G ⟨kept, made⟩
        rw [List.take_of_length_le (by omega)] at made
        have each : ∀ z ∈ ds.map lit, z.length ≤ Lb m := by
          intro z hz
          obtain ⟨d, hd, rfl⟩ := List.mem_map.mp hz
          exact lit_len m d (hv'.2 d hd)
        have long := lit_len (m + 1) (.tuple ds) hv
        have z := q G (s1.trans kept)
        simp only [lit, litL_map] at z long
        have l6 := Lb_small (n := m + 1) (by omega)
        rw [len_app, len_app] at long
        refine ⟨"," , D2, ds.map lit, rfl, rfl, .inl (SqL.of (by rw [List.map_map]; exact made)), fits_join (by rw [List.length_map]; exact hv'.1) each (Nat.le_trans (Lb_small (n := m) (by omega)) (by decide)), ?_⟩
        refine ⟨_, _, rfl, rfl, ?_, _, _, rfl, rfl, ?_, z⟩
        · show (("[" : Str)).length + _ ≤ 16777216
          omega
        · rw [len_app]
          show _ + (("]" : Str)).length ≤ 16777216
          omega
  | dct hs ha =>
    rename_i a kvs ds
    match n, D_write_literal, hr, n6, hv with
    | 0, _, _, _, hv => simp [Vd] at hv
    | m + 1, D, hr, n6, hv =>
      have hv' : (ds.length ≤ 3 ∧ (ds.map (·.1)).Nodup ∧ ∀ kv ∈ ds, ∃ z, kv.1 = .str z ∧ IsNm z) ∧ ∀ kv ∈ ds, Vd m kv.2 := by simpa only [Vd] using hv
      have rc : Rec ds := ⟨hv'.1.1, hv'.1.2.1, hv'.1.2.2⟩
      have el := DqKv.length ha
      have ek := DqKv.keys ha rc.nm
      refine no (by simp only [kindS]; decide) ⟨_, rfl, rfl, _, rfl, no (by simp only [kindS]; decide) ⟨_, rfl, rfl, _, rfl, if_tt rfl ?_⟩⟩
      refine ⟨⟨_, rfl⟩, _, rfl, a, kvs, _, rfl, .inl (s1 _ _ hs), ek, by rw [List.length_map]; have := rc.few; omega, fun ys l perm srt newl => ?_⟩
      have s2 : Same H1 (upd H1 l (.lst (ys.map V.str))) := same_new newl _
      have yl : ys.length ≤ 3 := by rw [perm.length_eq, List.length_map]; exact rc.few
      refine ⟨l, rfl, ⟨_, SqL.of upd_same⟩, fun D2 new => ?_⟩
      refine lc_it (walk_list (K := K) (a := l) (xs := ys.map V.str)) (fun i G => Same (upd H1 l (.lst (ys.map V.str))) G ∧ G D2 = some (.lst ((ys.take i).map fun y => .str (rowS (y, byN ds y))))) ⟨same_new new _, upd_same⟩ (fun i G _ p => SqL.of (p.1 _ _ upd_same)) ?_ ?_
      · rintro i x G2 G hi ⟨kept, made⟩ ⟨rfl, hx⟩
        rw [List.length_map] at hi
        obtain ⟨y, ey, rfl⟩ : ∃ y, ys[i]? = some y ∧ V.str y = x := by
          rw [List.getElem?_map] at hx
          exact Option.map_eq_some_iff.mp hx
        have ym := perm.mem_iff.mp (List.mem_of_getElem? ey)
        obtain ⟨v, d, e1, e2, e3⟩ := DqKv.at' ha ym rc.nm
        have up := s1.trans (s2.trans kept)
        have len := nm_len (by obtain ⟨z, ez, nz⟩ := rc.nm _ e3; cases ez; exact nz : IsNm y)
        have dl := lit_len m d (hv'.2 _ e3)
        have l6 := Lb_small (n := m) (by omega)
        have row : rowS (y, byN ds y) = Str.empty ++ "\"" ++ y ++ "\":" ++ lit d := by
          rw [rc.byN' e3]
          rfl
        refine ⟨rfl, yesT ⟨_, rfl, (by show 1 ≤ sizeLine; decide), _, rfl, .inl ⟨y, rfl, Nat.le_of_lt (less_line (by omega)), _, rfl, ?_, _, rfl, ?_, ?_⟩⟩⟩
        · exact Nat.le_of_lt (less_line (by rw [len_app]; show 0 + 1 + y.length ≤ 1000; omega))
        · exact Nat.le_of_lt (less_line (by rw [len_app, len_app]; show 0 + 1 + y.length + 2 ≤ 1000; omega))
        refine ⟨_, rfl, _, rfl, a, v, rfl, ?_, ?_⟩
        · rw [← e1]
          exact DGet.k (k := Sum.inr y) (up _ _ hs)
        refine ⟨v, d, rfl, Dq.same up _ _ e2, hv'.2 _ e3, by omega, fun G3 same => ?_⟩
        refine ⟨_, _, rfl, rfl, ?_, _, same _ _ made, ?_, Same.updNew (kept.trans same) new, ?_⟩
        · rw [len_app, len_app]
          show 0 + 1 + y.length + 2 + (lit d).length ≤ 16777216
          omega
        · rw [List.length_map, List.length_take]
          exact less_line (by omega)
        · rw [upd_same, List.take_succ, ey, List.map_append, ← row]
          rfl
      · rintro G ⟨kept, made⟩
        rw [List.length_map, List.take_length] at made
        have same : (sortP (litKv ds)).map rowS = ys.map fun y => rowS (y, byN ds y) := by
          have p2 : ys.Perm ((litKv ds).map (·.1)) := by
            rw [litKv_map, List.map_map]
            exact perm
          rw [sortP_eq (byN ds) p2 srt rc.byN, List.map_map]
          rfl
        have long := lit_len (m + 1) (.dict ds) hv
        have z := q G (s1.trans (s2.trans kept))
        simp only [lit] at z long
        rw [same] at z long
        have l6 := Lb_small (n := m + 1) (by omega)
        have lm := Lb_small (n := m) (by omega)
        have each : ∀ z ∈ ys.map (fun y => rowS (y, byN ds y)), z.length ≤ Lb m + 15 := by
          intro z hz
          obtain ⟨y, hy, rfl⟩ := List.mem_map.mp hz
          obtain ⟨v, d, e1, e2, e3⟩ := DqKv.at' ha (perm.mem_iff.mp hy) rc.nm
          have len := nm_len (by obtain ⟨z, ez, nz⟩ := rc.nm _ e3; cases ez; exact nz : IsNm y)
          have dl := lit_len m d (hv'.2 _ e3)
          rw [← rc.byN' e3]
          unfold rowS
          rw [len_app, len_app, len_app]
          show 1 + y.length + 2 + (lit d).length ≤ _
          omega
        rw [len_app, len_app] at long
        refine ⟨"," , D2, ys.map (fun y => rowS (y, byN ds y)), rfl, rfl, .inl (SqL.of (by rw [List.map_map]; exact made)), fits_join (by rw [List.length_map]; exact yl) each (by omega), ?_⟩
        refine ⟨_, _, rfl, rfl, ?_, _, _, rfl, rfl, ?_, z⟩
        · show (("{" : Str)).length + _ ≤ 16777216
          omega
        · rw [len_app]
          show _ + (("}" : Str)).length ≤ 16777216
          omega
theorem ok_wlit {f fk fw : Addr} {fd fdk fdw : FuncData} (F : Fun K "write_literal" "write_literal" s_wlit f fd) (T : Bl mg) (g : mg "write_literal" = some (.ref f)) (b : Binds K fd P_wlit []) (D_kind_of : Def P w K mg base "kind_of" 3 P_kind_of (spKind K) fk fdk)
    (D_write_text : Def P w K mg base "_write_text" 1 P_wtext (spStr fun z => "\"" ++ litT z ++ "\"") fw fdw) : ∀ n : Nat, FnOk P w K mg base CX0 (n + 3) f fd P_wlit (spLit K n)
  | 0 => ⟨fun _ _ _ _ h => h.elim, fun _ _ _ _ _ _ _ _ _ _ _ _ _ h => h.elim⟩
  | n + 1 => ok_wlitS F T D_kind_of D_write_text ⟨g, F.kp, b, ok_wlit F T g b D_kind_of D_write_text n⟩
end
end KX

namespace KX
open PySem PySem.Spec L2 PyProof.Rows CwR
/-! ### a number's digits -/
theorem sign_of_digit {c : Char} (h : c.isDigit = true) : 48 ≤ c.toNat ∧ c.toNat ≤ 57 := by
  simp only [Char.isDigit, Bool.and_eq_true, decide_eq_true_eq] at h
  obtain ⟨a, b⟩ := h
  exact ⟨a, b⟩
theorem ql_of (s : String) : ql (Str.ofString s) = s.toList.map Char.toNat := by
  exact signs_ofString s
theorem repr_signs (n : Nat) : ∀ c ∈ ql (Str.ofString (Nat.repr n)), 48 ≤ c ∧ c ≤ 57 := by
  intro c hc
  rw [ql_of] at hc
  obtain ⟨ch, hch, rfl⟩ := List.mem_map.mp hc
  have e : (Nat.repr n).toList = Nat.toDigits 10 n := by
    show (String.ofList (Nat.toDigits 10 n)).toList = _
    simp
  rw [e] at hch
  exact sign_of_digit (Nat.isDigit_of_mem_toDigits (by decide) (by decide) hch)
theorem int_signs (i : Int) : ∀ c ∈ ql (Str.ofString (toString i)), AllowC c := by
  intro c hc
  cases i with
  | ofNat n =>
    have h := repr_signs n c hc
    exact .inr ⟨by omega, by omega, by omega⟩
  | negSucc n =>
    have e : toString (Int.negSucc n) = "-" ++ Nat.repr (n + 1) := rfl
    rw [e, ql_of, String.toList_append, List.map_append] at hc
    rcases List.mem_append.mp hc with hc | hc
    · have z : "-".toList.map Char.toNat = [45] := by decide
      rw [z] at hc
      rw [List.mem_singleton.mp hc]
      decide
    · have h := repr_signs (n + 1) c (by rw [ql_of]; exact hc)
      exact .inr ⟨by omega, by omega, by omega⟩
theorem int_txt {i : Int} (h : i.natAbs ≤ 10 ^ 40) : TxV (Str.ofString (toString i)) := ⟨by have := int_len h; have e : (Str.ofString (toString i)).length ≤ 42 := this; omega, int_signs i⟩
/-! ### escape -/
def txtS : PyData → Str
  | .str z => z
  | .int i => toString i
  | _ => ""
def escS (c : Str) (d : PyData) : Str := if c = "data" then lit d else if c = "text" then wText (txtS d) else if c = "attribute" then wAttr (txtS d) else codeS (txtS d)
/-- a text or a number -/
def Tn (d : PyData) : Prop := (∃ z, d = .str z ∧ TxV z) ∨ ∃ i : Int, d = .int i ∧ i.natAbs ≤ 10 ^ 40
theorem Tn.txt {d : PyData} (h : Tn d) : TxV (txtS d) := by
  rcases h with ⟨z, rfl, h⟩ | ⟨i, rfl, h⟩
  · exact h
  · exact int_txt h
/-- a context, and what fits it -/
def Ctx (c : Str) (d : PyData) : Prop := (c = "data" ∧ Vd 6 d) ∨ ((c = "text" ∨ c = "attribute" ∨ c = "part" ∨ c = "query") ∧ Tn d)
def gEsc {α : Type} : List α → List α → List α
  | [], [a, b] => [b, a]
  | _, _ => []
section
variable {X : Cx} {k : Nat} {f : Addr} {fd : FuncData} {ps ks : List Str} {sp : Sp} {x : Str} {p pos : Pos} {kws : List Keyword} {tk : TA} {g : List Value → List Value → List Value} {gV : List V → List V → List V}
/-- a if t else b, as a test -/
theorem pt_ifE {c b o : Expr} {tc tb to : TT} {pos : Pos} (hc : PT X c tc) (hb : PT X b tb) (ho : PT X o to) : PT X (.IfExp c b o pos) (fun σ H Q => tc σ H fun k H1 => if k = true then tb σ H1 Q else to σ H1 Q) := by
  constructor
  intro pins s σ H Q I want
  refine PyProof.Rows.isTrue_IfExp (thn (hc.run pins s σ H _ I want) ?_)
  rintro k s1 ⟨H1, J, q⟩
  cases k with
  | true => exact hb.run pins s1 σ H1 Q J (by rw [if_pos rfl] at q; exact q)
  | false => exact ho.run pins s1 σ H1 Q J (by rw [if_neg Bool.false_ne_true] at q; exact q)
/-- f(k = v, ..) without other arguments -/
theorem pe_callKw (F : FnOk X.prog X.w X.K X.mg X.base CX0 k f fd ps sp) (room : Room k X.A) (isG : Gl X x) (there : X.mg x = some (.ref f)) (keep : PySem.W.keepIn X.K (.ref f) = true) (hb : KBinds X.K fd ps ks g gV)
    (hkw : PK X kws tk) (named : (backToKw pos (keywordEach kws X.env)).all (·.1.isSome) = true := by rfl) (names : (backToKw pos (keywordEach kws X.env)).filterMap (·.1) = ks := by rfl)
    (hdb : (x == ("__debug__" : Str)) = false := by decide) (plain : ((backTo pos (starEach [] X.env)).any (·.1) || (backToKw pos (keywordEach kws X.env)).any (·.1.isNone)) = false := by rfl) :
    PE X (.Call (.Name x p) [] kws pos) (fun σ H Q => tk σ H fun zs H1 => sp (gV [] zs) H1 Q E0) := by
  constructor
  intro pins s σ H Q I want
  refine wpAny_Call_Name_kw (ld_glob I isG there ?_ hdb)
  refine PySem.W.callWith_KW0 (h₀ := X.base) I.ok.mod.kin keep named (thn (hkw.run pos pins s σ H _ I want) ?_) plain
  rintro ws s1 ⟨zs, H1, J, rel, q⟩
  rw [names]
  exact ⟨J.kIn, run_fnk (us := []) (vs := []) F room hb pass0 J .nil rel q⟩
end
def spEsc (K : PySem.W.Frag) : Sp := fun vs H Q _ => ∃ (c : Str) (v : V) (d : PyData), vs = [.str c, v] ∧ Dq K H v d ∧ Ctx c d ∧ ∀ H', Same H H' → Q (.str (escS c d)) H'
end KX

namespace KX
open PySem PySem.Spec L2 PyProof.Rows CwR
/-! ### the law's own code -/
def abc : Str := "abcdefghijklmnopqrstuvwxyzABCDEFGHIJKLMNOPQRSTUVWXYZ0123456789-_."
theorem abc_up : ∀ c, c < 128 → decide (c ∈ abc.cps.toList) = upC c := by decide +kernel
def hexes : Str := "0123456789abcdef"
theorem hexes_at : ∀ d, d < 16 → hexes.cps.toList[d]? = some (dig16 d) := by decide +kernel
def codeL (l : List Nat) : Str := Txt.join "" (l.map codeC)
theorem codeL_ql (l : List Nat) : ql (codeL l) = (l.map fun c => ql (codeC c)).flatten := by
  unfold codeL
  rw [ql_join0, List.map_map]
  rfl
theorem codeL_snoc (l : List Nat) (c : Nat) : codeL (l ++ [c]) = codeL l ++ codeC c := by
  refine ql_ext ?_
  rw [ql_app, codeL_ql, codeL_ql, List.map_append, List.flatten_append]
  simp
theorem codeL_nil : codeL [] = "" := ql_ext (by rw [codeL_ql]; rfl)
theorem codeL_len (l : List Nat) : (codeL l).length ≤ 3 * l.length := by
  induction l with
  | nil => rw [codeL_nil]; exact Nat.le_refl _
  | cons c l ih =>
    have e : (codeL (c :: l)).length = (codeC c).length + (codeL l).length := by
      rw [ql_len, codeL_ql, List.map_cons, List.flatten_cons, List.length_append, ← codeL_ql, ← ql_len, ← ql_len]
    have := codeC_len c
    rw [e, List.length_cons]
    omega
section
variable {base : Heap} {P : Program} {w : World} {K : PySem.W.Frag} {mg : Str → Option Value} {tk : Str → Tok} {We Wc w0 w1 w2 w3 : Addr}
abbrev s_lcode : Stmt := top 55
abbrev N_lcode : List Str := ["_law_chars_here", "_law_found", "_law_sign", "_law_plain", "_law_low", "_law_high"]
abbrev P_lcode : List Str := ["_law_chars_here"]
theorem sc_lcode : FnScope N_lcode P_lcode (defScope s_lcode) := ⟨rfl, rfl, rfl, by decide +kernel, rfl, by decide +kernel, by decide +kernel⟩
theorem ok_lcode {f : Addr} {fd : FuncData} (F : Fun K "_law_code" "_law_code" s_lcode f fd) (T : Bl mg) : FnOk P w K mg base CX0 1 f fd P_lcode spCode := by
  refine F.ok sc_lcode (fun vs H Q E h => ?_) (fun cdv A outer s H vs Q E hr h => ?_)
  · obtain ⟨c, rfl, _⟩ := h
    rfl
  obtain ⟨z, rfl, ⟨z1, z2⟩, q⟩ := h
  refine ⟨_, (pss_cons (ps_set (i := 1) sc_lcode.nd rfl (Or.inl rfl) pe_str)
    (pss_cons (ps_for PassesOwn.never rfl (pi_str (pv 0)) (pg_name (i := 2) sc_lcode.nd rfl (Or.inl rfl))
      (pss_cons (ps_set (i := 3) sc_lcode.nd rfl (Or.inl rfl) (pe_cmpR op_in_sign (pv 2) pe_str (by with_unfolding_all rfl)))
    (pss_cons (ps_par rfl sc_lcode.nd (i := 4) (j := 5) rfl rfl (by decide) rfl rfl (pa_cons (pe_op op_mod (pe_callB call_ord (by rfl) T.ord (by decide +kernel) (pa_cons (pv 2) pa_nil)) pe_int) (pa_cons (pe_op op_fdiv (pe_callB call_ord (by rfl) T.ord (by decide +kernel) (pa_cons (pv 2) pa_nil)) pe_int) pa_nil)) (by rfl))
    (pss_one (ps_set (i := 1) sc_lcode.nd rfl (Or.inl rfl) (pe_op op_add_str (pv 1) (pe_ifExp (pt_val (pv 3)) (pv 2) (pe_op op_add_str (pe_op op_add_str pe_str (pe_ix ix_str pe_str (pv 5) (fun _ _ => rfl))) (pe_ix ix_str pe_str (pv 4) (fun _ _ => rfl))))))))))
    (pss_one (ps_ret (pv 1))))), ?_⟩
  refine ⟨_, rfl, z, rfl, ?_⟩
  refine for_it walk_str (fun i σ G => G = H ∧ ∃ v2 v3 v4 v5 : Option V, σ = [some (.str z), some (.str (codeL ((ql z).take i))), v2, v3, v4, v5]) ⟨rfl, none, none, none, none, by rw [List.take_zero, codeL_nil]; rfl⟩ (fun _ _ _ _ _ => trivial) ?_ ?_
  · rintro i x σ G2 G hi ⟨rfl, v2, v3, v4, v5, rfl⟩ ⟨rfl, c, at', rfl⟩
    have at2 : (ql z)[i]? = some c := by rw [← Array.getElem?_toList] at at'; exact at'
    have ok := z2 c (List.mem_of_getElem? at2)
    have lt : c < 128 := by rcases ok with h | h <;> omega
    have sz : z.cps.size = z.length := rfl
    have more : codeL ((ql z).take (i + 1)) = codeL ((ql z).take i) ++ codeC c := by
      rw [List.take_succ, at2]
      exact codeL_snoc _ c
    have len := codeL_len ((ql z).take i)
    rw [List.length_take] at len
    have d1 : hexes.cps.toList[c / 16]? = some (dig16 (c / 16)) := hexes_at _ (by omega)
    have d2 : hexes.cps.toList[c % 16]? = some (dig16 (c % 16)) := hexes_at _ (by omega)
    have pl := abc_up c lt
    have a1 : atI hexes.cps.toList ((((⟨#[c]⟩ : Str).cps.getD 0 0 : Nat) : Int) / 16) = some (dig16 (c / 16)) := by
      show atI hexes.cps.toList ((c : Int) / 16) = _
      have e1 : (c : Int) / 16 = ((c / 16 : Nat) : Int) := by omega
      rw [e1]
      exact atI_nat d1
    have a2 : atI hexes.cps.toList ((((⟨#[c]⟩ : Str).cps.getD 0 0 : Nat) : Int) % 16) = some (dig16 (c % 16)) := by
      show atI hexes.cps.toList ((c : Int) % 16) = _
      have e1 : (c : Int) % 16 = ((c % 16 : Nat) : Int) := by omega
      rw [e1]
      exact atI_nat d2
    refine ⟨_, rfl, c, _, rfl, rfl, ?_⟩
    refine ⟨_, rfl, _, rfl, rfl, _, _, rfl, rfl, (by show (0 : Int) < 16; decide), _, rfl, _, rfl, rfl, _, _, rfl, rfl, ⟨by decide, by decide⟩, _, _, rfl, ?_⟩
    refine ⟨_, rfl, _, rfl, _, rfl, ?_⟩
    have fin : ∀ y : Str, y = codeC c → ∃ i1 j1 : Str, V.str (codeL ((ql z).take i)) = .str i1 ∧ V.str y = .str j1 ∧ i1.length + j1.length ≤ sizeLine ∧ G = G ∧ ∃ v2' v3' v4' v5' : Option V,
        ([some (.str z), some (.str (i1 ++ j1)), some (.str ⟨#[c]⟩), some (.bl (decide (c ∈ abc.cps.toList))), some (.int (((⟨#[c]⟩ : Str).cps.getD 0 0 : Nat) % 16 : Int)), some (.int (((⟨#[c]⟩ : Str).cps.getD 0 0 : Nat) / 16 : Int))] : L2.St) = [some (.str z), some (.str (codeL ((ql z).take (i + 1)))), v2', v3', v4', v5'] := by
      rintro y rfl
      have := codeC_len c
      refine ⟨_, _, rfl, rfl, Nat.le_of_lt (less_line (by omega)), rfl, ?_⟩
      rw [more]
      exact ⟨_, _, _, _, rfl⟩
    show if decide (c ∈ abc.cps.toList) = true then _ else _
    rw [pl]
    cases e : upC c with
    | true =>
      refine iteT ⟨_, rfl, ?_⟩
      exact fin ⟨#[c]⟩ (by unfold codeC; rw [e]; rfl)
    | false =>
      refine iteF ⟨_, rfl, hexes, _, dig16 (c / 16), rfl, rfl, (by show 16 ≤ sizeLine; decide), a1, _, _, rfl, rfl, (by show 2 ≤ sizeLine; decide), ?_⟩
      refine ⟨_, rfl, hexes, _, dig16 (c % 16), rfl, rfl, (by show 16 ≤ sizeLine; decide), a2, _, _, rfl, rfl, (by show 3 ≤ sizeLine; decide), ?_⟩
      exact fin ("~" ++ ⟨#[dig16 (c / 16)]⟩ ++ ⟨#[dig16 (c % 16)]⟩) (by unfold codeC; rw [e]; rfl)
  · rintro σ G ⟨rfl, v2, v3, v4, v5, rfl⟩
    have all : (ql z).take z.cps.size = ql z := List.take_of_length_le (Nat.le_of_eq rfl)
    exact ⟨_, by rw [all]; rfl, q _ (Same.refl _)⟩
end
end KX

namespace KX
open PySem PySem.Spec L2 PyProof.Rows CwR
section
variable {base : Heap} {P : Program} {w : World} {K : PySem.W.Frag} {mg : Str → Option Value} {tk : Str → Tok}
abbrev s_llit : Stmt := top 56
abbrev N_llit : List Str := ["_law_thing_here", "_law_chars_here", "_law_names", "_law_rows", "_law_each", "_law_word"]
abbrev P_llit : List Str := ["_law_thing_here"]
theorem sc_llit : FnScope N_llit P_llit (defScope s_llit) := ⟨rfl, rfl, rfl, by decide +kernel, rfl, by decide +kernel, by decide +kernel⟩
theorem ok_llitS {n : Nat} {f : Addr} {fd : FuncData} (F : Fun K "_law_literal" "_law_literal" s_llit f fd) (T : Bl mg) (D_literal : DefT P w K mg base "_law_literal" n P_llit (spLit K n) f fd) : FnT P w K mg base (n + 1) f fd P_llit (spLit K (n + 1)) := by
  refine Fun.tok F sc_llit (fun vs H Q E h => ?_) (fun cdv A outer s H vs Q hr h => ?_)
  · obtain ⟨v, d, rfl, _⟩ := h
    rfl
  obtain ⟨v, d, rfl, hd, hv, n6, q⟩ := h
  refine ⟨_, (psst_cons (PST.of (ps_if (PW.pt (pw_or (pt_cmpR op_isN (pv 0) pe_non (nomark _)) (pw_or1 (pt_val (pe_callB call_isi (by rfl) T.isinstance (by decide +kernel) (pa_cons (pv 0) (pa_cons (pe_bltn (v := .ty "bool") (by rfl) T.bool (by decide +kernel) rfl) pa_nil)))))))
      (pss_one (ps_ret (pe_ifExp (pt_cmpR op_isN (pv 0) pe_non (nomark _)) pe_str (pe_ix (ix_listK K rfl) (pe_lst (pa_cons pe_str (pa_cons pe_str pa_nil))) (pe_callTy call_int1 (by rfl) T.int (by decide +kernel) (pa_cons (pv 0) pa_nil)) (fun _ _ => rfl)))))
      pss_nil))
    (psst_cons (pst_if (pt_val (pe_callB call_isi (by rfl) T.isinstance (by decide +kernel) (pa_cons (pv 0) (pa_cons (pe_bltn (v := .ty "str") (by rfl) T.str (by decide +kernel) rfl) pa_nil))))
      (psst_cons (pst_set (i := 1) sc_llit.nd rfl (Or.inl rfl) (pet_replT (pet_replT (pet_replT (pet_replC (pv 0))))))
    (psst_one (PST.of (ps_ret (pe_op op_add_str (pe_op op_add_str pe_str (pv 1)) pe_str)))))
      psst_nil)
    (psst_cons (pst_if (pt_val (pe_callB call_isi (by rfl) T.isinstance (by decide +kernel) (pa_cons (pv 0) (pa_cons (pe_bltn (v := .ty "tuple") (by rfl) T.tuple (by decide +kernel) rfl) pa_nil))))
      (psst_one (pst_ret (pet_op op_add_str (pet_op op_add_str (PET.of pe_str) (pet_join pe_str (pet_lc (own := [("_law_each", 4)]) (g := (gName 4)) rfl sc_llit.nd (pi_tup (pv 0)) (blkOk_by (own := [("_law_each", 4)]) (N := N_llit) (sc := defScope s_llit) (by decide +kernel)) (fun _ _ _ _ _ => (pg_name (i := 4) sc_llit.nd rfl (Or.inl rfl))) (fun _ _ _ _ _ => (pet_call D_literal (hr.mono (by first | decide | omega)) rfl (pa_cons (pv 4) pa_nil)))))) (PET.of pe_str))))
      psst_nil)
    (psst_cons (pst_if (pt_val (pe_callB call_isi (by rfl) T.isinstance (by decide +kernel) (pa_cons (pv 0) (pa_cons (pe_bltn (v := .ty "dict") (by rfl) T.dict (by decide +kernel) rfl) pa_nil))))
      (psst_cons (PST.of (ps_set (i := 2) sc_llit.nd rfl (Or.inl rfl) (pe_callB cr_sortedS (by rfl) T.sorted (by decide +kernel) (pa_cons (pe_lock (pe_lc (own := [("_law_word", 5)]) (g := (gName 5)) (tt := tYes) rfl sc_llit.nd (pi_keys (pv 0)) (blkOk_by (own := [("_law_word", 5)]) (N := N_llit) (sc := defScope s_llit) (by decide +kernel)) (fun _ _ _ _ _ => (pg_name (i := 5) sc_llit.nd rfl (Or.inl rfl))) (fun _ _ _ _ _ => pts_nil) (fun _ _ _ _ _ => (pv 5)))) pa_nil))))
    (psst_cons (pst_setLc (i := 3) (own := [("_law_word", 5)]) (g := (gName 5)) rfl sc_llit.nd rfl rfl (sw_true rfl rfl rfl (by decide +kernel)) (pi_list (pv 2)) (blkOk_by (own := [("_law_word", 5)]) (N := N_llit) (sc := defScope s_llit) (by decide +kernel)) (fun _ _ _ _ _ => (pg_name (i := 5) sc_llit.nd rfl (Or.inl rfl))) (fun _ _ _ _ _ => (pet_op op_add_str (PET.of (pe_op op_add_str (pe_op op_add_str pe_str (pv 5)) pe_str)) (pet_call D_literal (hr.mono (by first | decide | omega)) rfl (pa_cons (pe_dget (hu_of hr) (pv 0) (pv 5) (fun _ _ => rfl)) pa_nil)))))
    (psst_one (PST.of (ps_ret (pe_op op_add_str (pe_op op_add_str pe_str (pe_join pe_str (pv 3))) pe_str))))))
      psst_nil)
    (psst_one (PST.of (ps_ret (pe_callTy call_str_of (by rfl) T.str (by decide +kernel) (pa_cons (pv 0) pa_nil))))))))), ?_⟩
  cases hd with
  | non =>
    have z := q _ (Same.refl H)
    simp only [lit] at z
    exact ⟨_, rfl, rfl, _, rfl, if_tt rfl ⟨_, rfl, rfl, _, rfl, if_tt rfl z⟩⟩
  | bl b =>
    refine ⟨_, rfl, rfl, _, rfl, if_ff rfl ⟨_, rfl, _, _, _, _, true, rfl, .ty _, .base (.bl _), kit_ty (by decide +kernel), _, rfl, if_tt rfl ?_⟩⟩
    refine ⟨_, rfl, rfl, _, rfl, if_ff rfl ⟨(by show 2 ≤ sizeLine; decide), fun l hl => ⟨_, rfl, .inr ⟨b, rfl, ?_⟩⟩⟩⟩
    have z := q _ (same_new hl (.lst [.str "false", .str "true"]))
    simp only [lit] at z
    refine ⟨l, _, _, .str (if b = true then "true" else "false"), rfl, rfl, SqL.of upd_same, ?_, z⟩
    cases b <;> rfl
  | int i =>
    refine ⟨_, rfl, rfl, _, rfl, if_ff rfl ⟨_, rfl, _, _, _, _, false, rfl, .ty _, .base (.int _), kit_ty (by decide +kernel), _, rfl, if_ff rfl ?_⟩⟩
    refine ⟨_, rfl, _, _, _, _, false, rfl, .ty _, .base (.int _), kit_ty (by decide +kernel), _, rfl, if_ff rfl ?_⟩
    refine ⟨_, rfl, _, _, _, _, false, rfl, .ty _, .base (.int _), kit_ty (by decide +kernel), _, rfl, if_ff rfl ?_⟩
    refine ⟨_, rfl, _, _, _, _, false, rfl, .ty _, .base (.int _), kit_ty (by decide +kernel), _, rfl, if_ff rfl ?_⟩
    have z := q _ (Same.refl H)
    simp only [lit] at z
    exact ⟨_, rfl, .inr ⟨i, rfl, by simpa only [Vd] using hv, z⟩⟩
  | str x =>
    have hx : TxV x := by simpa only [Vd] using hv
    have hl := litT_len hx.1
    have z := q _ (Same.refl H)
    simp only [lit] at z
    refine ⟨_, rfl, rfl, _, rfl, if_ff rfl ⟨_, rfl, _, _, _, _, false, rfl, .ty _, .base (.str _), kit_ty (by decide +kernel), _, rfl, if_ff rfl ?_⟩⟩
    refine ⟨_, rfl, _, _, _, _, true, rfl, .ty _, .base (.str _), kit_ty (by decide +kernel), _, rfl, if_tt rfl ?_⟩
    refine ⟨_, rfl, x, rfl, repl_fits hx.1 (by decide) (by decide), litA x, rfl, repl_fits (litA_len hx.1) (by decide) (by decide), litB x, rfl, repl_fits (litB_len hx.1) (by decide) (by decide), litC x, rfl, repl_fits (litC_len hx.1) (by decide) (by decide), ?_⟩
    refine ⟨_, rfl, _, _, rfl, rfl, ?_, _, _, rfl, rfl, ?_, z⟩
    · show 1 + (litT x).length ≤ 16777216
      omega
    · show (("\"" : Str) ++ litT x).length + 1 ≤ 16777216
      rw [len_app]
      show 1 + _ + 1 ≤ _
      omega
  | lst => exact hv.vk.elim
  | tup hs ha =>
    rename_i a xs ds
    match n, D_literal, hr, n6, hv with
    | 0, _, _, _, hv => simp [Vd] at hv
    | m + 1, D, hr, n6, hv =>
      have hv' : ds.length ≤ 3 ∧ ∀ x ∈ ds, Vd m x := by simpa only [Vd] using hv
      have el := DqAll.length ha
      refine ⟨_, rfl, rfl, _, rfl, if_ff rfl ⟨_, rfl, _, _, _, _, false, rfl, .ty _, .base (.tup hs), kit_ty (by decide +kernel), _, rfl, if_ff rfl ?_⟩⟩
      refine ⟨_, rfl, _, _, _, _, false, rfl, .ty _, .base (.tup hs), kit_ty (by decide +kernel), _, rfl, if_ff rfl ?_⟩
      refine ⟨_, rfl, _, _, _, _, true, rfl, .ty _, .base (.tup hs), kit_ty (by decide +kernel), _, rfl, if_tt rfl ?_⟩
      refine ⟨⟨_, rfl⟩, _, rfl, a, rfl, ⟨_, SqT.of hs⟩, fun D2 new => ?_⟩
      refine lc_it (walk_tup (K := K) (a := a) (xs := xs)) (fun i G => Same H G ∧ G D2 = some (.lst ((ds.take i).map fun d => .str (lit d)))) ⟨same_new new _, upd_same⟩ (fun i G _ p => SqT.of (p.1 _ _ hs)) ?_ ?_
      · rintro i x G2 G hi ⟨kept, made⟩ ⟨rfl, hx⟩
        obtain ⟨d, e1, e2⟩ := DqAll.get ha hx
        refine ⟨rfl, yesT ⟨_, rfl, x, d, rfl, Dq.same kept _ _ e2, hv'.2 d (List.mem_of_getElem? e1), by omega, fun G3 same => ⟨_, same _ _ made, ?_, Same.updNew (kept.trans same) new, ?_⟩⟩⟩
        · rw [List.length_map, List.length_take]
          exact less_line (by omega)
        · rw [upd_same, List.take_succ, e1, List.map_append]
          rfl
      · rintro G ⟨kept, made⟩
        rw [List.take_of_length_le (by omega)] at made
        have each : ∀ z ∈ ds.map lit, z.length ≤ Lb m := by
          intro z hz
          obtain ⟨d, hd, rfl⟩ := List.mem_map.mp hz
          exact lit_len m d (hv'.2 d hd)
        have long := lit_len (m + 1) (.tuple ds) hv
        have z := q G kept
        simp only [lit, litL_map] at z long
        have l6 := Lb_small (n := m + 1) (by omega)
        rw [len_app, len_app] at long
        refine ⟨"," , D2, ds.map lit, rfl, rfl, .inl (SqL.of (by rw [List.map_map]; exact made)), fits_join (by rw [List.length_map]; exact hv'.1) each (Nat.le_trans (Lb_small (n := m) (by omega)) (by decide)), ?_⟩
        refine ⟨_, _, rfl, rfl, ?_, _, _, rfl, rfl, ?_, z⟩
        · show (("[" : Str)).length + _ ≤ 16777216
          omega
        · rw [len_app]
          show _ + (("]" : Str)).length ≤ 16777216
          omega
  | dct hs ha =>
    rename_i a kvs ds
    match n, D_literal, hr, n6, hv with
    | 0, _, _, _, hv => simp [Vd] at hv
    | m + 1, D, hr, n6, hv =>
      have hv' : (ds.length ≤ 3 ∧ (ds.map (·.1)).Nodup ∧ ∀ kv ∈ ds, ∃ z, kv.1 = .str z ∧ IsNm z) ∧ ∀ kv ∈ ds, Vd m kv.2 := by simpa only [Vd] using hv
      have rc : Rec ds := ⟨hv'.1.1, hv'.1.2.1, hv'.1.2.2⟩
      have el := DqKv.length ha
      have ek := DqKv.keys ha rc.nm
      refine ⟨_, rfl, rfl, _, rfl, if_ff rfl ⟨_, rfl, _, _, _, _, false, rfl, .ty _, .base (.dK hs), kit_ty (by decide +kernel), _, rfl, if_ff rfl ?_⟩⟩
      refine ⟨_, rfl, _, _, _, _, false, rfl, .ty _, .base (.dK hs), kit_ty (by decide +kernel), _, rfl, if_ff rfl ?_⟩
      refine ⟨_, rfl, _, _, _, _, false, rfl, .ty _, .base (.dK hs), kit_ty (by decide +kernel), _, rfl, if_ff rfl ?_⟩
      refine ⟨_, rfl, _, _, _, _, true, rfl, .ty _, .base (.dK hs), kit_ty (by decide +kernel), _, rfl, if_tt rfl ?_⟩
      -- the names
      refine ⟨a, _, hs, trivial, fun od => ⟨_, rfl, a, od, rfl, .inl ⟨kvs, upd_same, fun D1 new1 => ?_⟩⟩⟩
      have d1a : D1 ≠ a := fun e => by
        rw [e, upd_same] at new1
        cases new1
      refine lc_it walk_keys (fun i G => Same (upd H a (.frz od (.dK kvs))) G ∧ G D1 = some (.lst (((ds.map fun kv => keyS kv.1).take i).map V.str))) ⟨same_new new1 _, upd_same⟩ (fun i G _ p => p.1 _ _ upd_same) ?_ ?_
      · rintro i x G2 G hi ⟨kept, made⟩ ⟨rfl, k, v, hkv, rfl⟩
        obtain ⟨d, e1, e2⟩ := DqKv.get ha hkv
        obtain ⟨z, ez, hz⟩ := rc.nm _ (List.mem_of_getElem? e1)
        have ek := keyD_str ez
        subst ek
        refine ⟨rfl, yesT ⟨_, rfl, _, made, ?_, Same.updNew kept new1, ?_⟩⟩
        · rw [List.length_map, List.length_take, List.length_map]
          exact less_line (by omega)
        · rw [upd_same, List.take_succ, List.getElem?_map, e1, List.map_append]
          rfl
      rintro G1 ⟨kept1, made1⟩
      have all1 : (ds.map fun kv => keyS kv.1).take kvs.length = ds.map fun kv => keyS kv.1 := List.take_of_length_le (by rw [List.length_map]; omega)
      rw [all1] at made1
      have s1 : Same H (upd G1 a (.dK kvs)) := Same.unlock kept1 hs
      refine ⟨kept1 _ _ upd_same, D1, _, rfl, SqL.of (by rw [upd_ne d1a]; exact made1), by rw [List.length_map]; have := rc.few; omega, fun ys l perm srt newl => ?_⟩
      obtain ⟨H1, eH1⟩ : ∃ H1, H1 = upd G1 a (.dK kvs) := ⟨_, rfl⟩
      rw [← eH1] at s1 newl ⊢
      have s2 : Same H1 (upd H1 l (.lst (ys.map V.str))) := same_new newl _
      have yl : ys.length ≤ 3 := by rw [perm.length_eq, List.length_map]; exact rc.few
      refine ⟨_, rfl, l, rfl, ⟨_, SqL.of upd_same⟩, fun D2 new => ?_⟩
      refine lc_it (walk_list (K := K) (a := l) (xs := ys.map V.str)) (fun i G => Same (upd H1 l (.lst (ys.map V.str))) G ∧ G D2 = some (.lst ((ys.take i).map fun y => .str (rowS (y, byN ds y))))) ⟨same_new new _, upd_same⟩ (fun i G _ p => SqL.of (p.1 _ _ upd_same)) ?_ ?_
      · rintro i x G2 G hi ⟨kept, made⟩ ⟨rfl, hx⟩
        rw [List.length_map] at hi
        obtain ⟨y, ey, rfl⟩ : ∃ y, ys[i]? = some y ∧ V.str y = x := by
          rw [List.getElem?_map] at hx
          exact Option.map_eq_some_iff.mp hx
        have ym := perm.mem_iff.mp (List.mem_of_getElem? ey)
        obtain ⟨v, d, e1, e2, e3⟩ := DqKv.at' ha ym rc.nm
        have up := s1.trans (s2.trans kept)
        have len := nm_len (by obtain ⟨z, ez, nz⟩ := rc.nm _ e3; cases ez; exact nz : IsNm y)
        have dl := lit_len m d (hv'.2 _ e3)
        have l6 := Lb_small (n := m) (by omega)
        have row : rowS (y, byN ds y) = "\"" ++ y ++ "\":" ++ lit d := by
          rw [rc.byN' e3]
          rfl
        refine ⟨rfl, yesT ⟨_, rfl, _, _, rfl, rfl, ?_, _, _, rfl, rfl, ?_, ?_⟩⟩
        · exact Nat.le_of_lt (less_line (by show 1 + y.length ≤ 1000; omega))
        · exact Nat.le_of_lt (less_line (by rw [len_app]; show 1 + y.length + 2 ≤ 1000; omega))
        refine ⟨_, rfl, _, rfl, a, v, rfl, ?_, ?_⟩
        · rw [← e1]
          exact DGet.k (k := Sum.inr y) (up _ _ hs)
        refine ⟨v, d, rfl, Dq.same up _ _ e2, hv'.2 _ e3, by omega, fun G3 same => ?_⟩
        refine ⟨_, _, rfl, rfl, ?_, _, same _ _ made, ?_, Same.updNew (kept.trans same) new, ?_⟩
        · rw [len_app, len_app]
          show 1 + y.length + 2 + (lit d).length ≤ 16777216
          omega
        · rw [List.length_map, List.length_take]
          exact less_line (by omega)
        · rw [upd_same, List.take_succ, ey, List.map_append, ← row]
          rfl
      · rintro G ⟨kept, made⟩
        rw [List.length_map, List.take_length] at made
        have same : (sortP (litKv ds)).map rowS = ys.map fun y => rowS (y, byN ds y) := by
          have p2 : ys.Perm ((litKv ds).map (·.1)) := by
            rw [litKv_map, List.map_map]
            exact perm
          rw [sortP_eq (byN ds) p2 srt rc.byN, List.map_map]
          rfl
        have long := lit_len (m + 1) (.dict ds) hv
        have z := q G (s1.trans (s2.trans kept))
        simp only [lit] at z long
        rw [same] at z long
        have l6 := Lb_small (n := m + 1) (by omega)
        have lm := Lb_small (n := m) (by omega)
        have each : ∀ z ∈ ys.map (fun y => rowS (y, byN ds y)), z.length ≤ Lb m + 15 := by
          intro z hz
          obtain ⟨y, hy, rfl⟩ := List.mem_map.mp hz
          obtain ⟨v, d, e1, e2, e3⟩ := DqKv.at' ha (perm.mem_iff.mp hy) rc.nm
          have len := nm_len (by obtain ⟨z, ez, nz⟩ := rc.nm _ e3; cases ez; exact nz : IsNm y)
          have dl := lit_len m d (hv'.2 _ e3)
          rw [← rc.byN' e3]
          unfold rowS
          rw [len_app, len_app, len_app]
          show 1 + y.length + 2 + (lit d).length ≤ _
          omega
        rw [len_app, len_app] at long
        refine ⟨⟨_, rfl⟩, _, rfl, "," , D2, ys.map (fun y => rowS (y, byN ds y)), rfl, rfl, .inl (SqL.of (by rw [List.map_map]; exact made)), fits_join (by rw [List.length_map]; exact yl) each (by omega), ?_⟩
        refine ⟨_, _, rfl, rfl, ?_, _, _, rfl, rfl, ?_, z⟩
        · show (("{" : Str)).length + _ ≤ 16777216
          omega
        · rw [len_app]
          show _ + (("}" : Str)).length ≤ 16777216
          omega
theorem ok_llit {f : Addr} {fd : FuncData} (F : Fun K "_law_literal" "_law_literal" s_llit f fd) (T : Bl mg) (g : mg "_law_literal" = some (.ref f)) (b : Binds K fd P_llit []) : ∀ n : Nat, FnT P w K mg base n f fd P_llit (spLit K n)
  | 0 => ⟨fun _ _ _ _ h => h.elim, fun _ _ _ _ _ _ _ _ _ _ _ _ _ h => h.elim⟩
  | n + 1 => ok_llitS F T ⟨g, F.kp, b, ok_llit F T g b n⟩
end
end KX

namespace KX
open PySem PySem.Spec L2 PyProof.Rows CwR
section
variable {X : Cx}
/-- a if t else b, a token being out -/
theorem pet_ifExp {c a b : Expr} {tA : TT} {ta tb : TE} {pos : Pos} (hc : PT X c tA) (ha : PET X a ta) (hb : PET X b tb) : PET X (.IfExp c a b pos) (tIf tA ta tb) := by
  intro pins s σ H Q out I want
  refine wpAny_IfExp (thnE (hc.run pins s σ H _ I want) ?_)
  rintro k s1 t1 ⟨H1, J, q⟩
  cases k with
  | true => exact ha pins s1 σ H1 Q (Nat.le_trans out t1) J q
  | false => exact hb pins s1 σ H1 Q (Nat.le_trans out t1) J q
/-- list(a text) -/
theorem call_listS (calm : X.calm = true) : CallR X (.type "list") (fun xs H Q => ∃ z : Str, xs = [.str z] ∧ z.length ≤ sizeLine ∧ ∀ l, H l = none → Q (.ref l) (upd H l (.lst ((ql z).map fun c => .str ⟨#[c]⟩)))) := by
  intro pins s σ H xs us Q I r h
  obtain ⟨z, rfl, short, q⟩ := h
  obtain ⟨u, rfl, t, rfl⟩ := vals1 r
  refine call_list_str (I.ok.hd calm) z t (hn := short) ?_
  intro h' tk acc n keeps made items
  refine ⟨.ref _, _, I.laid (t' := tk) (o := .lst ((ql z).map fun c => .str ⟨#[c]⟩)) keeps (Nat.le_refl _) ?_, rfl, q _ (I.hok.fresh (Nat.le_refl _))⟩
  refine ⟨by rw [List.length_map]; exact short, acc.toList, n, ?_, by rw [Array.toArray_toList]; exact made⟩
  have zl : (ql z).length = z.cps.size := rfl
  refine vals_of_at (by rw [List.length_map]; exact (zl.trans items.1.symm).trans Array.length_toList.symm) ?_
  intro j x u hx hu
  rw [Array.getElem?_toList] at hu
  obtain ⟨c, t', hc, rfl⟩ := items.2 j u hu
  rw [List.getElem?_map, show (ql z)[j]? = some c by rw [← hc, ← Array.getElem?_toList]] at hx
  cases hx
  exact ⟨t', rfl⟩
end
section
variable {base : Heap} {P : Program} {w : World} {K : PySem.W.Frag} {mg : Str → Option Value} {tk : Str → Tok}
abbrev s_lesc : Stmt := top 57
abbrev N_lesc : List Str := ["_law_where", "_law_thing_here", "_law_chars_here"]
abbrev P_lesc : List Str := ["_law_where", "_law_thing_here"]
theorem sc_lesc : FnScope N_lesc P_lesc (defScope s_lesc) := ⟨rfl, rfl, rfl, by decide +kernel, rfl, by decide +kernel, by decide +kernel⟩
theorem ok_lesc {f fl fc : Addr} {fd fdl fdc : FuncData} (F : Fun K "_law_escaped" "_law_escaped" s_lesc f fd) (T : Bl mg) (D_literal : DefT P w K mg base "_law_literal" 7 P_llit (spLit K 7) fl fdl) (D_code : Def P w K mg base "_law_code" 1 P_lcode spCode fc fdc) :
    FnOk P w K mg base CX0 8 f fd P_lesc (spEsc K) := by
  refine Fun.okT F sc_lesc (by decide +kernel) (by decide) (fun vs H Q E h => ?_) (fun cdv A outer s H vs Q E hr h => ?_)
  · obtain ⟨c, v, d, rfl, _⟩ := h
    rfl
  obtain ⟨c, v, d, rfl, hd, hc, q⟩ := h
  refine ⟨_, (psst_cons (pst_if (pt_cmpR op_eq (pv 0) pe_str (nomark _))
      (psst_one (pst_ret (pet_call D_literal (hr.mono (by first | decide | omega)) rfl (pa_cons (pv 1) pa_nil))))
      psst_nil)
    (psst_cons (PST.of (ps_set (i := 2) sc_lesc.nd rfl (Or.inl rfl) (pe_callTy call_str_of (by rfl) T.str (by decide +kernel) (pa_cons (pv 1) pa_nil))))
    (psst_cons (PST.of (ps_if (pt_cmpR (op_inK K rfl) (pv 0) (pe_lst (pa_cons pe_str (pa_cons pe_str pa_nil))) (by with_unfolding_all rfl))
      (pss_one (ps_ret (pe_call D_code.ok (hr.mono (by first | decide | omega)) rfl D_code.g D_code.kp D_code.b .nil pass0 (pa_cons (pv 2) pa_nil))))
      pss_nil))
    (psst_cons (pst_set (i := 2) sc_lesc.nd rfl (Or.inl rfl) (pet_replT (pet_replC (pv 2))))
    (psst_one (pst_ret (pet_ifExp (pt_cmpR op_eq (pv 0) pe_str (nomark _)) (pet_replC (pv 2)) (PET.of (pv 2))))))))), ?_⟩
  have yes : ∀ {a b : Str} {A B : Prop}, a = b → A → if decide (V.str a = V.str b) = true then A else B := fun e h => if_tt (decide_eq_true (by rw [e])) h
  have no : ∀ {a b : Str} {A B : Prop}, a ≠ b → B → if decide (V.str a = V.str b) = true then A else B := fun ne h => if_ff (decide_eq_false (by simpa using ne)) h
  rcases hc with ⟨rfl, hv⟩ | ⟨which, hn⟩
  · have e : escS "data" d = lit d := if_pos rfl
    rw [e] at q
    exact ⟨_, rfl, rfl, _, rfl, yes rfl ⟨_, rfl, v, d, rfl, hd, hv, by decide, q⟩⟩
  have nd : c ≠ "data" := by rcases which with rfl | rfl | rfl | rfl <;> decide
  have tx := hn.txt
  have inn : inV (.str c) [.str "part", .str "query"] = (decide (c = "part") || decide (c = "query")) := by
    rcases which with rfl | rfl | rfl | rfl <;> decide
  have codes : c = "part" ∨ c = "query" → escS c d = codeS (txtS d) := by
    rintro (rfl | rfl) <;> rfl
  refine ⟨_, rfl, rfl, _, rfl, no nd ?_⟩
  rcases hn with ⟨z, rfl, hz⟩ | ⟨i, rfl, hi⟩
  · cases hd
    refine ⟨_, rfl, .inl ⟨z, rfl, ?_⟩⟩
    refine ⟨_, rfl, (by show 2 ≤ sizeLine; decide), fun l hl => ⟨l, _, rfl, .inl (SqL.of upd_same), rfl, rfl, _, rfl, ?_⟩⟩
    have s1 := same_new hl (.lst [.str "part", .str "query"])
    show if inV (.str c) [.str "part", .str "query"] = true then _ else _
    rw [inn]
    by_cases cp : c = "part" ∨ c = "query"
    · rw [codes cp] at q
      refine if_tt (by rcases cp with rfl | rfl <;> decide) ⟨_, rfl, _, rfl, tx, fun H2 s2 => q _ (s1.trans s2)⟩
    · have ta : c = "text" ∨ c = "attribute" := by
        rcases which with h | h | h | h
        · exact .inl h
        · exact .inr h
        · exact absurd (.inl h) cp
        · exact absurd (.inr h) cp
      refine if_ff (by rcases ta with rfl | rfl <;> decide) ?_
      refine ⟨_, rfl, _, rfl, repl_fits6 tx.1 (by decide) (by decide), _, rfl, repl_fits6 (wText1_len tx.1) (by decide) (by decide), ?_⟩
      refine ⟨_, rfl, rfl, _, rfl, ?_⟩
      rcases ta with rfl | rfl
      · exact no (by decide) ⟨_, rfl, q _ s1⟩
      · exact yes rfl ⟨_, rfl, _, rfl, repl_fits6 (wText_len tx.1) (by decide) (by decide), q _ s1⟩
  · cases hd
    refine ⟨_, rfl, .inr ⟨i, rfl, hi, ?_⟩⟩
    refine ⟨_, rfl, (by show 2 ≤ sizeLine; decide), fun l hl => ⟨l, _, rfl, .inl (SqL.of upd_same), rfl, rfl, _, rfl, ?_⟩⟩
    have s1 := same_new hl (.lst [.str "part", .str "query"])
    show if inV (.str c) [.str "part", .str "query"] = true then _ else _
    rw [inn]
    by_cases cp : c = "part" ∨ c = "query"
    · rw [codes cp] at q
      refine if_tt (by rcases cp with rfl | rfl <;> decide) ⟨_, rfl, _, rfl, tx, fun H2 s2 => q _ (s1.trans s2)⟩
    · have ta : c = "text" ∨ c = "attribute" := by
        rcases which with h | h | h | h
        · exact .inl h
        · exact .inr h
        · exact absurd (.inl h) cp
        · exact absurd (.inr h) cp
      refine if_ff (by rcases ta with rfl | rfl <;> decide) ?_
      refine ⟨_, rfl, _, rfl, repl_fits6 tx.1 (by decide) (by decide), _, rfl, repl_fits6 (wText1_len tx.1) (by decide) (by decide), ?_⟩
      refine ⟨_, rfl, rfl, _, rfl, ?_⟩
      rcases ta with rfl | rfl
      · exact no (by decide) ⟨_, rfl, q _ s1⟩
      · exact yes rfl ⟨_, rfl, _, rfl, repl_fits6 (wText_len tx.1) (by decide) (by decide), q _ s1⟩
end
end KX

namespace KX
open PySem PySem.Spec L2 PyProof.Rows CwR
/-! ### trees -/
inductive Atr where
  | txt (n z : Str)
  | adr (ps : List Str) (qs : List (Str × Str))
inductive Node where
  | text (z : Str)
  | data (d : PyData)
  | elem (n : Str) (as : List Atr) (ns : List Node)
def pairD (q : Str × Str) : PyData := .tuple [.str q.1, .str q.2]
def adrD (ps : List Str) (qs : List (Str × Str)) : PyData := .tuple [.tuple (ps.map .str), .tuple (qs.map pairD)]
def Atr.d : Atr → PyData
  | .txt n z => .tuple [.str n, .str z]
  | .adr ps qs => .tuple [.str "href", adrD ps qs]
mutual
def Node.d : Node → PyData
  | .text z => .tuple [.str "text", .str z]
  | .data d => .tuple [.str "data", d]
  | .elem n as ns => .tuple [.str "element", .str n, .tuple (as.map Atr.d), .tuple (Node.ds ns)]
def Node.ds : List Node → List PyData
  | [] => []
  | x :: xs => x.d :: Node.ds xs
end
theorem ds_map : ∀ xs : List Node, Node.ds xs = xs.map Node.d
  | [] => by simp [Node.ds]
  | x :: xs => by simp [Node.ds, ds_map xs]
def treeD (xs : List Node) : PyData := .tuple (Node.ds xs)
/-! ### their pages -/
def wayS (z : Str) : Str := "/" ++ codeS z
def rowP (q : Str × Str) : Str := q.1 ++ "=" ++ codeS q.2
def adrS (ps : List Str) (qs : List (Str × Str)) : Str := if qs = [] then Txt.join "" (ps.map wayS) else Txt.join "" (ps.map wayS) ++ "?" ++ Txt.join ";" (qs.map rowP)
def Atr.name : Atr → Str
  | .txt n _ => n
  | .adr _ _ => "href"
def Atr.in' : Atr → Str
  | .txt _ z => wAttr z
  | .adr ps qs => adrS ps qs
def Atr.page (a : Atr) : Str := " " ++ a.name ++ "=\"" ++ a.in' ++ "\""
mutual
def Node.page : Node → Str
  | .text z => wText z
  | .data d => "<data>" ++ lit d ++ "</data>"
  | .elem n as ns => "<" ++ n ++ Txt.join "" (as.map Atr.page) ++ ">" ++ Txt.join "" (Node.pages ns) ++ ("</" ++ n ++ ">")
def Node.pages : List Node → List Str
  | [] => []
  | x :: xs => x.page :: Node.pages xs
end
theorem pages_map : ∀ xs : List Node, Node.pages xs = xs.map Node.page
  | [] => by simp [Node.pages]
  | x :: xs => by simp [Node.pages, pages_map xs]
def pageS (xs : List Node) : Str := Txt.join "" (Node.pages xs)
/-! ### what is one -/
def Atr.ok : Atr → Prop
  | .txt n z => IsNm n ∧ n ≠ "href" ∧ TxV z
  | .adr ps qs => ps ≠ [] ∧ ps.length ≤ 3 ∧ qs.length ≤ 3 ∧ (∀ z ∈ ps, TxV z) ∧ ∀ q ∈ qs, IsNm q.1 ∧ TxV q.2
def isTx : Node → Bool
  | .text _ => true
  | _ => false
def Apart (ns : List Node) : Prop := ∀ (i : Nat) (x y : Node), ns[i]? = some x → ns[i + 1]? = some y → ¬ (isTx x = true ∧ isTx y = true)
def Okn : Nat → Node → Prop
  | _, .text z => TxV z ∧ z ≠ ""
  | _, .data d => Vd 4 d
  | n + 1, .elem a as ns => (IsNm a ∧ a ≠ "data" ∧ as.length ≤ 3 ∧ (∀ x ∈ as, x.ok) ∧ ns.length ≤ 3 ∧ Apart ns ∧ (pageS ns).length ≤ 1000) ∧ ∀ x ∈ ns, Okn n x
  | 0, .elem _ _ _ => False
/-- a list of nodes -/
def Okt (n : Nat) (xs : List Node) : Prop := xs.length ≤ 3 ∧ Apart xs ∧ ∀ x ∈ xs, Okn n x
theorem Okn.elem {n : Nat} {a : Str} {as : List Atr} {ns : List Node} (h : Okn (n + 1) (.elem a as ns)) : IsNm a ∧ a ≠ "data" ∧ as.length ≤ 3 ∧ (∀ x ∈ as, x.ok) ∧ Okt n ns ∧ (pageS ns).length ≤ 1000 := by
  have h' : (IsNm a ∧ a ≠ "data" ∧ as.length ≤ 3 ∧ (∀ x ∈ as, x.ok) ∧ ns.length ≤ 3 ∧ Apart ns ∧ (pageS ns).length ≤ 1000) ∧ ∀ x ∈ ns, Okn n x := by simpa only [Okn] using h
  obtain ⟨⟨h1, h2, h3, h4, h5, h6, h7⟩, h8⟩ := h'
  exact ⟨h1, h2, h3, h4, ⟨h5, h6, h8⟩, h7⟩
theorem Okn.mk {n : Nat} {a : Str} {as : List Atr} {ns : List Node} (h1 : IsNm a) (h2 : a ≠ "data") (h3 : as.length ≤ 3) (h4 : ∀ x ∈ as, x.ok) (h5 : Okt n ns) (h6 : (pageS ns).length ≤ 1000) : Okn (n + 1) (.elem a as ns) := by
  simp only [Okn]
  exact ⟨⟨h1, h2, h3, h4, h5.1, h5.2.1, h6⟩, h5.2.2⟩
theorem Okn.up : ∀ {n : Nat} {x : Node}, Okn n x → Okn (n + 1) x
  | n, .text z, h => by simpa only [Okn] using h
  | n, .data d, h => by simpa only [Okn] using h
  | 0, .elem _ _ _, h => by simp [Okn] at h
  | n + 1, .elem a as ns, h => by
    obtain ⟨h1, h2, h3, h4, ⟨h5, h6, h7⟩, h8⟩ := h.elem
    exact .mk h1 h2 h3 h4 ⟨h5, h6, fun x hx => (h7 x hx).up⟩ h8
theorem Okt.up {n : Nat} {xs : List Node} (h : Okt n xs) : Okt (n + 1) xs := ⟨h.1, h.2.1, fun x hx => (h.2.2 x hx).up⟩
/-! ### lengths -/
theorem join_le {z : Str} {zs : List Str} {B n : Nat} (h : ∀ x ∈ zs, x.length ≤ B) (l : zs.length ≤ n) : (Txt.join z zs).length ≤ n * B + n * z.length := by
  have j := join_len z zs
  have s := sum_le (f := fun x : Str => x.length) h
  have m1 : zs.length * B ≤ n * B := Nat.mul_le_mul_right _ l
  have m2 : zs.length * z.length ≤ n * z.length := Nat.mul_le_mul_right _ l
  omega
theorem codeS_len {z : Str} (h : TxV z) : (codeS z).length ≤ 192 := by
  have l : ((ql z).map codeC).length ≤ 64 := by
    rw [List.length_map, ← ql_len]
    exact h.1
  have b : ∀ x ∈ (ql z).map codeC, x.length ≤ 3 := by
    intro x hx
    obtain ⟨c, _, rfl⟩ := List.mem_map.mp hx
    exact codeC_len c
  have j := join_le (z := "") b l
  have e : ("" : Str).length = 0 := rfl
  rw [e] at j
  exact j
theorem wayS_len {z : Str} (h : TxV z) : (wayS z).length ≤ 200 := by
  have := codeS_len h
  unfold wayS
  rw [len_app]
  show 1 + _ ≤ _
  omega
theorem rowP_len {q : Str × Str} (h : IsNm q.1) (h2 : TxV q.2) : (rowP q).length ≤ 210 := by
  have := codeS_len h2
  have := nm_len h
  unfold rowP
  rw [len_app, len_app]
  show _ + 1 + _ ≤ _
  omega
theorem ways_len {ps : List Str} (h : ∀ z ∈ ps, TxV z) (l : ps.length ≤ 3) : (Txt.join "" (ps.map wayS)).length ≤ 600 := by
  have b : ∀ x ∈ ps.map wayS, x.length ≤ 200 := by
    intro x hx
    obtain ⟨z, hz, rfl⟩ := List.mem_map.mp hx
    exact wayS_len (h z hz)
  exact join_le (z := "") b (by rw [List.length_map]; exact l)
theorem rows_len {qs : List (Str × Str)} (h : ∀ q ∈ qs, IsNm q.1 ∧ TxV q.2) (l : qs.length ≤ 3) : (Txt.join ";" (qs.map rowP)).length ≤ 633 := by
  have b : ∀ x ∈ qs.map rowP, x.length ≤ 210 := by
    intro x hx
    obtain ⟨q, hq, rfl⟩ := List.mem_map.mp hx
    exact rowP_len (h q hq).1 (h q hq).2
  exact join_le (z := ";") b (by rw [List.length_map]; exact l)
theorem adrS_len {ps : List Str} {qs : List (Str × Str)} (h1 : ∀ z ∈ ps, TxV z) (l1 : ps.length ≤ 3) (h2 : ∀ q ∈ qs, IsNm q.1 ∧ TxV q.2) (l2 : qs.length ≤ 3) : (adrS ps qs).length ≤ 1234 := by
  have a := ways_len h1 l1
  have b := rows_len h2 l2
  unfold adrS
  split
  · omega
  · rw [len_app, len_app]
    show _ + 1 + _ ≤ _
    omega
theorem Atr.name_ok : ∀ {a : Atr}, a.ok → IsNm a.name
  | .txt _ _, h => h.1
  | .adr _ _, _ => show IsNm "href" from isNm_of (by decide)
theorem Atr.in_len : ∀ {a : Atr}, a.ok → a.in'.length ≤ 22294
  | .txt _ z, h => wAttr_len h.2.2.1
  | .adr ps qs, ⟨_, l1, l2, h1, h2⟩ => Nat.le_trans (adrS_len h1 l1 h2 l2) (by decide)
theorem Atr.page_len {a : Atr} (h : a.ok) : a.page.length ≤ 22400 := by
  have e1 := nm_len (Atr.name_ok h)
  have e2 := Atr.in_len h
  unfold Atr.page
  rw [len_app, len_app, len_app, len_app]
  show 1 + _ + 2 + _ + 1 ≤ _
  omega
theorem atrs_len {as : List Atr} (h : ∀ a ∈ as, a.ok) (l : as.length ≤ 3) : (Txt.join "" (as.map Atr.page)).length ≤ 67200 := by
  have b : ∀ x ∈ as.map Atr.page, x.length ≤ 22400 := by
    intro x hx
    obtain ⟨a, ha, rfl⟩ := List.mem_map.mp hx
    exact Atr.page_len (h a ha)
  exact join_le (z := "") b (by rw [List.length_map]; exact l)
theorem Lb4 : Lb 4 = 488480 := by decide
theorem Node.page_len : ∀ {n : Nat} {x : Node}, Okn n x → x.page.length ≤ 500000
  | n, .text z, h => by
    have h' : TxV z ∧ z ≠ "" := by simpa only [Okn] using h
    have := wText_len h'.1.1
    simp only [Node.page]
    omega
  | n, .data d, h => by
    have h' : Vd 4 d := by simpa only [Okn] using h
    have := lit_len 4 d h'
    rw [Lb4] at this
    simp only [Node.page]
    rw [len_app, len_app]
    show 6 + _ + 7 ≤ _
    omega
  | 0, .elem _ _ _, h => by simp [Okn] at h
  | n + 1, .elem a as ns, h => by
    obtain ⟨h1, h2, h3, h4, h5, h6⟩ := h.elem
    have e1 := nm_len h1
    have e2 := atrs_len h4 h3
    have e3 : (Txt.join "" (Node.pages ns)).length ≤ 1000 := h6
    simp only [Node.page]
    rw [len_app, len_app, len_app, len_app, len_app, len_app, len_app]
    show 1 + _ + _ + 1 + _ + (2 + _ + 1) ≤ _
    omega
theorem pageS_len {n : Nat} {xs : List Node} (h : Okt n xs) : (pageS xs).length ≤ 1500000 := by
  have b : ∀ x ∈ Node.pages xs, x.length ≤ 500000 := by
    rw [pages_map]
    intro x hx
    obtain ⟨y, hy, rfl⟩ := List.mem_map.mp hx
    exact Node.page_len (h.2.2 y hy)
  exact join_le (z := "") b (by rw [pages_map, List.length_map]; exact h.1)
end KX

namespace KX
open PySem PySem.Spec L2 PyProof.Rows CwR
/-! ### the program's look at a tree -/
/-- two tuples, side by side -/
theorem walk_zipT {K : PySem.W.Frag} {a b : Addr} {xs ys : List V} {n : Nat} (least : n = min xs.length ys.length) : Walk (RZ.ItzT K a b) n (fun H => SqT K H a xs ∧ SqT K H b ys) (YPair (fun i => xs[i]?) (fun i => ys[i]?)) := by
  constructor
  · intro i H hi h
    have l1 : i < xs.length := by omega
    have l2 : i < ys.length := by omega
    exact ⟨xs, ys, xs[i], ys[i], h.1, h.2, List.getElem?_eq_getElem l1, List.getElem?_eq_getElem l2⟩
  · intro H h
    exact ⟨xs, ys, h.1, h.2, by omega⟩
  · rintro i H v H' _ h ⟨T, x, y, e, new, up, fx, fy⟩
    exact ⟨T, x, y, e, new, up, fx _ h.1, fy _ h.2⟩
theorem sl_tupAK {X : Cx} (K : PySem.W.Frag) (h : X.K = K) : SlR X (rSlA K) := by subst h; exact sl_tupA
theorem pt_tru {X : Cx} {a : Expr} {ta : TE} (ha : PE X a ta) (plain : ∀ whole, isTrue a X.env whole = (do let v ← whole; standAt a.pos; holding [v] (truthy v)) := by intro _; rfl) : PT X a (fun σ H Q => ta σ H fun x H' => ∃ k, TruV X.K x H' k ∧ Q k H') := pt_truth ha plain
/-- a tuple of two, of four -/
theorem Dq.tupOf {K : PySem.W.Frag} {H : Hp} {v : V} {ds : List PyData} (h : Dq K H v (.tuple ds)) : ∃ a xs, v = .ref a ∧ H a = some (.tup xs) ∧ DqAll K H xs ds := by
  cases h with
  | tup at' all => exact ⟨_, _, rfl, at', all⟩
theorem DqAll.two {K : PySem.W.Frag} {H : Hp} {xs : List V} {d e : PyData} (h : DqAll K H xs [d, e]) : ∃ x y, xs = [x, y] ∧ Dq K H x d ∧ Dq K H y e := by
  cases h with
  | cons h1 r => cases r with
    | cons h2 r => cases r; exact ⟨_, _, rfl, h1, h2⟩
theorem DqAll.four {K : PySem.W.Frag} {H : Hp} {xs : List V} {d e f g : PyData} (h : DqAll K H xs [d, e, f, g]) : ∃ x y z u, xs = [x, y, z, u] ∧ Dq K H x d ∧ Dq K H y e ∧ Dq K H z f ∧ Dq K H u g := by
  cases h with
  | cons h1 r => cases r with
    | cons h2 r => cases r with
      | cons h3 r => cases r with
        | cons h4 r => cases r; exact ⟨_, _, _, _, rfl, h1, h2, h3, h4⟩
theorem Dq.strOf {K : PySem.W.Frag} {H : Hp} {v : V} {z : Str} (h : Dq K H v (.str z)) : v = .str z := by cases h; rfl
theorem at0 {x : V} {r : List V} : atI (x :: r) 0 = some x := at_of (j := 0) rfl rfl
theorem at1 {x y : V} {r : List V} : atI (x :: y :: r) 1 = some y := at_of (j := 1) rfl rfl
def word : Node → Str
  | .text _ => "text"
  | .data _ => "data"
  | .elem _ _ _ => "element"
theorem word_text {x : Node} : word x = "text" ↔ isTx x = true := by
  cases x with
  | text => exact ⟨fun _ => rfl, fun _ => rfl⟩
  | data => exact ⟨fun h => absurd h (by show ¬ (("data" : Str) = "text"); decide), fun h => nomatch h⟩
  | elem => exact ⟨fun h => absurd h (by show ¬ (("element" : Str) = "text"); decide), fun h => nomatch h⟩
theorem node_word {K : PySem.W.Frag} {H : Hp} {v : V} {x : Node} (h : Dq K H v x.d) : ∃ a ys, v = .ref a ∧ H a = some (.tup (.str (word x) :: ys)) := by
  cases x with
  | text z =>
    simp only [Node.d] at h
    obtain ⟨a, xs, rfl, at', all⟩ := h.tupOf
    obtain ⟨x, y, rfl, hx, _⟩ := all.two
    rw [hx.strOf] at at'
    exact ⟨a, _, rfl, at'⟩
  | data d =>
    simp only [Node.d] at h
    obtain ⟨a, xs, rfl, at', all⟩ := h.tupOf
    obtain ⟨x, y, rfl, hx, _⟩ := all.two
    rw [hx.strOf] at at'
    exact ⟨a, _, rfl, at'⟩
  | elem n as ns =>
    simp only [Node.d] at h
    obtain ⟨a, xs, rfl, at', all⟩ := h.tupOf
    obtain ⟨x, y, z, u, rfl, hx, _⟩ := all.four
    rw [hx.strOf] at at'
    exact ⟨a, _, rfl, at'⟩
theorem nodes_at {K : PySem.W.Frag} {H : Hp} {xs : List V} {ns : List Node} {i : Nat} {v : V} (h : DqAll K H xs (Node.ds ns)) (e : xs[i]? = some v) : ∃ x, ns[i]? = some x ∧ Dq K H v x.d := by
  obtain ⟨d, ed, dq⟩ := h.get e
  rw [ds_map, List.getElem?_map] at ed
  obtain ⟨x, ex, rfl⟩ := Option.map_eq_some_iff.mp ed
  exact ⟨x, ex, dq⟩
section
variable {base : Heap} {P : Program} {w : World} {K : PySem.W.Frag} {mg : Str → Option Value} {tk : Str → Tok}
abbrev s_apart : Stmt := top 34
abbrev N_apart : List Str := ["nodes", "kind", "node", "behind"]
abbrev P_apart : List Str := ["nodes", "kind"]
theorem sc_apart : FnScope N_apart P_apart (defScope s_apart) := ⟨rfl, rfl, rfl, by decide +kernel, rfl, by decide +kernel, by decide +kernel⟩
def spApart (K : PySem.W.Frag) : Sp := fun vs H Q _ => ∃ (v : V) (ns : List Node), vs = [v, .str "text"] ∧ Dq K H v (treeD ns) ∧ ns.length ≤ 3 ∧ Apart ns ∧ ∀ H', Same H H' → Q (.bl true) H'
theorem ok_apart {f : Addr} {fd : FuncData} (F : Fun K "are_apart" "are_apart" s_apart f fd) (T : Bl mg) : FnOk P w K mg base CX0 1 f fd P_apart (spApart K) := by
  refine F.ok sc_apart (fun vs H Q E h => ?_) (fun cdv A outer s H vs Q E hr h => ?_)
  · obtain ⟨c, _, rfl, _⟩ := h
    rfl
  obtain ⟨v, ns, rfl, dq, l3, ap, q⟩ := h
  refine ⟨_, (pss_one (ps_ret (pe_notT (pe_lc (own := [("node", 2), ("behind", 3)]) (g := (gTup K 2 (gCons (gName 2) (gCons (gName 3) gNil)))) (tt := _) rfl sc_apart.nd (RZ.pi_zipA (by rfl) T.zip (pa_cons (pv 0) (pa_cons (pe_slice (sl_tupAK K rfl) (pv 0) (po_some pe_int) po_none) pa_nil))) (blkOk_by (own := [("node", 2), ("behind", 3)]) (N := N_apart) (sc := defScope s_apart) (by decide +kernel)) (fun _ _ _ _ _ => (pg_tup rfl (pgs_cons (pg_name (i := 2) sc_apart.nd rfl (Or.inl rfl)) (pgs_cons (pg_name (i := 3) sc_apart.nd rfl (Or.inl rfl)) pgs_nil)))) (fun _ _ _ _ _ => (pts_one (PW.pt (pw_and (pt_cmpR op_eq (pe_ix (ix_tupK K rfl) (pv 2) pe_int (fun _ _ => rfl)) (pv 1) (nomark _)) (pw_and1 (pt_cmpR op_eq (pe_ix (ix_tupK K rfl) (pv 3) pe_int (fun _ _ => rfl)) (pv 1) (nomark _))))))) (fun _ _ _ _ _ => (pv 2)))))), ?_⟩
  obtain ⟨a, xs, rfl, at', all⟩ := dq.tupOf
  have xl : xs.length = ns.length := by rw [all.length, ds_map, List.length_map]
  have cut : cutV xs (some 1) none = xs.drop 1 := by
    unfold cutV
    rw [show HT.sIx xs.length 0 (some 1) = min 1 xs.length from HT.sIx_nat _ _ 1, HT.sIx_none]
    cases xs with
    | nil => rfl
    | cons x r =>
      rw [List.length_cons, show min 1 (r.length + 1) = 1 from by omega, show r.length + 1 - 1 = r.length from by omega]
      show r.take r.length = r
      exact List.take_length
  refine ⟨.ref a, rfl, .ref a, rfl, 1, rfl, a, xs, rfl, SqT.of at', fun whole => ?_, fun _ t new => ?_⟩
  · have e : xs = [] := by
      have z : min 1 xs.length = 0 := (HT.sIx_nat xs.length 0 1).symm.trans whole.1
      exact List.length_eq_zero_iff.mp (by omega)
    subst e
    refine ⟨a, a, [], [], rfl, .inr ⟨SqT.of at', SqT.of at', fun D newD => ?_⟩⟩
    refine lc_it (walk_zipT (n := 0) (xs := []) (ys := []) rfl) (fun _ G => Same H G ∧ G D = some (.lst [])) ⟨same_new newD _, upd_same⟩ (fun _ G _ p => ⟨SqT.of (p.1 _ _ at'), SqT.of (p.1 _ _ at')⟩) (fun i _ _ _ hi => absurd hi (Nat.not_lt_zero i)) ?_
    rintro G ⟨kept, made⟩
    exact ⟨false, .inl ⟨[], SqL.of made, rfl⟩, q _ kept⟩
  · rw [cut]
    have k1 := same_new new (.tup (xs.drop 1))
    obtain ⟨H1, e1⟩ : ∃ H1, H1 = upd H t (.tup (xs.drop 1)) := ⟨_, rfl⟩
    have atT : H1 t = some (.tup (xs.drop 1)) := by rw [e1]; exact upd_same
    rw [← e1] at k1 ⊢
    clear e1
    refine ⟨a, t, xs, xs.drop 1, rfl, .inr ⟨SqT.of (k1 _ _ at'), SqT.of atT, fun D newD => ?_⟩⟩
    refine lc_it (walk_zipT (n := xs.length - 1) (xs := xs) (ys := xs.drop 1) (by rw [List.length_drop]; omega)) (fun _ G => Same H1 G ∧ G D = some (.lst [])) ⟨same_new newD _, upd_same⟩ (fun _ G _ p => ⟨SqT.of (p.1 _ _ (k1 _ _ at')), SqT.of (p.1 _ _ atT)⟩) ?_ ?_
    · rintro i v G1 G hi ⟨kept, made⟩ ⟨U, x, y, rfl, newU, rfl, ex, ey⟩
      have kU := kept.trans (same_new newU (.tup [x, y]))
      obtain ⟨n1, en1, d1⟩ := nodes_at all ex
      have ey : (xs.drop 1)[i]? = some y := ey
      rw [List.getElem?_drop, Nat.add_comm] at ey
      obtain ⟨n2, en2, d2⟩ := nodes_at all ey
      obtain ⟨b1, r1, rfl, w1⟩ := node_word d1
      obtain ⟨b2, r2, rfl, w2⟩ := node_word d2
      refine ⟨U, _, rfl, SqT.of upd_same, rfl, _, _, rfl, _, _, rfl, rfl, rfl, ?_⟩
      refine ⟨_, rfl, b1, .str (word n1) :: r1, 0, .str (word n1), rfl, rfl, SqT.of (kU _ _ (k1 _ _ w1)), at0, _, rfl, rfl, _, rfl, ?_⟩
      have stay : Same H1 (upd G1 U (.tup [.ref b1, .ref b2])) ∧ (upd G1 U (.tup [.ref b1, .ref b2])) D = some (.lst []) := ⟨kU, same_new newU _ _ _ made⟩
      refine ite2 (fun c1 => ?_) (fun _ => iteF stay)
      refine ⟨_, rfl, b2, .str (word n2) :: r2, 0, .str (word n2), rfl, rfl, SqT.of (kU _ _ (k1 _ _ w2)), at0, _, rfl, rfl, _, rfl, ?_⟩
      refine ite2 (fun c2 => ?_) (fun _ => stay)
      have z1 : word n1 = "text" := V.str.inj (of_decide_eq_true c1)
      have z2 : word n2 = "text" := V.str.inj (of_decide_eq_true c2)
      exact (ap i n1 n2 en1 en2 ⟨word_text.mp z1, word_text.mp z2⟩).elim
    · rintro G ⟨kept, made⟩
      exact ⟨false, .inl ⟨[], SqL.of made, rfl⟩, q _ (k1.trans kept)⟩
abbrev s_is_pair : Stmt := top 42
abbrev N_is_pair : List Str := ["thing"]
abbrev P_is_pair : List Str := ["thing"]
theorem sc_is_pair : FnScope N_is_pair P_is_pair (defScope s_is_pair) := ⟨rfl, rfl, rfl, by decide +kernel, rfl, by decide +kernel, by decide +kernel⟩
def spPair (K : PySem.W.Frag) : Sp := fun vs H Q _ => ∃ (v : V) (p : Str × Str), vs = [v] ∧ Dq K H v (pairD p) ∧ IsNm p.1 ∧ TxV p.2 ∧ ∀ H', Same H H' → Q (.bl true) H'
theorem ok_is_pair {f fn ft : Addr} {fd fdn fdt : FuncData} (F : Fun K "_is_pair" "_is_pair" s_is_pair f fd) (T : Bl mg) (D_is_name : Def P w K mg base "is_name" 2 P_is_name spIsName fn fdn) (D_is_text : Def P w K mg base "is_text" 2 P_is_text spText ft fdt) :
    FnOk P w K mg base CX0 3 f fd P_is_pair (spPair K) := by
  refine F.ok sc_is_pair (fun vs H Q E h => ?_) (fun cdv A outer s H vs Q E hr h => ?_)
  · obtain ⟨c, _, rfl, _⟩ := h
    rfl
  obtain ⟨v, ⟨y, z⟩, rfl, dq, nm, tx, q⟩ := h
  refine ⟨_, (pss_one (ps_ret (pe_and (pe_callB call_isi (by rfl) T.isinstance (by decide +kernel) (pa_cons (pv 0) (pa_cons (pe_bltn (v := .ty "tuple") (by rfl) T.tuple (by decide +kernel) rfl) pa_nil))) (pe_and (pe_cmpR op_eq (pe_callB (call_lenK K rfl) (by rfl) T.len PySem.boot_len (pa_cons (pv 0) pa_nil)) pe_int (nomark _)) (pe_and (pe_call D_is_name.ok (hr.mono (by first | decide | omega)) rfl D_is_name.g D_is_name.kp D_is_name.b .nil pass0 (pa_cons (pe_ix (ix_tupK K rfl) (pv 0) pe_int (fun _ _ => rfl)) pa_nil)) (pe_one (pe_call D_is_text.ok (hr.mono (by first | decide | omega)) rfl D_is_text.g D_is_text.kp D_is_text.b .nil pass0 (pa_cons (pe_ix (ix_tupK K rfl) (pv 0) pe_int (fun _ _ => rfl)) pa_nil)))))))), ?_⟩
  obtain ⟨a, xs, rfl, at', all⟩ := Dq.tupOf (ds := [.str y, .str z]) dq
  obtain ⟨x1, x2, rfl, d1, d2⟩ := all.two
  obtain rfl := d1.strOf
  obtain rfl := d2.strOf
  refine ⟨_, rfl, _, _, _, _, true, rfl, .ty _, .base (.tup at'), kit_ty (by decide +kernel), _, rfl, if_tt rfl ?_⟩
  refine ⟨_, rfl, _, 2, rfl, .inr ⟨_, SqT.of at', rfl⟩, rfl, _, rfl, if_tt rfl ?_⟩
  refine ⟨_, rfl, a, _, 0, .str y, rfl, rfl, SqT.of at', at0, y, rfl, nm, fun H1 s1 => ⟨_, rfl, if_tt rfl ?_⟩⟩
  exact ⟨_, rfl, a, _, 1, .str z, rfl, rfl, SqT.of (s1 _ _ at'), at1, .inl ⟨z, rfl, tx, fun H2 s2 => q _ (s1.trans s2)⟩⟩
/-! addresses -/
abbrev s_is_address : Stmt := top 41
abbrev N_is_address : List Str := ["thing", "parts", "pairs", "part", "pair"]
abbrev P_is_address : List Str := ["thing"]
theorem sc_is_address : FnScope N_is_address P_is_address (defScope s_is_address) := ⟨rfl, rfl, rfl, by decide +kernel, rfl, by decide +kernel, by decide +kernel⟩
def spAddress (K : PySem.W.Frag) : Sp := fun vs H Q _ => ∃ (v : V) (ps : List Str) (qs : List (Str × Str)), vs = [v] ∧ Dq K H v (adrD ps qs) ∧ Atr.ok (.adr ps qs) ∧ ∀ H', Same H H' → Q (.bl true) H'
theorem ok_is_address {f fp ft : Addr} {fd fdp fdt : FuncData} (F : Fun K "_is_address" "_is_address" s_is_address f fd) (T : Bl mg) (D_is_pair : Def P w K mg base "_is_pair" 3 P_is_pair (spPair K) fp fdp) (D_is_text : Def P w K mg base "is_text" 2 P_is_text spText ft fdt) :
    FnOk P w K mg base CX0 4 f fd P_is_address (spAddress K) := by
  refine F.ok sc_is_address (fun vs H Q E h => ?_) (fun cdv A outer s H vs Q E hr h => ?_)
  · obtain ⟨c, _, _, rfl, _⟩ := h
    rfl
  obtain ⟨v, ps, qs, rfl, dq, ⟨ne, l1, l2, h1, h2⟩, q⟩ := h
  refine ⟨_, (pss_cons (ps_if (PW.pt (pw_or (pt_not (pt_val (pe_callB call_isi (by rfl) T.isinstance (by decide +kernel) (pa_cons (pv 0) (pa_cons (pe_bltn (v := .ty "tuple") (by rfl) T.tuple (by decide +kernel) rfl) pa_nil))))) (pw_or1 (pt_cmpR op_ne (pe_callB (call_lenK K rfl) (by rfl) T.len PySem.boot_len (pa_cons (pv 0) pa_nil)) pe_int (nomark _)))))
      (pss_one (ps_ret pe_bl))
      pss_nil)
    (pss_cons (ps_asg (pv 0) (pg_tup rfl (pgs_cons (pg_name (i := 1) sc_is_address.nd rfl (Or.inl rfl)) (pgs_cons (pg_name (i := 2) sc_is_address.nd rfl (Or.inl rfl)) pgs_nil))))
    (pss_cons (ps_if (PW.pt (pw_or (pt_not (pt_val (pe_callB call_isi (by rfl) T.isinstance (by decide +kernel) (pa_cons (pv 1) (pa_cons (pe_bltn (v := .ty "tuple") (by rfl) T.tuple (by decide +kernel) rfl) pa_nil))))) (pw_or (pt_not (pt_tru (pv 1))) (pw_or1 (pt_not (pt_val (pe_callB call_isi (by rfl) T.isinstance (by decide +kernel) (pa_cons (pv 2) (pa_cons (pe_bltn (v := .ty "tuple") (by rfl) T.tuple (by decide +kernel) rfl) pa_nil)))))))))
      (pss_one (ps_ret pe_bl))
      pss_nil)
    (pss_one (ps_ret (pe_and (pe_callB (cr_all rfl) (by rfl) T.all (by decide +kernel) (pa_cons (pe_lc (own := [("part", 3)]) (g := (gName 3)) (tt := tYes) rfl sc_is_address.nd (pi_tup (pv 1)) (blkOk_by (own := [("part", 3)]) (N := N_is_address) (sc := defScope s_is_address) (by decide +kernel)) (fun _ _ _ _ _ => (pg_name (i := 3) sc_is_address.nd rfl (Or.inl rfl))) (fun _ _ _ _ _ => pts_nil) (fun _ _ _ _ _ => (pe_call D_is_text.ok (hr.mono (by first | decide | omega)) rfl D_is_text.g D_is_text.kp D_is_text.b .nil pass0 (pa_cons (pv 3) pa_nil)))) pa_nil)) (pe_one (pe_callB (cr_all rfl) (by rfl) T.all (by decide +kernel) (pa_cons (pe_lc (own := [("pair", 4)]) (g := (gName 4)) (tt := tYes) rfl sc_is_address.nd (pi_tup (pv 2)) (blkOk_by (own := [("pair", 4)]) (N := N_is_address) (sc := defScope s_is_address) (by decide +kernel)) (fun _ _ _ _ _ => (pg_name (i := 4) sc_is_address.nd rfl (Or.inl rfl))) (fun _ _ _ _ _ => pts_nil) (fun _ _ _ _ _ => (pe_call D_is_pair.ok (hr.mono (by first | decide | omega)) rfl D_is_pair.g D_is_pair.kp D_is_pair.b .nil pass0 (pa_cons (pv 4) pa_nil)))) pa_nil))))))))), ?_⟩
  obtain ⟨a, xs, rfl, at', all⟩ := Dq.tupOf (ds := [.tuple (ps.map .str), .tuple (qs.map pairD)]) dq
  obtain ⟨x1, x2, rfl, d1, d2⟩ := all.two
  obtain ⟨b, ys, rfl, atb, allb⟩ := d1.tupOf
  obtain ⟨c, zs, rfl, atc, allc⟩ := d2.tupOf
  have yl : ys.length = ps.length := by rw [allb.length, List.length_map]
  have zl : zs.length = qs.length := by rw [allc.length, List.length_map]
  refine ⟨_, rfl, _, _, _, _, true, rfl, .ty _, .base (.tup at'), kit_ty (by decide +kernel), _, rfl, if_ff rfl ?_⟩
  refine ⟨_, rfl, _, 2, rfl, .inr ⟨_, SqT.of at', rfl⟩, rfl, _, rfl, if_ff rfl ?_⟩
  refine ⟨_, rfl, a, _, rfl, SqT.of at', rfl, _, _, rfl, _, _, rfl, rfl, ?_⟩
  refine ⟨_, rfl, _, _, _, _, true, rfl, .ty _, .base (.tup atb), kit_ty (by decide +kernel), _, rfl, if_ff rfl ?_⟩
  have some1 : true = !ys.isEmpty := by
    cases ys with
    | nil => exact absurd (List.length_eq_zero_iff.mp yl.symm) ne
    | cons _ _ => rfl
  refine ⟨_, rfl, true, .inr (.inl ⟨ys, SqT.of atb, some1⟩), if_ff rfl ?_⟩
  refine ⟨_, rfl, _, _, _, _, true, rfl, .ty _, .base (.tup atc), kit_ty (by decide +kernel), _, rfl, if_ff rfl ?_⟩
  refine ⟨_, rfl, b, rfl, ⟨_, SqT.of atb⟩, fun D new => ?_⟩
  refine lc_it (walk_tup (K := K) (a := b) (xs := ys)) (fun i S => Same H S ∧ S D = some (.lst (trues i))) ⟨same_new new _, upd_same⟩ (fun i S _ p => SqT.of (p.1 _ _ atb)) ?_ ?_
  · rintro i x S2 S hi ⟨kept, made⟩ ⟨rfl, hx⟩
    obtain ⟨d, ed, dx⟩ := allb.get hx
    rw [List.getElem?_map] at ed
    obtain ⟨z, ez, rfl⟩ := Option.map_eq_some_iff.mp ed
    obtain rfl := dx.strOf
    refine ⟨rfl, yesT ⟨_, rfl, .inl ⟨z, rfl, h1 z (List.mem_of_getElem? ez), fun S3 same => ⟨_, same _ _ made, ?_, Same.updNew (kept.trans same) new, ?_⟩⟩⟩⟩
    · rw [trues_len]
      exact less_line (by omega)
    · rw [upd_same, trues_more]
  rintro S ⟨kept, made⟩
  refine ⟨D, _, rfl, SqL.of made, ?_⟩
  rw [trues_all]
  refine ⟨_, rfl, if_tt rfl ?_⟩
  refine ⟨_, rfl, c, rfl, ⟨_, SqT.of (kept _ _ atc)⟩, fun D2 new2 => ?_⟩
  refine lc_it (walk_tup (K := K) (a := c) (xs := zs)) (fun i U => Same S U ∧ U D2 = some (.lst (trues i))) ⟨same_new new2 _, upd_same⟩ (fun i U _ p => SqT.of (p.1 _ _ (kept _ _ atc))) ?_ ?_
  · rintro i x S2 U hi ⟨kept2, made2⟩ ⟨rfl, hx⟩
    obtain ⟨d, ed, dx⟩ := allc.get hx
    rw [List.getElem?_map] at ed
    obtain ⟨p, ep, rfl⟩ := Option.map_eq_some_iff.mp ed
    obtain ⟨nm, tx⟩ := h2 p (List.mem_of_getElem? ep)
    refine ⟨rfl, yesT ⟨_, rfl, x, p, rfl, Dq.same (kept.trans kept2) _ _ dx, nm, tx, fun S3 same => ⟨_, same _ _ made2, ?_, Same.updNew (kept2.trans same) new2, ?_⟩⟩⟩
    · rw [trues_len]
      exact less_line (by omega)
    · rw [upd_same, trues_more]
  rintro U ⟨kept2, made2⟩
  refine ⟨D2, _, rfl, SqL.of made2, ?_⟩
  rw [trues_all]
  exact q _ (kept.trans kept2)
abbrev s_is_attribute : Stmt := top 40
abbrev N_is_attribute : List Str := ["thing"]
abbrev P_is_attribute : List Str := ["thing"]
theorem sc_is_attribute : FnScope N_is_attribute P_is_attribute (defScope s_is_attribute) := ⟨rfl, rfl, rfl, by decide +kernel, rfl, by decide +kernel, by decide +kernel⟩
def spAttr (K : PySem.W.Frag) : Sp := fun vs H Q _ => ∃ (v : V) (a : Atr), vs = [v] ∧ Dq K H v a.d ∧ a.ok ∧ ∀ H', Same H H' → Q (.bl true) H'
theorem ok_is_attribute {f f1 f2 f3 : Addr} {fd d1 d2 d3 : FuncData} {t : Tok} (F : Fun K "_is_attribute" "_is_attribute" s_is_attribute f fd) (T : Bl mg) (gA : mg "ADDRESS" = some (.str "href" t)) (D_is_name : Def P w K mg base "is_name" 2 P_is_name spIsName f1 d1)
    (D_is_text : Def P w K mg base "is_text" 2 P_is_text spText f2 d2) (D_is_address : Def P w K mg base "_is_address" 4 P_is_address (spAddress K) f3 d3) : FnOk P w K mg base CX0 5 f fd P_is_attribute (spAttr K) := by
  refine F.ok sc_is_attribute (fun vs H Q E h => ?_) (fun cdv A outer s H vs Q E hr h => ?_)
  · obtain ⟨c, _, rfl, _⟩ := h
    rfl
  obtain ⟨v, u, rfl, dq, ok, q⟩ := h
  refine ⟨_, (pss_cons (ps_if (PW.pt (pw_or (pt_not (pt_val (pe_callB call_isi (by rfl) T.isinstance (by decide +kernel) (pa_cons (pv 0) (pa_cons (pe_bltn (v := .ty "tuple") (by rfl) T.tuple (by decide +kernel) rfl) pa_nil))))) (pw_or (pt_cmpR op_ne (pe_callB (call_lenK K rfl) (by rfl) T.len PySem.boot_len (pa_cons (pv 0) pa_nil)) pe_int (nomark _)) (pw_or1 (pt_not (pt_val (pe_call D_is_name.ok (hr.mono (by first | decide | omega)) rfl D_is_name.g D_is_name.kp D_is_name.b .nil pass0 (pa_cons (pe_ix (ix_tupK K rfl) (pv 0) pe_int (fun _ _ => rfl)) pa_nil))))))))
      (pss_one (ps_ret pe_bl))
      pss_nil)
    (pss_one (ps_ret (pe_ifExp (pt_cmpR op_eq (pe_ix (ix_tupK K rfl) (pv 0) pe_int (fun _ _ => rfl)) (pe_glob (v := .str "href") rfl gA ⟨_, rfl⟩) (nomark _)) (pe_call D_is_address.ok (hr.mono (by first | decide | omega)) rfl D_is_address.g D_is_address.kp D_is_address.b .nil pass0 (pa_cons (pe_ix (ix_tupK K rfl) (pv 0) pe_int (fun _ _ => rfl)) pa_nil)) (pe_call D_is_text.ok (hr.mono (by first | decide | omega)) rfl D_is_text.g D_is_text.kp D_is_text.b .nil pass0 (pa_cons (pe_ix (ix_tupK K rfl) (pv 0) pe_int (fun _ _ => rfl)) pa_nil)))))), ?_⟩
  obtain ⟨a, y, dy, v2, rfl, at', dq2, e2⟩ : ∃ (a : Addr) (y : Str) (dy : PyData) (v2 : V), v = .ref a ∧ H a = some (.tup [.str y, v2]) ∧ Dq K H v2 dy ∧ u.d = .tuple [.str y, dy] ∧ IsNm y := by
    cases u with
    | txt n z =>
      obtain ⟨a, xs, rfl, at', all⟩ := Dq.tupOf (ds := [.str n, .str z]) dq
      obtain ⟨x1, x2, rfl, d1, d2⟩ := all.two
      obtain rfl := d1.strOf
      exact ⟨a, n, _, x2, rfl, at', d2, rfl, ok.1⟩
    | adr ps qs =>
      obtain ⟨a, xs, rfl, at', all⟩ := Dq.tupOf (ds := [.str "href", adrD ps qs]) dq
      obtain ⟨x1, x2, rfl, d1, d2⟩ := all.two
      obtain rfl := d1.strOf
      exact ⟨a, "href", _, x2, rfl, at', d2, rfl, isNm_of (by decide)⟩
  refine ⟨_, rfl, _, _, _, _, true, rfl, .ty _, .base (.tup at'), kit_ty (by decide +kernel), _, rfl, if_ff rfl ?_⟩
  refine ⟨_, rfl, _, 2, rfl, .inr ⟨_, SqT.of at', rfl⟩, rfl, _, rfl, if_ff rfl ?_⟩
  refine ⟨_, rfl, a, _, 0, .str y, rfl, rfl, SqT.of at', at0, y, rfl, e2.2, fun H1 s1 => ⟨_, rfl, if_ff rfl ?_⟩⟩
  refine ⟨_, rfl, a, _, 0, .str y, rfl, rfl, SqT.of (s1 _ _ at'), at0, rfl, _, rfl, ?_⟩
  have dq2' := Dq.same s1 _ _ dq2
  refine ite2 (fun c => ?_) (fun c => ?_)
  · have y1 : y = "href" := V.str.inj (of_decide_eq_true c)
    cases u with
    | txt n z =>
      have e := e2.1
      simp only [Atr.d, PyData.tuple.injEq, List.cons.injEq, PyData.str.injEq] at e
      exact absurd (e.1.trans y1) ok.2.1
    | adr ps qs =>
      have e := e2.1
      simp only [Atr.d, PyData.tuple.injEq, List.cons.injEq] at e
      obtain ⟨_, rfl, _⟩ := e
      exact ⟨_, rfl, a, _, 1, v2, rfl, rfl, SqT.of (s1 _ _ at'), at1, v2, ps, qs, rfl, dq2', ok, fun H2 s2 => q _ (s1.trans s2)⟩
  · have y1 : ¬ y = "href" := fun z => c (decide_eq_true (congrArg V.str z))
    cases u with
    | txt n z =>
      have e := e2.1
      simp only [Atr.d, PyData.tuple.injEq, List.cons.injEq, PyData.str.injEq] at e
      obtain ⟨_, rfl, _⟩ := e
      obtain rfl := dq2'.strOf
      exact ⟨_, rfl, a, _, 1, .str z, rfl, rfl, SqT.of (s1 _ _ at'), at1, .inl ⟨z, rfl, ok.2.2, fun H2 s2 => q _ (s1.trans s2)⟩⟩
    | adr ps qs =>
      have e := e2.1
      simp only [Atr.d, PyData.tuple.injEq, List.cons.injEq, PyData.str.injEq] at e
      exact absurd e.1.symm y1
/-! nodes -/
abbrev s_is_node : Stmt := top 39
abbrev N_is_node : List Str := ["thing", "levels", "_", "name", "attributes", "nodes", "attribute"]
abbrev P_is_node : List Str := ["thing", "levels"]
theorem sc_is_node : FnScope N_is_node P_is_node (defScope s_is_node) := ⟨rfl, rfl, rfl, by decide +kernel, rfl, by decide +kernel, by decide +kernel⟩
abbrev s_are_nodes : Stmt := top 38
abbrev N_are_nodes : List Str := ["thing", "levels", "node"]
abbrev P_are_nodes : List Str := ["thing", "levels"]
theorem sc_are_nodes : FnScope N_are_nodes P_are_nodes (defScope s_are_nodes) := ⟨rfl, rfl, rfl, by decide +kernel, rfl, by decide +kernel, by decide +kernel⟩
def spNode (K : PySem.W.Frag) : Nat → Sp
  | 0 => fun _ _ _ _ => False
  | n + 1 => fun vs H Q _ => ∃ (v : V) (x : Node) (j : Int), vs = [v, .int j] ∧ (n : Int) ≤ j ∧ Dq K H v x.d ∧ Okn n x ∧ ∀ H', Same H H' → Q (.bl true) H'
def spNodes (K : PySem.W.Frag) : Nat → Sp
  | 0 => fun _ _ _ _ => False
  | n + 1 => fun vs H Q _ => ∃ (v : V) (xs : List Node) (j : Int), vs = [v, .int j] ∧ (n : Int) ≤ j ∧ Dq K H v (treeD xs) ∧ Okt n xs ∧ ∀ H', Same H H' → Q (.bl true) H'
theorem ok_is_nodeS {n : Nat} {f f1 f2 f3 f4 f5 : Addr} {fd d1 d2 d3 d4 d5 : FuncData} {t : Tok} (F : Fun K "_is_node" "_is_node" s_is_node f fd) (T : Bl mg) (gL : mg "LITERAL" = some (.str "data" t)) (D_is_text : Def P w K mg base "is_text" 2 P_is_text spText f1 d1)
    (D_is_value : Def P w K mg base "is_value" 11 P_is_value (spIsValue K) f2 d2) (D_is_name : Def P w K mg base "is_name" 2 P_is_name spIsName f3 d3) (D_is_attribute : Def P w K mg base "_is_attribute" 5 P_is_attribute (spAttr K) f4 d4)
    (D_are_nodes : Def P w K mg base "_are_nodes" (2 * n + 11) P_are_nodes (spNodes K n) f5 d5) : FnOk P w K mg base CX0 (2 * n + 12) f fd P_is_node (spNode K (n + 1)) := by
  refine F.ok sc_is_node (fun vs H Q E h => ?_) (fun cdv A outer s H vs Q E hr h => ?_)
  · obtain ⟨c, _, _, rfl, _⟩ := h
    rfl
  obtain ⟨v, x, j, rfl, nj, dq, ok, q⟩ := h
  refine ⟨_, (pss_cons (ps_if (PW.pt (pw_or (pt_not (pt_val (pe_callB call_isi (by rfl) T.isinstance (by decide +kernel) (pa_cons (pv 0) (pa_cons (pe_bltn (v := .ty "tuple") (by rfl) T.tuple (by decide +kernel) rfl) pa_nil))))) (pw_or (pt_not (pt_tru (pv 0))) (pw_or1 (pt_not (pt_val (pe_callB call_isi (by rfl) T.isinstance (by decide +kernel) (pa_cons (pe_ix (ix_tupK K rfl) (pv 0) pe_int (fun _ _ => rfl)) (pa_cons (pe_bltn (v := .ty "str") (by rfl) T.str (by decide +kernel) rfl) pa_nil)))))))))
      (pss_one (ps_ret pe_bl))
      pss_nil)
    (pss_cons (ps_if (pt_cmpR op_eq (pe_ix (ix_tupK K rfl) (pv 0) pe_int (fun _ _ => rfl)) pe_str (nomark _))
      (pss_one (ps_ret (pe_and (pe_cmpR op_eq (pe_callB (call_lenK K rfl) (by rfl) T.len PySem.boot_len (pa_cons (pv 0) pa_nil)) pe_int (nomark _)) (pe_and (pe_call D_is_text.ok (hr.mono (by first | decide | omega)) rfl D_is_text.g D_is_text.kp D_is_text.b .nil pass0 (pa_cons (pe_ix (ix_tupK K rfl) (pv 0) pe_int (fun _ _ => rfl)) pa_nil)) (pe_one (pe_cmpR op_ne (pe_ix (ix_tupK K rfl) (pv 0) pe_int (fun _ _ => rfl)) pe_str (nomark _)))))))
      pss_nil)
    (pss_cons (ps_if (pt_cmpR op_eq (pe_ix (ix_tupK K rfl) (pv 0) pe_int (fun _ _ => rfl)) pe_str (nomark _))
      (pss_one (ps_ret (pe_and (pe_cmpR op_eq (pe_callB (call_lenK K rfl) (by rfl) T.len PySem.boot_len (pa_cons (pv 0) pa_nil)) pe_int (nomark _)) (pe_one (pe_call D_is_value.ok (hr.mono (by first | decide | omega)) rfl D_is_value.g D_is_value.kp D_is_value.b .nil pass0 (pa_cons (pe_ix (ix_tupK K rfl) (pv 0) pe_int (fun _ _ => rfl)) pa_nil))))))
      pss_nil)
    (pss_cons (ps_if (PW.pt (pw_or (pt_cmpR op_ne (pe_ix (ix_tupK K rfl) (pv 0) pe_int (fun _ _ => rfl)) pe_str (nomark _)) (pw_or1 (pt_cmpR op_ne (pe_callB (call_lenK K rfl) (by rfl) T.len PySem.boot_len (pa_cons (pv 0) pa_nil)) pe_int (nomark _)))))
      (pss_one (ps_ret pe_bl))
      pss_nil)
    (pss_cons (ps_asg (pv 0) (pg_tup rfl (pgs_cons (pg_name (i := 2) sc_is_node.nd rfl (Or.inl rfl)) (pgs_cons (pg_name (i := 3) sc_is_node.nd rfl (Or.inl rfl)) (pgs_cons (pg_name (i := 4) sc_is_node.nd rfl (Or.inl rfl)) (pgs_cons (pg_name (i := 5) sc_is_node.nd rfl (Or.inl rfl)) pgs_nil))))))
    (pss_cons (ps_if (PW.pt (pw_or (pt_cmpR op_eq (pv 1) pe_int (nomark _)) (pw_or (pt_not (pt_val (pe_call D_is_name.ok (hr.mono (by first | decide | omega)) rfl D_is_name.g D_is_name.kp D_is_name.b .nil pass0 (pa_cons (pv 3) pa_nil)))) (pw_or (pt_cmpR op_eq (pv 3) (pe_glob (v := .str "data") rfl gL ⟨_, rfl⟩) (nomark _)) (pw_or1 (pt_not (pt_val (pe_callB call_isi (by rfl) T.isinstance (by decide +kernel) (pa_cons (pv 4) (pa_cons (pe_bltn (v := .ty "tuple") (by rfl) T.tuple (by decide +kernel) rfl) pa_nil))))))))))
      (pss_one (ps_ret pe_bl))
      pss_nil)
    (pss_one (ps_ret (pe_and (pe_callB (cr_all rfl) (by rfl) T.all (by decide +kernel) (pa_cons (pe_lc (own := [("attribute", 6)]) (g := (gName 6)) (tt := tYes) rfl sc_is_node.nd (pi_tup (pv 4)) (blkOk_by (own := [("attribute", 6)]) (N := N_is_node) (sc := defScope s_is_node) (by decide +kernel)) (fun _ _ _ _ _ => (pg_name (i := 6) sc_is_node.nd rfl (Or.inl rfl))) (fun _ _ _ _ _ => pts_nil) (fun _ _ _ _ _ => (pe_call D_is_attribute.ok (hr.mono (by first | decide | omega)) rfl D_is_attribute.g D_is_attribute.kp D_is_attribute.b .nil pass0 (pa_cons (pv 6) pa_nil)))) pa_nil)) (pe_one (pe_call D_are_nodes.ok (hr.mono (by first | decide | omega)) rfl D_are_nodes.g D_are_nodes.kp D_are_nodes.b .nil pass0 (pa_cons (pv 5) (pa_cons (pe_op op_sub (pv 1) pe_int) pa_nil))))))))))))), ?_⟩
  cases x with
  | text z =>
    have ok' : TxV z ∧ z ≠ "" := by simpa only [Okn] using ok
    simp only [Node.d] at dq
    obtain ⟨a, xs, rfl, at', all⟩ := dq.tupOf
    obtain ⟨x1, x2, rfl, d1, d2⟩ := all.two
    obtain rfl := d1.strOf
    obtain rfl := d2.strOf
    refine ⟨_, rfl, _, _, _, _, true, rfl, .ty _, .base (.tup at'), kit_ty (by decide +kernel), _, rfl, if_ff rfl ?_⟩
    refine ⟨_, rfl, true, .inr (.inl ⟨_, SqT.of at', rfl⟩), if_ff rfl ?_⟩
    refine ⟨_, rfl, a, _, 0, .str "text", rfl, rfl, SqT.of at', at0, _, _, _, _, true, rfl, .ty _, .base (.str _), kit_ty (by decide +kernel), _, rfl, if_ff rfl ?_⟩
    refine ⟨_, rfl, a, _, 0, .str "text", rfl, rfl, SqT.of at', at0, rfl, _, rfl, if_tt (decide_eq_true rfl) ?_⟩
    refine ⟨_, rfl, _, 2, rfl, .inr ⟨_, SqT.of at', rfl⟩, rfl, _, rfl, if_tt rfl ?_⟩
    refine ⟨_, rfl, a, _, 1, .str z, rfl, rfl, SqT.of at', at1, .inl ⟨z, rfl, ok'.1, fun H1 s1 => ⟨_, rfl, if_tt rfl ?_⟩⟩⟩
    refine ⟨_, rfl, a, _, 1, .str z, rfl, rfl, SqT.of (s1 _ _ at'), at1, rfl, ?_⟩
    rw [decide_eq_false (fun e => ok'.2 (V.str.inj e))]
    exact q _ s1
  | data d =>
    have ok' : Vd 4 d := by simpa only [Okn] using ok
    simp only [Node.d] at dq
    obtain ⟨a, xs, rfl, at', all⟩ := dq.tupOf
    obtain ⟨x1, x2, rfl, d1, d2⟩ := all.two
    obtain rfl := d1.strOf
    refine ⟨_, rfl, _, _, _, _, true, rfl, .ty _, .base (.tup at'), kit_ty (by decide +kernel), _, rfl, if_ff rfl ?_⟩
    refine ⟨_, rfl, true, .inr (.inl ⟨_, SqT.of at', rfl⟩), if_ff rfl ?_⟩
    refine ⟨_, rfl, a, _, 0, .str "data", rfl, rfl, SqT.of at', at0, _, _, _, _, true, rfl, .ty _, .base (.str _), kit_ty (by decide +kernel), _, rfl, if_ff rfl ?_⟩
    refine ⟨_, rfl, a, _, 0, .str "data", rfl, rfl, SqT.of at', at0, rfl, _, rfl, if_ff (by decide) ?_⟩
    refine ⟨_, rfl, a, _, 0, .str "data", rfl, rfl, SqT.of at', at0, rfl, _, rfl, if_tt (decide_eq_true rfl) ?_⟩
    refine ⟨_, rfl, _, 2, rfl, .inr ⟨_, SqT.of at', rfl⟩, rfl, _, rfl, if_tt rfl ?_⟩
    exact ⟨_, rfl, a, _, 1, x2, rfl, rfl, SqT.of at', at1, x2, d, rfl, d2, ok'.ups 2, q⟩
  | elem y as ns =>
    cases n with
    | zero => simp [Okn] at ok
    | succ n =>
    obtain ⟨h1, h2, h3, h4, h5, h6⟩ := ok.elem
    simp only [Node.d] at dq
    obtain ⟨a, xs, rfl, at', all⟩ := dq.tupOf
    obtain ⟨x1, x2, x3, x4, rfl, d1, d2, d3, d4⟩ := all.four
    obtain rfl := d1.strOf
    obtain rfl := d2.strOf
    obtain ⟨b, ys, rfl, atb, allb⟩ := d3.tupOf
    refine ⟨_, rfl, _, _, _, _, true, rfl, .ty _, .base (.tup at'), kit_ty (by decide +kernel), _, rfl, if_ff rfl ?_⟩
    refine ⟨_, rfl, true, .inr (.inl ⟨_, SqT.of at', rfl⟩), if_ff rfl ?_⟩
    refine ⟨_, rfl, a, _, 0, .str "element", rfl, rfl, SqT.of at', at0, _, _, _, _, true, rfl, .ty _, .base (.str _), kit_ty (by decide +kernel), _, rfl, if_ff rfl ?_⟩
    refine ⟨_, rfl, a, _, 0, .str "element", rfl, rfl, SqT.of at', at0, rfl, _, rfl, if_ff (by decide) ?_⟩
    refine ⟨_, rfl, a, _, 0, .str "element", rfl, rfl, SqT.of at', at0, rfl, _, rfl, if_ff (by decide) ?_⟩
    refine ⟨_, rfl, a, _, 0, .str "element", rfl, rfl, SqT.of at', at0, rfl, _, rfl, if_ff (by decide) ?_⟩
    refine ⟨_, rfl, _, 4, rfl, .inr ⟨_, SqT.of at', rfl⟩, rfl, _, rfl, if_ff rfl ?_⟩
    refine ⟨_, rfl, a, _, rfl, SqT.of at', rfl, _, _, rfl, _, _, rfl, _, _, rfl, _, _, rfl, rfl, ?_⟩
    have j0 : j ≠ 0 := by omega
    refine ⟨_, rfl, rfl, _, rfl, if_ff (decide_eq_false fun e => j0 (V.int.inj e)) ?_⟩
    refine ⟨_, rfl, y, rfl, h1, fun H1 s1 => ⟨_, rfl, if_ff rfl ?_⟩⟩
    refine ⟨_, rfl, rfl, _, rfl, if_ff (decide_eq_false fun e => h2 (V.str.inj e)) ?_⟩
    refine ⟨_, rfl, _, _, _, _, true, rfl, .ty _, .base (.tup (s1 _ _ atb)), kit_ty (by decide +kernel), _, rfl, if_ff rfl ?_⟩
    refine ⟨_, rfl, b, rfl, ⟨_, SqT.of (s1 _ _ atb)⟩, fun D new => ?_⟩
    have yl : ys.length = as.length := by rw [allb.length, List.length_map]
    refine lc_it (walk_tup (K := K) (a := b) (xs := ys)) (fun i S => Same H1 S ∧ S D = some (.lst (trues i))) ⟨same_new new _, upd_same⟩ (fun i S _ p => SqT.of (p.1 _ _ (s1 _ _ atb))) ?_ ?_
    · rintro i x S2 S hi ⟨kept, made⟩ ⟨rfl, hx⟩
      obtain ⟨d, ed, dx⟩ := allb.get hx
      rw [List.getElem?_map] at ed
      obtain ⟨u, eu, rfl⟩ := Option.map_eq_some_iff.mp ed
      refine ⟨rfl, yesT ⟨_, rfl, x, u, rfl, Dq.same (s1.trans kept) _ _ dx, h4 u (List.mem_of_getElem? eu), fun S3 same => ⟨_, same _ _ made, ?_, Same.updNew (kept.trans same) new, ?_⟩⟩⟩
      · rw [trues_len]
        exact less_line (by omega)
      · rw [upd_same, trues_more]
    rintro S ⟨kept, made⟩
    refine ⟨D, _, rfl, SqL.of made, ?_⟩
    rw [trues_all]
    refine ⟨_, rfl, if_tt rfl ?_⟩
    exact ⟨_, rfl, _, rfl, j, 1, rfl, rfl, x4, ns, j - 1, rfl, by omega, Dq.same (s1.trans kept) _ _ d4, h5, fun H2 s2 => q _ (s1.trans (kept.trans s2))⟩
theorem ok_are_nodesS {n : Nat} {f f1 f2 : Addr} {fd d1 d2 : FuncData} (F : Fun K "_are_nodes" "_are_nodes" s_are_nodes f fd) (T : Bl mg) (D_is_node : Def P w K mg base "_is_node" (2 * (n + 1) + 10) P_is_node (spNode K (n + 1)) f1 d1)
    (D_are_apart : Def P w K mg base "are_apart" 1 P_apart (spApart K) f2 d2) : FnOk P w K mg base CX0 (2 * (n + 1) + 11) f fd P_are_nodes (spNodes K (n + 1)) := by
  refine F.ok sc_are_nodes (fun vs H Q E h => ?_) (fun cdv A outer s H vs Q E hr h => ?_)
  · obtain ⟨c, _, _, rfl, _⟩ := h
    rfl
  obtain ⟨v, ns, j, rfl, nj, dq, ok, q⟩ := h
  refine ⟨_, (pss_cons (ps_if (pt_not (pt_val (pe_callB call_isi (by rfl) T.isinstance (by decide +kernel) (pa_cons (pv 0) (pa_cons (pe_bltn (v := .ty "tuple") (by rfl) T.tuple (by decide +kernel) rfl) pa_nil)))))
      (pss_one (ps_ret pe_bl))
      pss_nil)
    (pss_one (ps_ret (pe_and (pe_callB (cr_all rfl) (by rfl) T.all (by decide +kernel) (pa_cons (pe_lc (own := [("node", 2)]) (g := (gName 2)) (tt := tYes) rfl sc_are_nodes.nd (pi_tup (pv 0)) (blkOk_by (own := [("node", 2)]) (N := N_are_nodes) (sc := defScope s_are_nodes) (by decide +kernel)) (fun _ _ _ _ _ => (pg_name (i := 2) sc_are_nodes.nd rfl (Or.inl rfl))) (fun _ _ _ _ _ => pts_nil) (fun _ _ _ _ _ => (pe_call D_is_node.ok (hr.mono (by first | decide | omega)) rfl D_is_node.g D_is_node.kp D_is_node.b .nil pass0 (pa_cons (pv 2) (pa_cons (pv 1) pa_nil))))) pa_nil)) (pe_one (pe_call D_are_apart.ok (hr.mono (by first | decide | omega)) rfl D_are_apart.g D_are_apart.kp D_are_apart.b .nil pass0 (pa_cons (pv 0) (pa_cons pe_str pa_nil)))))))), ?_⟩
  obtain ⟨a, xs, rfl, at', all⟩ := Dq.tupOf dq
  have xl : xs.length = ns.length := by rw [all.length, ds_map, List.length_map]
  have l3 := ok.1
  refine ⟨_, rfl, _, _, _, _, true, rfl, .ty _, .base (.tup at'), kit_ty (by decide +kernel), _, rfl, if_ff rfl ?_⟩
  refine ⟨_, rfl, a, rfl, ⟨_, SqT.of at'⟩, fun D new => ?_⟩
  refine lc_it (walk_tup (K := K) (a := a) (xs := xs)) (fun i S => Same H S ∧ S D = some (.lst (trues i))) ⟨same_new new _, upd_same⟩ (fun i S _ p => SqT.of (p.1 _ _ at')) ?_ ?_
  · rintro i x S2 S hi ⟨kept, made⟩ ⟨rfl, hx⟩
    obtain ⟨u, eu, dx⟩ := nodes_at all hx
    refine ⟨rfl, yesT ⟨_, rfl, _, rfl, x, u, j, rfl, nj, Dq.same kept _ _ dx, ok.2.2 u (List.mem_of_getElem? eu), fun S3 same => ⟨_, same _ _ made, ?_, Same.updNew (kept.trans same) new, ?_⟩⟩⟩
    · rw [trues_len]
      exact less_line (by omega)
    · rw [upd_same, trues_more]
  rintro S ⟨kept, made⟩
  refine ⟨D, _, rfl, SqL.of made, ?_⟩
  rw [trues_all]
  refine ⟨_, rfl, if_tt rfl ?_⟩
  exact ⟨_, rfl, .ref a, ns, rfl, Dq.same kept _ _ dq, l3, ok.2.1, fun H2 s2 => q _ (kept.trans s2)⟩
theorem ok_nodes {f g f1 f2 f3 f4 f5 : Addr} {fd gd d1 d2 d3 d4 d5 : FuncData} {t : Tok} (F : Fun K "_is_node" "_is_node" s_is_node f fd) (F2 : Fun K "_are_nodes" "_are_nodes" s_are_nodes g gd) (T : Bl mg) (gF : mg "_is_node" = some (.ref f)) (gG : mg "_are_nodes" = some (.ref g)) (bF : Binds K fd P_is_node []) (bG : Binds K gd P_are_nodes [])
    (gL : mg "LITERAL" = some (.str "data" t)) (D_is_text : Def P w K mg base "is_text" 2 P_is_text spText f1 d1) (D_is_value : Def P w K mg base "is_value" 11 P_is_value (spIsValue K) f2 d2) (D_is_name : Def P w K mg base "is_name" 2 P_is_name spIsName f3 d3)
    (D_is_attribute : Def P w K mg base "_is_attribute" 5 P_is_attribute (spAttr K) f4 d4) (D_are_apart : Def P w K mg base "are_apart" 1 P_apart (spApart K) f5 d5) : ∀ n : Nat, FnOk P w K mg base CX0 (2 * n + 10) f fd P_is_node (spNode K n) ∧ FnOk P w K mg base CX0 (2 * n + 11) g gd P_are_nodes (spNodes K n)
  | 0 => ⟨⟨fun _ _ _ _ h => h.elim, fun _ _ _ _ _ _ _ _ _ _ _ _ _ h => h.elim⟩, ⟨fun _ _ _ _ h => h.elim, fun _ _ _ _ _ _ _ _ _ _ _ _ _ h => h.elim⟩⟩
  | n + 1 => by
    have ih := ok_nodes F F2 T gF gG bF bG gL D_is_text D_is_value D_is_name D_is_attribute D_are_apart n
    have a := ok_is_nodeS F T gL D_is_text D_is_value D_is_name D_is_attribute ⟨gG, F2.kp, bG, ih.2⟩
    exact ⟨a, ok_are_nodesS F2 T ⟨gF, F.kp, bF, a⟩ D_are_apart⟩
abbrev s_is_tree : Stmt := top 36
abbrev N_is_tree : List Str := ["thing"]
abbrev P_is_tree : List Str := ["thing"]
theorem sc_is_tree : FnScope N_is_tree P_is_tree (defScope s_is_tree) := ⟨rfl, rfl, rfl, by decide +kernel, rfl, by decide +kernel, by decide +kernel⟩
def spTree (K : PySem.W.Frag) : Sp := fun vs H Q _ => ∃ (v : V) (xs : List Node), vs = [v] ∧ Dq K H v (treeD xs) ∧ Okt 4 xs ∧ ∀ H', Same H H' → Q (.bl true) H'
theorem ok_is_tree {f f1 : Addr} {fd d1 : FuncData} {t : Tok} (F : Fun K "is_tree" "is_tree" s_is_tree f fd) (gN : mg "MAX_NESTED" = some (.int 30 t)) (D_are_nodes : Def P w K mg base "_are_nodes" 21 P_are_nodes (spNodes K 5) f1 d1) : FnOk P w K mg base CX0 22 f fd P_is_tree (spTree K) := by
  refine F.ok sc_is_tree (fun vs H Q E h => ?_) (fun cdv A outer s H vs Q E hr h => ?_)
  · obtain ⟨c, _, rfl, _⟩ := h
    rfl
  obtain ⟨v, xs, rfl, dq, ok, q⟩ := h
  exact ⟨_, (pss_one (ps_ret (pe_call D_are_nodes.ok (hr.mono (by first | decide | omega)) rfl D_are_nodes.g D_are_nodes.kp D_are_nodes.b .nil pass0 (pa_cons (pv 0) (pa_cons (pe_glob (v := .int 30) rfl gN ⟨_, rfl⟩) pa_nil))))), _, rfl, v, xs, 30, rfl, by decide, dq, ok, q⟩
end
end KX

namespace KX
open PySem PySem.Spec L2 PyProof.Rows CwR
/-! ### the program's page of a tree -/
theorem emp_app (x : Str) : Str.empty ++ x = x := by
  have e : ql (Str.empty ++ x) = ql x := by
    rw [ql_app]
    rfl
  exact ql_ext e
theorem fits_j {zs : List Str} {sep : Str} {B : Nat} (few : zs.length ≤ 3) (each : ∀ z ∈ zs, z.length ≤ B) (short : sep.length ≤ 1) (small : B ≤ 5000000) : (zs.map (·.length)).sum + zs.length * sep.length ≤ 16777216 := by
  have s := sum_le (f := fun x : Str => x.length) each
  have m : zs.length * B ≤ 3 * B := Nat.mul_le_mul_right _ few
  have m2 : zs.length * sep.length ≤ 3 * 1 := Nat.mul_le_mul few short
  omega
theorem fits {n : Nat} (h : n ≤ 16777216) : n ≤ sizeLine := h
def Atr.cd : Atr → PyData
  | .txt _ z => .str z
  | .adr ps qs => adrD ps qs
theorem Atr.d_eq : ∀ a : Atr, a.d = .tuple [.str a.name, a.cd]
  | .txt _ _ => rfl
  | .adr _ _ => rfl
section
variable {base : Heap} {P : Program} {w : World} {K : PySem.W.Frag} {mg : Str → Option Value} {tk : Str → Tok}
abbrev s_waddr : Stmt := top 46
abbrev N_waddr : List Str := ["content", "parts", "pairs", "written", "part", "name", "text"]
abbrev P_waddr : List Str := ["content"]
theorem sc_waddr : FnScope N_waddr P_waddr (defScope s_waddr) := ⟨rfl, rfl, rfl, by decide +kernel, rfl, by decide +kernel, by decide +kernel⟩
def spWAddr (K : PySem.W.Frag) : Sp := fun vs H Q _ => ∃ (v : V) (ps : List Str) (qs : List (Str × Str)), vs = [v] ∧ Dq K H v (adrD ps qs) ∧ Atr.ok (.adr ps qs) ∧ ∀ H', Same H H' → Q (.str (adrS ps qs)) H'
theorem ok_waddr {f f1 : Addr} {fd d1 : FuncData} (F : Fun K "_write_address" "_write_address" s_waddr f fd) (D_write_code : Def P w K mg base "write_code" 3 P_write_code spCode f1 d1) : FnOk P w K mg base CX0 4 f fd P_waddr (spWAddr K) := by
  refine F.ok sc_waddr (fun vs H Q E h => ?_) (fun cdv A outer s H vs Q E hr h => ?_)
  · obtain ⟨c, _, _, rfl, _⟩ := h
    rfl
  obtain ⟨v, ps, qs, rfl, dq, ⟨ne, l1, l2, h1, h2⟩, q⟩ := h
  refine ⟨_, (pss_cons (ps_asg (pv 0) (pg_tup rfl (pgs_cons (pg_name (i := 1) sc_waddr.nd rfl (Or.inl rfl)) (pgs_cons (pg_name (i := 2) sc_waddr.nd rfl (Or.inl rfl)) pgs_nil))))
    (pss_cons (ps_set (i := 3) sc_waddr.nd rfl (Or.inl rfl) (pe_join pe_str (pe_lc (own := [("part", 4)]) (g := (gName 4)) (tt := tYes) rfl sc_waddr.nd (pi_tup (pv 1)) (blkOk_by (own := [("part", 4)]) (N := N_waddr) (sc := defScope s_waddr) (by decide +kernel)) (fun _ _ _ _ _ => (pg_name (i := 4) sc_waddr.nd rfl (Or.inl rfl))) (fun _ _ _ _ _ => pts_nil) (fun _ _ _ _ _ => (pe_op op_add_str pe_str (pe_call D_write_code.ok (hr.mono (by first | decide | omega)) rfl D_write_code.g D_write_code.kp D_write_code.b .nil pass0 (pa_cons (pv 4) pa_nil)))))))
    (pss_cons (ps_if (pt_not (pt_tru (pv 2)))
      (pss_one (ps_ret (pv 3)))
      pss_nil)
    (pss_one (ps_ret (pe_op op_add_str (pe_op op_add_str (pv 3) pe_str) (pe_join pe_str (pe_lc (own := [("name", 5), ("text", 6)]) (g := (gTup K 2 (gCons (gName 5) (gCons (gName 6) gNil)))) (tt := tYes) rfl sc_waddr.nd (pi_tup (pv 2)) (blkOk_by (own := [("name", 5), ("text", 6)]) (N := N_waddr) (sc := defScope s_waddr) (by decide +kernel)) (fun _ _ _ _ _ => (pg_tup rfl (pgs_cons (pg_name (i := 5) sc_waddr.nd rfl (Or.inl rfl)) (pgs_cons (pg_name (i := 6) sc_waddr.nd rfl (Or.inl rfl)) pgs_nil)))) (fun _ _ _ _ _ => pts_nil) (fun _ _ _ _ _ => (pe_op op_add_str (pe_joined (PJ.cons (pe_fmt (pv 5)) (PJ.cons pe_str PJ.nil))) (pe_call D_write_code.ok (hr.mono (by first | decide | omega)) rfl D_write_code.g D_write_code.kp D_write_code.b .nil pass0 (pa_cons (pv 6) pa_nil)))))))))))), ?_⟩
  obtain ⟨a, xs, rfl, at', all⟩ := Dq.tupOf (ds := [.tuple (ps.map .str), .tuple (qs.map pairD)]) dq
  obtain ⟨x1, x2, rfl, d1, d2⟩ := all.two
  obtain ⟨b, ys, rfl, atb, allb⟩ := d1.tupOf
  obtain ⟨c, zs, rfl, atc, allc⟩ := d2.tupOf
  have yl : ys.length = ps.length := by rw [allb.length, List.length_map]
  have zl : zs.length = qs.length := by rw [allc.length, List.length_map]
  refine ⟨_, rfl, a, _, rfl, SqT.of at', rfl, _, _, rfl, _, _, rfl, rfl, ?_⟩
  refine ⟨⟨_, rfl⟩, _, rfl, b, rfl, ⟨_, SqT.of atb⟩, fun D new => ?_⟩
  refine lc_it (walk_tup (K := K) (a := b) (xs := ys)) (fun i G => Same H G ∧ G D = some (.lst ((ps.take i).map fun z => .str (wayS z)))) ⟨same_new new _, upd_same⟩ (fun i G _ p => SqT.of (p.1 _ _ atb)) ?_ ?_
  · rintro i x G2 G hi ⟨kept, made⟩ ⟨rfl, hx⟩
    obtain ⟨d, ed, dx⟩ := allb.get hx
    rw [List.getElem?_map] at ed
    obtain ⟨z, ez, rfl⟩ := Option.map_eq_some_iff.mp ed
    obtain rfl := dx.strOf
    have tz := h1 z (List.mem_of_getElem? ez)
    have cl := codeS_len tz
    refine ⟨rfl, yesT ⟨_, rfl, z, rfl, tz, fun G3 same => ⟨_, _, rfl, rfl, ?_, _, same _ _ made, ?_, Same.updNew (kept.trans same) new, ?_⟩⟩⟩
    · show 1 + (codeS z).length ≤ 16777216
      omega
    · rw [List.length_map, List.length_take]
      exact less_line (by omega)
    · rw [upd_same, List.take_succ, ez, List.map_append]
      rfl
  rintro G ⟨kept, made⟩
  rw [List.take_of_length_le (by omega)] at made
  have each1 : ∀ z ∈ ps.map wayS, z.length ≤ 200 := by
    intro z hz
    obtain ⟨y, hy, rfl⟩ := List.mem_map.mp hz
    exact wayS_len (h1 y hy)
  have wl := ways_len h1 l1
  refine ⟨"", D, ps.map wayS, rfl, rfl, .inl (SqL.of (by rw [List.map_map]; exact made)), fits_j (by rw [List.length_map]; exact l1) each1 (by decide) (by decide), ?_⟩
  refine ⟨_, rfl, !zs.isEmpty, .inr (.inl ⟨zs, SqT.of (kept _ _ atc), rfl⟩), ?_⟩
  cases qs with
  | nil =>
    obtain rfl : zs = [] := List.length_eq_zero_iff.mp zl
    refine if_tt rfl ⟨_, rfl, ?_⟩
    have z := q G kept
    unfold adrS at z
    rw [if_pos rfl] at z
    exact z
  | cons q1 qr =>
  have ze : (!zs.isEmpty) = true := by
    cases zs with
    | nil => cases zl
    | cons _ _ => rfl
  rw [ze]
  refine if_ff rfl ?_
  refine ⟨_, rfl, _, _, rfl, rfl, ?_, ⟨_, rfl⟩, _, rfl, c, rfl, ⟨_, SqT.of (kept _ _ atc)⟩, fun D2 new2 => ?_⟩
  · show _ + 1 ≤ 16777216
    omega
  refine lc_it (walk_tup (K := K) (a := c) (xs := zs)) (fun i U => Same G U ∧ U D2 = some (.lst (((q1 :: qr).take i).map fun p => .str (rowP p)))) ⟨same_new new2 _, upd_same⟩ (fun i U _ p => SqT.of (p.1 _ _ (kept _ _ atc))) ?_ ?_
  · rintro i x G2 U hi ⟨kept2, made2⟩ ⟨rfl, hx⟩
    obtain ⟨d, ed, dx⟩ := allc.get hx
    rw [List.getElem?_map] at ed
    obtain ⟨⟨n, z⟩, ep, rfl⟩ := Option.map_eq_some_iff.mp ed
    obtain ⟨nm, tx⟩ := h2 _ (List.mem_of_getElem? ep)
    obtain ⟨e, us, rfl, ate, alle⟩ := Dq.tupOf (ds := [.str n, .str z]) (Dq.same (kept.trans kept2) _ _ dx)
    obtain ⟨u1, u2, rfl, e1, e2⟩ := alle.two
    obtain rfl := e1.strOf
    obtain rfl := e2.strOf
    have nl : n.length ≤ 12 := nm_len nm
    have cl : (codeS z).length ≤ 192 := codeS_len tx
    refine ⟨e, _, rfl, SqT.of ate, rfl, _, _, rfl, _, _, rfl, rfl, rfl, yesT ?_⟩
    refine ⟨_, rfl, .inl ⟨n, rfl, Nat.le_of_lt (less_line (by omega)), _, rfl, ?_, _, rfl, ?_, ?_⟩⟩
    · rw [emp_app]
      exact Nat.le_of_lt (less_line (by omega))
    · rw [emp_app, len_app]
      exact Nat.le_of_lt (less_line (by show n.length + 1 ≤ 1000; omega))
    rw [emp_app]
    refine ⟨_, rfl, z, rfl, tx, fun G3 same => ⟨_, _, rfl, rfl, ?_, _, same _ _ made2, ?_, Same.updNew (kept2.trans same) new2, ?_⟩⟩
    · rw [len_app]
      show n.length + 1 + (codeS z).length ≤ 16777216
      omega
    · rw [List.length_map, List.length_take]
      exact less_line (by omega)
    · rw [upd_same, List.take_succ, ep, List.map_append]
      rfl
  rintro U ⟨kept2, made2⟩
  rw [List.take_of_length_le (by omega)] at made2
  have each2 : ∀ z ∈ (q1 :: qr).map rowP, z.length ≤ 210 := by
    intro z hz
    obtain ⟨y, hy, rfl⟩ := List.mem_map.mp hz
    exact rowP_len (h2 y hy).1 (h2 y hy).2
  have rl := rows_len h2 l2
  refine ⟨";", D2, (q1 :: qr).map rowP, rfl, rfl, .inl (SqL.of (by rw [List.map_map]; exact made2)), fits_j (by rw [List.length_map]; exact l2) each2 (by decide) (by decide), ?_⟩
  refine ⟨_, _, rfl, rfl, ?_, ?_⟩
  · rw [len_app]
    show _ + 1 + _ ≤ 16777216
    omega
  · have z := q U (kept.trans kept2)
    unfold adrS at z
    rw [if_neg (List.cons_ne_nil _ _)] at z
    exact z
abbrev s_wattr : Stmt := top 45
abbrev N_wattr : List Str := ["name", "content", "written"]
abbrev P_wattr : List Str := ["name", "content"]
theorem sc_wattr : FnScope N_wattr P_wattr (defScope s_wattr) := ⟨rfl, rfl, rfl, by decide +kernel, rfl, by decide +kernel, by decide +kernel⟩
def spWAttr (K : PySem.W.Frag) : Sp := fun vs H Q _ => ∃ (v : V) (u : Atr), vs = [.str u.name, v] ∧ Dq K H v u.cd ∧ u.ok ∧ ∀ H', Same H H' → Q (.str u.page) H'
theorem ok_wattr {f f1 f2 : Addr} {fd d1 d2 : FuncData} {t : Tok} (F : Fun K "_write_attribute" "_write_attribute" s_wattr f fd) (gA : mg "ADDRESS" = some (.str "href" t)) (D_write_address : Def P w K mg base "_write_address" 4 P_waddr (spWAddr K) f1 d1)
    (D_write_attribute : Def P w K mg base "write_attribute" 2 P_write_attribute (spStr wAttr) f2 d2) : FnOk P w K mg base CX0 5 f fd P_wattr (spWAttr K) := by
  refine F.ok sc_wattr (fun vs H Q E h => ?_) (fun cdv A outer s H vs Q E hr h => ?_)
  · obtain ⟨c, _, rfl, _⟩ := h
    rfl
  obtain ⟨v, u, rfl, dq, ok, q⟩ := h
  refine ⟨_, (pss_cons (ps_set (i := 2) sc_wattr.nd rfl (Or.inl rfl) (pe_ifExp (pt_cmpR op_eq (pv 0) (pe_glob (v := .str "href") rfl gA ⟨_, rfl⟩) (nomark _)) (pe_call D_write_address.ok (hr.mono (by first | decide | omega)) rfl D_write_address.g D_write_address.kp D_write_address.b .nil pass0 (pa_cons (pv 1) pa_nil)) (pe_call D_write_attribute.ok (hr.mono (by first | decide | omega)) rfl D_write_attribute.g D_write_attribute.kp D_write_attribute.b .nil pass0 (pa_cons (pv 1) pa_nil))))
    (pss_one (ps_ret (pe_joined (PJ.cons pe_str (PJ.cons (pe_fmt (pv 0)) (PJ.cons pe_str (PJ.cons (pe_fmt (pv 2)) (PJ.cons pe_str PJ.nil))))))))), ?_⟩
  have nl := nm_len (Atr.name_ok ok)
  have il := Atr.in_len ok
  have fin : ∀ (v2 : Option V) (G : Hp), Same H G → (fun x H1 => gName 2 x [some (.str u.name), some v, v2] H1 (fun σ G => (fun σ H Q => tJs [tC (.str " "), tFmt (tVar 0), tC (.str "=\""), tFmt (tVar 2), tC (.str "\"")] Str.empty σ H fun out H1 => Q (V.str out) H1) σ G Q)) (V.str u.in') G := by
    intro v2 G s
    refine ⟨_, rfl, (by decide), _, rfl, .inl ⟨u.name, rfl, Nat.le_of_lt (less_line (by omega)), _, rfl, ?_, _, rfl, ?_, _, rfl, .inl ⟨u.in', rfl, ?_, _, rfl, ?_, _, rfl, ?_, ?_⟩⟩⟩
    · exact Nat.le_of_lt (less_line (by rw [len_app]; show 0 + 1 + _ ≤ 1000; omega))
    · exact Nat.le_of_lt (less_line (by rw [len_app, len_app]; show 0 + 1 + _ + 2 ≤ 1000; omega))
    · show _ ≤ 16777216
      omega
    · rw [len_app, len_app, len_app]
      show 0 + 1 + _ + 2 + _ ≤ 16777216
      omega
    · rw [len_app, len_app, len_app, len_app]
      show 0 + 1 + _ + 2 + _ + 1 ≤ 16777216
      omega
    · exact q G s
  refine ⟨_, rfl, rfl, _, rfl, ?_⟩
  cases u with
  | txt n z =>
    obtain rfl := Dq.strOf (z := z) dq
    exact if_ff (decide_eq_false fun e => ok.2.1 (V.str.inj e)) ⟨_, rfl, z, rfl, ok.2.2.1, fin none H (Same.refl H)⟩
  | adr ps qs =>
    exact if_tt (decide_eq_true rfl) ⟨_, rfl, v, ps, qs, rfl, dq, ok, fun H1 s1 => fin none H1 s1⟩
/-! nodes -/
abbrev s_wnode : Stmt := top 44
abbrev N_wnode : List Str := ["node", "_", "name", "attributes", "nodes", "written", "called", "content"]
abbrev P_wnode : List Str := ["node"]
theorem sc_wnode : FnScope N_wnode P_wnode (defScope s_wnode) := ⟨rfl, rfl, rfl, by decide +kernel, rfl, by decide +kernel, by decide +kernel⟩
abbrev s_wnodes : Stmt := top 43
abbrev N_wnodes : List Str := ["nodes", "node"]
abbrev P_wnodes : List Str := ["nodes"]
theorem sc_wnodes : FnScope N_wnodes P_wnodes (defScope s_wnodes) := ⟨rfl, rfl, rfl, by decide +kernel, rfl, by decide +kernel, by decide +kernel⟩
def spWNode (K : PySem.W.Frag) : Nat → Sp
  | 0 => fun _ _ _ _ => False
  | n + 1 => fun vs H Q _ => ∃ (v : V) (x : Node), vs = [v] ∧ Dq K H v x.d ∧ Okn n x ∧ ∀ H', Same H H' → Q (.str x.page) H'
def spWNodes (K : PySem.W.Frag) : Nat → Sp
  | 0 => fun _ _ _ _ => False
  | n + 1 => fun vs H Q _ => ∃ (v : V) (xs : List Node), vs = [v] ∧ Dq K H v (treeD xs) ∧ Okt n xs ∧ ∀ H', Same H H' → Q (.str (pageS xs)) H'
theorem ok_wnodeS {n : Nat} {f f1 f2 f3 f4 : Addr} {fd d1 d2 d3 d4 : FuncData} (F : Fun K "_write_node" "_write_node" s_wnode f fd) (D_write_text : Def P w K mg base "write_text" 1 P_write_text (spStr wText) f1 d1) (D_write_literal : Def P w K mg base "write_literal" 10 P_wlit (spLit K 7) f2 d2)
    (D_write_attribute : Def P w K mg base "_write_attribute" 5 P_wattr (spWAttr K) f3 d3) (D_write_nodes : Def P w K mg base "_write_nodes" (2 * n + 10) P_wnodes (spWNodes K n) f4 d4) : FnOk P w K mg base CX0 (2 * n + 11) f fd P_wnode (spWNode K (n + 1)) := by
  refine F.ok sc_wnode (fun vs H Q E h => ?_) (fun cdv A outer s H vs Q E hr h => ?_)
  · obtain ⟨c, _, rfl, _⟩ := h
    rfl
  obtain ⟨v, x, rfl, dq, ok, q⟩ := h
  refine ⟨_, (pss_cons (ps_if (pt_cmpR op_eq (pe_ix (ix_tupK K rfl) (pv 0) pe_int (fun _ _ => rfl)) pe_str (nomark _))
      (pss_one (ps_ret (pe_call D_write_text.ok (hr.mono (by first | decide | omega)) rfl D_write_text.g D_write_text.kp D_write_text.b .nil pass0 (pa_cons (pe_ix (ix_tupK K rfl) (pv 0) pe_int (fun _ _ => rfl)) pa_nil))))
      pss_nil)
    (pss_cons (ps_if (pt_cmpR op_eq (pe_ix (ix_tupK K rfl) (pv 0) pe_int (fun _ _ => rfl)) pe_str (nomark _))
      (pss_one (ps_ret (pe_op op_add_str (pe_op op_add_str pe_str (pe_call D_write_literal.ok (hr.mono (by first | decide | omega)) rfl D_write_literal.g D_write_literal.kp D_write_literal.b .nil pass0 (pa_cons (pe_ix (ix_tupK K rfl) (pv 0) pe_int (fun _ _ => rfl)) pa_nil))) pe_str)))
      pss_nil)
    (pss_cons (ps_asg (pv 0) (pg_tup rfl (pgs_cons (pg_name (i := 1) sc_wnode.nd rfl (Or.inl rfl)) (pgs_cons (pg_name (i := 2) sc_wnode.nd rfl (Or.inl rfl)) (pgs_cons (pg_name (i := 3) sc_wnode.nd rfl (Or.inl rfl)) (pgs_cons (pg_name (i := 4) sc_wnode.nd rfl (Or.inl rfl)) pgs_nil))))))
    (pss_cons (ps_set (i := 5) sc_wnode.nd rfl (Or.inl rfl) (pe_join pe_str (pe_lc (own := [("called", 6), ("content", 7)]) (g := (gTup K 2 (gCons (gName 6) (gCons (gName 7) gNil)))) (tt := tYes) rfl sc_wnode.nd (pi_tup (pv 3)) (blkOk_by (own := [("called", 6), ("content", 7)]) (N := N_wnode) (sc := defScope s_wnode) (by decide +kernel)) (fun _ _ _ _ _ => (pg_tup rfl (pgs_cons (pg_name (i := 6) sc_wnode.nd rfl (Or.inl rfl)) (pgs_cons (pg_name (i := 7) sc_wnode.nd rfl (Or.inl rfl)) pgs_nil)))) (fun _ _ _ _ _ => pts_nil) (fun _ _ _ _ _ => (pe_call D_write_attribute.ok (hr.mono (by first | decide | omega)) rfl D_write_attribute.g D_write_attribute.kp D_write_attribute.b .nil pass0 (pa_cons (pv 6) (pa_cons (pv 7) pa_nil)))))))
    (pss_one (ps_ret (pe_op op_add_str (pe_op op_add_str (pe_joined (PJ.cons pe_str (PJ.cons (pe_fmt (pv 2)) (PJ.cons (pe_fmt (pv 5)) (PJ.cons pe_str PJ.nil))))) (pe_call D_write_nodes.ok (hr.mono (by first | decide | omega)) rfl D_write_nodes.g D_write_nodes.kp D_write_nodes.b .nil pass0 (pa_cons (pv 4) pa_nil))) (pe_joined (PJ.cons pe_str (PJ.cons (pe_fmt (pv 2)) (PJ.cons pe_str PJ.nil))))))))))), ?_⟩
  cases x with
  | text z =>
    have ok' : TxV z ∧ z ≠ "" := by simpa only [Okn] using ok
    simp only [Node.d] at dq
    obtain ⟨a, xs, rfl, at', all⟩ := dq.tupOf
    obtain ⟨x1, x2, rfl, d1, d2⟩ := all.two
    obtain rfl := d1.strOf
    obtain rfl := d2.strOf
    refine ⟨_, rfl, a, _, 0, .str "text", rfl, rfl, SqT.of at', at0, rfl, _, rfl, if_tt (decide_eq_true rfl) ?_⟩
    have z1 := q H (Same.refl H)
    simp only [Node.page] at z1
    exact ⟨_, rfl, a, _, 1, .str z, rfl, rfl, SqT.of at', at1, z, rfl, ok'.1.1, z1⟩
  | data d =>
    have ok' : Vd 4 d := by simpa only [Okn] using ok
    simp only [Node.d] at dq
    obtain ⟨a, xs, rfl, at', all⟩ := dq.tupOf
    obtain ⟨x1, x2, rfl, d1, d2⟩ := all.two
    obtain rfl := d1.strOf
    have ll := lit_len 4 d ok'
    rw [Lb4] at ll
    refine ⟨_, rfl, a, _, 0, .str "data", rfl, rfl, SqT.of at', at0, rfl, _, rfl, if_ff (by decide) ?_⟩
    refine ⟨_, rfl, a, _, 0, .str "data", rfl, rfl, SqT.of at', at0, rfl, _, rfl, if_tt (decide_eq_true rfl) ?_⟩
    refine ⟨_, rfl, a, _, 1, x2, rfl, rfl, SqT.of at', at1, x2, d, rfl, d2, ok'.ups 2, by decide, fun H1 s1 => ⟨_, _, rfl, rfl, ?_, _, _, rfl, rfl, ?_, ?_⟩⟩
    · show 6 + _ ≤ 16777216
      omega
    · rw [len_app]
      show 6 + _ + 7 ≤ 16777216
      omega
    · have z1 := q H1 s1
      simp only [Node.page] at z1
      exact z1
  | elem y as ns =>
    cases n with
    | zero => simp [Okn] at ok
    | succ n =>
    obtain ⟨h1, h2, h3, h4, h5, h6⟩ := ok.elem
    simp only [Node.d] at dq
    obtain ⟨a, xs, rfl, at', all⟩ := dq.tupOf
    obtain ⟨x1, x2, x3, x4, rfl, d1, d2, d3, d4⟩ := all.four
    obtain rfl := d1.strOf
    obtain rfl := d2.strOf
    obtain ⟨b, ys, rfl, atb, allb⟩ := d3.tupOf
    have yl : ys.length = as.length := by rw [allb.length, List.length_map]
    have nl := nm_len h1
    have al := atrs_len h4 h3
    have each : ∀ z ∈ as.map Atr.page, z.length ≤ 22400 := by
      intro z hz
      obtain ⟨u, hu, rfl⟩ := List.mem_map.mp hz
      exact Atr.page_len (h4 u hu)
    refine ⟨_, rfl, a, _, 0, .str "element", rfl, rfl, SqT.of at', at0, rfl, _, rfl, if_ff (by decide) ?_⟩
    refine ⟨_, rfl, a, _, 0, .str "element", rfl, rfl, SqT.of at', at0, rfl, _, rfl, if_ff (by decide) ?_⟩
    refine ⟨_, rfl, a, _, rfl, SqT.of at', rfl, _, _, rfl, _, _, rfl, _, _, rfl, _, _, rfl, rfl, ?_⟩
    refine ⟨⟨_, rfl⟩, _, rfl, b, rfl, ⟨_, SqT.of atb⟩, fun D new => ?_⟩
    refine lc_it (walk_tup (K := K) (a := b) (xs := ys)) (fun i G => Same H G ∧ G D = some (.lst ((as.take i).map fun u => .str u.page))) ⟨same_new new _, upd_same⟩ (fun i G _ p => SqT.of (p.1 _ _ atb)) ?_ ?_
    · rintro i x G2 G hi ⟨kept, made⟩ ⟨rfl, hx⟩
      obtain ⟨d, ed, dx⟩ := allb.get hx
      rw [List.getElem?_map] at ed
      obtain ⟨u, eu, rfl⟩ := Option.map_eq_some_iff.mp ed
      have dx := Dq.same kept _ _ dx
      rw [Atr.d_eq] at dx
      obtain ⟨e, us, rfl, ate, alle⟩ := dx.tupOf
      obtain ⟨u1, u2, rfl, e1, e2⟩ := alle.two
      obtain rfl := e1.strOf
      refine ⟨e, _, rfl, SqT.of ate, rfl, _, _, rfl, _, _, rfl, rfl, rfl, yesT ?_⟩
      refine ⟨_, rfl, _, rfl, u2, u, rfl, e2, h4 u (List.mem_of_getElem? eu), fun G3 same => ⟨_, same _ _ made, ?_, Same.updNew (kept.trans same) new, ?_⟩⟩
      · rw [List.length_map, List.length_take]
        exact less_line (by omega)
      · rw [upd_same, List.take_succ, eu, List.map_append]
        rfl
    rintro G ⟨kept, made⟩
    rw [List.take_of_length_le (by omega)] at made
    refine ⟨"", D, as.map Atr.page, rfl, rfl, .inl (SqL.of (by rw [List.map_map]; exact made)), fits_j (by rw [List.length_map]; exact h3) each (by decide) (by decide), ?_⟩
    have nsz : y.length ≤ sizeLine := Nat.le_of_lt (less_line (by omega))
    refine ⟨_, rfl, (by decide), _, rfl, .inl ⟨y, rfl, nsz, _, rfl, ?_, _, rfl, .inl ⟨_, rfl, ?_, _, rfl, ?_, _, rfl, ?_, ?_⟩⟩⟩
    · exact Nat.le_of_lt (less_line (by rw [len_app]; show 0 + 1 + _ ≤ 1000; omega))
    · show _ ≤ 16777216
      omega
    · rw [len_app, len_app]
      show 0 + 1 + _ + _ ≤ 16777216
      omega
    · rw [len_app, len_app, len_app]
      show 0 + 1 + _ + _ + 1 ≤ 16777216
      omega
    refine ⟨_, rfl, x4, ns, rfl, Dq.same kept _ _ d4, h5, fun G2 s2 => ?_⟩
    refine ⟨_, _, rfl, rfl, ?_, ?_⟩
    · rw [len_app, len_app, len_app]
      show 0 + 1 + _ + _ + 1 + _ ≤ 16777216
      omega
    refine ⟨_, rfl, (by decide), _, rfl, .inl ⟨y, rfl, nsz, _, rfl, ?_, _, rfl, ?_, ?_⟩⟩
    · exact Nat.le_of_lt (less_line (by rw [len_app]; show 0 + 2 + _ ≤ 1000; omega))
    · exact Nat.le_of_lt (less_line (by rw [len_app, len_app]; show 0 + 2 + _ + 1 ≤ 1000; omega))
    refine ⟨_, _, rfl, rfl, ?_, ?_⟩
    · simp only [len_app]
      show 0 + 1 + _ + _ + 1 + _ + (0 + 2 + _ + 1) ≤ 16777216
      omega
    · have z1 := q G2 (kept.trans s2)
      simp only [Node.page] at z1
      exact z1
theorem ok_wnodesS {n : Nat} {f f1 : Addr} {fd d1 : FuncData} (F : Fun K "_write_nodes" "_write_nodes" s_wnodes f fd) (D_write_node : Def P w K mg base "_write_node" (2 * (n + 1) + 9) P_wnode (spWNode K (n + 1)) f1 d1) : FnOk P w K mg base CX0 (2 * (n + 1) + 10) f fd P_wnodes (spWNodes K (n + 1)) := by
  refine F.ok sc_wnodes (fun vs H Q E h => ?_) (fun cdv A outer s H vs Q E hr h => ?_)
  · obtain ⟨c, _, rfl, _⟩ := h
    rfl
  obtain ⟨v, ns, rfl, dq, ok, q⟩ := h
  refine ⟨_, (pss_one (ps_ret (pe_join pe_str (pe_lc (own := [("node", 1)]) (g := (gName 1)) (tt := tYes) rfl sc_wnodes.nd (pi_tup (pv 0)) (blkOk_by (own := [("node", 1)]) (N := N_wnodes) (sc := defScope s_wnodes) (by decide +kernel)) (fun _ _ _ _ _ => (pg_name (i := 1) sc_wnodes.nd rfl (Or.inl rfl))) (fun _ _ _ _ _ => pts_nil) (fun _ _ _ _ _ => (pe_call D_write_node.ok (hr.mono (by first | decide | omega)) rfl D_write_node.g D_write_node.kp D_write_node.b .nil pass0 (pa_cons (pv 1) pa_nil))))))), ?_⟩
  obtain ⟨a, xs, rfl, at', all⟩ := Dq.tupOf dq
  have xl : xs.length = ns.length := by rw [all.length, ds_map, List.length_map]
  have l3 := ok.1
  refine ⟨⟨_, rfl⟩, _, rfl, a, rfl, ⟨_, SqT.of at'⟩, fun D new => ?_⟩
  refine lc_it (walk_tup (K := K) (a := a) (xs := xs)) (fun i G => Same H G ∧ G D = some (.lst ((ns.take i).map fun u => .str u.page))) ⟨same_new new _, upd_same⟩ (fun i G _ p => SqT.of (p.1 _ _ at')) ?_ ?_
  · rintro i x G2 G hi ⟨kept, made⟩ ⟨rfl, hx⟩
    obtain ⟨u, eu, dx⟩ := nodes_at all hx
    refine ⟨rfl, yesT ⟨_, rfl, x, u, rfl, Dq.same kept _ _ dx, ok.2.2 u (List.mem_of_getElem? eu), fun G3 same => ⟨_, same _ _ made, ?_, Same.updNew (kept.trans same) new, ?_⟩⟩⟩
    · rw [List.length_map, List.length_take]
      exact less_line (by omega)
    · rw [upd_same, List.take_succ, eu, List.map_append]
      rfl
  rintro G ⟨kept, made⟩
  rw [List.take_of_length_le (by omega)] at made
  have each : ∀ z ∈ ns.map Node.page, z.length ≤ 500000 := by
    intro z hz
    obtain ⟨u, hu, rfl⟩ := List.mem_map.mp hz
    exact Node.page_len (ok.2.2 u hu)
  refine ⟨"", D, ns.map Node.page, rfl, rfl, .inl (SqL.of (by rw [List.map_map]; exact made)), fits_j (by rw [List.length_map]; exact l3) each (by decide) (by decide), ?_⟩
  have z1 := q G kept
  unfold pageS at z1
  rw [pages_map] at z1
  exact z1
theorem ok_wnodes {f g f1 f2 f3 : Addr} {fd gd d1 d2 d3 : FuncData} (F : Fun K "_write_node" "_write_node" s_wnode f fd) (F2 : Fun K "_write_nodes" "_write_nodes" s_wnodes g gd) (gF : mg "_write_node" = some (.ref f)) (gG : mg "_write_nodes" = some (.ref g)) (bF : Binds K fd P_wnode []) (bG : Binds K gd P_wnodes [])
    (D_write_text : Def P w K mg base "write_text" 1 P_write_text (spStr wText) f1 d1) (D_write_literal : Def P w K mg base "write_literal" 10 P_wlit (spLit K 7) f2 d2) (D_write_attribute : Def P w K mg base "_write_attribute" 5 P_wattr (spWAttr K) f3 d3) :
    ∀ n : Nat, FnOk P w K mg base CX0 (2 * n + 9) f fd P_wnode (spWNode K n) ∧ FnOk P w K mg base CX0 (2 * n + 10) g gd P_wnodes (spWNodes K n)
  | 0 => ⟨⟨fun _ _ _ _ h => h.elim, fun _ _ _ _ _ _ _ _ _ _ _ _ _ h => h.elim⟩, ⟨fun _ _ _ _ h => h.elim, fun _ _ _ _ _ _ _ _ _ _ _ _ _ h => h.elim⟩⟩
  | n + 1 => by
    have ih := ok_wnodes F F2 gF gG bF bG D_write_text D_write_literal D_write_attribute n
    have a := ok_wnodeS F D_write_text D_write_literal D_write_attribute ⟨gG, F2.kp, bG, ih.2⟩
    exact ⟨a, ok_wnodesS F2 ⟨gF, F.kp, bF, a⟩⟩
abbrev s_write : Stmt := top 37
abbrev N_write : List Str := ["tree"]
abbrev P_write : List Str := ["tree"]
theorem sc_write : FnScope N_write P_write (defScope s_write) := ⟨rfl, rfl, rfl, by decide +kernel, rfl, by decide +kernel, by decide +kernel⟩
def spWrite (K : PySem.W.Frag) : Sp := fun vs H Q _ => ∃ (v : V) (xs : List Node), vs = [v] ∧ Dq K H v (treeD xs) ∧ Okt 4 xs ∧ ∀ H', Same H H' → Q (.str (pageS xs)) H'
theorem ok_write {f f1 f2 : Addr} {fd d1 d2 : FuncData} (F : Fun K "write" "write" s_write f fd) (D_is_tree : Def P w K mg base "is_tree" 22 P_is_tree (spTree K) f1 d1) (D_write_nodes : Def P w K mg base "_write_nodes" 20 P_wnodes (spWNodes K 5) f2 d2) : FnOk P w K mg base CX0 23 f fd P_write (spWrite K) := by
  refine F.ok sc_write (fun vs H Q E h => ?_) (fun cdv A outer s H vs Q E hr h => ?_)
  · obtain ⟨c, _, rfl, _⟩ := h
    rfl
  obtain ⟨v, xs, rfl, dq, ok, q⟩ := h
  exact ⟨_, (pss_cons (ps_if (pt_not (pt_val (pe_call D_is_tree.ok (hr.mono (by first | decide | omega)) rfl D_is_tree.g D_is_tree.kp D_is_tree.b .nil pass0 (pa_cons (pv 0) pa_nil))))
      (pss_one ps_never)
      pss_nil)
    (pss_one (ps_ret (pe_call D_write_nodes.ok (hr.mono (by first | decide | omega)) rfl D_write_nodes.g D_write_nodes.kp D_write_nodes.b .nil pass0 (pa_cons (pv 0) pa_nil))))), _, rfl, v, xs, rfl, dq, ok, fun H1 s1 => ⟨_, rfl, if_ff rfl ⟨_, rfl, v, xs, rfl, Dq.same s1 _ _ dq, ok, fun H2 s2 => q _ (s1.trans s2)⟩⟩⟩
end
end KX

namespace KX
open PySem PySem.Spec L2 PyProof.Rows CwR
/-! ### the law's page of a tree -/
theorem ql_page {ls : List Str} : ql (Txt.join "" ls) = (ls.map ql).flatten := ql_join0 ls
theorem join_snoc (ls : List Str) (x : Str) : Txt.join "" (ls ++ [x]) = Txt.join "" ls ++ x := by
  refine ql_ext ?_
  rw [ql_app, ql_page, ql_page, List.map_append, List.flatten_append]
  simp
theorem str_assoc (a b c : Str) : a ++ b ++ c = a ++ (b ++ c) := ql_ext (by simp only [ql_app, List.append_assoc])
theorem rows_some {q : Str × Str} {qs : List (Str × Str)} : Txt.join ";" ((q :: qs).map rowP) ≠ "" := by
  intro e
  have h : ql (Txt.join ";" ((q :: qs).map rowP)) = [] := by rw [e]; rfl
  rw [ql_join, List.map_cons, List.map_cons] at h
  have one : ∀ (S p : List Nat) (r : List (List Nat)), p ≠ [] → TL.joinL S (p :: r) ≠ [] := by
    intro S p r hp
    cases r with
    | nil => exact hp
    | cons u us =>
      show p ++ (S ++ TL.joinL S (u :: us)) ≠ []
      exact fun z => hp (List.append_eq_nil_iff.mp z).1
  refine one _ _ _ ?_ h
  unfold rowP
  rw [ql_app, ql_app]
  intro z
  have z1 := (List.append_eq_nil_iff.mp z).1
  have z2 := (List.append_eq_nil_iff.mp z1).2
  exact absurd z2 (by decide)
theorem page_href (ps : List Str) (qs : List (Str × Str)) : Atr.page (.adr ps qs) = " href=\"" ++ adrS ps qs ++ "\"" := rfl
theorem esc_attr (z : Str) : escS "attribute" (.str z) = wAttr z := by
  unfold escS
  rw [if_neg (by decide), if_neg (by decide), if_pos rfl]
  rfl
theorem esc_text (z : Str) : escS "text" (.str z) = wText z := by
  unfold escS
  rw [if_neg (by decide), if_pos rfl]
  rfl
section
variable {base : Heap} {P : Program} {w : World} {K : PySem.W.Frag} {mg : Str → Option Value} {tk : Str → Tok}
abbrev s_atext : Stmt := top 61
abbrev N_atext : List Str := ["_law_each", "_law_ways", "_law_rows", "_law_chars_here", "_law_word"]
abbrev P_atext : List Str := ["_law_each"]
theorem sc_atext : FnScope N_atext P_atext (defScope s_atext) := ⟨rfl, rfl, rfl, by decide +kernel, rfl, by decide +kernel, by decide +kernel⟩
def spAText (K : PySem.W.Frag) : Sp := fun vs H Q _ => ∃ (v : V) (u : Atr), vs = [v] ∧ Dq K H v u.d ∧ u.ok ∧ ∀ H', Same H H' → Q (.str u.page) H'
theorem ok_atext {f f1 f2 : Addr} {fd d1 d2 : FuncData} (F : Fun K "_law_attribute_text" "_law_attribute_text" s_atext f fd) (D_escaped : Def P w K mg base "_law_escaped" 8 P_lesc (spEsc K) f1 d1) (D_code : Def P w K mg base "_law_code" 1 P_lcode spCode f2 d2) :
    FnOk P w K mg base CX0 9 f fd P_atext (spAText K) := by
  refine F.ok sc_atext (fun vs H Q E h => ?_) (fun cdv A outer s H vs Q E hr h => ?_)
  · obtain ⟨c, _, rfl, _⟩ := h
    rfl
  obtain ⟨v, u, rfl, dq, ok, q⟩ := h
  refine ⟨_, (pss_cons (ps_if (pt_cmpR op_ne (pe_ix (ix_tupK K rfl) (pv 0) pe_int (fun _ _ => rfl)) pe_str (nomark _))
      (pss_one (ps_ret (pe_op op_add_str (pe_op op_add_str (pe_op op_add_str (pe_op op_add_str pe_str (pe_ix (ix_tupK K rfl) (pv 0) pe_int (fun _ _ => rfl))) pe_str) (pe_call D_escaped.ok (hr.mono (by first | decide | omega)) rfl D_escaped.g D_escaped.kp D_escaped.b .nil pass0 (pa_cons pe_str (pa_cons (pe_ix (ix_tupK K rfl) (pv 0) pe_int (fun _ _ => rfl)) pa_nil)))) pe_str)))
      pss_nil)
    (pss_cons (ps_set (i := 1) sc_atext.nd rfl (Or.inl rfl) (pe_join pe_str (pe_lc (own := [("_law_chars_here", 3)]) (g := (gName 3)) (tt := tYes) rfl sc_atext.nd (pi_tup (pe_ix (ix_tupK K rfl) (pe_ix (ix_tupK K rfl) (pv 0) pe_int (fun _ _ => rfl)) pe_int (fun _ _ => rfl))) (blkOk_by (own := [("_law_chars_here", 3)]) (N := N_atext) (sc := defScope s_atext) (by decide +kernel)) (fun _ _ _ _ _ => (pg_name (i := 3) sc_atext.nd rfl (Or.inl rfl))) (fun _ _ _ _ _ => pts_nil) (fun _ _ _ _ _ => (pe_op op_add_str pe_str (pe_call D_code.ok (hr.mono (by first | decide | omega)) rfl D_code.g D_code.kp D_code.b .nil pass0 (pa_cons (pv 3) pa_nil)))))))
    (pss_cons (ps_set (i := 2) sc_atext.nd rfl (Or.inl rfl) (pe_join pe_str (pe_lc (own := [("_law_word", 4), ("_law_chars_here", 3)]) (g := (gTup K 2 (gCons (gName 4) (gCons (gName 3) gNil)))) (tt := tYes) rfl sc_atext.nd (pi_tup (pe_ix (ix_tupK K rfl) (pe_ix (ix_tupK K rfl) (pv 0) pe_int (fun _ _ => rfl)) pe_int (fun _ _ => rfl))) (blkOk_by (own := [("_law_word", 4), ("_law_chars_here", 3)]) (N := N_atext) (sc := defScope s_atext) (by decide +kernel)) (fun _ _ _ _ _ => (pg_tup rfl (pgs_cons (pg_name (i := 4) sc_atext.nd rfl (Or.inl rfl)) (pgs_cons (pg_name (i := 3) sc_atext.nd rfl (Or.inl rfl)) pgs_nil)))) (fun _ _ _ _ _ => pts_nil) (fun _ _ _ _ _ => (pe_op op_add_str (pe_op op_add_str (pv 4) pe_str) (pe_call D_code.ok (hr.mono (by first | decide | omega)) rfl D_code.g D_code.kp D_code.b .nil pass0 (pa_cons (pv 3) pa_nil)))))))
    (pss_one (ps_ret (pe_op op_add_str (pe_op op_add_str (pe_op op_add_str pe_str (pv 1)) (pe_ifExp (pt_cmpR op_ne (pv 2) pe_str (nomark _)) (pe_op op_add_str pe_str (pv 2)) pe_str)) pe_str)))))), ?_⟩
  rw [Atr.d_eq] at dq
  obtain ⟨a, xs, rfl, at', all⟩ := dq.tupOf
  obtain ⟨x1, x2, rfl, d1, d2⟩ := all.two
  obtain rfl := d1.strOf
  refine ⟨_, rfl, a, _, 0, .str u.name, rfl, rfl, SqT.of at', at0, rfl, _, rfl, ?_⟩
  cases u with
  | txt n z =>
    obtain rfl := Dq.strOf (z := z) d2
    have tz := ok.2.2
    have nl : n.length ≤ 12 := nm_len ok.1
    have wl := wAttr_len tz.1
    have ne : (!decide (V.str n = V.str "href")) = true := by
      rw [decide_eq_false (fun e => ok.2.1 (V.str.inj e))]
      rfl
    refine if_tt ne ?_
    refine ⟨_, rfl, a, _, 0, .str n, rfl, rfl, SqT.of at', at0, _, _, rfl, rfl, ?_, _, _, rfl, rfl, ?_, ?_⟩
    · show 1 + n.length ≤ 16777216
      omega
    · rw [len_app]
      show 1 + n.length + 2 ≤ 16777216
      omega
    refine ⟨_, rfl, a, _, 1, .str z, rfl, rfl, SqT.of at', at1, "attribute", .str z, .str z, rfl, .str z, .inr ⟨.inr (.inl rfl), .inl ⟨z, rfl, tz⟩⟩, fun H1 s1 => ?_⟩
    rw [esc_attr]
    refine ⟨_, _, rfl, rfl, ?_, _, _, rfl, rfl, ?_, q _ s1⟩
    · simp only [len_app]
      show 1 + n.length + 2 + _ ≤ 16777216
      omega
    · simp only [len_app]
      show 1 + n.length + 2 + _ + 1 ≤ 16777216
      omega
  | adr ps qs =>
    refine if_ff (show (!decide (V.str "href" = V.str "href")) = false from by decide) ?_
    obtain ⟨ne, l1, l2, h1, h2⟩ := ok
    obtain ⟨b, ws, rfl, atb, allb⟩ := Dq.tupOf (ds := [.tuple (ps.map .str), .tuple (qs.map pairD)]) d2
    obtain ⟨y1, y2, rfl, e1, e2⟩ := allb.two
    obtain ⟨c, ys, rfl, atc, allc⟩ := e1.tupOf
    obtain ⟨d, zs, rfl, atd, alld⟩ := e2.tupOf
    have yl : ys.length = ps.length := by rw [allc.length, List.length_map]
    have zl : zs.length = qs.length := by rw [alld.length, List.length_map]
    refine ⟨⟨_, rfl⟩, _, rfl, a, _, 1, .ref b, rfl, rfl, SqT.of at', at1, b, _, 0, .ref c, rfl, rfl, SqT.of atb, at0, c, rfl, ⟨_, SqT.of atc⟩, fun D new => ?_⟩
    refine lc_it (walk_tup (K := K) (a := c) (xs := ys)) (fun i G => Same H G ∧ G D = some (.lst ((ps.take i).map fun z => .str (wayS z)))) ⟨same_new new _, upd_same⟩ (fun i G _ p => SqT.of (p.1 _ _ atc)) ?_ ?_
    · rintro i x G2 G hi ⟨kept, made⟩ ⟨rfl, hx⟩
      obtain ⟨d, ed, dx⟩ := allc.get hx
      rw [List.getElem?_map] at ed
      obtain ⟨z, ez, rfl⟩ := Option.map_eq_some_iff.mp ed
      obtain rfl := dx.strOf
      have tz := h1 z (List.mem_of_getElem? ez)
      have cl := codeS_len tz
      refine ⟨rfl, yesT ⟨_, rfl, z, rfl, tz, fun G3 same => ⟨_, _, rfl, rfl, ?_, _, same _ _ made, ?_, Same.updNew (kept.trans same) new, ?_⟩⟩⟩
      · show 1 + (codeS z).length ≤ 16777216
        omega
      · rw [List.length_map, List.length_take]
        exact less_line (by omega)
      · rw [upd_same, List.take_succ, ez, List.map_append]
        rfl
    rintro G ⟨kept, made⟩
    rw [List.take_of_length_le (by omega)] at made
    have each1 : ∀ z ∈ ps.map wayS, z.length ≤ 200 := by
      intro z hz
      obtain ⟨y, hy, rfl⟩ := List.mem_map.mp hz
      exact wayS_len (h1 y hy)
    have wl := ways_len h1 l1
    refine ⟨"", D, ps.map wayS, rfl, rfl, .inl (SqL.of (by rw [List.map_map]; exact made)), fits_j (by rw [List.length_map]; exact l1) each1 (by decide) (by decide), ?_⟩
    refine ⟨⟨_, rfl⟩, _, rfl, a, _, 1, .ref b, rfl, rfl, SqT.of (kept _ _ at'), at1, b, _, 1, .ref d, rfl, rfl, SqT.of (kept _ _ atb), at1, d, rfl, ⟨_, SqT.of (kept _ _ atd)⟩, fun D2 new2 => ?_⟩
    refine lc_it (walk_tup (K := K) (a := d) (xs := zs)) (fun i U => Same G U ∧ U D2 = some (.lst ((qs.take i).map fun p => .str (rowP p)))) ⟨same_new new2 _, upd_same⟩ (fun i U _ p => SqT.of (p.1 _ _ (kept _ _ atd))) ?_ ?_
    · rintro i x G2 U hi ⟨kept2, made2⟩ ⟨rfl, hx⟩
      obtain ⟨d, ed, dx⟩ := alld.get hx
      rw [List.getElem?_map] at ed
      obtain ⟨⟨n, z⟩, ep, rfl⟩ := Option.map_eq_some_iff.mp ed
      obtain ⟨nm, tx⟩ := h2 _ (List.mem_of_getElem? ep)
      obtain ⟨e, us, rfl, ate, alle⟩ := Dq.tupOf (ds := [.str n, .str z]) (Dq.same (kept.trans kept2) _ _ dx)
      obtain ⟨u1, u2, rfl, g1, g2⟩ := alle.two
      obtain rfl := g1.strOf
      obtain rfl := g2.strOf
      have nl : n.length ≤ 12 := nm_len nm
      have cl : (codeS z).length ≤ 192 := codeS_len tx
      refine ⟨e, _, rfl, SqT.of ate, rfl, _, _, rfl, _, _, rfl, rfl, rfl, yesT ?_⟩
      refine ⟨_, rfl, _, _, rfl, rfl, ?_, _, rfl, z, rfl, tx, fun G3 same => ⟨_, _, rfl, rfl, ?_, _, same _ _ made2, ?_, Same.updNew (kept2.trans same) new2, ?_⟩⟩
      · show n.length + 1 ≤ 16777216
        omega
      · rw [len_app]
        show n.length + 1 + (codeS z).length ≤ 16777216
        omega
      · rw [List.length_map, List.length_take]
        exact less_line (by omega)
      · rw [upd_same, List.take_succ, ep, List.map_append]
        rfl
    rintro U ⟨kept2, made2⟩
    rw [List.take_of_length_le (by omega)] at made2
    have each2 : ∀ z ∈ qs.map rowP, z.length ≤ 210 := by
      intro z hz
      obtain ⟨y, hy, rfl⟩ := List.mem_map.mp hz
      exact rowP_len (h2 y hy).1 (h2 y hy).2
    have rl := rows_len h2 l2
    refine ⟨";", D2, qs.map rowP, rfl, rfl, .inl (SqL.of (by rw [List.map_map]; exact made2)), fits_j (by rw [List.length_map]; exact l2) each2 (by decide) (by decide), ?_⟩
    have z1 := q U (kept.trans kept2)
    rw [page_href] at z1
    refine ⟨_, rfl, _, _, rfl, rfl, ?_, _, rfl, rfl, _, rfl, ?_⟩
    · show 7 + _ ≤ 16777216
      omega
    unfold adrS at z1
    cases qs with
    | nil =>
      rw [if_pos rfl] at z1
      refine if_ff (by decide) ⟨_, _, rfl, rfl, ?_, _, _, rfl, rfl, ?_, ?_⟩
      · rw [len_app]
        show 7 + _ + 0 ≤ 16777216
        omega
      · simp only [len_app]
        show 7 + _ + 0 + 1 ≤ 16777216
        omega
      · have e : " href=\"" ++ Txt.join "" (ps.map wayS) ++ "" ++ "\"" = " href=\"" ++ Txt.join "" (ps.map wayS) ++ "\"" := ql_ext (by simp only [ql_app]; rw [show ql "" = [] from rfl, List.append_nil])
        rw [e]
        exact z1
    | cons q1 qr =>
      rw [if_neg (List.cons_ne_nil _ _)] at z1
      have some1 : (!decide (V.str (Txt.join ";" ((q1 :: qr).map rowP)) = V.str "")) = true := by
        rw [decide_eq_false fun e => rows_some (V.str.inj e)]
        rfl
      refine if_tt some1 ⟨_, rfl, _, _, rfl, rfl, ?_, _, _, rfl, rfl, ?_, _, _, rfl, rfl, ?_, ?_⟩
      · show 1 + _ ≤ 16777216
        omega
      · simp only [len_app]
        show 7 + _ + (1 + _) ≤ 16777216
        omega
      · simp only [len_app]
        show 7 + _ + (1 + _) + 1 ≤ 16777216
        omega
      · have e : " href=\"" ++ Txt.join "" (ps.map wayS) ++ ("?" ++ Txt.join ";" ((q1 :: qr).map rowP)) ++ "\"" = " href=\"" ++ (Txt.join "" (ps.map wayS) ++ "?" ++ Txt.join ";" ((q1 :: qr).map rowP)) ++ "\"" := ql_ext (by simp only [ql_app, List.append_assoc])
        rw [e]
        exact z1
abbrev s_sheetL : Stmt := top 60
abbrev N_sheetL : List Str := ["_law_trunk_here", "_law_found", "_law_node", "_law_front", "_law_each"]
abbrev P_sheetL : List Str := ["_law_trunk_here"]
theorem sc_sheetL : FnScope N_sheetL P_sheetL (defScope s_sheetL) := ⟨rfl, rfl, rfl, by decide +kernel, rfl, by decide +kernel, by decide +kernel⟩
abbrev s_sheetT : Stmt := top 60
abbrev N_sheetT : List Str := ["_law_trunk_here", "_law_found", "_law_node", "_law_front", "_law_each"]
abbrev P_sheetT : List Str := ["_law_trunk_here"]
theorem sc_sheetT : FnScope N_sheetT P_sheetT (defScope s_sheetT) := ⟨rfl, rfl, rfl, by decide +kernel, rfl, by decide +kernel, by decide +kernel⟩
def spSheet (K : PySem.W.Frag) : Nat → Sp
  | 0 => fun _ _ _ _ => False
  | n + 1 => fun vs H Q _ => ∃ (a : Addr) (xs : List V) (ns : List Node), vs = [.ref a] ∧ (H a = some (.lst xs) ∨ H a = some (.tup xs)) ∧ DqAll K H xs (Node.ds ns) ∧ ns.length ≤ 3 ∧ (∀ x ∈ ns, Okn n x) ∧ ∀ H', Same H H' → Q (.str (pageS ns)) H'
theorem at2 {x y z : V} {r : List V} : atI (x :: y :: z :: r) 2 = some z := at_of (j := 2) rfl rfl
theorem at3 {x y z u : V} {r : List V} : atI (x :: y :: z :: u :: r) 3 = some u := at_of (j := 3) rfl rfl
theorem page_take {ns : List Node} {i : Nat} {x : Node} (e : ns[i]? = some x) : Txt.join "" ((ns.take (i + 1)).map Node.page) = Txt.join "" ((ns.take i).map Node.page) ++ x.page := by
  rw [List.take_succ, e, List.map_append]
  exact join_snoc _ _
theorem take_len {ns : List Node} {n : Nat} (few : ns.length ≤ 3) (ok : ∀ x ∈ ns, Okn n x) (i : Nat) : (Txt.join "" ((ns.take i).map Node.page)).length ≤ 1500000 := by
  have b : ∀ x ∈ (ns.take i).map Node.page, x.length ≤ 500000 := by
    intro x hx
    obtain ⟨y, hy, rfl⟩ := List.mem_map.mp hx
    exact Node.page_len (ok y (List.mem_of_mem_take hy))
  exact join_le (z := "") (n := 3) b (by rw [List.length_map, List.length_take]; omega)
theorem ok_sheetS {n : Nat} {f f1 f2 f3 : Addr} {fd d1 d2 d3 : FuncData} (F : Fun K "_law_sheet" "_law_sheet" s_sheetL f fd) (T : Bl mg) (D_escaped : Def P w K mg base "_law_escaped" 8 P_lesc (spEsc K) f1 d1) (D_literal : DefT P w K mg base "_law_literal" 7 P_llit (spLit K 7) f2 d2)
    (D_attribute_text : Def P w K mg base "_law_attribute_text" 9 P_atext (spAText K) f3 d3) (D_sheet : Def P w K mg base "_law_sheet" (n + 10) P_sheetL (spSheet K n) f fd) : FnOk P w K mg base CX0 (n + 11) f fd P_sheetL (spSheet K (n + 1)) := by
  refine Fun.okT F sc_sheetL (by decide +kernel) (by decide) (fun vs H Q E h => ?_) (fun cdv A outer s H vs Q E hr h => ?_)
  · obtain ⟨_, _, _, rfl, _⟩ := h
    rfl
  obtain ⟨a, xs, ns, rfl, at', all, few, ok, q⟩ := h
  have xl : xs.length = ns.length := by rw [all.length, ds_map, List.length_map]
  rcases at' with at' | at'
  · refine ⟨_, (psst_cons (PST.of (ps_set (i := 1) sc_sheetL.nd rfl (Or.inl rfl) pe_str))
    (psst_cons (pst_forT PassesOwn.never rfl (pi_list (pv 0)) (pg_name (i := 2) sc_sheetL.nd rfl (Or.inl rfl))
      (psst_one (pst_if (pt_cmpR op_eq (pe_ix (ix_tupK K rfl) (pv 2) pe_int (fun _ _ => rfl)) pe_str (nomark _))
      (psst_one (PST.of (ps_set (i := 1) sc_sheetL.nd rfl (Or.inl rfl) (pe_op op_add_str (pv 1) (pe_call D_escaped.ok (hr.mono (by first | decide | omega)) rfl D_escaped.g D_escaped.kp D_escaped.b .nil pass0 (pa_cons pe_str (pa_cons (pe_ix (ix_tupK K rfl) (pv 2) pe_int (fun _ _ => rfl)) pa_nil)))))))
      (psst_one (pst_if (pt_cmpR op_eq (pe_ix (ix_tupK K rfl) (pv 2) pe_int (fun _ _ => rfl)) pe_str (nomark _))
      (psst_one (pst_set (i := 1) sc_sheetL.nd rfl (Or.inl rfl) (pet_op op_add_str (pet_op op_add_str (PET.of (pe_op op_add_str (pv 1) pe_str)) (pet_call D_literal (hr.mono (by first | decide | omega)) rfl (pa_cons (pe_ix (ix_tupK K rfl) (pv 2) pe_int (fun _ _ => rfl)) pa_nil))) (PET.of pe_str))))
      (psst_cons (PST.of (ps_set (i := 3) sc_sheetL.nd rfl (Or.inl rfl) (pe_join pe_str (pe_lc (own := [("_law_each", 4)]) (g := (gName 4)) (tt := tYes) rfl sc_sheetL.nd (pi_tup (pe_ix (ix_tupK K rfl) (pv 2) pe_int (fun _ _ => rfl))) (blkOk_by (own := [("_law_each", 4)]) (N := N_sheetL) (sc := defScope s_sheetL) (by decide +kernel)) (fun _ _ _ _ _ => (pg_name (i := 4) sc_sheetL.nd rfl (Or.inl rfl))) (fun _ _ _ _ _ => pts_nil) (fun _ _ _ _ _ => (pe_call D_attribute_text.ok (hr.mono (by first | decide | omega)) rfl D_attribute_text.g D_attribute_text.kp D_attribute_text.b .nil pass0 (pa_cons (pv 4) pa_nil)))))))
    (psst_cons (PST.of (ps_set (i := 1) sc_sheetL.nd rfl (Or.inl rfl) (pe_op op_add_str (pe_op op_add_str (pe_op op_add_str (pe_op op_add_str (pe_op op_add_str (pv 1) pe_str) (pe_ix (ix_tupK K rfl) (pv 2) pe_int (fun _ _ => rfl))) (pv 3)) pe_str) (pe_call D_sheet.ok (hr.mono (by first | decide | omega)) rfl D_sheet.g D_sheet.kp D_sheet.b .nil pass0 (pa_cons (pe_ix (ix_tupK K rfl) (pv 2) pe_int (fun _ _ => rfl)) pa_nil)))))
    (psst_one (PST.of (ps_set (i := 1) sc_sheetL.nd rfl (Or.inl rfl) (pe_op op_add_str (pe_op op_add_str (pe_op op_add_str (pv 1) pe_str) (pe_ix (ix_tupK K rfl) (pv 2) pe_int (fun _ _ => rfl))) pe_str)))))))))))
    (psst_one (PST.of (ps_ret (pv 1)))))), ?_⟩
    refine ⟨_, rfl, a, rfl, ⟨_, SqL.of at'⟩, ?_⟩
    refine for_it (walk_list (K := K) (a := a) (xs := xs)) (fun i σ G => Same H G ∧ ∃ v2 v3 : Option V, σ = [some (.ref a), some (.str (Txt.join "" ((ns.take i).map Node.page))), v2, v3, none]) ⟨Same.refl H, none, none, rfl⟩ (fun i σ G _ p => SqL.of (p.1 _ _ at')) ?_ ?_
    · rintro i x σ G2 G hi ⟨kept, v2, v3, rfl⟩ ⟨rfl, hx⟩
      obtain ⟨u, eu, dx⟩ := nodes_at all hx
      have dx := Dq.same kept _ _ dx
      have ou := ok u (List.mem_of_getElem? eu)
      have acc := take_len few ok i
      have step := page_take eu
      have up := Node.page_len ou
      cases u with
      | text z =>
        have ok' : TxV z ∧ z ≠ "" := by simpa only [Okn] using ou
        simp only [Node.d] at dx
        obtain ⟨b, us, rfl, atb, allb⟩ := dx.tupOf
        obtain ⟨u1, u2, rfl, e1, e2⟩ := allb.two
        obtain rfl := e1.strOf
        obtain rfl := e2.strOf
        simp only [Node.page] at step up
        refine ⟨_, rfl, b, _, 0, .str "text", rfl, rfl, SqT.of atb, at0, rfl, _, rfl, if_tt (decide_eq_true rfl) ?_⟩
        refine ⟨_, rfl, _, rfl, b, _, 1, .str z, rfl, rfl, SqT.of atb, at1, "text", .str z, .str z, rfl, .str z, .inr ⟨.inl rfl, .inl ⟨z, rfl, ok'.1⟩⟩, fun H1 s1 => ?_⟩
        rw [esc_text]
        refine ⟨_, _, rfl, rfl, ?_, kept.trans s1, some (.ref b), v3, by rw [step]; rfl⟩
        show _ ≤ 16777216
        omega
      | data d =>
        have ok' : Vd 4 d := by simpa only [Okn] using ou
        simp only [Node.d] at dx
        obtain ⟨b, us, rfl, atb, allb⟩ := dx.tupOf
        obtain ⟨u1, u2, rfl, e1, e2⟩ := allb.two
        obtain rfl := e1.strOf
        simp only [Node.page] at step up
        rw [len_app, len_app] at up
        have up : 6 + (lit d).length + 7 ≤ 500000 := up
        refine ⟨_, rfl, b, _, 0, .str "data", rfl, rfl, SqT.of atb, at0, rfl, _, rfl, if_ff (by decide) ?_⟩
        refine ⟨_, rfl, b, _, 0, .str "data", rfl, rfl, SqT.of atb, at0, rfl, _, rfl, if_tt (decide_eq_true rfl) ?_⟩
        refine ⟨_, rfl, _, _, rfl, rfl, ?_, _, rfl, b, _, 1, u2, rfl, rfl, SqT.of atb, at1, u2, d, rfl, e2, ok'.ups 2, by decide, fun H1 s1 => ⟨_, _, rfl, rfl, ?_, _, _, rfl, rfl, ?_, kept.trans s1, some (.ref b), v3, ?_⟩⟩
        · show _ + 6 ≤ 16777216
          omega
        · rw [len_app]
          show _ + 6 + _ ≤ 16777216
          omega
        · rw [len_app, len_app]
          show _ + 6 + _ + 7 ≤ 16777216
          omega
        · rw [step, ← str_assoc, ← str_assoc]
          rfl
      | elem y as ns2 =>
        cases n with
        | zero => simp [Okn] at ou
        | succ n =>
        obtain ⟨h1, h2, h3, h4, h5, h6⟩ := ou.elem
        simp only [Node.d] at dx
        obtain ⟨b, us, rfl, atb, allb⟩ := dx.tupOf
        obtain ⟨u1, u2, u3, u4, rfl, e1, e2, e3, e4⟩ := allb.four
        obtain rfl := e1.strOf
        obtain rfl := e2.strOf
        obtain ⟨c, ys, rfl, atc, allc⟩ := e3.tupOf
        obtain ⟨d, zs, rfl, atd, alld⟩ := e4.tupOf
        have yl : ys.length = as.length := by rw [allc.length, List.length_map]
        have nl := nm_len h1
        have al := atrs_len h4 h3
        have each : ∀ z ∈ as.map Atr.page, z.length ≤ 22400 := by
          intro z hz
          obtain ⟨u, hu, rfl⟩ := List.mem_map.mp hz
          exact Atr.page_len (h4 u hu)
        simp only [Node.page] at step
        refine ⟨_, rfl, b, _, 0, .str "element", rfl, rfl, SqT.of atb, at0, rfl, _, rfl, if_ff (by decide) ?_⟩
        refine ⟨_, rfl, b, _, 0, .str "element", rfl, rfl, SqT.of atb, at0, rfl, _, rfl, if_ff (by decide) ?_⟩
        refine ⟨⟨_, rfl⟩, _, rfl, b, _, 2, .ref c, rfl, rfl, SqT.of atb, at2, c, rfl, ⟨_, SqT.of atc⟩, fun D new => ?_⟩
        refine lc_it (walk_tup (K := K) (a := c) (xs := ys)) (fun i S => Same G S ∧ S D = some (.lst ((as.take i).map fun u => .str u.page))) ⟨same_new new _, upd_same⟩ (fun i S _ p => SqT.of (p.1 _ _ atc)) ?_ ?_
        · rintro i x S2 S hi ⟨kept1, made⟩ ⟨rfl, hx⟩
          obtain ⟨d, ed, dx⟩ := allc.get hx
          rw [List.getElem?_map] at ed
          obtain ⟨u, eu, rfl⟩ := Option.map_eq_some_iff.mp ed
          refine ⟨rfl, yesT ⟨_, rfl, x, u, rfl, Dq.same kept1 _ _ dx, h4 u (List.mem_of_getElem? eu), fun S3 same => ⟨_, same _ _ made, ?_, Same.updNew (kept1.trans same) new, ?_⟩⟩⟩
          · rw [List.length_map, List.length_take]
            exact less_line (by omega)
          · rw [upd_same, List.take_succ, eu, List.map_append]
            rfl
        rintro S ⟨kept1, made⟩
        rw [List.take_of_length_le (by omega)] at made
        refine ⟨"", D, as.map Atr.page, rfl, rfl, .inl (SqL.of (by rw [List.map_map]; exact made)), fits_j (by rw [List.length_map]; exact h3) each (by decide) (by decide), ?_⟩
        have atb1 := kept1 _ _ atb
        refine ⟨_, rfl, _, _, rfl, rfl, ?_, _, rfl, b, _, 1, .str y, rfl, rfl, SqT.of atb1, at1, _, _, rfl, rfl, ?_, _, rfl, _, _, rfl, rfl, ?_, _, _, rfl, rfl, ?_, ?_⟩
        · show _ + 1 ≤ 16777216
          omega
        · simp only [len_app]
          show _ + 1 + _ ≤ 16777216
          omega
        · simp only [len_app]
          show _ + 1 + _ + _ ≤ 16777216
          omega
        · simp only [len_app]
          show _ + 1 + _ + _ + 1 ≤ 16777216
          omega
        refine ⟨_, rfl, b, _, 3, .ref d, rfl, rfl, SqT.of atb1, at3, d, zs, ns2, rfl, .inr (kept1 _ _ atd), DqAll.same kept1 _ _ alld, h5.1, h5.2.2, fun H1 s1 => ?_⟩
        refine ⟨_, _, rfl, rfl, ?_, ?_⟩
        · simp only [len_app]
          show _ + 1 + _ + _ + 1 + _ ≤ 16777216
          omega
        refine ⟨_, rfl, _, _, rfl, rfl, ?_, _, rfl, b, _, 1, .str y, rfl, rfl, SqT.of (s1 _ _ atb1), at1, _, _, rfl, rfl, ?_, _, _, rfl, rfl, ?_, kept.trans (kept1.trans s1), some (.ref b), some (.str (Txt.join "" (as.map Atr.page))), ?_⟩
        · simp only [len_app]
          show _ + 1 + _ + _ + 1 + _ + 2 ≤ 16777216
          omega
        · simp only [len_app]
          show _ + 1 + _ + _ + 1 + _ + 2 + _ ≤ 16777216
          omega
        · simp only [len_app]
          show _ + 1 + _ + _ + 1 + _ + 2 + _ + 1 ≤ 16777216
          omega
        · rw [step]
          simp only [← str_assoc]
          rfl
    · rintro σ G ⟨kept, v2, v3, rfl⟩
      have z1 := q G kept
      unfold pageS at z1
      rw [pages_map] at z1
      refine ⟨_, rfl, ?_⟩
      have e : ns.take xs.length = ns := List.take_of_length_le (by omega)
      rw [e]
      exact z1
  · refine ⟨_, (psst_cons (PST.of (ps_set (i := 1) sc_sheetT.nd rfl (Or.inl rfl) pe_str))
    (psst_cons (pst_forT PassesOwn.never rfl (pi_tup (pv 0)) (pg_name (i := 2) sc_sheetT.nd rfl (Or.inl rfl))
      (psst_one (pst_if (pt_cmpR op_eq (pe_ix (ix_tupK K rfl) (pv 2) pe_int (fun _ _ => rfl)) pe_str (nomark _))
      (psst_one (PST.of (ps_set (i := 1) sc_sheetT.nd rfl (Or.inl rfl) (pe_op op_add_str (pv 1) (pe_call D_escaped.ok (hr.mono (by first | decide | omega)) rfl D_escaped.g D_escaped.kp D_escaped.b .nil pass0 (pa_cons pe_str (pa_cons (pe_ix (ix_tupK K rfl) (pv 2) pe_int (fun _ _ => rfl)) pa_nil)))))))
      (psst_one (pst_if (pt_cmpR op_eq (pe_ix (ix_tupK K rfl) (pv 2) pe_int (fun _ _ => rfl)) pe_str (nomark _))
      (psst_one (pst_set (i := 1) sc_sheetT.nd rfl (Or.inl rfl) (pet_op op_add_str (pet_op op_add_str (PET.of (pe_op op_add_str (pv 1) pe_str)) (pet_call D_literal (hr.mono (by first | decide | omega)) rfl (pa_cons (pe_ix (ix_tupK K rfl) (pv 2) pe_int (fun _ _ => rfl)) pa_nil))) (PET.of pe_str))))
      (psst_cons (PST.of (ps_set (i := 3) sc_sheetT.nd rfl (Or.inl rfl) (pe_join pe_str (pe_lc (own := [("_law_each", 4)]) (g := (gName 4)) (tt := tYes) rfl sc_sheetT.nd (pi_tup (pe_ix (ix_tupK K rfl) (pv 2) pe_int (fun _ _ => rfl))) (blkOk_by (own := [("_law_each", 4)]) (N := N_sheetT) (sc := defScope s_sheetT) (by decide +kernel)) (fun _ _ _ _ _ => (pg_name (i := 4) sc_sheetT.nd rfl (Or.inl rfl))) (fun _ _ _ _ _ => pts_nil) (fun _ _ _ _ _ => (pe_call D_attribute_text.ok (hr.mono (by first | decide | omega)) rfl D_attribute_text.g D_attribute_text.kp D_attribute_text.b .nil pass0 (pa_cons (pv 4) pa_nil)))))))
    (psst_cons (PST.of (ps_set (i := 1) sc_sheetT.nd rfl (Or.inl rfl) (pe_op op_add_str (pe_op op_add_str (pe_op op_add_str (pe_op op_add_str (pe_op op_add_str (pv 1) pe_str) (pe_ix (ix_tupK K rfl) (pv 2) pe_int (fun _ _ => rfl))) (pv 3)) pe_str) (pe_call D_sheet.ok (hr.mono (by first | decide | omega)) rfl D_sheet.g D_sheet.kp D_sheet.b .nil pass0 (pa_cons (pe_ix (ix_tupK K rfl) (pv 2) pe_int (fun _ _ => rfl)) pa_nil)))))
    (psst_one (PST.of (ps_set (i := 1) sc_sheetT.nd rfl (Or.inl rfl) (pe_op op_add_str (pe_op op_add_str (pe_op op_add_str (pv 1) pe_str) (pe_ix (ix_tupK K rfl) (pv 2) pe_int (fun _ _ => rfl))) pe_str)))))))))))
    (psst_one (PST.of (ps_ret (pv 1)))))), ?_⟩
    refine ⟨_, rfl, a, rfl, ⟨_, SqT.of at'⟩, ?_⟩
    refine for_it (walk_tup (K := K) (a := a) (xs := xs)) (fun i σ G => Same H G ∧ ∃ v2 v3 : Option V, σ = [some (.ref a), some (.str (Txt.join "" ((ns.take i).map Node.page))), v2, v3, none]) ⟨Same.refl H, none, none, rfl⟩ (fun i σ G _ p => SqT.of (p.1 _ _ at')) ?_ ?_
    · rintro i x σ G2 G hi ⟨kept, v2, v3, rfl⟩ ⟨rfl, hx⟩
      obtain ⟨u, eu, dx⟩ := nodes_at all hx
      have dx := Dq.same kept _ _ dx
      have ou := ok u (List.mem_of_getElem? eu)
      have acc := take_len few ok i
      have step := page_take eu
      have up := Node.page_len ou
      cases u with
      | text z =>
        have ok' : TxV z ∧ z ≠ "" := by simpa only [Okn] using ou
        simp only [Node.d] at dx
        obtain ⟨b, us, rfl, atb, allb⟩ := dx.tupOf
        obtain ⟨u1, u2, rfl, e1, e2⟩ := allb.two
        obtain rfl := e1.strOf
        obtain rfl := e2.strOf
        simp only [Node.page] at step up
        refine ⟨_, rfl, b, _, 0, .str "text", rfl, rfl, SqT.of atb, at0, rfl, _, rfl, if_tt (decide_eq_true rfl) ?_⟩
        refine ⟨_, rfl, _, rfl, b, _, 1, .str z, rfl, rfl, SqT.of atb, at1, "text", .str z, .str z, rfl, .str z, .inr ⟨.inl rfl, .inl ⟨z, rfl, ok'.1⟩⟩, fun H1 s1 => ?_⟩
        rw [esc_text]
        refine ⟨_, _, rfl, rfl, ?_, kept.trans s1, some (.ref b), v3, by rw [step]; rfl⟩
        show _ ≤ 16777216
        omega
      | data d =>
        have ok' : Vd 4 d := by simpa only [Okn] using ou
        simp only [Node.d] at dx
        obtain ⟨b, us, rfl, atb, allb⟩ := dx.tupOf
        obtain ⟨u1, u2, rfl, e1, e2⟩ := allb.two
        obtain rfl := e1.strOf
        simp only [Node.page] at step up
        rw [len_app, len_app] at up
        have up : 6 + (lit d).length + 7 ≤ 500000 := up
        refine ⟨_, rfl, b, _, 0, .str "data", rfl, rfl, SqT.of atb, at0, rfl, _, rfl, if_ff (by decide) ?_⟩
        refine ⟨_, rfl, b, _, 0, .str "data", rfl, rfl, SqT.of atb, at0, rfl, _, rfl, if_tt (decide_eq_true rfl) ?_⟩
        refine ⟨_, rfl, _, _, rfl, rfl, ?_, _, rfl, b, _, 1, u2, rfl, rfl, SqT.of atb, at1, u2, d, rfl, e2, ok'.ups 2, by decide, fun H1 s1 => ⟨_, _, rfl, rfl, ?_, _, _, rfl, rfl, ?_, kept.trans s1, some (.ref b), v3, ?_⟩⟩
        · show _ + 6 ≤ 16777216
          omega
        · rw [len_app]
          show _ + 6 + _ ≤ 16777216
          omega
        · rw [len_app, len_app]
          show _ + 6 + _ + 7 ≤ 16777216
          omega
        · rw [step, ← str_assoc, ← str_assoc]
          rfl
      | elem y as ns2 =>
        cases n with
        | zero => simp [Okn] at ou
        | succ n =>
        obtain ⟨h1, h2, h3, h4, h5, h6⟩ := ou.elem
        simp only [Node.d] at dx
        obtain ⟨b, us, rfl, atb, allb⟩ := dx.tupOf
        obtain ⟨u1, u2, u3, u4, rfl, e1, e2, e3, e4⟩ := allb.four
        obtain rfl := e1.strOf
        obtain rfl := e2.strOf
        obtain ⟨c, ys, rfl, atc, allc⟩ := e3.tupOf
        obtain ⟨d, zs, rfl, atd, alld⟩ := e4.tupOf
        have yl : ys.length = as.length := by rw [allc.length, List.length_map]
        have nl := nm_len h1
        have al := atrs_len h4 h3
        have each : ∀ z ∈ as.map Atr.page, z.length ≤ 22400 := by
          intro z hz
          obtain ⟨u, hu, rfl⟩ := List.mem_map.mp hz
          exact Atr.page_len (h4 u hu)
        simp only [Node.page] at step
        refine ⟨_, rfl, b, _, 0, .str "element", rfl, rfl, SqT.of atb, at0, rfl, _, rfl, if_ff (by decide) ?_⟩
        refine ⟨_, rfl, b, _, 0, .str "element", rfl, rfl, SqT.of atb, at0, rfl, _, rfl, if_ff (by decide) ?_⟩
        refine ⟨⟨_, rfl⟩, _, rfl, b, _, 2, .ref c, rfl, rfl, SqT.of atb, at2, c, rfl, ⟨_, SqT.of atc⟩, fun D new => ?_⟩
        refine lc_it (walk_tup (K := K) (a := c) (xs := ys)) (fun i S => Same G S ∧ S D = some (.lst ((as.take i).map fun u => .str u.page))) ⟨same_new new _, upd_same⟩ (fun i S _ p => SqT.of (p.1 _ _ atc)) ?_ ?_
        · rintro i x S2 S hi ⟨kept1, made⟩ ⟨rfl, hx⟩
          obtain ⟨d, ed, dx⟩ := allc.get hx
          rw [List.getElem?_map] at ed
          obtain ⟨u, eu, rfl⟩ := Option.map_eq_some_iff.mp ed
          refine ⟨rfl, yesT ⟨_, rfl, x, u, rfl, Dq.same kept1 _ _ dx, h4 u (List.mem_of_getElem? eu), fun S3 same => ⟨_, same _ _ made, ?_, Same.updNew (kept1.trans same) new, ?_⟩⟩⟩
          · rw [List.length_map, List.length_take]
            exact less_line (by omega)
          · rw [upd_same, List.take_succ, eu, List.map_append]
            rfl
        rintro S ⟨kept1, made⟩
        rw [List.take_of_length_le (by omega)] at made
        refine ⟨"", D, as.map Atr.page, rfl, rfl, .inl (SqL.of (by rw [List.map_map]; exact made)), fits_j (by rw [List.length_map]; exact h3) each (by decide) (by decide), ?_⟩
        have atb1 := kept1 _ _ atb
        refine ⟨_, rfl, _, _, rfl, rfl, ?_, _, rfl, b, _, 1, .str y, rfl, rfl, SqT.of atb1, at1, _, _, rfl, rfl, ?_, _, rfl, _, _, rfl, rfl, ?_, _, _, rfl, rfl, ?_, ?_⟩
        · show _ + 1 ≤ 16777216
          omega
        · simp only [len_app]
          show _ + 1 + _ ≤ 16777216
          omega
        · simp only [len_app]
          show _ + 1 + _ + _ ≤ 16777216
          omega
        · simp only [len_app]
          show _ + 1 + _ + _ + 1 ≤ 16777216
          omega
        refine ⟨_, rfl, b, _, 3, .ref d, rfl, rfl, SqT.of atb1, at3, d, zs, ns2, rfl, .inr (kept1 _ _ atd), DqAll.same kept1 _ _ alld, h5.1, h5.2.2, fun H1 s1 => ?_⟩
        refine ⟨_, _, rfl, rfl, ?_, ?_⟩
        · simp only [len_app]
          show _ + 1 + _ + _ + 1 + _ ≤ 16777216
          omega
        refine ⟨_, rfl, _, _, rfl, rfl, ?_, _, rfl, b, _, 1, .str y, rfl, rfl, SqT.of (s1 _ _ atb1), at1, _, _, rfl, rfl, ?_, _, _, rfl, rfl, ?_, kept.trans (kept1.trans s1), some (.ref b), some (.str (Txt.join "" (as.map Atr.page))), ?_⟩
        · simp only [len_app]
          show _ + 1 + _ + _ + 1 + _ + 2 ≤ 16777216
          omega
        · simp only [len_app]
          show _ + 1 + _ + _ + 1 + _ + 2 + _ ≤ 16777216
          omega
        · simp only [len_app]
          show _ + 1 + _ + _ + 1 + _ + 2 + _ + 1 ≤ 16777216
          omega
        · rw [step]
          simp only [← str_assoc]
          rfl
    · rintro σ G ⟨kept, v2, v3, rfl⟩
      have z1 := q G kept
      unfold pageS at z1
      rw [pages_map] at z1
      refine ⟨_, rfl, ?_⟩
      have e : ns.take xs.length = ns := List.take_of_length_le (by omega)
      rw [e]
      exact z1
theorem ok_sheet {f f1 f2 f3 : Addr} {fd d1 d2 d3 : FuncData} (F : Fun K "_law_sheet" "_law_sheet" s_sheetL f fd) (T : Bl mg) (g : mg "_law_sheet" = some (.ref f)) (b : Binds K fd P_sheetL []) (D_escaped : Def P w K mg base "_law_escaped" 8 P_lesc (spEsc K) f1 d1) (D_literal : DefT P w K mg base "_law_literal" 7 P_llit (spLit K 7) f2 d2)
    (D_attribute_text : Def P w K mg base "_law_attribute_text" 9 P_atext (spAText K) f3 d3) : ∀ n : Nat, FnOk P w K mg base CX0 (n + 10) f fd P_sheetL (spSheet K n)
  | 0 => ⟨fun _ _ _ _ h => h.elim, fun _ _ _ _ _ _ _ _ _ _ _ _ _ h => h.elim⟩
  | n + 1 => ok_sheetS F T D_escaped D_literal D_attribute_text ⟨g, F.kp, b, ok_sheet F T g b D_escaped D_literal D_attribute_text n⟩
end
end KX

namespace KX
open PySem PySem.Spec L2 PyProof.Rows CwR
/-! ### what is drawn are values -/
theorem tx_v {z : Str} (h : TxOk z) : TxV z := ⟨Nat.le_trans h.1 (by decide), h.2⟩
theorem rep_k (n : Nat) (h : n ≤ 60) : TxV (repS "k" n) := by
  have e : ql (repS "k" n) = List.replicate n 107 := by
    rw [ql_rep]
    show (List.replicate n [107]).flatten = _
    rw [List.flatten_replicate_singleton]
  refine ⟨?_, fun c hc => ?_⟩
  · rw [ql_len, e, List.length_replicate]
    omega
  · rw [e] at hc
    rw [List.eq_of_mem_replicate hc]
    decide
theorem fit_vd : ∀ (n : Nat) (f : Fm) (d : PyData), okF n f → Fit f d → Vd (2 * n) d
  | n, .text, _, _, .text tx => by
    have h : TxV _ := tx_v tx
    cases n <;> simpa only [Vd] using h
  | n, .number, _, _, .number i => by
    have h : (_ : Int).natAbs ≤ 10 ^ 40 := Nat.le_trans i (by decide)
    cases n <;> simpa only [Vd] using h
  | n, .flag, _, _, .flag b => by cases n <;> simp [Vd]
  | 0, .list _, _, h, _ => by simp [okF] at h
  | 0, .opt _, _, h, _ => by simp [okF] at h
  | 0, .rcd _, _, h, _ => by simp [okF] at h
  | 0, .keyed _ _ _ _, _, h, _ => by simp [okF] at h
  | n + 1, .opt f, _, h, .optN _ => by simp [Vd]
  | n + 1, .opt f, d, h, .opt fd => by
    have h' : okF n f ∧ f.isOpt = false := by simpa only [okF] using h
    have := (fit_vd n f d h'.1 fd).ups 2
    exact this
  | n + 1, .list f, _, h, .list (ds := ds) few each => by
    have h' : okF n f := by simpa only [okF] using h
    have : Vd (2 * n + 1) (.tuple ds) := by
      simp only [Vd]
      exact ⟨few, fun x hx => fit_vd n f x h' (each x hx)⟩
    exact this.up
  | n + 1, .rcd fs, _, h, .rcd (kvs := kvs) keys each => by
    have h' : Names (fs.map (·.1)) ∧ sortedS (fs.map (·.1)) = true ∧ 1 ≤ fs.length ∧ fs.length ≤ 3 ∧ ∀ q ∈ fs, okF n q.2 := by simpa only [okF] using h
    have len : kvs.length = fs.length := by
      have := congrArg List.length keys
      rw [List.length_map, List.length_map] at this
      exact this
    have at' : ∀ kv ∈ kvs, ∃ q ∈ fs, kv.1 = .str q.1 ∧ Fit q.2 kv.2 := by
      intro kv hkv
      obtain ⟨i, hi, e⟩ := List.mem_iff_getElem.mp hkv
      have hi2 : i < fs.length := by omega
      refine ⟨fs[i], List.getElem_mem hi2, ?_, each i _ kv (List.getElem?_eq_getElem hi2) (by rw [List.getElem?_eq_getElem hi, e])⟩
      have := congrArg (fun l : List PyData => l[i]?) keys
      simp only [List.getElem?_map, List.getElem?_eq_getElem hi, List.getElem?_eq_getElem hi2, Option.map_some] at this
      rw [← e]
      exact Option.some.inj this
    have : Vd (2 * n + 1) (.dict kvs) := by
      simp only [Vd]
      refine ⟨⟨by omega, ?_, fun kv hkv => ?_⟩, fun kv hkv => ?_⟩
      · rw [keys]
        have nd := h'.1.1
        unfold List.Nodup at nd ⊢
        rw [List.pairwise_map] at nd ⊢
        exact nd.imp fun ne e => ne (by simpa using e)
      · obtain ⟨q, hq, e, _⟩ := at' kv hkv
        exact ⟨q.1, e, h'.1.2 _ (List.mem_map.mpr ⟨q, hq, rfl⟩)⟩
      · obtain ⟨q, hq, _, ft⟩ := at' kv hkv
        exact fit_vd n q.2 kv.2 (h'.2.2.2.2 q hq) ft
    exact this.up
  | n + 1, .keyed k num w f, _, h, .keyed (rows := rows) few keys each => by
    have h' : Names [k, w] ∧ sortedS [k, w] = true ∧ okF n f := by simpa only [okF] using h
    have ne : k ≠ w := by
      have := h'.1.1
      simp at this
      exact this
    have row : ∀ x ∈ rows.map (fun r => PyData.dict [(.str k, r.1), (.str w, r.2)]), Vd (2 * n + 1) x := by
      intro x hx
      obtain ⟨r, hr, rfl⟩ := List.mem_map.mp hx
      obtain ⟨i, hi, e⟩ := List.mem_iff_getElem.mp hr
      have ky := keys i r (by rw [List.getElem?_eq_getElem hi, e])
      have kv : Vd (2 * n) r.1 := by
        unfold keyOf at ky
        split at ky
        · obtain ⟨j, e, b1, b2⟩ := ky
          rw [e]
          have : j.natAbs ≤ 10 ^ 40 := by
            have z : (100 : Nat) ≤ 10 ^ 40 := by decide
            omega
          cases n <;> simpa only [Vd] using this
        · rw [ky]
          have := rep_k (i + 1) (by omega)
          cases n <;> simpa only [Vd] using this
      simp only [Vd]
      refine ⟨⟨by simp, by simp [ne], fun q hq => ?_⟩, fun q hq => ?_⟩
      · rcases List.mem_cons.mp hq with rfl | hq
        · exact ⟨k, rfl, h'.1.2 k (by simp)⟩
        · rw [List.mem_singleton.mp hq]
          exact ⟨w, rfl, h'.1.2 w (by simp)⟩
      · rcases List.mem_cons.mp hq with rfl | hq
        · exact kv
        · rw [List.mem_singleton.mp hq]
          exact fit_vd n f r.2 h'.2.2 (each r hr)
    have : Vd (2 * n + 2) (.tuple (rows.map fun r => PyData.dict [(.str k, r.1), (.str w, r.2)])) := by
      simp only [Vd]
      exact ⟨by rw [List.length_map]; exact few, row⟩
    exact this
theorem texts_dq {K : PySem.W.Frag} {H : Hp} : ∀ zs : List Str, DqAll K H (zs.map V.str) (zs.map PyData.str)
  | [] => .nil
  | z :: zs => .cons (.str z) (texts_dq zs)
/-! ### drawn attributes -/
section
variable {base : Heap} {P : Program} {w : World} {K : PySem.W.Frag} {mg : Str → Option Value} {tk : Str → Tok}
abbrev s_lattr : Stmt := top 58
abbrev N_lattr : List Str := ["_law_pool_here", "_law_word", "_law_ways", "_law_words_here", "_law_k", "_law_each"]
abbrev P_lattr : List Str := ["_law_pool_here", "_law_word"]
theorem sc_lattr : FnScope N_lattr P_lattr (defScope s_lattr) := ⟨rfl, rfl, rfl, by decide +kernel, rfl, by decide +kernel, by decide +kernel⟩
def spLAttr (K : PySem.W.Frag) : Sp := fun vs H Q _ => ∃ (p : Addr) (n : Str), vs = [.ref p, .str n] ∧ PoolAt H p ∧ IsNm n ∧ ∀ (H' : Hp) (v : V) (u : Atr), Keep p H H' → PoolAt H' p → Dq K (sub H H') v u.d → u.ok → Q v H'
theorem ok_lattr {f f1 f2 f3 : Addr} {fd d1 d2 d3 : FuncData} (F : Fun K "_law_attribute" "_law_attribute" s_lattr f fd) (T : Bl mg) (D_draw : Def P w K mg base "_law_draw" 1 P_draw spDraw f1 d1) (D_chars : Def P w K mg base "_law_chars" 2 P_chars spChars f2 d2) (D_words : Def P w K mg base "_law_words" 2 P_words spWords f3 d3) :
    FnOk P w K mg base CX0 3 f fd P_lattr (spLAttr K) := by
  refine F.ok sc_lattr (fun vs H Q E h => ?_) (fun cdv A outer s H vs Q E hr h => ?_)
  · obtain ⟨_, _, rfl, _⟩ := h
    rfl
  obtain ⟨p, n, rfl, hp, nm, q⟩ := h
  refine ⟨_, (pss_cons (ps_if (pt_cmpR op_gt (pe_call D_draw.ok (hr.mono (by first | decide | omega)) rfl D_draw.g D_draw.kp D_draw.b .nil pass0 (pa_cons (pv 0) (pa_cons pe_int pa_nil))) pe_int (nomark _))
      (pss_one (ps_ret (pe_tup (pa_cons (pe_ifExp (pt_cmpR op_ne (pv 1) pe_str (nomark _)) (pv 1) pe_str) (pa_cons (pe_call D_chars.ok (hr.mono (by first | decide | omega)) rfl D_chars.g D_chars.kp D_chars.b .nil pass0 (pa_cons (pv 0) pa_nil)) pa_nil)))))
      pss_nil)
    (pss_cons (ps_set (i := 2) sc_lattr.nd rfl (Or.inl rfl) (pe_callTy call_tuple_of (by rfl) T.tuple (by decide +kernel) (pa_cons (pe_lc (own := [("_law_k", 4)]) (g := (gName 4)) (tt := tYes) rfl sc_lattr.nd (pi_range1 rfl T.range (pa_cons (pe_op op_add pe_int (pe_call D_draw.ok (hr.mono (by first | decide | omega)) rfl D_draw.g D_draw.kp D_draw.b .nil pass0 (pa_cons (pv 0) (pa_cons pe_int pa_nil)))) pa_nil)) (blkOk_by (own := [("_law_k", 4)]) (N := N_lattr) (sc := defScope s_lattr) (by decide +kernel)) (fun _ _ _ _ _ => (pg_name (i := 4) sc_lattr.nd rfl (Or.inl rfl))) (fun _ _ _ _ _ => pts_nil) (fun _ _ _ _ _ => (pe_call D_chars.ok (hr.mono (by first | decide | omega)) rfl D_chars.g D_chars.kp D_chars.b .nil pass0 (pa_cons (pv 0) pa_nil)))) pa_nil)))
    (pss_cons (ps_set (i := 3) sc_lattr.nd rfl (Or.inl rfl) (pe_call D_words.ok (hr.mono (by first | decide | omega)) rfl D_words.g D_words.kp D_words.b .nil pass0 (pa_cons (pv 0) (pa_cons (pe_call D_draw.ok (hr.mono (by first | decide | omega)) rfl D_draw.g D_draw.kp D_draw.b .nil pass0 (pa_cons (pv 0) (pa_cons pe_int pa_nil))) pa_nil))))
    (pss_one (ps_ret (pe_tup (pa_cons pe_str (pa_cons (pe_tup (pa_cons (pv 2) (pa_cons (pe_callTy call_tuple_of (by rfl) T.tuple (by decide +kernel) (pa_cons (pe_lc (own := [("_law_each", 5)]) (g := (gName 5)) (tt := tYes) rfl sc_lattr.nd (pi_list (pv 3)) (blkOk_by (own := [("_law_each", 5)]) (N := N_lattr) (sc := defScope s_lattr) (by decide +kernel)) (fun _ _ _ _ _ => (pg_name (i := 5) sc_lattr.nd rfl (Or.inl rfl))) (fun _ _ _ _ _ => pts_nil) (fun _ _ _ _ _ => (pe_tup (pa_cons (pv 5) (pa_cons (pe_call D_chars.ok (hr.mono (by first | decide | omega)) rfl D_chars.g D_chars.kp D_chars.b .nil pass0 (pa_cons (pv 0) pa_nil)) pa_nil))))) pa_nil)) pa_nil))) pa_nil)))))))), ?_⟩
  refine ⟨_, rfl, p, 3, rfl, hp, by decide, by decide, fun H1 r1 k1 p1 a0 a1 => ?_⟩
  refine ⟨_, _, rfl, rfl, _, rfl, ?_⟩
  refine ite2 (fun _ => ?_) (fun _ => ?_)
  · have fin : ∀ m : Str, IsNm m → m ≠ "href" → (fun x H1 => tCall spChars [] E0 (tCons (tVar 0) tNil) [some (.ref p), some (.str n), none, none, none, none] H1 fun y H2 => 2 ≤ sizeLine ∧ ∀ t, H2 t = none → Q (.ref t) (upd H2 t (.tup [x, y]))) (V.str m) H1 := by
      intro m im nh
      refine ⟨_, rfl, p, rfl, p1, fun H2 z k2 p2 tz => ⟨(by show 2 ≤ sizeLine; decide), fun t ht => ?_⟩⟩
      have k12 := k1.trans k2
      have gt : H t = none := k12.gone (p2.ne ht) ht
      refine q _ _ (.txt m z) (k12.trans (Keep.new ht _)) (p2.same (same_new ht _)) (.tup (by rw [sub_new gt]; exact upd_same) (.cons (.str m) (.cons (.str z) .nil))) ⟨im, nh, tx_v tz⟩
    refine ⟨_, rfl, rfl, _, rfl, ?_⟩
    by_cases e : n = "href"
    · refine if_ff (by rw [decide_eq_true (congrArg V.str e)]; rfl) ?_
      exact fin "hreff" (isNm_of (by decide)) (by decide)
    · refine if_tt (by rw [decide_eq_false fun z => e (V.str.inj z)]; rfl) ?_
      exact ⟨_, rfl, fin n nm e⟩
  refine ⟨_, rfl, p, 3, rfl, p1, by decide, by decide, fun H2 r2 k2 p2 b0 b1 => ⟨_, _, rfl, rfl, _, rfl, by omega, by omega, fun D hD => ?_⟩⟩
  have nD := p2.ne hD
  refine lc_range (lo := 0) (n := (1 + r2).toNat) (fun i G => Keep p H2 G ∧ PoolAt G p ∧ ∃ zs : List Str, G D = some (.lst (zs.map V.str)) ∧ zs.length = i ∧ ∀ z ∈ zs, TxV z) ⟨Keep.new hD _, p2.upd nD, [], upd_same, rfl, fun z hz => by cases hz⟩ ?_ ?_
  · rintro i G hi ⟨kG, pG, zs, eD, zl, tz⟩
    refine ⟨rfl, yesT ⟨_, rfl, p, rfl, pG, fun G2 z k3 p3 t3 => ⟨_, k3 _ _ nD eD, ?_, (kG.trans k3).upd hD, p3.upd nD, zs ++ [z], by rw [upd_same, List.map_append]; rfl, by rw [List.length_append, zl]; rfl, ?_⟩⟩⟩
    · rw [List.length_map, zl]
      exact less_line (by omega)
    · intro x hx
      rcases List.mem_append.mp hx with h | h
      · exact tz x h
      · rw [List.mem_singleton.mp h]
        exact tx_v t3
  rintro G ⟨kG, pG, zs, eD, zl, tz⟩
  refine ⟨D, _, rfl, .inl ⟨SqL.of eD, fun tw hw => ?_⟩⟩
  obtain ⟨G1, eG1⟩ : ∃ G1, G1 = upd G tw (.tup (zs.map V.str)) := ⟨_, rfl⟩
  have sw : Same G G1 := by rw [eG1]; exact same_new hw _
  have ew : G1 tw = some (.tup (zs.map V.str)) := by rw [eG1]; exact upd_same
  have kw : Keep p H G1 := k1.trans (k2.trans (kG.trans (Same.keep sw)))
  have pw := pG.same sw
  have nw : tw ≠ p := pG.ne hw
  have gw : H tw = none := (k1.trans (k2.trans kG)).gone nw hw
  rw [← eG1]
  clear eG1 hw sw pG kG eD hD nD
  refine ⟨_, rfl, _, rfl, p, 3, rfl, pw, by decide, by decide, fun H3 r3 k3 p3 c0 c1 => ⟨p, r3, rfl, p3, c0, by omega, fun H4 l ws k4 p4 nl el wl nms => ?_⟩⟩
  refine ⟨_, rfl, _, rfl, l, rfl, ⟨_, SqL.of el⟩, fun D2 hD2 => ?_⟩
  have nD2 := p4.ne hD2
  have ne_l : l ≠ p := p3.ne nl
  obtain ⟨H5, e5⟩ : ∃ H5, H5 = upd H4 D2 (.lst []) := ⟨_, rfl⟩
  have s5 : Same H4 H5 := by rw [e5]; exact same_new hD2 _
  have at5 : H5 D2 = some (.lst []) := by rw [e5]; exact upd_same
  have p5 := p4.same s5
  have k5 : Keep p H H5 := kw.trans (k3.trans (k4.trans (Same.keep s5)))
  have ew5 : H5 tw = some (.tup (zs.map V.str)) := s5 _ _ (k4 _ _ nw (k3 _ _ nw ew))
  have el5 := s5 _ _ el
  have dom5 : Dom H H5 := (k5.dom p5)
  have has5 : ∃ u, H5 p = some u := p5.has
  have hasD2 : ∃ u, H5 D2 = some u := ⟨_, at5⟩
  have ne5 : ∀ {q : Addr}, H5 q = none → q ≠ D2 := fun z y => by
    rw [y, at5] at z
    cases z
  refine lc_it (walk_list (K := K) (a := l) (xs := ws.map V.str)) (fun i S => Keep p H4 S ∧ PoolAt S p ∧ Dom H5 S ∧ S l = some (.lst (ws.map V.str)) ∧ ∃ (vs : List V) (qs : List (Str × Str)), S D2 = some (.lst vs) ∧ DqAll K (sub H5 S) vs (qs.map pairD) ∧ qs.length = i ∧ ∀ q ∈ qs, IsNm q.1 ∧ TxV q.2)
    (by rw [← e5]; exact ⟨Same.keep s5, p5, fun _ z => z, el5, [], [], at5, .nil, rfl, fun _ z => by cases z⟩) (fun i S _ h => SqL.of h.2.2.2.1) ?_ ?_
  · rintro i x S2 S hi ⟨k6, p6, d6, el6, vs, qs, e6, dq6, ql6, oq6⟩ ⟨rfl, hx⟩
    rw [List.length_map] at hi
    rw [List.getElem?_map] at hx
    obtain ⟨y, ey, rfl⟩ := Option.map_eq_some_iff.mp hx
    have vl : vs.length = i := by rw [dq6.length, List.length_map, ql6]
    refine ⟨rfl, yesT ⟨_, rfl, _, rfl, p, rfl, p6, fun S3 z k7 p7 tz7 => ⟨(by show 2 ≤ sizeLine; decide), fun t ht => ?_⟩⟩⟩
    have nt := p7.ne ht
    have gt : H5 t = none := (d6.trans (k7.dom p7)) t ht
    have st : Same S3 (upd S3 t (.tup [.str y, .str z])) := same_new ht _
    have nDl : D2 ≠ l := fun e => by
      rw [e] at hD2
      rw [hD2] at el
      cases el
    refine ⟨vs, st _ _ (k7 _ _ nD2 e6), by rw [vl]; exact less_line (by omega), (k6.trans (k7.trans (Same.keep st))).upd hD2, (p7.same st).upd nD2, d6.trans ((k7.dom p7).trans (dom_upd.trans dom_upd)), ?_, vs ++ [.ref t], qs ++ [(y, z)], upd_same, ?_, by rw [List.length_append, ql6]; rfl, ?_⟩
    · rw [upd_ne nDl.symm]
      exact st _ _ (k7 _ _ ne_l el6)
    · rw [List.map_append]
      have u7 : Same (sub H5 S3) (sub H5 (upd (upd S3 t (.tup [.str y, .str z])) D2 (.lst (vs ++ [.ref t])))) := (sub_fresh ht).trans (sub_upd hasD2)
      refine DqAll.snoc (.tup ?_ (.cons (.str y) (.cons (.str z) .nil))) (DqAll.same ((sub_keep k7 has5).trans u7) _ _ dq6)
      rw [sub_new gt, upd_ne (ne5 gt)]
      exact upd_same
    · intro q' hq
      rcases List.mem_append.mp hq with h | h
      · exact oq6 q' h
      · rw [List.mem_singleton.mp h]
        exact ⟨nms.2 y (List.mem_of_getElem? ey), tx_v tz7⟩
  rintro S ⟨k6, p6, d6, el6, vs, qs, e6, dq6, ql6, oq6⟩
  refine ⟨D2, _, rfl, .inl ⟨SqL.of e6, fun t1 h1 => ?_⟩⟩
  refine ⟨(by show 2 ≤ sizeLine; decide), fun t2 h2 => ⟨(by show 2 ≤ sizeLine; decide), fun t3 h3 => ?_⟩⟩
  have kS : Keep p H S := kw.trans (k3.trans (k4.trans k6))
  have s1 := same_new h1 (.tup vs)
  have s2 := same_new h2 (.tup [.ref tw, .ref t1])
  have s3 := same_new h3 (.tup [.str "href", .ref t2])
  have sA := s1.trans (s2.trans s3)
  have g1 : H t1 = none := kS.gone (p6.ne h1) h1
  have g2 : H t2 = none := (kS.trans (Same.keep s1)).gone ((p6.same s1).ne h2) h2
  have g3 : H t3 = none := (kS.trans (Same.keep (s1.trans s2))).gone ((p6.same (s1.trans s2)).ne h3) h3
  have ewS : S tw = some (.tup (zs.map V.str)) := k6 _ _ nw (k4 _ _ nw (k3 _ _ nw ew))
  have z0 : zs ≠ [] := fun e => by
    rw [e] at zl
    have zl : 0 = (1 + r2).toNat := zl
    omega
  refine q _ _ (.adr zs qs) (kS.trans (Same.keep sA)) (p6.same sA) ?_ ⟨z0, by omega, by rw [ql6, List.length_map]; omega, tz, oq6⟩
  have up : Same (sub H5 S) (sub H (upd (upd (upd S t1 (.tup vs)) t2 (.tup [.ref tw, .ref t1])) t3 (.tup [.str "href", .ref t2]))) :=
    (sub_left dom5).trans ((sub_fresh h1).trans ((sub_fresh h2).trans (sub_fresh h3)))
  refine .tup (by rw [sub_new g3]; exact upd_same) (.cons (.str _) (.cons ?_ .nil))
  refine .tup (by rw [sub_new g2]; exact s3 _ _ upd_same) (.cons ?_ (.cons ?_ .nil))
  · exact .tup (by rw [sub_new gw]; exact sA _ _ ewS) (texts_dq zs)
  · exact .tup (by rw [sub_new g1]; exact (s2.trans s3) _ _ upd_same) (DqAll.same up _ _ dq6)
end
end KX

namespace KX
open PySem PySem.Spec L2 PyProof.Rows CwR
/-! ### a list beside an empty one -/
def rEqNil (K : PySem.W.Frag) : R2 := fun x y H Q => ∃ a b xs, x = .ref a ∧ y = .ref b ∧ SqL K H a xs ∧ SqL K H b [] ∧ Q (.bl xs.isEmpty) H
theorem op_eqNilK {X : Cx} (K : PySem.W.Frag) (same : X.K = K) (hu : X.A.units + 64 < cLine) : OpR X (compareOp .Eq) (rEqNil K) := by
  subst same
  intro pins s σ H x y v u Q I rx ry want
  obtain ⟨a, b, xs, rfl, rfl, ha, hb, q⟩ := want
  obtain rfl : v = Value.ref a := rx
  obtain rfl : u = Value.ref b := ry
  have lists : ∀ {c : Addr} {zs : List V}, SqL X.K H c zs → ∃ its : List Value, Vals zs its ∧ s.heap.IsList c its.toArray := by
    intro c zs h
    obtain ⟨its, r, ⟨o, n, e, cls, data, _⟩, _⟩ := I.list h
    exact ⟨its, r, o, e, cls, n, by assumption⟩
  obtain ⟨ia, r1, l1⟩ := lists ha
  obtain ⟨ib, r2, l2⟩ := lists hb
  cases r2
  have room : X.A.units < cLine := by omega
  cases r1 with
  | nil => exact SeqAt.eq_listAt (e := fun _ => true) l1 l2 rfl room (fun j h => absurd h (Nat.not_lt_zero j)) ⟨.bl true, H, I, rfl, q⟩
  | cons r rs => exact SeqAt.eq_list_lengthsAt l1 l2 (by simp) room ⟨.bl false, H, I, rfl, q⟩
theorem Okn.ups {n : Nat} {x : Node} (h : Okn n x) : ∀ k, Okn (n + k) x
  | 0 => h
  | k + 1 => (Okn.ups h k).up
theorem Apart.snoc {ns : List Node} {x : Node} (h : Apart ns) (last : ∀ y, ns.getLast? = some y → ¬ (isTx y = true ∧ isTx x = true)) : Apart (ns ++ [x]) := by
  intro i a b ea eb
  by_cases lt : i + 1 < ns.length
  · rw [List.getElem?_append_left (by omega)] at ea
    rw [List.getElem?_append_left lt] at eb
    exact h i a b ea eb
  · have bound : i + 1 < ns.length + 1 := by
      have := List.getElem?_eq_some_iff.mp eb
      obtain ⟨z, _⟩ := this
      rw [List.length_append] at z
      exact z
    have e : i + 1 = ns.length := by omega
    rw [List.getElem?_append_left (by omega)] at ea
    rw [List.getElem?_append_right (by omega), show i + 1 - ns.length = 0 from by omega] at eb
    obtain rfl : x = b := Option.some.inj eb
    refine last a ?_
    rw [List.getLast?_eq_getElem?, show ns.length - 1 = i from by omega]
    exact ea
/-- an element's name -/
def fixW (y : Str) : Str := if y = "data" then "datas" else y
theorem fixW_ok {y : Str} (h : IsNm y) : IsNm (fixW y) ∧ fixW y ≠ "data" := by
  unfold fixW
  split
  · exact ⟨isNm_of (by decide), by decide⟩
  · exact ⟨h, by assumption⟩
theorem apart_nil : Apart [] := fun i _ _ e => by simp at e
section
variable {base : Heap} {P : Program} {w : World} {K : PySem.W.Frag} {mg : Str → Option Value} {tk : Str → Tok}
abbrev s_trunk : Stmt := top 59
abbrev N_trunk : List Str := ["_law_pool_here", "_law_deep", "_law_found", "_law_many", "_law_word", "_law_way", "_law_chars_here", "_law_rows", "_law_each"]
abbrev P_trunk : List Str := ["_law_pool_here", "_law_deep"]
theorem sc_trunk : FnScope N_trunk P_trunk (defScope s_trunk) := ⟨rfl, rfl, rfl, by decide +kernel, rfl, by decide +kernel, by decide +kernel⟩
def spTrunk (K : PySem.W.Frag) : Nat → Sp
  | 0 => fun _ _ _ _ => False
  | n + 1 => fun vs H Q _ => ∃ p : Addr, vs = [.ref p, .int (n : Int)] ∧ n ≤ 3 ∧ PoolAt H p ∧ ∀ (H' : Hp) (v : V) (ns : List Node), Keep p H H' → PoolAt H' p → Dq K (sub H H') v (treeD ns) → Okt n ns → (pageS ns).length < 900 → Q v H'
theorem ok_trunkS {n : Nat} {f f1 f2 f3 f4 f5 f6 f7 : Addr} {fd d1 d2 d3 d4 d5 d6 d7 : FuncData} (F : Fun K "_law_trunk" "_law_trunk" s_trunk f fd) (T : Bl mg) (D_draw : Def P w K mg base "_law_draw" 1 P_draw spDraw f1 d1) (D_words : Def P w K mg base "_law_words" 2 P_words spWords f2 d2)
    (D_chars : Def P w K mg base "_law_chars" 2 P_chars spChars f3 d3) (D_form : Def P w K mg base "_law_form" 5 P_form (spFormL K 3) f4 d4) (D_thing_of : Def P w K mg base "_law_thing_of" 7 P_thing (spThingL K 5) f5 d5) (D_attribute : Def P w K mg base "_law_attribute" 3 P_lattr (spLAttr K) f6 d6)
    (D_sheet : Def P w K mg base "_law_sheet" 15 P_sheetL (spSheet K 5) f7 d7) (D_trunk : Def P w K mg base "_law_trunk" (n + 15) P_trunk (spTrunk K n) f fd) : FnOk P w K mg base CX0 (n + 16) f fd P_trunk (spTrunk K (n + 1)) := by
  refine F.ok sc_trunk (fun vs H Q E h => ?_) (fun cdv A outer s H vs Q E hr h => ?_)
  · obtain ⟨p, rfl, _⟩ := h
    rfl
  obtain ⟨p, rfl, n3, hp, q⟩ := h
  refine ⟨_, (pss_cons (ps_par rfl sc_trunk.nd (i := 2) (j := 3) rfl rfl (by decide) rfl rfl (pa_cons (pe_lst pa_nil) (pa_cons (pe_call D_draw.ok (hr.mono (by first | decide | omega)) rfl D_draw.g D_draw.kp D_draw.b .nil pass0 (pa_cons (pv 0) (pa_cons pe_int pa_nil))) pa_nil)) (by rfl))
    (pss_cons (ps_for PassesOwn.never rfl (pi_list (pe_lc (own := [("_law_each", 8)]) (g := (gName 8)) (tt := tYes) rfl sc_trunk.nd (pi_list (pe_call D_words.ok (hr.mono (by first | decide | omega)) rfl D_words.g D_words.kp D_words.b .nil pass0 (pa_cons (pv 0) (pa_cons (pv 3) pa_nil)))) (blkOk_by (own := [("_law_each", 8)]) (N := N_trunk) (sc := defScope s_trunk) (by decide +kernel)) (fun _ _ _ _ _ => (pg_name (i := 8) sc_trunk.nd rfl (Or.inl rfl))) (fun _ _ _ _ _ => pts_nil) (fun _ _ _ _ _ => (pe_ifExp (pt_cmpR op_ne (pv 8) pe_str (nomark _)) (pv 8) pe_str)))) (pg_name (i := 4) sc_trunk.nd rfl (Or.inl rfl))
      (pss_cons (ps_set (i := 5) sc_trunk.nd rfl (Or.inl rfl) (pe_call D_draw.ok (hr.mono (by first | decide | omega)) rfl D_draw.g D_draw.kp D_draw.b .nil pass0 (pa_cons (pv 0) (pa_cons pe_int pa_nil))))
    (pss_cons (ps_set (i := 6) sc_trunk.nd rfl (Or.inl rfl) (pe_call D_chars.ok (hr.mono (by first | decide | omega)) rfl D_chars.g D_chars.kp D_chars.b .nil pass0 (pa_cons (pv 0) pa_nil)))
    (pss_one (ps_if (pt_cmpR op_eq (pv 5) pe_int (nomark _))
      (pss_one (ps_expr (pe_bm PySem.F.plainAttrs_list PySem.F.slot_list_append PySem.F.type_list_append mt_append (pv 2) (pa_cons (pe_tup (pa_cons pe_str (pa_cons (pe_call D_thing_of.ok (hr.mono (by first | decide | omega)) rfl D_thing_of.g D_thing_of.kp D_thing_of.b .nil pass0 (pa_cons (pv 0) (pa_cons (pe_call D_form.ok (hr.mono (by first | decide | omega)) rfl D_form.g D_form.kp D_form.b .nil pass0 (pa_cons (pv 0) (pa_cons pe_int pa_nil))) pa_nil))) pa_nil))) pa_nil))))
      (pss_one (ps_if (PW.pt (pw_or (pt_cmpR op_lt (pv 5) pe_int (nomark _)) (pw_or1 (pt_cmpR op_eq (pv 1) pe_int (nomark _)))))
      (pss_one (ps_if (PW.pt (pw_and (pt_cmpR op_ne (pv 6) pe_str (nomark _)) (pw_and1 (PW.pt (pw_or (pt_cmpR (op_eqNilK K rfl hr.units) (pv 2) (pe_lst pa_nil) (nomark _)) (pw_or1 (pt_cmpR op_ne (pe_ix (ix_tupK K rfl) (pe_ix (ix_listK K rfl) (pv 2) (pe_un un_neg pe_int) (fun _ _ => rfl)) pe_int (fun _ _ => rfl)) pe_str (nomark _))))))))
      (pss_one (ps_expr (pe_bm PySem.F.plainAttrs_list PySem.F.slot_list_append PySem.F.type_list_append mt_append (pv 2) (pa_cons (pe_tup (pa_cons pe_str (pa_cons (pv 6) pa_nil))) pa_nil))))
      pss_nil))
      (pss_cons (ps_setLc (i := 7) (own := [("_law_each", 8)]) (g := (gName 8)) (tt := tYes) rfl sc_trunk.nd rfl rfl (sw_true rfl rfl rfl (by decide +kernel)) (pi_list (pe_call D_words.ok (hr.mono (by first | decide | omega)) rfl D_words.g D_words.kp D_words.b .nil pass0 (pa_cons (pv 0) (pa_cons (pe_call D_draw.ok (hr.mono (by first | decide | omega)) rfl D_draw.g D_draw.kp D_draw.b .nil pass0 (pa_cons (pv 0) (pa_cons pe_int pa_nil))) pa_nil)))) (blkOk_by (own := [("_law_each", 8)]) (N := N_trunk) (sc := defScope s_trunk) (by decide +kernel)) (fun _ _ _ _ _ => (pg_name (i := 8) sc_trunk.nd rfl (Or.inl rfl))) (fun _ _ _ _ _ => pts_nil) (fun _ _ _ _ _ => (pe_call D_attribute.ok (hr.mono (by first | decide | omega)) rfl D_attribute.g D_attribute.kp D_attribute.b .nil pass0 (pa_cons (pv 0) (pa_cons (pv 8) pa_nil)))))
    (pss_one (ps_expr (pe_bm PySem.F.plainAttrs_list PySem.F.slot_list_append PySem.F.type_list_append mt_append (pv 2) (pa_cons (pe_tup (pa_cons pe_str (pa_cons (pv 4) (pa_cons (pe_callTy call_tuple_of (by rfl) T.tuple (by decide +kernel) (pa_cons (pv 7) pa_nil)) (pa_cons (pe_call D_trunk.ok (hr.mono (by first | decide | omega)) rfl D_trunk.g D_trunk.kp D_trunk.b .nil pass0 (pa_cons (pv 0) (pa_cons (pe_op op_sub (pv 1) pe_int) pa_nil))) pa_nil))))) pa_nil))))))))))))
    (pss_one (ps_ret (pe_ifExp (pt_cmpR op_lt (pe_callB (call_lenK K rfl) (by rfl) T.len PySem.boot_len (pa_cons (pe_call D_sheet.ok (hr.mono (by first | decide | omega)) rfl D_sheet.g D_sheet.kp D_sheet.b .nil pass0 (pa_cons (pv 2) pa_nil)) pa_nil)) pe_int (nomark _)) (pe_callTy call_tuple_of (by rfl) T.tuple (by decide +kernel) (pa_cons (pv 2) pa_nil)) (pe_tup (pa_cons (pe_tup (pa_cons pe_str (pa_cons pe_str pa_nil))) pa_nil))))))), ?_⟩
  refine ⟨(by show 0 ≤ sizeLine; decide), fun l hl => ?_⟩
  obtain ⟨H1, e1⟩ : ∃ H1, H1 = upd H l (.lst []) := ⟨_, rfl⟩
  have s1 : Same H H1 := by rw [e1]; exact same_new hl _
  have l1 : H1 l = some (.lst []) := by rw [e1]; exact upd_same
  have p1 := hp.same s1
  have nl : l ≠ p := hp.ne hl
  rw [← e1]
  clear e1
  refine ⟨_, rfl, p, 4, rfl, p1, by decide, by decide, fun H2 m k2 p2 a0 a1 => ⟨_, _, rfl, ?_⟩⟩
  have a1 : m < 4 := a1
  refine ⟨_, rfl, _, rfl, p, m, rfl, p2, a0, by omega, fun H3 lw ws k3 p3 nlw el wl nms => ⟨lw, rfl, ⟨_, SqL.of el⟩, fun D hD => ?_⟩⟩
  have nD := p3.ne hD
  refine lc_it (walk_list (K := K) (a := lw) (xs := ws.map V.str)) (fun i G => Same H3 G ∧ G D = some (.lst ((ws.take i).map fun y => .str (fixW y)))) ⟨same_new hD _, upd_same⟩ (fun i G _ h => SqL.of (h.1 _ _ el)) ?_ ?_
  · rintro i x G2 G hi ⟨kept, made⟩ ⟨rfl, hx⟩
    rw [List.length_map] at hi
    rw [List.getElem?_map] at hx
    obtain ⟨y, ey, rfl⟩ := Option.map_eq_some_iff.mp hx
    have fin : ∀ z : Str, z = fixW y → ∃ acc, G D = some (.lst acc) ∧ acc.length < sizeLine ∧ Same H3 (upd G D (.lst (acc ++ [V.str z]))) ∧ upd G D (.lst (acc ++ [V.str z])) D = some (.lst ((ws.take (i + 1)).map fun y => .str (fixW y))) := by
      rintro z rfl
      refine ⟨_, made, ?_, Same.updNew kept hD, ?_⟩
      · rw [List.length_map, List.length_take]
        exact less_line (by omega)
      · rw [upd_same, List.take_succ, ey, List.map_append]
        rfl
    refine ⟨rfl, yesT ⟨_, rfl, rfl, _, rfl, ?_⟩⟩
    by_cases e : y = "data"
    · refine if_ff (by rw [decide_eq_true (congrArg V.str e)]; rfl) ?_
      exact fin _ (by unfold fixW; rw [if_pos e])
    · refine if_tt (by rw [decide_eq_false fun z => e (V.str.inj z)]; rfl) ⟨_, rfl, ?_⟩
      exact fin _ (by unfold fixW; rw [if_neg e])
  rintro H4 ⟨s4, D4⟩
  rw [List.length_map, List.take_length] at D4
  have p4 := p3.same s4
  have k4 : Keep p H H4 := (Same.keep s1).trans (k2.trans (k3.trans (Same.keep s4)))
  have l4 : H4 l = some (.lst []) := s4 _ _ (k3 _ _ nl (k2 _ _ nl l1))
  have dom4 : Dom H H4 := k4.dom p4
  have has4 : ∃ u, H4 p = some u := p4.has
  have hasL : ∃ u, H4 l = some u := ⟨_, l4⟩
  have nLD : l ≠ D := fun e => by
    rw [← e] at hD
    rw [k3 _ _ nl (k2 _ _ nl l1)] at hD
    cases hD
  refine ⟨D, rfl, ⟨_, SqL.of D4⟩, ?_⟩
  refine for_it (walk_list (K := K) (a := D) (xs := ws.map fun y => .str (fixW y))) (fun i σ G => (∃ v4 v5 v6 v7 : Option V, σ = [some (.ref p), some (.int n), some (.ref l), some (.int m), v4, v5, v6, v7, none]) ∧ Keep p H G ∧ PoolAt G p ∧ Dom H4 G ∧ G D = some (.lst (ws.map fun y => .str (fixW y))) ∧
      ∃ (vs : List V) (ns : List Node), G l = some (.lst vs) ∧ DqAll K (sub H4 G) vs (Node.ds ns) ∧ ns.length ≤ i ∧ Apart ns ∧ ∀ x ∈ ns, Okn n x)
    ⟨⟨none, none, none, none, rfl⟩, k4, p4, fun _ z => z, D4, [], [], l4, .nil, Nat.le_refl _, apart_nil, fun _ z => by cases z⟩ (fun i σ G _ h => SqL.of h.2.2.2.2.1) ?_ ?_
  · rintro i x σ G2 G hi ⟨⟨v4, v5, v6, v7, rfl⟩, kG, pG, dG, GD, vs, ns, Gl, dq, nsl, ap, ok⟩ ⟨rfl, hx⟩
    rw [List.length_map] at hi
    rw [List.getElem?_map] at hx
    obtain ⟨y, ey, rfl⟩ := Option.map_eq_some_iff.mp hx
    have yn := fixW_ok (nms.2 y (List.mem_of_getElem? ey))
    have vl : vs.length = ns.length := by rw [dq.length, ds_map, List.length_map]
    have wl3 : ws.length ≤ 3 := by rw [wl]; omega
    -- a node is appended
    have app : ∀ (G2 : Hp) (v : V) (x : Node), Keep p G G2 → PoolAt G2 p → Dom H4 G2 → Same (sub H4 G) (sub H4 G2) → Dq K (sub H4 G2) v x.d → Okn n x → (∀ y, ns.getLast? = some y → ¬ (isTx y = true ∧ isTx x = true)) →
        G2 l = some (.lst vs) ∧ vs.length < sizeLine ∧ Keep p H (upd G2 l (.lst (vs ++ [v]))) ∧ PoolAt (upd G2 l (.lst (vs ++ [v]))) p ∧ Dom H4 (upd G2 l (.lst (vs ++ [v]))) ∧ upd G2 l (.lst (vs ++ [v])) D = some (.lst (ws.map fun y => .str (fixW y))) ∧
          ∃ (us : List V) (ms : List Node), upd G2 l (.lst (vs ++ [v])) l = some (.lst us) ∧ DqAll K (sub H4 (upd G2 l (.lst (vs ++ [v])))) us (Node.ds ms) ∧ ms.length ≤ i + 1 ∧ Apart ms ∧ ∀ x ∈ ms, Okn n x := by
      intro G2 v x k p' d up dv ov last
      have u2 : Same (sub H4 G2) (sub H4 (upd G2 l (.lst (vs ++ [v])))) := sub_upd hasL
      refine ⟨k _ _ nl Gl, by rw [vl]; exact less_line (by omega), (kG.trans k).upd hl, p'.upd nl, d.trans dom_upd, ?_, vs ++ [v], ns ++ [x], upd_same, ?_, by rw [List.length_append]; show ns.length + 1 ≤ i + 1; omega, ap.snoc last, ?_⟩
      · rw [upd_ne nLD.symm]
        exact k _ _ nD GD
      · have e : Node.ds (ns ++ [x]) = Node.ds ns ++ [x.d] := by rw [ds_map, ds_map, List.map_append]; rfl
        rw [e]
        exact DqAll.snoc (Dq.same u2 _ _ dv) (DqAll.same (up.trans u2) _ _ dq)
      · intro z hz
        rcases List.mem_append.mp hz with h | h
        · exact ok z h
        · rw [List.mem_singleton.mp h]
          exact ov
    -- nothing is
    have stay : ∀ (G2 : Hp), Keep p G G2 → PoolAt G2 p → Dom H4 G2 → Same (sub H4 G) (sub H4 G2) →
        Keep p H G2 ∧ PoolAt G2 p ∧ Dom H4 G2 ∧ G2 D = some (.lst (ws.map fun y => .str (fixW y))) ∧
          ∃ (us : List V) (ms : List Node), G2 l = some (.lst us) ∧ DqAll K (sub H4 G2) us (Node.ds ms) ∧ ms.length ≤ i + 1 ∧ Apart ms ∧ ∀ x ∈ ms, Okn n x :=
      fun G2 k p' d up => ⟨kG.trans k, p', d, k _ _ nD GD, vs, ns, k _ _ nl Gl, DqAll.same up _ _ dq, by omega, ap, ok⟩
    refine ⟨_, rfl, p, 5, rfl, pG, by decide, by decide, fun G1 r k5 p5 b0 b1 => ⟨_, rfl, p, rfl, p5, fun G2 z k6 p6 tz => ?_⟩⟩
    have kk := k5.trans k6
    have d2 : Dom H4 G2 := dG.trans (kk.dom p6)
    have up2 : Same (sub H4 G) (sub H4 G2) := sub_keep kk has4
    have Gl2 := kk _ _ nl Gl
    refine ⟨_, rfl, rfl, _, rfl, ?_⟩
    refine ite2 (fun _ => ?_) (fun _ => ?_)
    · -- a literal
      refine ⟨_, rfl, .inl ⟨rfl, _, SqL.of Gl2⟩, _, rfl, _, rfl, p, rfl, p6, fun G3 v fm k7 p7 df okf => ?_⟩
      refine ⟨p, v, fm, rfl, p7, Dq.same (sub_hide p6.has) _ _ df, okD_of 2 fm okf, fun G4 y2 d k8 p8 dy fy => ⟨(by show 2 ≤ sizeLine; decide), fun t ht => ?_⟩⟩
      have vd : Vd 4 d := fit_vd 2 fm d okf fy
      have d3 : Dom H4 G3 := d2.trans (k7.dom p7)
      have d4 : Dom H4 G4 := d3.trans (k8.dom p8)
      have gt : H4 t = none := d4 t ht
      have st := same_new ht (.tup [.str "data", y2])
      have k78 := k7.trans k8
      obtain ⟨a1, a2, a3, a4, a5, a6, a7⟩ := app (upd G4 t (.tup [.str "data", y2])) (.ref t) (.data d) (kk.trans (k78.trans (Same.keep st))) (p8.same st) (d4.trans dom_upd) (up2.trans ((sub_keep k78 has4).trans (sub_fresh ht)))
        (by
          simp only [Node.d]
          exact .tup (by rw [sub_new gt]; exact upd_same) (.cons (.str _) (.cons (Dq.same ((sub_left d3).trans (sub_fresh ht)) _ _ dy) .nil)))
        (by simpa only [Okn] using vd) (fun _ _ h => nomatch h.2)
      exact ⟨l, _, _, rfl, rfl, a1, a2, ⟨_, _, _, _, rfl⟩, a3, a4, a5, a6, a7⟩
    refine ⟨_, rfl, _, _, rfl, rfl, _, rfl, ?_⟩
    refine ite2 (fun _ => ?_) (fun _ => ?_)
    · -- a text
      refine ⟨_, rfl, rfl, _, rfl, ?_⟩
      refine ite2 (fun ne => ?_) (fun _ => iteF ⟨⟨_, _, _, _, rfl⟩, stay G2 kk p6 d2 up2⟩)
      have nz : z ≠ "" := fun e => by
        rw [decide_eq_true (congrArg V.str e)] at ne
        cases ne
      refine ⟨_, rfl, (by show 0 ≤ sizeLine; decide), fun b hb => ?_⟩
      have sb := same_new hb (.lst [])
      obtain ⟨G3, eG3⟩ : ∃ G3, G3 = upd G2 b (.lst []) := ⟨_, rfl⟩
      have Gb : G3 b = some (.lst []) := by rw [eG3]; exact upd_same
      have up3 : Same (sub H4 G) (sub H4 G3) := by rw [eG3]; exact up2.trans (sub_fresh hb)
      rw [← eG3] at sb ⊢
      have k3' := kk.trans (Same.keep sb)
      have p3' := p6.same sb
      have d3 : Dom H4 G3 := d2.trans (Same.dom (H := G2) sb)
      have Gl3 := sb _ _ Gl2
      refine ⟨l, b, vs, rfl, rfl, SqL.of Gl3, SqL.of Gb, _, rfl, ?_⟩
      have put : (∀ y, ns.getLast? = some y → ¬ (isTx y = true)) → ∀ t, G3 t = none → _ := fun lastOk t ht =>
        app (upd G3 t (.tup [.str "text", .str z])) (.ref t) (.text z) (k3'.trans (Same.keep (same_new ht _))) (p3'.same (same_new ht _)) (d3.trans dom_upd) (up3.trans (sub_fresh ht))
          (by
            simp only [Node.d]
            exact .tup (by rw [sub_new (d3 t ht)]; exact upd_same) (.cons (.str _) (.cons (.str _) .nil)))
          (by simpa only [Okn] using ⟨tx_v tz, nz⟩) (fun y hy h => lastOk y hy h.1)
      by_cases en : vs = []
      · have n0 : ns = [] := List.length_eq_zero_iff.mp (by rw [← vl, en]; rfl)
        rw [show vs.isEmpty = true from by rw [en]; rfl]
        refine if_tt rfl (if_tt rfl ?_)
        refine ⟨_, rfl, .inl ⟨rfl, _, SqL.of Gl3⟩, _, rfl, (by show 2 ≤ sizeLine; decide), fun t ht => ?_⟩
        obtain ⟨a1, a2, a3, a4, a5, a6, a7⟩ := put (fun y hy => by rw [n0] at hy; cases hy) t ht
        exact ⟨l, _, _, rfl, rfl, a1, a2, ⟨_, _, _, _, rfl⟩, a3, a4, a5, a6, a7⟩
      · rw [show vs.isEmpty = false from by cases vs with | nil => exact absurd rfl en | cons _ _ => rfl]
        refine if_ff rfl ?_
        have pos : 0 < vs.length := List.length_pos_iff.mpr en
        obtain ⟨v, ev⟩ : ∃ v, vs[vs.length - 1]? = some v := ⟨_, List.getElem?_eq_getElem (by omega)⟩
        obtain ⟨u, eu, du⟩ := nodes_at dq ev
        obtain ⟨c, ys, rfl, ec⟩ := node_word du
        have ec3 : G3 c = some (.tup (.str (word u) :: ys)) := sub_same _ _ _ _ (up3 _ _ ec)
        have el1 : atI vs (-1) = some (.ref c) := by
          have z1 : vs.getLast? = some (.ref c) := by
            rw [List.getLast?_eq_getElem?]
            exact ev
          obtain ⟨front, e⟩ := List.getLast?_eq_some_iff.mp z1
          rw [e]
          exact atI_last _ _
        have last : ns.getLast? = some u := by rw [List.getLast?_eq_getElem?, ← vl]; exact eu
        refine ⟨_, rfl, 1, rfl, l, vs, -1, .ref c, rfl, rfl, SqL.of Gl3, el1, c, _, 0, .str (word u), rfl, rfl, SqT.of ec3, at0, rfl, _, rfl, ?_⟩
        refine ite2 (fun nt => ?_) (fun _ => ⟨⟨_, _, _, _, rfl⟩, stay G3 k3' p3' d3 up3⟩)
        refine ⟨_, rfl, .inl ⟨rfl, _, SqL.of Gl3⟩, _, rfl, (by show 2 ≤ sizeLine; decide), fun t ht => ?_⟩
        obtain ⟨a1, a2, a3, a4, a5, a6, a7⟩ := put (fun y hy h => by
          rw [last] at hy
          obtain rfl := Option.some.inj hy
          rw [decide_eq_true (congrArg V.str (word_text.mpr h))] at nt
          cases nt) t ht
        exact ⟨l, _, _, rfl, rfl, a1, a2, ⟨_, _, _, _, rfl⟩, a3, a4, a5, a6, a7⟩
    refine ⟨_, rfl, rfl, _, rfl, ?_⟩
    refine ite2 (fun _ => ?_) (fun dn => ?_)
    · -- a text
      refine ⟨_, rfl, rfl, _, rfl, ?_⟩
      refine ite2 (fun ne => ?_) (fun _ => iteF ⟨⟨_, _, _, _, rfl⟩, stay G2 kk p6 d2 up2⟩)
      have nz : z ≠ "" := fun e => by
        rw [decide_eq_true (congrArg V.str e)] at ne
        cases ne
      refine ⟨_, rfl, (by show 0 ≤ sizeLine; decide), fun b hb => ?_⟩
      have sb := same_new hb (.lst [])
      obtain ⟨G3, eG3⟩ : ∃ G3, G3 = upd G2 b (.lst []) := ⟨_, rfl⟩
      have Gb : G3 b = some (.lst []) := by rw [eG3]; exact upd_same
      have up3 : Same (sub H4 G) (sub H4 G3) := by rw [eG3]; exact up2.trans (sub_fresh hb)
      rw [← eG3] at sb ⊢
      have k3' := kk.trans (Same.keep sb)
      have p3' := p6.same sb
      have d3 : Dom H4 G3 := d2.trans (Same.dom (H := G2) sb)
      have Gl3 := sb _ _ Gl2
      refine ⟨l, b, vs, rfl, rfl, SqL.of Gl3, SqL.of Gb, _, rfl, ?_⟩
      have put : (∀ y, ns.getLast? = some y → ¬ (isTx y = true)) → ∀ t, G3 t = none → _ := fun lastOk t ht =>
        app (upd G3 t (.tup [.str "text", .str z])) (.ref t) (.text z) (k3'.trans (Same.keep (same_new ht _))) (p3'.same (same_new ht _)) (d3.trans dom_upd) (up3.trans (sub_fresh ht))
          (by
            simp only [Node.d]
            exact .tup (by rw [sub_new (d3 t ht)]; exact upd_same) (.cons (.str _) (.cons (.str _) .nil)))
          (by simpa only [Okn] using ⟨tx_v tz, nz⟩) (fun y hy h => lastOk y hy h.1)
      by_cases en : vs = []
      · have n0 : ns = [] := List.length_eq_zero_iff.mp (by rw [← vl, en]; rfl)
        rw [show vs.isEmpty = true from by rw [en]; rfl]
        refine if_tt rfl (if_tt rfl ?_)
        refine ⟨_, rfl, .inl ⟨rfl, _, SqL.of Gl3⟩, _, rfl, (by show 2 ≤ sizeLine; decide), fun t ht => ?_⟩
        obtain ⟨a1, a2, a3, a4, a5, a6, a7⟩ := put (fun y hy => by rw [n0] at hy; cases hy) t ht
        exact ⟨l, _, _, rfl, rfl, a1, a2, ⟨_, _, _, _, rfl⟩, a3, a4, a5, a6, a7⟩
      · rw [show vs.isEmpty = false from by cases vs with | nil => exact absurd rfl en | cons _ _ => rfl]
        refine if_ff rfl ?_
        have pos : 0 < vs.length := List.length_pos_iff.mpr en
        obtain ⟨v, ev⟩ : ∃ v, vs[vs.length - 1]? = some v := ⟨_, List.getElem?_eq_getElem (by omega)⟩
        obtain ⟨u, eu, du⟩ := nodes_at dq ev
        obtain ⟨c, ys, rfl, ec⟩ := node_word du
        have ec3 : G3 c = some (.tup (.str (word u) :: ys)) := sub_same _ _ _ _ (up3 _ _ ec)
        have el1 : atI vs (-1) = some (.ref c) := by
          have z1 : vs.getLast? = some (.ref c) := by
            rw [List.getLast?_eq_getElem?]
            exact ev
          obtain ⟨front, e⟩ := List.getLast?_eq_some_iff.mp z1
          rw [e]
          exact atI_last _ _
        have last : ns.getLast? = some u := by rw [List.getLast?_eq_getElem?, ← vl]; exact eu
        refine ⟨_, rfl, 1, rfl, l, vs, -1, .ref c, rfl, rfl, SqL.of Gl3, el1, c, _, 0, .str (word u), rfl, rfl, SqT.of ec3, at0, rfl, _, rfl, ?_⟩
        refine ite2 (fun nt => ?_) (fun _ => ⟨⟨_, _, _, _, rfl⟩, stay G3 k3' p3' d3 up3⟩)
        refine ⟨_, rfl, .inl ⟨rfl, _, SqL.of Gl3⟩, _, rfl, (by show 2 ≤ sizeLine; decide), fun t ht => ?_⟩
        obtain ⟨a1, a2, a3, a4, a5, a6, a7⟩ := put (fun y hy h => by
          rw [last] at hy
          obtain rfl := Option.some.inj hy
          rw [decide_eq_true (congrArg V.str (word_text.mpr h))] at nt
          cases nt) t ht
        exact ⟨l, _, _, rfl, rfl, a1, a2, ⟨_, _, _, _, rfl⟩, a3, a4, a5, a6, a7⟩
    · -- an element
      have n1 : ∃ n', n = n' + 1 := ⟨n - 1, by
        have : ¬ (V.int (n : Int) = V.int 0) := fun e => dn (decide_eq_true e)
        have : (n : Int) ≠ 0 := fun e => this (congrArg V.int e)
        omega⟩
      refine ⟨_, rfl, _, rfl, p, 3, rfl, p6, by decide, by decide, fun G3 r3 k7 p7 c0 c1 => ⟨p, r3, rfl, p7, c0, by omega, fun G4 lx xs k8 p8 nlx ex xl nx => ⟨lx, rfl, ⟨_, SqL.of ex⟩, fun D3 hD3 => ?_⟩⟩⟩
      have nlxp : lx ≠ p := p7.ne nlx
      have nD3 := p8.ne hD3
      have kA : Keep p G G4 := kk.trans (k7.trans k8)
      obtain ⟨G5, e5⟩ : ∃ G5, G5 = upd G4 D3 (.lst []) := ⟨_, rfl⟩
      have s5 : Same G4 G5 := by rw [e5]; exact same_new hD3 _
      have at5 : G5 D3 = some (.lst []) := by rw [e5]; exact upd_same
      have p5' := p8.same s5
      have dA : Dom H4 G4 := d2.trans ((k7.dom p7).trans (k8.dom p8))
      have d5 : Dom H4 G5 := dA.trans (Same.dom s5)
      have has5 : ∃ u, G5 p = some u := p5'.has
      have hasD3 : ∃ u, G5 D3 = some u := ⟨_, at5⟩
      have nDl : D3 ≠ lx := fun e => by
        rw [e, ex] at hD3
        cases hD3
      refine lc_it (walk_list (K := K) (a := lx) (xs := xs.map V.str)) (fun i S => Keep p G4 S ∧ PoolAt S p ∧ Dom G5 S ∧ S lx = some (.lst (xs.map V.str)) ∧ ∃ (us : List V) (as : List Atr), S D3 = some (.lst us) ∧ DqAll K (sub G5 S) us (as.map Atr.d) ∧ as.length = i ∧ ∀ u ∈ as, u.ok)
        (by rw [← e5]; exact ⟨Same.keep s5, p5', fun _ z => z, s5 _ _ ex, [], [], at5, .nil, rfl, fun _ z => by cases z⟩) (fun i S _ h => SqL.of h.2.2.2.1) ?_ ?_
      · rintro i x S2 S hi ⟨k9, p9, d9, e9, us, as, eD9, dq9, al9, ok9⟩ ⟨rfl, hx⟩
        rw [List.length_map] at hi
        rw [List.getElem?_map] at hx
        obtain ⟨y2, ey2, rfl⟩ := Option.map_eq_some_iff.mp hx
        have ul : us.length = i := by rw [dq9.length, List.length_map, al9]
        refine ⟨rfl, yesT ⟨_, rfl, _, rfl, p, y2, rfl, p9, nx.2 y2 (List.mem_of_getElem? ey2), fun S3 v u k10 p10 dv ou => ?_⟩⟩
        refine ⟨us, k10 _ _ nD3 eD9, by rw [ul]; exact less_line (by omega), (k9.trans k10).upd hD3, p10.upd nD3, d9.trans ((k10.dom p10).trans dom_upd), ?_, us ++ [v], as ++ [u], upd_same, ?_, by rw [List.length_append, al9]; rfl, ?_⟩
        · rw [upd_ne nDl.symm]
          exact k10 _ _ nlxp e9
        · rw [List.map_append]
          exact DqAll.snoc (Dq.same ((sub_left d9).trans (sub_upd hasD3)) _ _ dv) (DqAll.same ((sub_keep k10 has5).trans (sub_upd hasD3)) _ _ dq9)
        · intro u' hu
          rcases List.mem_append.mp hu with h | h
          · exact ok9 u' h
          · rw [List.mem_singleton.mp h]
            exact ou
      rintro S ⟨k9, p9, d9, e9, us, as, eD9, dq9, al9, ok9⟩
      rw [List.length_map] at al9
      have kS : Keep p G S := kA.trans k9
      have dS : Dom H4 S := d5.trans d9
      refine ⟨_, rfl, .inl ⟨rfl, _, SqL.of (kS _ _ nl Gl)⟩, _, rfl, _, rfl, D3, us, rfl, .inl ⟨SqL.of eD9, fun t1 h1 => ?_⟩⟩
      have st1 := same_new h1 (.tup us)
      obtain ⟨S1, eS1⟩ : ∃ S1, S1 = upd S t1 (.tup us) := ⟨_, rfl⟩
      have at1' : S1 t1 = some (.tup us) := by rw [eS1]; exact upd_same
      have u1 : Same (sub H4 S) (sub H4 S1) := by rw [eS1]; exact sub_fresh h1
      have g1 : H4 t1 = none := dS t1 h1
      have nt1 : t1 ≠ p := p9.ne h1
      rw [← eS1] at st1 ⊢
      have pS1 := p9.same st1
      have dS1 : Dom H4 S1 := dS.trans (Same.dom (H := S) st1)
      obtain ⟨n', rfl⟩ := n1
      have en : ((n' + 1 : Nat) : Int) - 1 = (n' : Int) := by omega
      refine ⟨_, rfl, _, rfl, _, _, rfl, rfl, p, (by show [V.ref p, V.int (((n' + 1 : Nat) : Int) - 1)] = [V.ref p, V.int (n' : Int)]; rw [en]), by omega, pS1, fun S2 v ms k10 p10 dv om len => ⟨(by show 4 ≤ sizeLine; decide), fun t ht => ?_⟩⟩
      have st := same_new ht (.tup [.str "element", .str (fixW y), .ref t1, v])
      have dS2 : Dom H4 S2 := dS1.trans (k10.dom p10)
      have gt : H4 t = none := dS2 t ht
      have u2 : Same (sub H4 S1) (sub H4 (upd S2 t (.tup [.str "element", .str (fixW y), .ref t1, v]))) := (sub_keep k10 has4).trans (sub_fresh ht)
      have uS : Same (sub H4 G) (sub H4 S) := up2.trans (sub_keep ((k7.trans k8).trans k9) has4)
      obtain ⟨a1, a2, a3, a4, a5, a6, a7⟩ := app (upd S2 t (.tup [.str "element", .str (fixW y), .ref t1, v])) (.ref t) (.elem (fixW y) as ms) (kS.trans ((Same.keep st1).trans (k10.trans (Same.keep st)))) (p10.same st) (dS2.trans dom_upd) (uS.trans (u1.trans u2))
        (by
          simp only [Node.d]
          refine .tup (by rw [sub_new gt]; exact upd_same) (.cons (.str _) (.cons (.str _) (.cons ?_ (.cons ?_ .nil))))
          · refine .tup (by rw [sub_new g1]; exact st _ _ (k10 _ _ nt1 at1')) (DqAll.same ((sub_left d5).trans (u1.trans u2)) _ _ dq9)
          · exact Dq.same ((sub_left dS1).trans (sub_fresh ht)) _ _ dv)
        (.mk yn.1 yn.2 (by omega) ok9 om (by omega)) (fun _ _ h => nomatch h.2)
      exact ⟨l, _, _, rfl, rfl, a1, a2, ⟨_, _, _, _, rfl⟩, a3, a4, a5, a6, a7⟩
  · rintro σ G ⟨⟨v4, v5, v6, v7, rfl⟩, kG, pG, dG, GD, vs, ns, Gl, dq, nsl, ap, ok⟩
    rw [List.length_map] at nsl
    have few : ns.length ≤ 3 := by omega
    have dqG : DqAll K G vs (Node.ds ns) := DqAll.same (sub_same _ _) _ _ dq
    refine ⟨_, rfl, l, vs, ns, rfl, .inl Gl, dqG, few, fun x hx => ?_, fun G1 s1 => ?_⟩
    · have z := Okn.ups (ok x hx) (4 - n)
      rw [show n + (4 - n) = 4 from by omega] at z
      exact z
    have p1 := pG.same s1
    have k1 := kG.trans (Same.keep s1)
    have pgl := pageS_len (n := n) ⟨few, ap, ok⟩
    refine ⟨_, _, rfl, ⟨(show (pageS ns).length ≤ 16777216 by omega), rfl⟩, _, _, rfl, rfl, _, rfl, ?_⟩
    refine ite2 (fun lt => ?_) (fun _ => ?_)
    · have lt := of_decide_eq_true lt
      refine ⟨_, rfl, l, vs, rfl, .inl ⟨SqL.of (s1 _ _ Gl), fun t ht => ?_⟩⟩
      have gt : H t = none := k1.gone (p1.ne ht) ht
      refine q _ _ ns (k1.trans (Keep.new ht _)) (p1.same (same_new ht _)) (.tup (by rw [sub_new gt]; exact upd_same) (DqAll.same ?_ _ _ dq)) ⟨few, ap, ok⟩ (by omega)
      refine (sub_left dom4).trans ((sub_keep (Same.keep s1) hp.has).trans (sub_fresh ht))
    · refine ⟨(by show 2 ≤ sizeLine; decide), fun t1 h1 => ⟨(by show 1 ≤ sizeLine; decide), fun t2 h2 => ?_⟩⟩
      have st1 := same_new h1 (.tup [.str "text", .str "a"])
      have st2 := same_new h2 (.tup [.ref t1])
      have g1 : H t1 = none := k1.gone (p1.ne h1) h1
      have g2 : H t2 = none := (k1.trans (Same.keep st1)).gone ((p1.same st1).ne h2) h2
      refine q _ _ [.text "a"] (k1.trans (Same.keep (st1.trans st2))) (p1.same (st1.trans st2)) ?_ ⟨by decide, fun i x y e1 e2 => by simp at e2, fun x hx => ?_⟩ (by decide +kernel)
      · exact .tup (by rw [sub_new g2]; exact upd_same) (.cons (.tup (by rw [sub_new g1]; exact st2 _ _ upd_same) (.cons (.str _) (.cons (.str _) .nil))) .nil)
      · rw [List.mem_singleton.mp hx]
        have ta : TxV "a" ∧ ("a" : Str) ≠ "" := ⟨⟨by decide, fun c hc => by
          have e : c = 97 := List.mem_singleton.mp (show c ∈ [97] from hc)
          rw [e]
          decide⟩, by decide⟩
        simpa only [Okn] using ta
end
end KX

namespace KX
open PySem PySem.Spec L2 PyProof.Rows CwR
/-! ### the text of a nested value: no list in it -/
mutual
def lf : PyData → Bool
  | .list _ => false
  | .tuple ds => lfAll ds
  | .dict kvs => lfKv kvs
  | _ => true
def lfAll : List PyData → Bool
  | [] => true
  | d :: ds => lf d && lfAll ds
def lfKv : List (PyData × PyData) → Bool
  | [] => true
  | (_, d) :: r => lf d && lfKv r
end
section
variable {X : Cx} {pins : List (Addr × Obj)} {σ : L2.St} {H : Hp} {s : Shared}
theorem keys_of {kvs : List (Key × V)} {ds : List (PyData × PyData)} {vs : List (Key × Value)} {es : List DictEntry} {prog : Program} {w : World} (h : DqKv X.K H kvs ds) (r : KV kvs vs) (p : Pairs (mixKind prog w) es vs) :
    ReadsAll s.heap (es.map (·.key)) (ds.map (·.1)) [] := by
  induction p generalizing kvs ds with
  | nil =>
    cases r
    cases h
    exact .nil
  | cons hk hv hp ih =>
    cases r with
    | cons r1 r2 =>
      cases h with
      | cons h1 h2 =>
        have q := ih h2 r2
        have e := r1.1
        simp only at e
        rw [← e] at hk
        refine ReadsAll.cons (as := []) ?_ q
        rcases keyIs_shape hk with ⟨i, t, z, ek⟩ | ⟨x, t, z, ek⟩
        · show Reads s.heap (DictEntry.key _) (keyD _) []
          rw [z, ek]
          exact Reads.int i t
        · show Reads s.heap (DictEntry.key _) (keyD _) []
          rw [z, ek]
          exact Reads.str x t
mutual
theorem Dq.reads (I : Inv X pins σ H s) : ∀ (d : PyData) (v : V) (u : Value), lf d = true → Dq X.K H v d → RelV v u → ∃ as, Reads s.heap u d as ∧ sysModules ∉ as
  | .none, _, _, _, .non, r => by
    cases r
    exact ⟨_, Reads.none, by simp⟩
  | .bool _, _, _, _, .bl b, r => by
    cases r
    exact ⟨_, Reads.bool b, by simp⟩
  | .int _, _, _, _, .int i, r => by
    obtain ⟨t, rfl⟩ := r
    exact ⟨_, Reads.int i t, by simp⟩
  | .str _, _, _, _, .str x, r => by
    obtain ⟨t, rfl⟩ := r
    exact ⟨_, Reads.str x t, by simp⟩
  | .list _, _, _, no, _, _ => by simp [lf] at no
  | .tuple ds, _, _, ok, .tup hs ha, r => by
    cases r
    obtain ⟨its, rv, ⟨o, ho, hc, n, hd⟩, _⟩ := I.tuple (SqT.of hs)
    obtain ⟨as, hr, na⟩ := DqAll.reads I ds _ its (by simpa only [lf] using ok) ha rv
    exact ⟨_, Reads.tuple ho hc hd hr, na⟩
  | .dict ds, _, _, ok, .dct hs ha, r => by
    cases r
    obtain ⟨_, low, vs, rv, o, es, ep, ho, hx, hd, _, hp, _⟩ := (show ObjOk X.prog X.w H s.heap _ (.dK _) from I.hok _ _ hs)
    have hk := keys_of (X := X) (s := s) ha rv hp
    obtain ⟨bs, hr, nb⟩ := DqKv.reads I ds _ _ _ (by simpa only [lf] using ok) ha rv hp
    refine ⟨_, Reads.dict ho hx.1 hd hk hr, fun z => ?_⟩
    rcases List.mem_append.mp z with z | z
    · rcases List.mem_cons.mp z with e | z
      · rw [e] at low
        simp at low
      · cases z
    · exact nb z
theorem DqAll.reads (I : Inv X pins σ H s) : ∀ (ds : List PyData) (vs : List V) (us : List Value), lfAll ds = true → DqAll X.K H vs ds → Vals vs us → ∃ as, ReadsAll s.heap us ds as ∧ sysModules ∉ as
  | [], _, _, _, .nil, r => by
    cases r
    exact ⟨_, ReadsAll.nil, by simp⟩
  | d :: ds, _, _, ok, .cons h1 h2, r => by
    have ok' : lf d = true ∧ lfAll ds = true := by simpa only [lfAll, Bool.and_eq_true] using ok
    cases r with
    | cons r1 r2 =>
      obtain ⟨as, q1, n1⟩ := Dq.reads I d _ _ ok'.1 h1 r1
      obtain ⟨bs, q2, n2⟩ := DqAll.reads I ds _ _ ok'.2 h2 r2
      exact ⟨_, ReadsAll.cons q1 q2, fun z => (List.mem_append.mp z).elim n1 n2⟩
theorem DqKv.reads (I : Inv X pins σ H s) : ∀ (ds : List (PyData × PyData)) (kvs : List (Key × V)) (vs : List (Key × Value)) (es : List DictEntry), lfKv ds = true → DqKv X.K H kvs ds → KV kvs vs → Pairs (mixKind X.prog X.w) es vs →
    ∃ as, ReadsAll s.heap (es.map (·.val)) (ds.map (·.2)) as ∧ sysModules ∉ as
  | [], _, _, _, _, .nil, r, p => by
    cases r
    cases p
    exact ⟨_, ReadsAll.nil, by simp⟩
  | (_, d) :: ds, _, _, _, ok, .cons h1 h2, r, p => by
    have ok' : lf d = true ∧ lfKv ds = true := by simpa only [lfKv, Bool.and_eq_true] using ok
    cases r with
    | cons r1 r2 =>
      cases p with
      | cons hk hv hp =>
        have rv := r1.2
        simp only at rv
        rw [← hv] at rv
        obtain ⟨as, q1, n1⟩ := Dq.reads I d _ _ ok'.1 h1 rv
        obtain ⟨bs, q2, n2⟩ := DqKv.reads I ds _ _ _ ok'.2 h2 r2 hp
        exact ⟨_, ReadsAll.cons q1 q2, fun z => (List.mem_append.mp z).elim n1 n2⟩
end
end
/-- data whose text may be made -/
structure Shows (d : PyData) : Prop where
  free : lf d = true
  ok : d.showable = true
  deep : d.depth ≤ 60
  size : d.shown.length ≤ sizeLine
def rRepr (K : PySem.W.Frag) : List V → Hp → VK → Prop := fun xs H Q => ∃ (a : Addr) (d : PyData), xs = [.ref a] ∧ Dq K H (.ref a) d ∧ Shows d ∧ Q (.str d.shown) H
theorem call_reprK {X : Cx} {n : Nat} (K : PySem.W.Frag) (same : X.K = K) (quiet : X.A.guards = some []) (room : Room n X.A) : CallR X (.builtin "repr") (rRepr K) := by
  subst same
  intro pins s σ H xs us Q I r h
  obtain ⟨a, d, rfl, hd, ⟨free, ok, deep, size⟩, q⟩ := h
  obtain ⟨u, rfl, ru⟩ := vals1 r
  obtain rfl : u = Value.ref a := ru
  have hu := room.un
  obtain ⟨as, rd, na⟩ := Dq.reads I d _ _ free hd rfl
  exact repr_of_reads' (h₀ := s.heap) rd ok (fun _ => na) quiet (by omega) (fun _ _ e => e) (fun h' u tk k => ⟨.str _, H, I.kept k, ⟨_, rfl⟩, q⟩) size
/-! ### lists of the same texts are not unlike -/
def rNeS (K : PySem.W.Frag) : R2 := fun x y H Q => ∃ (a b : Addr) (zs : List Str), x = .ref a ∧ y = .ref b ∧ SqL K H a (zs.map V.str) ∧ SqL K H b (zs.map V.str) ∧ Q (.bl false) H
theorem str_at {zs : List Str} : ∀ {its : List Value}, Vals (zs.map V.str) its → ∀ (j : Nat) (u : Value), its[j]? = some u → ∃ z t, zs[j]? = some z ∧ u = .str z t := by
  induction zs with
  | nil => intro its r j u e; cases r; simp at e
  | cons z zs ih =>
    intro its r j u e
    cases r with
    | cons r1 r2 =>
      cases j with
      | zero =>
        obtain ⟨t, rfl⟩ := r1
        exact ⟨z, t, rfl, (Option.some.inj (by simpa using e)).symm⟩
      | succ j => simpa using ih r2 j u (by simpa using e)
theorem op_neS {X : Cx} (K : PySem.W.Frag) (same : X.K = K) (hu : X.A.units + 64 < cLine) : OpR X (compareOp .NotEq) (rNeS K) := by
  subst same
  intro pins s σ H x y v u Q I rx ry want
  obtain ⟨a, b, zs, rfl, rfl, ha, hb, q⟩ := want
  obtain rfl : v = Value.ref a := rx
  obtain rfl : u = Value.ref b := ry
  have lists : ∀ {c : Addr}, SqL X.K H c (zs.map V.str) → ∃ its : List Value, Vals (zs.map V.str) its ∧ s.heap.IsList c its.toArray := by
    intro c h
    obtain ⟨its, r, ⟨o, n, e, cls, data, _⟩, _⟩ := I.list h
    exact ⟨its, r, o, e, cls, n, by assumption⟩
  obtain ⟨ia, r1, l1⟩ := lists ha
  obtain ⟨ib, r2, l2⟩ := lists hb
  have size : ia.toArray.size = ib.toArray.size := by
    rw [List.size_toArray, List.size_toArray, ← r1.length, ← r2.length]
  refine SeqAt.RcNeAt.lists (e := fun _ => true) l1 l2 size (by omega) (fun j h1 h2 => ?_) X.prog X.w _ _ ?_
  · rw [List.size_toArray] at h1 h2
    obtain ⟨z, t, e1, e2⟩ := str_at r1 j _ (List.getElem?_eq_getElem h1)
    obtain ⟨z', t', e3, e4⟩ := str_at r2 j _ (List.getElem?_eq_getElem h2)
    rw [e1] at e3
    obtain rfl := Option.some.inj e3
    have k := SeqAt.EqAt.str_str (A := X.A.in1) (s := s) z t z t'
    rw [beq_self_eq_true] at k
    rw [List.getElem_toArray, List.getElem_toArray, e2, e4]
    exact k
  · have all : ((List.range ia.toArray.size).all fun _ => true) = true := List.all_eq_true.mpr fun _ _ => rfl
    rw [all]
    exact ⟨.bl false, H, I, rfl, q⟩
end KX

namespace KX
open PySem PySem.Spec L2 PyProof.Rows CwR
/-! ### how long the text of a tree is -/
/-- L signs at most, D levels at most -/
structure Sz (L D : Nat) (d : PyData) : Prop where
  free : lf d = true
  ok : d.showable = true
  deep : d.depth ≤ D
  len : d.shown.length ≤ L
theorem Sz.up {L D L' D' : Nat} {d : PyData} (h : Sz L D d) (l : L ≤ L') (k : D ≤ D') : Sz L' D' d := ⟨h.free, h.ok, Nat.le_trans h.deep k, Nat.le_trans h.len l⟩
theorem free_all {ds : List PyData} (h : ∀ x ∈ ds, lf x = true) : lfAll ds = true := by
  induction ds with
  | nil => rfl
  | cons x r ih =>
    simp only [lfAll, Bool.and_eq_true]
    exact ⟨h x List.mem_cons_self, ih fun y hy => h y (List.mem_cons_of_mem _ hy)⟩
theorem show_all {ds : List PyData} (h : ∀ x ∈ ds, x.showable = true) : PyData.showableAll ds = true := by
  induction ds with
  | nil => rfl
  | cons x r ih =>
    simp only [PyData.showableAll, Bool.and_eq_true]
    exact ⟨h x List.mem_cons_self, ih fun y hy => h y (List.mem_cons_of_mem _ hy)⟩
theorem deep_all {ds : List PyData} {n : Nat} (h : ∀ x ∈ ds, x.depth ≤ n) : PyData.depthAll ds ≤ n := by
  induction ds with
  | nil => exact Nat.zero_le n
  | cons x r ih =>
    have a := h x List.mem_cons_self
    have b := ih fun y hy => h y (List.mem_cons_of_mem _ hy)
    simp only [PyData.depthAll]
    omega
theorem shown_map (ds : List PyData) : PyData.shownAll ds = ds.map PyData.shown := by
  induction ds with
  | nil => rfl
  | cons x r ih => simp only [PyData.shownAll, List.map_cons, ih]
/-- a tuple: S is what its parts have together -/
theorem sz_tup {S D : Nat} {ds : List PyData} (parts : ∀ x ∈ ds, ∃ L, Sz L D x) (sum : (ds.map fun x => x.shown.length).sum ≤ S) : Sz (S + 2 * ds.length + 3) (D + 1) (.tuple ds) := by
  refine ⟨?_, ?_, ?_, ?_⟩
  · simp only [lf]
    exact free_all fun x hx => let ⟨_, h⟩ := parts x hx; h.free
  · simp only [PyData.showable]
    exact show_all fun x hx => let ⟨_, h⟩ := parts x hx; h.ok
  · have := deep_all fun x hx => let ⟨_, h⟩ := parts x hx; h.deep
    simp only [PyData.depth]
    omega
  · have h := tupleText_len_le (PyData.shownAll ds)
    rw [shown_map, List.map_map, List.length_map] at h
    simp only [PyData.shown]
    rw [shown_map]
    have e : (ds.map ((fun x : Str => x.length) ∘ PyData.shown)).sum = (ds.map fun x => x.shown.length).sum := rfl
    rw [e] at h
    omega
/-- .. of some alike -/
theorem sz_many {L D n : Nat} {ds : List PyData} (few : ds.length ≤ n) (h : ∀ x ∈ ds, Sz L D x) : Sz (n * L + 2 * n + 3) (D + 1) (.tuple ds) := by
  have s := sum_le (f := fun x : PyData => x.shown.length) (B := L) (l := ds) fun x hx => (h x hx).len
  have m : ds.length * L ≤ n * L := Nat.mul_le_mul_right _ few
  exact (sz_tup (S := n * L) (fun x hx => ⟨L, h x hx⟩) (Nat.le_trans s m)).up (by omega) (Nat.le_refl _)
theorem sz_two {a b D : Nat} {x y : PyData} (hx : Sz a D x) (hy : Sz b D y) : Sz (a + b + 7) (D + 1) (.tuple [x, y]) := by
  refine (sz_tup (ds := [x, y]) (D := D) (S := a + b) (fun z hz => ?_) ?_).up (Nat.le_refl _) (Nat.le_refl _)
  · rcases List.mem_cons.mp hz with rfl | hz
    · exact ⟨a, hx⟩
    · rw [List.mem_singleton.mp hz]
      exact ⟨b, hy⟩
  · have h1 := hx.len
    have h2 := hy.len
    simp only [List.map_cons, List.map_nil, List.sum_cons, List.sum_nil]
    omega
theorem sz_four {a b c e D : Nat} {x y z u : PyData} (hx : Sz a D x) (hy : Sz b D y) (hz : Sz c D z) (hu : Sz e D u) : Sz (a + b + c + e + 11) (D + 1) (.tuple [x, y, z, u]) := by
  refine (sz_tup (ds := [x, y, z, u]) (D := D) (S := a + b + c + e) (fun v hv => ?_) ?_).up (Nat.le_refl _) (Nat.le_refl _)
  · rcases List.mem_cons.mp hv with rfl | hv
    · exact ⟨a, hx⟩
    rcases List.mem_cons.mp hv with rfl | hv
    · exact ⟨b, hy⟩
    rcases List.mem_cons.mp hv with rfl | hv
    · exact ⟨c, hz⟩
    · rw [List.mem_singleton.mp hv]
      exact ⟨e, hu⟩
  · have h1 := hx.len
    have h2 := hy.len
    have h3 := hz.len
    have h4 := hu.len
    simp only [List.map_cons, List.map_nil, List.sum_cons, List.sum_nil]
    omega
theorem sz_str {z : Str} {n : Nat} (l : z.length ≤ n) (h : ∀ c ∈ ql z, c < 4294967296) : Sz (10 * n + 2) 0 (.str z) := by
  refine ⟨rfl, rfl, Nat.le_refl _, ?_⟩
  have e := PySem.StrLaws.reprText_len z fun c hc => by
    have := h c hc
    have e : (16 : Nat) ^ 8 = 4294967296 := by decide
    omega
  simp only [PyData.shown]
  omega
theorem sz_tx {z : Str} (h : TxV z) : Sz 642 0 (.str z) := sz_str h.1 fun c hc => by
  have := h.2 c hc
  unfold AllowC at this
  omega
theorem sz_nm {z : Str} (h : IsNm z) : Sz 122 0 (.str z) := sz_str h.2.1 fun c hc => by
  have := h.2.2 c hc
  omega
theorem sz_int {i : Int} (h : i.natAbs ≤ 10 ^ 40) : Sz 42 0 (.int i) := by
  refine ⟨rfl, ?_, Nat.le_refl _, ?_⟩
  · simp only [PyData.showable, decide_eq_true_eq]
    by_cases z : i.natAbs = 0
    · rw [z]
      decide
    · have h2 : i.natAbs < 2 ^ 140 := Nat.lt_of_le_of_lt h (by decide)
      have := (Nat.log2_lt z).2 h2
      omega
  · have e := int_len h
    simp only [PyData.shown]
    exact e
def Sb : Nat → Nat
  | 0 => 642
  | n + 1 => 3 * (Sb n + 124) + 9
theorem Sb_ge : ∀ n, 642 ≤ Sb n
  | 0 => Nat.le_refl _
  | n + 1 => by
    have := Sb_ge n
    simp only [Sb]
    omega
theorem sz_vd : ∀ (n : Nat) (d : PyData), Vd n d → Sz (Sb n) n d
  | n, .none, _ => (show Sz 4 0 .none from ⟨rfl, rfl, Nat.le_refl _, by decide⟩).up (by have := Sb_ge n; omega) (Nat.zero_le _)
  | n, .bool b, _ => (show Sz 5 0 (.bool b) from ⟨rfl, rfl, Nat.le_refl _, by cases b <;> decide⟩).up (by have := Sb_ge n; omega) (Nat.zero_le _)
  | n, .int i, h => (sz_int (by simpa only [Vd] using h)).up (by have := Sb_ge n; omega) (Nat.zero_le _)
  | n, .str z, h => (sz_tx (by simpa only [Vd] using h)).up (Sb_ge n) (Nat.zero_le _)
  | n, .list _, h => by simp [Vd] at h
  | 0, .tuple _, h => by simp [Vd] at h
  | 0, .dict _, h => by simp [Vd] at h
  | n + 1, .tuple ds, h => by
    have h' : ds.length ≤ 3 ∧ ∀ x ∈ ds, Vd n x := by simpa only [Vd] using h
    refine (sz_many h'.1 fun x hx => sz_vd n x (h'.2 x hx)).up ?_ (Nat.le_refl _)
    simp only [Sb]
    omega
  | n + 1, .dict kvs, h => by
    have h' : (kvs.length ≤ 3 ∧ (kvs.map (·.1)).Nodup ∧ ∀ kv ∈ kvs, ∃ z, kv.1 = .str z ∧ IsNm z) ∧ ∀ kv ∈ kvs, Vd n kv.2 := by simpa only [Vd] using h
    have key : ∀ kv ∈ kvs, ∃ z, kv.1 = .str z ∧ IsNm z := h'.1.2.2
    have val : ∀ kv ∈ kvs, Sz (Sb n) n kv.2 := fun kv hk => sz_vd n kv.2 (h'.2 kv hk)
    have few := h'.1.1
    clear h h'
    have all : lfKv kvs = true ∧ PyData.showableKv kvs = true ∧ PyData.depthKv kvs ≤ n ∧ ((PyData.shownKv kvs).map (·.length)).sum ≤ kvs.length * (Sb n + 124) := by
      clear few
      induction kvs with
      | nil => exact ⟨rfl, rfl, Nat.zero_le n, Nat.zero_le _⟩
      | cons q r ih =>
        obtain ⟨k, x⟩ := q
        obtain ⟨a1, a2, a3, a4⟩ := ih (fun kv hk => key kv (List.mem_cons_of_mem _ hk)) fun kv hk => val kv (List.mem_cons_of_mem _ hk)
        obtain ⟨z, ez, nz⟩ := key _ List.mem_cons_self
        obtain rfl : k = .str z := ez
        have v := val _ List.mem_cons_self
        have v1 : lf x = true := v.free
        have v2 : x.showable = true := v.ok
        have v3 : x.depth ≤ n := v.deep
        have v4 : x.shown.length ≤ Sb n := v.len
        have kl : (reprText z).length ≤ 122 := by
          have := (sz_nm nz).len
          simp only [PyData.shown] at this
          exact this
        refine ⟨?_, ?_, ?_, ?_⟩
        · simp only [lfKv, Bool.and_eq_true]
          exact ⟨v1, a1⟩
        · simp only [PyData.showableKv, PyData.showable, Bool.and_eq_true]
          exact ⟨⟨trivial, v2⟩, a2⟩
        · simp only [PyData.depthKv, PyData.depth]
          omega
        · simp only [PyData.shownKv, List.map_cons, List.sum_cons, List.length_cons, len_app, PyData.shown]
          have e2 : ((": " : Str)).length = 2 := rfl
          rw [Nat.add_mul, Nat.one_mul]
          omega
    obtain ⟨a1, a2, a3, a4⟩ := all
    refine ⟨by simpa only [lf] using a1, by simpa only [PyData.showable] using a2, by simp only [PyData.depth]; omega, ?_⟩
    have h1 := dictText_len_le (PyData.shownKv kvs)
    rw [PyData.shownKv_length] at h1
    have m : kvs.length * (Sb n + 124) ≤ 3 * (Sb n + 124) := Nat.mul_le_mul_right _ few
    simp only [PyData.shown, Sb]
    omega
theorem sz_texts {ps : List Str} (few : ps.length ≤ 3) (h : ∀ z ∈ ps, TxV z) : Sz 1935 1 (.tuple (ps.map PyData.str)) :=
  sz_many (n := 3) (L := 642) (by rw [List.length_map]; exact few) fun x hx => by
    obtain ⟨z, hz, rfl⟩ := List.mem_map.mp hx
    exact sz_tx (h z hz)
theorem sz_atr {u : Atr} (h : u.ok) : Sz 4400 4 u.d := by
  cases u with
  | txt n z => exact (sz_two (sz_nm h.1) (sz_tx h.2.2)).up (by decide) (by decide)
  | adr ps qs =>
    obtain ⟨_, l1, l2, h1, h2⟩ := h
    have pairs : Sz (3 * 771 + 2 * 3 + 3) 2 (.tuple (qs.map pairD)) := sz_many (by rw [List.length_map]; exact l2) fun x hx => by
      obtain ⟨q, hq, rfl⟩ := List.mem_map.mp hx
      exact sz_two (sz_nm (h2 q hq).1) (sz_tx (h2 q hq).2)
    have href : Sz 122 3 (.str "href") := (sz_nm (isNm_of (by decide))).up (Nat.le_refl _) (by decide)
    exact (sz_two href (sz_two ((sz_texts l1 h1).up (Nat.le_refl _) (by decide)) pairs)).up (by decide) (by decide)
def Tb : Nat → Nat
  | 0 => 70000
  | n + 1 => 3 * Tb n + 14000
theorem Tb_ge : ∀ n, 70000 ≤ Tb n
  | 0 => Nat.le_refl _
  | n + 1 => by
    have := Tb_ge n
    simp only [Tb]
    omega
theorem sz_node : ∀ (n : Nat) (x : Node), Okn n x → Sz (Tb n) (2 * n + 6) x.d
  | n, .text z, h => by
    have h' : TxV z ∧ z ≠ "" := by simpa only [Okn] using h
    simp only [Node.d]
    exact (sz_two (sz_nm (isNm_of (z := "text") (by decide))) (sz_tx h'.1)).up (by have := Tb_ge n; omega) (by omega)
  | n, .data d, h => by
    have h' : Vd 4 d := by simpa only [Okn] using h
    simp only [Node.d]
    have w : Sz 122 4 (.str "data") := (sz_nm (isNm_of (by decide))).up (Nat.le_refl _) (by decide)
    have e : Sb 4 = 67242 := by decide
    have v := sz_vd 4 d h'
    rw [e] at v
    exact (sz_two w v).up (by have := Tb_ge n; omega) (by omega)
  | 0, .elem _ _ _, h => by simp [Okn] at h
  | n + 1, .elem y as ns, h => by
    obtain ⟨h1, h2, h3, h4, h5, h6⟩ := h.elem
    simp only [Node.d]
    have w : Sz 122 0 (.str "element") := sz_nm (isNm_of (by decide))
    have a : Sz (3 * 4400 + 2 * 3 + 3) 5 (.tuple (as.map Atr.d)) := sz_many (by rw [List.length_map]; exact h3) fun x hx => by
      obtain ⟨u, hu, rfl⟩ := List.mem_map.mp hx
      exact sz_atr (h4 u hu)
    have c : Sz (3 * Tb n + 2 * 3 + 3) (2 * n + 7) (.tuple (Node.ds ns)) := sz_many (by rw [ds_map, List.length_map]; exact h5.1) fun x hx => by
      rw [ds_map] at hx
      obtain ⟨u, hu, rfl⟩ := List.mem_map.mp hx
      exact sz_node n u (h5.2.2 u hu)
    refine (sz_four (w.up (Nat.le_refl _) (Nat.zero_le _)) ((sz_nm h1).up (Nat.le_refl _) (Nat.zero_le _)) (a.up (Nat.le_refl _) (by omega)) c).up ?_ (by omega)
    simp only [Tb]
    omega
theorem shows_tree {xs : List Node} (h : Okt 3 xs) : Shows (treeD xs) := by
  have c : Sz (3 * Tb 3 + 2 * 3 + 3) (2 * 3 + 7) (.tuple (Node.ds xs)) := sz_many (by rw [ds_map, List.length_map]; exact h.1) fun x hx => by
    rw [ds_map] at hx
    obtain ⟨u, hu, rfl⟩ := List.mem_map.mp hx
    exact sz_node 3 u (h.2.2 u hu)
  have e : 3 * Tb 3 + 2 * 3 + 3 ≤ 16777216 := by decide
  exact ⟨c.free, c.ok, Nat.le_trans c.deep (by decide), Nat.le_trans c.len e⟩
end KX

namespace KX
open PySem PySem.Spec L2 PyProof.Rows CwR
section
variable {base : Heap} {P : Program} {w : World} {K : PySem.W.Frag} {mg : Str → Option Value} {tk : Str → Tok}
theorem ok_trunk {f f1 f2 f3 f4 f5 f6 f7 : Addr} {fd d1 d2 d3 d4 d5 d6 d7 : FuncData} (F : Fun K "_law_trunk" "_law_trunk" s_trunk f fd) (T : Bl mg) (g : mg "_law_trunk" = some (.ref f)) (b : Binds K fd P_trunk []) (D_draw : Def P w K mg base "_law_draw" 1 P_draw spDraw f1 d1) (D_words : Def P w K mg base "_law_words" 2 P_words spWords f2 d2)
    (D_chars : Def P w K mg base "_law_chars" 2 P_chars spChars f3 d3) (D_form : Def P w K mg base "_law_form" 5 P_form (spFormL K 3) f4 d4) (D_thing_of : Def P w K mg base "_law_thing_of" 7 P_thing (spThingL K 5) f5 d5) (D_attribute : Def P w K mg base "_law_attribute" 3 P_lattr (spLAttr K) f6 d6)
    (D_sheet : Def P w K mg base "_law_sheet" 15 P_sheetL (spSheet K 5) f7 d7) : ∀ n : Nat, FnOk P w K mg base CX0 (n + 15) f fd P_trunk (spTrunk K n)
  | 0 => ⟨fun _ _ _ _ h => h.elim, fun _ _ _ _ _ _ _ _ _ _ _ _ _ h => h.elim⟩
  | n + 1 => ok_trunkS F T D_draw D_words D_chars D_form D_thing_of D_attribute D_sheet ⟨g, F.kp, b, ok_trunk F T g b D_draw D_words D_chars D_form D_thing_of D_attribute D_sheet n⟩
def gOne {α : Type} : List α → List α → List α
  | [], [a] => [a]
  | _, _ => []
theorem kb_write {f : Addr} {fd : FuncData} (F : Fun K "write" "write" s_write f fd) : KBinds K fd P_write ["tree"] gOne gOne := by
  obtain ⟨oc, od, kV, doc, pm, an, cdv, ct, osl, rfl, lk, code⟩ := F.ex
  constructor
  · intro s us ws _ long
    match us, ws, long with
    | [], [a], _ => exact .of_eq rfl
    | [], [], h => cases h
    | [], _ :: _ :: _, h => cases h
    | _ :: _, _, h => cases h
  · intro vs us zs ws r1 r2
    cases r1 with
    | nil =>
      match r2 with
      | .nil => exact .nil
      | .cons a .nil => exact .cons a .nil
      | .cons _ (.cons _ _) => exact .nil
    | cons _ _ => exact .nil
abbrev s_right : Stmt := top 62
abbrev N_right : List Str := ["_law_pool_here", "_law_turn", "_law_trunk_here", "_law_kept", "_law_due"]
abbrev P_right : List Str := ["_law_pool_here"]
theorem sc_right : FnScope N_right P_right (defScope s_right) := ⟨rfl, rfl, rfl, by decide +kernel, rfl, by decide +kernel, by decide +kernel⟩
def spRight : Sp := fun vs H Q _ => ∃ p : Addr, vs = [.ref p] ∧ PoolAt H p ∧ ∀ H' : Hp, Keep p H H' → Q (.bl true) H'
theorem ok_right {f f1 f2 f3 : Addr} {fd d1 d2 d3 : FuncData} (F : Fun K "_law_right" "_law_right" s_right f fd) (T : Bl mg) (D_trunk : Def P w K mg base "_law_trunk" 19 P_trunk (spTrunk K 4) f1 d1) (D_sheet : Def P w K mg base "_law_sheet" 15 P_sheetL (spSheet K 5) f2 d2)
    (D_write : Def P w K mg base "write" 23 P_write (spWrite K) f3 d3) (KB_write : KBinds K d3 P_write ["tree"] gOne gOne) : FnG P w K mg base 24 f fd P_right spRight := by
  refine Fun.g F sc_right (fun vs H Q h => ?_) (fun cdv A outer s H vs Q quiet hr h => ?_)
  · obtain ⟨p, rfl, _⟩ := h
    rfl
  obtain ⟨p, rfl, hp, q⟩ := h
  refine ⟨_, (pss_cons (ps_for PassesOwn.never rfl (pi_range1 rfl T.range (pa_cons pe_int pa_nil)) (pg_name (i := 1) sc_right.nd rfl (Or.inl rfl))
      (pss_cons (ps_set (i := 2) sc_right.nd rfl (Or.inl rfl) (pe_call D_trunk.ok (hr.mono (by first | decide | omega)) rfl D_trunk.g D_trunk.kp D_trunk.b .nil pass0 (pa_cons (pv 0) (pa_cons pe_int pa_nil))))
    (pss_cons (ps_par rfl sc_right.nd (i := 3) (j := 4) rfl rfl (by decide) rfl rfl (pa_cons (pe_callB (call_reprK K rfl quiet hr) (by rfl) T.repr (by decide +kernel) (pa_cons (pv 2) pa_nil)) (pa_cons (pe_call D_sheet.ok (hr.mono (by first | decide | omega)) rfl D_sheet.g D_sheet.kp D_sheet.b .nil pass0 (pa_cons (pv 2) pa_nil)) pa_nil)) (by rfl))
    (pss_one (ps_if (PW.pt (pw_or (pt_cmpR (op_neS K rfl hr.units) (pe_lst (pa_cons (pe_call D_write.ok (hr.mono (by first | decide | omega)) rfl D_write.g D_write.kp D_write.b .nil pass0 (pa_cons (pv 2) pa_nil)) (pa_cons (pe_callKw D_write.ok (hr.mono (by first | decide | omega)) rfl D_write.g D_write.kp KB_write (pk_cons (pv 2) pk_nil)) (pa_cons (pe_call D_write.ok (hr.mono (by first | decide | omega)) rfl D_write.g D_write.kp D_write.b .nil pass0 (pa_cons (pv 2) pa_nil)) pa_nil)))) (pe_op op_rep (pe_lst (pa_cons (pv 4) pa_nil)) pe_int) (nomark _)) (pw_or1 (pt_cmpR op_ne (pe_callB (call_reprK K rfl quiet hr) (by rfl) T.repr (by decide +kernel) (pa_cons (pv 2) pa_nil)) (pv 3) (nomark _)))))
      (pss_one (ps_ret pe_bl))
      pss_nil)))))
    (pss_one (ps_ret pe_bl))), ?_⟩
  refine ⟨6, rfl, by decide, by decide, ?_⟩
  refine for_range (lo := 0) (n := 6) (fun i σ G => ∃ v1 v2 v3 v4 : Option V, σ = [some (.ref p), v1, v2, v3, v4] ∧ Keep p H G ∧ PoolAt G p) ⟨_, _, _, _, rfl, Keep.refl _ _, hp⟩ ?_ ?_
  · rintro i σ G hi ⟨v1, v2, v3, v4, rfl, kG, pG⟩
    refine ⟨_, rfl, p, rfl, by decide, pG, fun G1 v ns k1 p1 dv ok len => ?_⟩
    have dq : Dq K G1 v (treeD ns) := Dq.same (sub_same _ _) _ _ dv
    obtain ⟨a, xs, rfl, at', all⟩ := Dq.tupOf dq
    have sh := shows_tree ok
    have ok4 : Okt 4 ns := ok.up
    refine ⟨_, rfl, a, treeD ns, rfl, dq, sh, _, rfl, a, xs, ns, rfl, .inr at', all, ok.1, ok4.2.2, fun G2 s2 => ⟨_, _, rfl, ?_⟩⟩
    refine ⟨_, rfl, .ref a, ns, rfl, Dq.same s2 _ _ dq, ok4, fun G3 s3 => ?_⟩
    have s23 := s2.trans s3
    refine ⟨_, rfl, .ref a, ns, rfl, Dq.same s23 _ _ dq, ok4, fun G4 s4 => ?_⟩
    have s24 := s23.trans s4
    refine ⟨_, rfl, .ref a, ns, rfl, Dq.same s24 _ _ dq, ok4, fun G5 s5 => ⟨(by show 3 ≤ sizeLine; decide), fun l1 h1 => ?_⟩⟩
    have s25 := s24.trans s5
    have t1 := same_new h1 (.lst [.str (pageS ns), .str (pageS ns), .str (pageS ns)])
    refine ⟨_, rfl, (by show 1 ≤ sizeLine; decide), fun l2 h2 => ?_⟩
    have t2 := same_new h2 (.lst [.str (pageS ns)])
    refine ⟨l2, 3, [.str (pageS ns)], rfl, rfl, upd_same, by decide, by decide, (by show 1 * 3 ≤ 16777216; decide), fun l3 h3 => ?_⟩
    refine ⟨l1, l3, [pageS ns, pageS ns, pageS ns], rfl, rfl, ?_, SqL.of upd_same, _, rfl, if_ff rfl ?_⟩
    · exact SqL.of ((t2.trans (same_new h3 _)) _ _ upd_same)
    have sA := s25.trans (t1.trans (t2.trans (same_new h3 (.lst (List.replicate (3 : Int).toNat [V.str (pageS ns)]).flatten))))
    refine ⟨_, rfl, a, treeD ns, rfl, Dq.same sA _ _ dq, sh, _, rfl, rfl, _, rfl, if_ff (by rw [decide_eq_true rfl]; rfl) ?_⟩
    exact ⟨_, _, _, _, rfl, kG.trans (k1.trans (Same.keep sA)), p1.same sA⟩
  · rintro σ G ⟨v1, v2, v3, v4, rfl, kG, pG⟩
    exact q _ kG
end
end KX

namespace KX
open PySem PySem.Spec L2 PyProof.Rows CwR
theorem Same.pool {p : Addr} {H G G' : Hp} (s : Same H G) (new : H p = none) (k : Keep p G G') : Same H G' := fun b o e => k b o (fun z => by rw [z, new] at e; cases e) (s b o e)
theorem same_hide {l : Addr} {G : Hp} {o : HO} (new : G l = none) : Same G (hide l (upd G l o)) := fun b u e => by
  have nb : b ≠ l := fun z => by rw [z, new] at e; cases e
  rw [hide_ne nb, upd_ne nb]
  exact e
theorem hide_upd {l : Addr} {G : Hp} {o : HO} : Same (hide l G) (hide l (upd G l o)) := fun b u e => by
  by_cases z : b = l
  · subst z
    rw [show hide b G b = none from if_pos rfl] at e
    cases e
  · rw [hide_ne z] at e
    rw [hide_ne z, upd_ne z]
    exact e
theorem hide_keep {l : Addr} {G G' : Hp} (k : Same G G') : Same (hide l G) (hide l G') := fun b u e => by
  by_cases z : b = l
  · subst z
    rw [show hide b G b = none from if_pos rfl] at e
    cases e
  · rw [hide_ne z] at e
    rw [hide_ne z]
    exact k b u e
/-! ### the law's table -/
def RowAt (K : PySem.W.Frag) (H : Hp) (r : V) : Prop := ∃ (l : Addr) (v : V) (due : Str) (ns : List Node), r = .ref l ∧ H l = some (.lst [v, .str due]) ∧ Dq K H v (treeD ns) ∧ Okt 4 ns ∧ pageS ns = due
theorem RowAt.same {K : PySem.W.Frag} {H G : Hp} {r : V} (s : Same H G) (h : RowAt K H r) : RowAt K G r := by
  obtain ⟨l, v, due, ns, e, at', dq, ok, pg⟩ := h
  exact ⟨l, v, due, ns, e, s _ _ at', Dq.same s _ _ dq, ok, pg⟩
def RowsAt' (K : PySem.W.Frag) (H : Hp) (xs : List V) : Prop := ∀ r ∈ xs, RowAt K H r
theorem RowsAt'.same {K : PySem.W.Frag} {H G : Hp} {xs : List V} (s : Same H G) (h : RowsAt' K H xs) : RowsAt' K G xs := fun r hr => (h r hr).same s
theorem RowsAt'.app {K : PySem.W.Frag} {H : Hp} {xs ys : List V} (h : RowsAt' K H xs) (h2 : RowsAt' K H ys) : RowsAt' K H (xs ++ ys) := fun r hr => (List.mem_append.mp hr).elim (h r) (h2 r)
theorem rows1 {K : PySem.W.Frag} {H : Hp} {a : V} (h : RowAt K H a) : RowsAt' K H [a] := fun r hr => by rw [List.mem_singleton.mp hr]; exact h
theorem row_put {K : PySem.W.Frag} {G0 G1 : Hp} {g : Addr} {xs : List V} {r : V} (R : RowsAt' K (hide g G0) xs) (there : ∃ o, G0 g = some o) (s : Same G0 G1) (row : RowAt K (sub G0 G1) r) : RowsAt' K (hide g (upd G1 g (.lst (xs ++ [r])))) (xs ++ [r]) :=
  ((R.same (hide_keep s)).app (rows1 (row.same (sub_hide there)))).same hide_upd
/-- an odd value, and its literal -/
def OddAt (K : PySem.W.Frag) (H : Hp) (r : V) : Prop := ∃ (l : Addr) (v : V) (due : Str) (d : PyData), r = .ref l ∧ H l = some (.lst [v, .str due]) ∧ Dq K H v d ∧ Vd 4 d ∧ lit d = due ∧ due.length ≤ 20
theorem OddAt.same {K : PySem.W.Frag} {H G : Hp} {r : V} (s : Same H G) (h : OddAt K H r) : OddAt K G r := by
  obtain ⟨l, v, due, d, e, at', dq, ok, pg⟩ := h
  exact ⟨l, v, due, d, e, s _ _ at', Dq.same s _ _ dq, ok, pg⟩
theorem tx_of {z : Str} (l : decide (z.length ≤ 64) = true) (a : (ql z).all (fun c => decide (AllowC c)) = true) : TxV z := ⟨of_decide_eq_true l, fun c hc => of_decide_eq_true (List.all_eq_true.mp a c hc)⟩
theorem okn_text {n : Nat} {z : Str} (l : decide (z.length ≤ 64) = true) (a : (ql z).all (fun c => decide (AllowC c)) = true) (ne : z ≠ "") : Okn n (.text z) := by
  simp only [Okn]
  exact ⟨tx_of l a, ne⟩
theorem okn_data {n : Nat} {d : PyData} (h : Vd 4 d) : Okn n (.data d) := by
  simp only [Okn]
  exact h
theorem okt_one {x : Node} (h : Okn 4 x) : Okt 4 [x] := ⟨(by show 1 ≤ 3; decide), fun i a b e1 e2 => by simp at e2, fun y hy => by rw [List.mem_singleton.mp hy]; exact h⟩
theorem okt_nil {n : Nat} : Okt n [] := ⟨by decide, apart_nil, fun _ h => nomatch h⟩
theorem vd_0 : Vd 4 (.dict [(.str "b", .tuple [.bool true, .int (-5), .tuple []]), (.str "a", .str "\"\\\n<>"), (.str "c", .dict [])]) := by
  refine ⟨⟨by decide, (by simp; decide), fun kv h => ?_⟩, fun kv h => ?_⟩
  · rcases List.mem_cons.mp h with rfl | h
    · exact ⟨"b", rfl, isNm_of (by decide)⟩
    rcases List.mem_cons.mp h with rfl | h
    · exact ⟨"a", rfl, isNm_of (by decide)⟩
    · rw [List.mem_singleton.mp h]
      exact ⟨"c", rfl, isNm_of (by decide)⟩
  · rcases List.mem_cons.mp h with rfl | h
    · simp [Vd]
    rcases List.mem_cons.mp h with rfl | h
    · have t : TxV "\"\\\n<>" := tx_of (by decide) (by decide)
      simpa only [Vd] using t
    · rw [List.mem_singleton.mp h]
      simp [Vd]
theorem vd_1 : Vd 4 (.tuple [.str "C:\\new\\lib", .str "\\\\n\\\\l", .str "\\<\\\n"]) := by
  refine ⟨by decide, fun x h => ?_⟩
  rcases List.mem_cons.mp h with rfl | h
  · have t : TxV "C:\\new\\lib" := tx_of (by decide) (by decide)
    simpa only [Vd] using t
  rcases List.mem_cons.mp h with rfl | h
  · have t : TxV "\\\\n\\\\l" := tx_of (by decide) (by decide)
    simpa only [Vd] using t
  · rw [List.mem_singleton.mp h]
    have t : TxV "\\<\\\n" := tx_of (by decide) (by decide)
    simpa only [Vd] using t
theorem atrs1 {a : Atr} (h : a.ok) : ∀ x ∈ [a], x.ok := fun x hx => by rw [List.mem_singleton.mp hx]; exact h
theorem atrs2 {a b : Atr} (h : a.ok) (h2 : b.ok) : ∀ x ∈ [a, b], x.ok := fun x hx => by
  rcases List.mem_cons.mp hx with rfl | hx
  · exact h
  · rw [List.mem_singleton.mp hx]
    exact h2
theorem ok_4 : Okt 4 [.elem "p" [.txt "a" "<\">&\n", .txt "a" ""] []] :=
  okt_one (.mk (isNm_of (by decide)) (by decide) (by decide) (atrs2 ⟨isNm_of (by decide), by decide, tx_of (by decide) (by decide)⟩ ⟨isNm_of (by decide), by decide, tx_of (by decide) (by decide)⟩) okt_nil (by decide +kernel))
theorem ok_5 : Okt 4 [.elem "href" [.adr [""] []] []] :=
  okt_one (.mk (isNm_of (by decide)) (by decide) (by decide) (atrs1 ⟨by simp, by decide, by decide, fun z hz => by rw [List.mem_singleton.mp hz]; exact tx_of (by decide) (by decide), fun _ h => nomatch h⟩) okt_nil (by decide +kernel))
theorem ok_6 : Okt 4 [.elem "x" [.adr ["", "a b/~"] [("k", ""), ("k", "A-_.9")]] []] :=
  okt_one (.mk (isNm_of (by decide)) (by decide) (by decide) (atrs1 ⟨by simp, by decide, by decide, fun z hz => by
      rcases List.mem_cons.mp hz with rfl | hz
      · exact tx_of (by decide) (by decide)
      · rw [List.mem_singleton.mp hz]
        exact tx_of (by decide) (by decide), fun q hq => by
      rcases List.mem_cons.mp hq with rfl | hq
      · exact ⟨isNm_of (by decide), tx_of (by decide) (by decide)⟩
      · rw [List.mem_singleton.mp hq]
        exact ⟨isNm_of (by decide), tx_of (by decide) (by decide)⟩⟩) okt_nil (by decide +kernel))
theorem ok_9 : Okt 4 [.text "a", .elem "b" [] [.text "c"], .text "d"] := by
  refine ⟨by decide, fun i x y e1 e2 h => ?_, fun x hx => ?_⟩
  · match i, e1, e2 with
    | 0, e1, e2 =>
      obtain rfl : Node.elem "b" [] [.text "c"] = y := Option.some.inj e2
      exact nomatch h.2
    | 1, e1, e2 =>
      obtain rfl : Node.elem "b" [] [.text "c"] = x := Option.some.inj e1
      exact nomatch h.1
    | 2, e1, e2 => simp at e2
    | i + 3, e1, e2 => simp at e1
  · rcases List.mem_cons.mp hx with rfl | hx
    · exact okn_text (by decide) (by decide) (by decide)
    rcases List.mem_cons.mp hx with rfl | hx
    · exact .mk (isNm_of (by decide)) (by decide) (by decide) (fun _ h => nomatch h) ⟨by decide, fun i a b e1 e2 => by simp at e2, fun z hz => by rw [List.mem_singleton.mp hz]; exact okn_text (by decide) (by decide) (by decide)⟩ (by decide +kernel)
    · rw [List.mem_singleton.mp hx]
      exact okn_text (by decide) (by decide) (by decide)
section
variable {base : Heap} {P : Program} {w : World} {K : PySem.W.Frag} {mg : Str → Option Value} {tk : Str → Tok}
abbrev s_law : Stmt := top 63
abbrev N_law : List Str := ["_law_script", "_law_rows", "_law_odds", "_law_odd", "_law_due", "_law_trunk_here", "_law_k"]
abbrev P_law : List Str := ["_law_script"]
theorem sc_law : FnScope N_law P_law (defScope s_law) := ⟨rfl, rfl, rfl, by decide +kernel, rfl, by decide +kernel, by decide +kernel⟩
def spLaw (K : PySem.W.Frag) : Sp := fun vs H Q _ => ∃ (a : Addr) (ns : List Int), vs = [.ref a] ∧ SqL K H a (ns.map V.int) ∧ ns.length ≤ 63 ∧ ∀ H' : Hp, Q (.bl true) H'
theorem minmax (n : Nat) : ∃ m : Nat, (if (if (8 : Int) < (n : Int) then (8 : Int) else (n : Int)) > 2 then (if (8 : Int) < (n : Int) then (8 : Int) else (n : Int)) else 2) = (m : Int) ∧ m ≤ 8 := by
  by_cases h : (8 : Int) < (n : Int)
  · exact ⟨8, by rw [if_pos h]; rfl, Nat.le_refl _⟩
  · by_cases h2 : (n : Int) > 2
    · exact ⟨n, by rw [if_neg h, if_pos h2], by omega⟩
    · exact ⟨2, by rw [if_neg h, if_neg h2]; rfl, by decide⟩
theorem ok_law {f f1 f2 f3 f4 : Addr} {fd d1 d2 d3 d4 : FuncData} (F : Fun K "law" "law" s_law f fd) (T : Bl mg) (D_write : Def P w K mg base "write" 23 P_write (spWrite K) f1 d1) (DG_right : DefG P w K mg base "_law_right" 24 P_right spRight f2 d2)
    (D_pool : Def P w K mg base "_law_pool" 1 P_pool spPool f3 d3) (D_cell : Def P w K mg base "_law_cell" 1 P_cell (spCell K) f4 d4) : FnG P w K mg base 25 f fd P_law (spLaw K) := by
  refine Fun.g F sc_law (fun vs H Q h => ?_) (fun cdv A outer s H vs Q quiet hr h => ?_)
  · obtain ⟨a, ns, rfl, _⟩ := h
    rfl
  obtain ⟨a, ns, rfl, hS, h63, q⟩ := h
  refine ⟨_, (pss_cons (ps_set (i := 1) sc_law.nd rfl (Or.inl rfl) (pe_lst (pa_cons (pe_lst (pa_cons (pe_tup pa_nil) (pa_cons pe_str pa_nil))) (pa_cons (pe_lst (pa_cons (pe_tup (pa_cons (pe_tup (pa_cons pe_str (pa_cons pe_str pa_nil))) pa_nil)) (pa_cons pe_str pa_nil))) pa_nil))))
    (pss_cons (ps_set (i := 1) sc_law.nd rfl (Or.inl rfl) (pe_op op_cat (pv 1) (pe_lst (pa_cons (pe_lst (pa_cons (pe_tup (pa_cons (pe_tup (pa_cons pe_str (pa_cons pe_non pa_nil))) pa_nil)) (pa_cons pe_str pa_nil))) pa_nil))))
    (pss_cons (ps_expr (pe_bm PySem.F.plainAttrs_list PySem.F.slot_list_append PySem.F.type_list_append mt_append (pv 1) (pa_cons (pe_lst (pa_cons (pe_tup (pa_cons (pe_tup (pa_cons pe_str (pa_cons pe_str (pa_cons (pe_tup (pa_cons (pe_tup (pa_cons pe_str (pa_cons pe_str pa_nil))) (pa_cons (pe_tup (pa_cons pe_str (pa_cons pe_str pa_nil))) pa_nil))) (pa_cons (pe_tup pa_nil) pa_nil))))) pa_nil)) (pa_cons pe_str pa_nil))) pa_nil)))
    (pss_cons (ps_expr (pe_bm PySem.F.plainAttrs_list PySem.F.slot_list_append PySem.F.type_list_append mt_append (pv 1) (pa_cons (pe_lst (pa_cons (pe_tup (pa_cons (pe_tup (pa_cons pe_str (pa_cons pe_str (pa_cons (pe_tup (pa_cons (pe_tup (pa_cons pe_str (pa_cons (pe_tup (pa_cons (pe_tup (pa_cons pe_str pa_nil)) (pa_cons (pe_tup pa_nil) pa_nil))) pa_nil))) pa_nil)) (pa_cons (pe_tup pa_nil) pa_nil))))) pa_nil)) (pa_cons pe_str pa_nil))) pa_nil)))
    (pss_cons (ps_expr (pe_bm PySem.F.plainAttrs_list PySem.F.slot_list_append PySem.F.type_list_append mt_append (pv 1) (pa_cons (pe_lst (pa_cons (pe_tup (pa_cons (pe_tup (pa_cons pe_str (pa_cons pe_str (pa_cons (pe_tup (pa_cons (pe_tup (pa_cons pe_str (pa_cons (pe_tup (pa_cons (pe_tup (pa_cons pe_str (pa_cons pe_str pa_nil))) (pa_cons (pe_tup (pa_cons (pe_tup (pa_cons pe_str (pa_cons pe_str pa_nil))) (pa_cons (pe_tup (pa_cons pe_str (pa_cons pe_str pa_nil))) pa_nil))) pa_nil))) pa_nil))) pa_nil)) (pa_cons (pe_tup pa_nil) pa_nil))))) pa_nil)) (pa_cons pe_str pa_nil))) pa_nil)))
    (pss_cons (ps_expr (pe_bm PySem.F.plainAttrs_list PySem.F.slot_list_append PySem.F.type_list_append mt_append (pv 1) (pa_cons (pe_lst (pa_cons (pe_tup (pa_cons (pe_tup (pa_cons pe_str (pa_cons (pe_disp (pps_cons pe_str (pe_tup (pa_cons pe_bl (pa_cons (pe_un un_neg pe_int) (pa_cons (pe_tup pa_nil) pa_nil)))) (pps_cons pe_str pe_str (pps_cons pe_str pe_dnewK pps_nil))) (by rfl) (by rfl) (fun z => by cases z) (by decide)) pa_nil))) pa_nil)) (pa_cons pe_str pa_nil))) pa_nil)))
    (pss_cons (ps_expr (pe_bm PySem.F.plainAttrs_list PySem.F.slot_list_append PySem.F.type_list_append mt_append (pv 1) (pa_cons (pe_lst (pa_cons (pe_tup (pa_cons (pe_tup (pa_cons pe_str (pa_cons (pe_tup (pa_cons pe_str (pa_cons pe_str (pa_cons pe_str pa_nil)))) pa_nil))) pa_nil)) (pa_cons pe_str pa_nil))) pa_nil)))
    (pss_cons (ps_expr (pe_bm PySem.F.plainAttrs_list PySem.F.slot_list_append PySem.F.type_list_append mt_append (pv 1) (pa_cons (pe_lst (pa_cons (pe_tup (pa_cons (pe_tup (pa_cons pe_str (pa_cons pe_str pa_nil))) (pa_cons (pe_tup (pa_cons pe_str (pa_cons pe_str (pa_cons (pe_tup pa_nil) (pa_cons (pe_tup (pa_cons (pe_tup (pa_cons pe_str (pa_cons pe_str pa_nil))) pa_nil)) pa_nil))))) (pa_cons (pe_tup (pa_cons pe_str (pa_cons pe_str pa_nil))) pa_nil)))) (pa_cons pe_str pa_nil))) pa_nil)))
    (pss_cons (ps_set (i := 2) sc_law.nd rfl (Or.inl rfl) (pe_lst (pa_cons (pe_lst (pa_cons pe_int (pa_cons pe_str pa_nil))) (pa_cons (pe_lst (pa_cons pe_bl (pa_cons pe_str pa_nil))) (pa_cons (pe_lst (pa_cons pe_int (pa_cons pe_str pa_nil))) (pa_cons (pe_lst (pa_cons pe_bl (pa_cons pe_str pa_nil))) (pa_cons (pe_lst (pa_cons (pe_tup (pa_cons pe_int (pa_cons pe_int pa_nil))) (pa_cons pe_str pa_nil))) pa_nil)))))))
    (pss_cons (ps_set (i := 2) sc_law.nd rfl (Or.inl rfl) (pe_op op_cat (pv 2) (pe_lst (pa_cons (pe_lst (pa_cons (pe_tup (pa_cons pe_bl (pa_cons pe_bl pa_nil))) (pa_cons pe_str pa_nil))) pa_nil))))
    (pss_cons (ps_for PassesOwn.never rfl (pi_list (pv 2)) (pg_unl rfl (pgs_cons (pg_name (i := 3) sc_law.nd rfl (Or.inl rfl)) (pgs_cons (pg_name (i := 4) sc_law.nd rfl (Or.inl rfl)) pgs_nil)))
      (pss_one (ps_expr (pe_bm PySem.F.plainAttrs_list PySem.F.slot_list_append PySem.F.type_list_append mt_append (pv 1) (pa_cons (pe_lst (pa_cons (pe_tup (pa_cons (pe_tup (pa_cons pe_str (pa_cons (pv 3) pa_nil))) pa_nil)) (pa_cons (pe_op op_add_str (pe_op op_add_str pe_str (pv 4)) pe_str) pa_nil))) pa_nil)))))
    (pss_cons (ps_if (pt_not (pt_val (pe_callB (cr_all rfl) (by rfl) T.all (by decide +kernel) (pa_cons (pe_lc (own := [("_law_trunk_here", 5), ("_law_due", 4)]) (g := (gUnl K 2 (gCons (gName 5) (gCons (gName 4) gNil)))) (tt := tYes) rfl sc_law.nd (pi_list (pv 1)) (blkOk_by (own := [("_law_trunk_here", 5), ("_law_due", 4)]) (N := N_law) (sc := defScope s_law) (by decide +kernel)) (fun _ _ _ _ _ => (pg_unl rfl (pgs_cons (pg_name (i := 5) sc_law.nd rfl (Or.inl rfl)) (pgs_cons (pg_name (i := 4) sc_law.nd rfl (Or.inl rfl)) pgs_nil)))) (fun _ _ _ _ _ => pts_nil) (fun _ _ _ _ _ => (pe_cmpR op_eq (pe_call D_write.ok (hr.mono (by first | decide | omega)) rfl D_write.g D_write.kp D_write.b .nil pass0 (pa_cons (pv 5) pa_nil)) (pv 4) (nomark _)))) pa_nil))))
      (pss_one (ps_ret pe_bl))
      pss_nil)
    (pss_one (ps_ret (pe_callB (cr_all rfl) (by rfl) T.all (by decide +kernel) (pa_cons (pe_lc (own := [("_law_k", 6)]) (g := (gName 6)) (tt := tYes) rfl sc_law.nd (pi_range1 rfl T.range (pa_cons (pe_callB (call_max2 rfl) (by rfl) T.max (by decide +kernel) (pa_cons pe_int (pa_cons (pe_callB (call_min2 rfl) (by rfl) T.min (by decide +kernel) (pa_cons (pe_callB (call_lenK K rfl) (by rfl) T.len PySem.boot_len (pa_cons (pv 0) pa_nil)) (pa_cons pe_int pa_nil))) pa_nil))) pa_nil)) (blkOk_by (own := [("_law_k", 6)]) (N := N_law) (sc := defScope s_law) (by decide +kernel)) (fun _ _ _ _ _ => (pg_name (i := 6) sc_law.nd rfl (Or.inl rfl))) (fun _ _ _ _ _ => pts_nil) (fun _ _ _ _ _ => (pe_callG quiet DG_right (hr.mono (by first | decide | omega)) rfl (pa_cons (pe_call D_pool.ok (hr.mono (by first | decide | omega)) rfl D_pool.g D_pool.kp D_pool.b .nil pass0 (pa_cons (pe_call D_cell.ok (hr.mono (by first | decide | omega)) rfl D_cell.g D_cell.kp D_cell.b .nil pass0 (pa_cons (pv 0) (pa_cons (pv 6) pa_nil))) pa_nil)) pa_nil)))) pa_nil)))))))))))))))), ?_⟩
  -- the first two rows
  refine ⟨(by show 0 ≤ sizeLine; decide), fun a1 h_a1 => ⟨(by show 2 ≤ sizeLine; decide), fun a2 h_a2 => ⟨(by show 2 ≤ sizeLine; decide), fun a3 h_a3 => ⟨(by show 1 ≤ sizeLine; decide), fun a4 h_a4 => ⟨(by show 2 ≤ sizeLine; decide), fun a5 h_a5 => ⟨(by show 2 ≤ sizeLine; decide), fun a6 h_a6 => ?_⟩⟩⟩⟩⟩⟩
  have s_a1 := same_new h_a1 (.tup [])
  have f_a1 : H a1 = none := h_a1
  have b_a1 := s_a1
  have s_a2 := same_new h_a2 (.lst [.ref a1, .str ""])
  have f_a2 : H a2 = none := Same.free b_a1 h_a2
  have b_a2 := b_a1.trans s_a2
  have s_a3 := same_new h_a3 (.tup [.str "text", .str "<a>&\"&amp;\n"])
  have f_a3 : H a3 = none := Same.free b_a2 h_a3
  have b_a3 := b_a2.trans s_a3
  have s_a4 := same_new h_a4 (.tup [.ref a3])
  have f_a4 : H a4 = none := Same.free b_a3 h_a4
  have b_a4 := b_a3.trans s_a4
  have s_a5 := same_new h_a5 (.lst [.ref a4, .str "&lt;a>&amp;\"&amp;amp;\n"])
  have f_a5 : H a5 = none := Same.free b_a4 h_a5
  have b_a5 := b_a4.trans s_a5
  have s_a6 := same_new h_a6 (.lst [.ref a2, .ref a5])
  have f_a6 : H a6 = none := Same.free b_a5 h_a6
  have b_a6 := b_a5.trans s_a6
  have c_a6 : ∀ {S : Hp}, Same S S := fun {S} => Same.refl S
  have c_a5 := s_a6.trans c_a6
  have c_a4 := s_a5.trans c_a5
  have c_a3 := s_a4.trans c_a4
  have c_a2 := s_a3.trans c_a3
  have c_a1 := s_a2.trans c_a2
  have d_a2 : Dq K (sub H (upd (upd (upd (upd (upd (upd H a1 (.tup [])) a2 (.lst [.ref a1, .str ""])) a3 (.tup [.str "text", .str "<a>&\"&amp;\n"])) a4 (.tup [.ref a3])) a5 (.lst [.ref a4, .str "&lt;a>&amp;\"&amp;amp;\n"])) a6 (.lst [.ref a2, .ref a5]))) (.ref a1) (.tuple []) := (.tup (by rw [sub_new f_a1]; exact c_a1 _ _ upd_same) .nil)
  have d_a5 : Dq K (sub H (upd (upd (upd (upd (upd (upd H a1 (.tup [])) a2 (.lst [.ref a1, .str ""])) a3 (.tup [.str "text", .str "<a>&\"&amp;\n"])) a4 (.tup [.ref a3])) a5 (.lst [.ref a4, .str "&lt;a>&amp;\"&amp;amp;\n"])) a6 (.lst [.ref a2, .ref a5]))) (.ref a4) (.tuple [.tuple [.str "text", .str "<a>&\"&amp;\n"]]) := (.tup (by rw [sub_new f_a4]; exact c_a4 _ _ upd_same) (.cons (.tup (by rw [sub_new f_a3]; exact c_a3 _ _ upd_same) (.cons (.str "text") (.cons (.str "<a>&\"&amp;\n") .nil))) .nil))
  have row1 : RowAt K (sub H (upd (upd (upd (upd (upd (upd H a1 (.tup [])) a2 (.lst [.ref a1, .str ""])) a3 (.tup [.str "text", .str "<a>&\"&amp;\n"])) a4 (.tup [.ref a3])) a5 (.lst [.ref a4, .str "&lt;a>&amp;\"&amp;amp;\n"])) a6 (.lst [.ref a2, .ref a5]))) (.ref a2) := ⟨a2, .ref a1, "", [], rfl, (by rw [sub_new f_a2]; exact c_a2 _ _ upd_same), (by simp only [treeD, Node.ds, Node.d, Atr.d, adrD, pairD, List.map_cons, List.map_nil]; exact d_a2), okt_nil, by decide +kernel⟩
  have row2 : RowAt K (sub H (upd (upd (upd (upd (upd (upd H a1 (.tup [])) a2 (.lst [.ref a1, .str ""])) a3 (.tup [.str "text", .str "<a>&\"&amp;\n"])) a4 (.tup [.ref a3])) a5 (.lst [.ref a4, .str "&lt;a>&amp;\"&amp;amp;\n"])) a6 (.lst [.ref a2, .ref a5]))) (.ref a5) := ⟨a5, .ref a4, "&lt;a>&amp;\"&amp;amp;\n", [.text "<a>&\"&amp;\n"], rfl, (by rw [sub_new f_a5]; exact c_a5 _ _ upd_same), (by simp only [treeD, Node.ds, Node.d, Atr.d, adrD, pairD, List.map_cons, List.map_nil]; exact d_a5), (okt_one (okn_text (by decide) (by decide) (by decide))), by decide +kernel⟩
  have R1 := ((rows1 row1).app (rows1 row2)).same (sub_same H (upd (upd (upd (upd (upd (upd H a1 (.tup [])) a2 (.lst [.ref a1, .str ""])) a3 (.tup [.str "text", .str "<a>&\"&amp;\n"])) a4 (.tup [.ref a3])) a5 (.lst [.ref a4, .str "&lt;a>&amp;\"&amp;amp;\n"])) a6 (.lst [.ref a2, .ref a5])))
  have at1 : (upd (upd (upd (upd (upd (upd H a1 (.tup [])) a2 (.lst [.ref a1, .str ""])) a3 (.tup [.str "text", .str "<a>&\"&amp;\n"])) a4 (.tup [.ref a3])) a5 (.lst [.ref a4, .str "&lt;a>&amp;\"&amp;amp;\n"])) a6 (.lst [.ref a2, .ref a5])) a6 = some (.lst [.ref a2, .ref a5]) := upd_same
  have sH1 := b_a6
  obtain ⟨G1, e1⟩ : ∃ G1, G1 = (upd (upd (upd (upd (upd (upd H a1 (.tup [])) a2 (.lst [.ref a1, .str ""])) a3 (.tup [.str "text", .str "<a>&\"&amp;\n"])) a4 (.tup [.ref a3])) a5 (.lst [.ref a4, .str "&lt;a>&amp;\"&amp;amp;\n"])) a6 (.lst [.ref a2, .ref a5])) := ⟨_, rfl⟩
  rw [← e1] at R1 at1 sH1 ⊢
  obtain ⟨xs1, ex1⟩ : ∃ xs1 : List V, xs1 = [.ref a2, .ref a5] := ⟨_, rfl⟩
  have xl1 : xs1.length = 2 := by rw [ex1]; rfl
  have R1 : RowsAt' K G1 xs1 := by rw [ex1]; exact R1
  rw [← ex1] at at1
  clear row1 row2 e1 ex1
  -- one more
  refine ⟨_, rfl, ?_⟩
  refine ⟨(by show 2 ≤ sizeLine; decide), fun b1 h_b1 => ⟨(by show 1 ≤ sizeLine; decide), fun b2 h_b2 => ⟨(by show 2 ≤ sizeLine; decide), fun b3 h_b3 => ⟨(by show 1 ≤ sizeLine; decide), fun b4 h_b4 => ?_⟩⟩⟩⟩
  have s_b1 := same_new h_b1 (.tup [.str "data", .non])
  have f_b1 : G1 b1 = none := h_b1
  have b_b1 := s_b1
  have s_b2 := same_new h_b2 (.tup [.ref b1])
  have f_b2 : G1 b2 = none := Same.free b_b1 h_b2
  have b_b2 := b_b1.trans s_b2
  have s_b3 := same_new h_b3 (.lst [.ref b2, .str "<data>null</data>"])
  have f_b3 : G1 b3 = none := Same.free b_b2 h_b3
  have b_b3 := b_b2.trans s_b3
  have s_b4 := same_new h_b4 (.lst [.ref b3])
  have f_b4 : G1 b4 = none := Same.free b_b3 h_b4
  have b_b4 := b_b3.trans s_b4
  have c_b4 : ∀ {S : Hp}, Same S S := fun {S} => Same.refl S
  have c_b3 := s_b4.trans c_b4
  have c_b2 := s_b3.trans c_b3
  have c_b1 := s_b2.trans c_b2
  have d_b3 : Dq K (sub G1 (upd (upd (upd (upd G1 b1 (.tup [.str "data", .non])) b2 (.tup [.ref b1])) b3 (.lst [.ref b2, .str "<data>null</data>"])) b4 (.lst [.ref b3]))) (.ref b2) (.tuple [.tuple [.str "data", .none]]) := (.tup (by rw [sub_new f_b2]; exact c_b2 _ _ upd_same) (.cons (.tup (by rw [sub_new f_b1]; exact c_b1 _ _ upd_same) (.cons (.str "data") (.cons .non .nil))) .nil))
  have row3 : RowAt K (sub G1 (upd (upd (upd (upd G1 b1 (.tup [.str "data", .non])) b2 (.tup [.ref b1])) b3 (.lst [.ref b2, .str "<data>null</data>"])) b4 (.lst [.ref b3]))) (.ref b3) := ⟨b3, .ref b2, "<data>null</data>", [.data .none], rfl, (by rw [sub_new f_b3]; exact c_b3 _ _ upd_same), (by simp only [treeD, Node.ds, Node.d, Atr.d, adrD, pairD, List.map_cons, List.map_nil]; exact d_b3), (okt_one (okn_data (by simp [Vd]))), by decide +kernel⟩
  refine ⟨a6, b4, _, _, rfl, rfl, b_b4 _ _ at1, upd_same, (by rw [xl1]; show 3 ≤ sizeLine; decide), fun g hg => ?_⟩
  have hgH : H g = none := Same.free (sH1.trans b_b4) hg
  have R2 := ((R1.same b_b4).app ((rows1 row3).same (sub_same G1 (upd (upd (upd (upd G1 b1 (.tup [.str "data", .non])) b2 (.tup [.ref b1])) b3 (.lst [.ref b2, .str "<data>null</data>"])) b4 (.lst [.ref b3]))))).same (same_hide (o := .lst (xs1 ++ [.ref b3])) hg)
  have sH2 := sH1.trans (b_b4.trans (same_new hg (.lst (xs1 ++ [.ref b3]))))
  obtain ⟨G2, e2⟩ : ∃ G2, G2 = upd (upd (upd (upd (upd G1 b1 (.tup [.str "data", .non])) b2 (.tup [.ref b1])) b3 (.lst [.ref b2, .str "<data>null</data>"])) b4 (.lst [.ref b3])) g (.lst (xs1 ++ [.ref b3])) := ⟨_, rfl⟩
  have at2 : G2 g = some (.lst (xs1 ++ [.ref b3])) := by rw [e2]; exact upd_same
  rw [← e2] at R2 sH2 ⊢
  obtain ⟨xs2, ex2⟩ : ∃ xs2, xs2 = xs1 ++ [V.ref b3] := ⟨_, rfl⟩
  have xl2 : xs2.length = 3 := by rw [ex2, List.length_append, xl1]; rfl
  rw [← ex2] at R2 at2
  clear row3 e2 ex2 R1 sH1 at1
  -- one more
  refine ⟨_, rfl, .inl ⟨rfl, _, SqL.of at2⟩, ?_⟩
  refine ⟨(by show 2 ≤ sizeLine; decide), fun c1 h_c1 => ⟨(by show 2 ≤ sizeLine; decide), fun c2 h_c2 => ⟨(by show 2 ≤ sizeLine; decide), fun c3 h_c3 => ⟨(by show 0 ≤ sizeLine; decide), fun c4 h_c4 => ⟨(by show 4 ≤ sizeLine; decide), fun c5 h_c5 => ⟨(by show 1 ≤ sizeLine; decide), fun c6 h_c6 => ⟨(by show 2 ≤ sizeLine; decide), fun c7 h_c7 => ?_⟩⟩⟩⟩⟩⟩⟩
  have s_c1 := same_new h_c1 (.tup [.str "a", .str "<\">&\n"])
  have f_c1 : G2 c1 = none := h_c1
  have b_c1 := s_c1
  have s_c2 := same_new h_c2 (.tup [.str "a", .str ""])
  have f_c2 : G2 c2 = none := Same.free b_c1 h_c2
  have b_c2 := b_c1.trans s_c2
  have s_c3 := same_new h_c3 (.tup [.ref c1, .ref c2])
  have f_c3 : G2 c3 = none := Same.free b_c2 h_c3
  have b_c3 := b_c2.trans s_c3
  have s_c4 := same_new h_c4 (.tup [])
  have f_c4 : G2 c4 = none := Same.free b_c3 h_c4
  have b_c4 := b_c3.trans s_c4
  have s_c5 := same_new h_c5 (.tup [.str "element", .str "p", .ref c3, .ref c4])
  have f_c5 : G2 c5 = none := Same.free b_c4 h_c5
  have b_c5 := b_c4.trans s_c5
  have s_c6 := same_new h_c6 (.tup [.ref c5])
  have f_c6 : G2 c6 = none := Same.free b_c5 h_c6
  have b_c6 := b_c5.trans s_c6
  have s_c7 := same_new h_c7 (.lst [.ref c6, .str "<p a=\"&lt;&quot;>&amp;\n\" a=\"\"></p>"])
  have f_c7 : G2 c7 = none := Same.free b_c6 h_c7
  have b_c7 := b_c6.trans s_c7
  have c_c7 : ∀ {S : Hp}, Same S S := fun {S} => Same.refl S
  have c_c6 := s_c7.trans c_c7
  have c_c5 := s_c6.trans c_c6
  have c_c4 := s_c5.trans c_c5
  have c_c3 := s_c4.trans c_c4
  have c_c2 := s_c3.trans c_c3
  have c_c1 := s_c2.trans c_c2
  have d_c7 : Dq K (sub G2 (upd (upd (upd (upd (upd (upd (upd G2 c1 (.tup [.str "a", .str "<\">&\n"])) c2 (.tup [.str "a", .str ""])) c3 (.tup [.ref c1, .ref c2])) c4 (.tup [])) c5 (.tup [.str "element", .str "p", .ref c3, .ref c4])) c6 (.tup [.ref c5])) c7 (.lst [.ref c6, .str "<p a=\"&lt;&quot;>&amp;\n\" a=\"\"></p>"]))) (.ref c6) (.tuple [.tuple [.str "element", .str "p", .tuple [.tuple [.str "a", .str "<\">&\n"], .tuple [.str "a", .str ""]], .tuple []]]) := (.tup (by rw [sub_new f_c6]; exact c_c6 _ _ upd_same) (.cons (.tup (by rw [sub_new f_c5]; exact c_c5 _ _ upd_same) (.cons (.str "element") (.cons (.str "p") (.cons (.tup (by rw [sub_new f_c3]; exact c_c3 _ _ upd_same) (.cons (.tup (by rw [sub_new f_c1]; exact c_c1 _ _ upd_same) (.cons (.str "a") (.cons (.str "<\">&\n") .nil))) (.cons (.tup (by rw [sub_new f_c2]; exact c_c2 _ _ upd_same) (.cons (.str "a") (.cons (.str "") .nil))) .nil))) (.cons (.tup (by rw [sub_new f_c4]; exact c_c4 _ _ upd_same) .nil) .nil))))) .nil))
  have row : RowAt K (sub G2 (upd (upd (upd (upd (upd (upd (upd G2 c1 (.tup [.str "a", .str "<\">&\n"])) c2 (.tup [.str "a", .str ""])) c3 (.tup [.ref c1, .ref c2])) c4 (.tup [])) c5 (.tup [.str "element", .str "p", .ref c3, .ref c4])) c6 (.tup [.ref c5])) c7 (.lst [.ref c6, .str "<p a=\"&lt;&quot;>&amp;\n\" a=\"\"></p>"]))) (.ref c7) := ⟨c7, .ref c6, "<p a=\"&lt;&quot;>&amp;\n\" a=\"\"></p>", [.elem "p" [.txt "a" "<\">&\n", .txt "a" ""] []], rfl, (by rw [sub_new f_c7]; exact c_c7 _ _ upd_same), (by simp only [treeD, Node.ds, Node.d, Atr.d, adrD, pairD, List.map_cons, List.map_nil]; exact d_c7), ok_4, by decide +kernel⟩
  refine ⟨g, _, _, rfl, rfl, b_c7 _ _ at2, (by rw [xl2]; show 3 < sizeLine; decide), ?_⟩
  have R3 := row_put R2 ⟨_, at2⟩ b_c7 row
  have sH3 := Same.updNew (o := .lst (xs2 ++ [.ref c7])) (sH2.trans b_c7) hgH
  obtain ⟨G3, e3⟩ : ∃ G3, G3 = upd (upd (upd (upd (upd (upd (upd (upd G2 c1 (.tup [.str "a", .str "<\">&\n"])) c2 (.tup [.str "a", .str ""])) c3 (.tup [.ref c1, .ref c2])) c4 (.tup [])) c5 (.tup [.str "element", .str "p", .ref c3, .ref c4])) c6 (.tup [.ref c5])) c7 (.lst [.ref c6, .str "<p a=\"&lt;&quot;>&amp;\n\" a=\"\"></p>"])) g (.lst (xs2 ++ [.ref c7])) := ⟨_, rfl⟩
  have at3 : G3 g = some (.lst (xs2 ++ [.ref c7])) := by rw [e3]; exact upd_same
  rw [← e3] at R3 sH3 ⊢
  obtain ⟨xs3, ex3⟩ : ∃ xs3, xs3 = xs2 ++ [V.ref c7] := ⟨_, rfl⟩
  have xl3 : xs3.length = 4 := by rw [ex3, List.length_append, xl2]; rfl
  rw [← ex3] at R3 at3
  clear row e3 ex3 R2 sH2 at2
  -- one more
  refine ⟨_, rfl, .inl ⟨rfl, _, SqL.of at3⟩, ?_⟩
  refine ⟨(by show 1 ≤ sizeLine; decide), fun d1 h_d1 => ⟨(by show 0 ≤ sizeLine; decide), fun d2 h_d2 => ⟨(by show 2 ≤ sizeLine; decide), fun d3 h_d3 => ⟨(by show 2 ≤ sizeLine; decide), fun d4 h_d4 => ⟨(by show 1 ≤ sizeLine; decide), fun d5 h_d5 => ⟨(by show 0 ≤ sizeLine; decide), fun d6 h_d6 => ⟨(by show 4 ≤ sizeLine; decide), fun d7 h_d7 => ⟨(by show 1 ≤ sizeLine; decide), fun d8 h_d8 => ⟨(by show 2 ≤ sizeLine; decide), fun d9 h_d9 => ?_⟩⟩⟩⟩⟩⟩⟩⟩⟩
  have s_d1 := same_new h_d1 (.tup [.str ""])
  have f_d1 : G3 d1 = none := h_d1
  have b_d1 := s_d1
  have s_d2 := same_new h_d2 (.tup [])
  have f_d2 : G3 d2 = none := Same.free b_d1 h_d2
  have b_d2 := b_d1.trans s_d2
  have s_d3 := same_new h_d3 (.tup [.ref d1, .ref d2])
  have f_d3 : G3 d3 = none := Same.free b_d2 h_d3
  have b_d3 := b_d2.trans s_d3
  have s_d4 := same_new h_d4 (.tup [.str "href", .ref d3])
  have f_d4 : G3 d4 = none := Same.free b_d3 h_d4
  have b_d4 := b_d3.trans s_d4
  have s_d5 := same_new h_d5 (.tup [.ref d4])
  have f_d5 : G3 d5 = none := Same.free b_d4 h_d5
  have b_d5 := b_d4.trans s_d5
  have s_d6 := same_new h_d6 (.tup [])
  have f_d6 : G3 d6 = none := Same.free b_d5 h_d6
  have b_d6 := b_d5.trans s_d6
  have s_d7 := same_new h_d7 (.tup [.str "element", .str "href", .ref d5, .ref d6])
  have f_d7 : G3 d7 = none := Same.free b_d6 h_d7
  have b_d7 := b_d6.trans s_d7
  have s_d8 := same_new h_d8 (.tup [.ref d7])
  have f_d8 : G3 d8 = none := Same.free b_d7 h_d8
  have b_d8 := b_d7.trans s_d8
  have s_d9 := same_new h_d9 (.lst [.ref d8, .str "<href href=\"/\"></href>"])
  have f_d9 : G3 d9 = none := Same.free b_d8 h_d9
  have b_d9 := b_d8.trans s_d9
  have c_d9 : ∀ {S : Hp}, Same S S := fun {S} => Same.refl S
  have c_d8 := s_d9.trans c_d9
  have c_d7 := s_d8.trans c_d8
  have c_d6 := s_d7.trans c_d7
  have c_d5 := s_d6.trans c_d6
  have c_d4 := s_d5.trans c_d5
  have c_d3 := s_d4.trans c_d4
  have c_d2 := s_d3.trans c_d3
  have c_d1 := s_d2.trans c_d2
  have d_d9 : Dq K (sub G3 (upd (upd (upd (upd (upd (upd (upd (upd (upd G3 d1 (.tup [.str ""])) d2 (.tup [])) d3 (.tup [.ref d1, .ref d2])) d4 (.tup [.str "href", .ref d3])) d5 (.tup [.ref d4])) d6 (.tup [])) d7 (.tup [.str "element", .str "href", .ref d5, .ref d6])) d8 (.tup [.ref d7])) d9 (.lst [.ref d8, .str "<href href=\"/\"></href>"]))) (.ref d8) (.tuple [.tuple [.str "element", .str "href", .tuple [.tuple [.str "href", .tuple [.tuple [.str ""], .tuple []]]], .tuple []]]) := (.tup (by rw [sub_new f_d8]; exact c_d8 _ _ upd_same) (.cons (.tup (by rw [sub_new f_d7]; exact c_d7 _ _ upd_same) (.cons (.str "element") (.cons (.str "href") (.cons (.tup (by rw [sub_new f_d5]; exact c_d5 _ _ upd_same) (.cons (.tup (by rw [sub_new f_d4]; exact c_d4 _ _ upd_same) (.cons (.str "href") (.cons (.tup (by rw [sub_new f_d3]; exact c_d3 _ _ upd_same) (.cons (.tup (by rw [sub_new f_d1]; exact c_d1 _ _ upd_same) (.cons (.str "") .nil)) (.cons (.tup (by rw [sub_new f_d2]; exact c_d2 _ _ upd_same) .nil) .nil))) .nil))) .nil)) (.cons (.tup (by rw [sub_new f_d6]; exact c_d6 _ _ upd_same) .nil) .nil))))) .nil))
  have row : RowAt K (sub G3 (upd (upd (upd (upd (upd (upd (upd (upd (upd G3 d1 (.tup [.str ""])) d2 (.tup [])) d3 (.tup [.ref d1, .ref d2])) d4 (.tup [.str "href", .ref d3])) d5 (.tup [.ref d4])) d6 (.tup [])) d7 (.tup [.str "element", .str "href", .ref d5, .ref d6])) d8 (.tup [.ref d7])) d9 (.lst [.ref d8, .str "<href href=\"/\"></href>"]))) (.ref d9) := ⟨d9, .ref d8, "<href href=\"/\"></href>", [.elem "href" [.adr [""] []] []], rfl, (by rw [sub_new f_d9]; exact c_d9 _ _ upd_same), (by simp only [treeD, Node.ds, Node.d, Atr.d, adrD, pairD, List.map_cons, List.map_nil]; exact d_d9), ok_5, by decide +kernel⟩
  refine ⟨g, _, _, rfl, rfl, b_d9 _ _ at3, (by rw [xl3]; show 4 < sizeLine; decide), ?_⟩
  have R4 := row_put R3 ⟨_, at3⟩ b_d9 row
  have sH4 := Same.updNew (o := .lst (xs3 ++ [.ref d9])) (sH3.trans b_d9) hgH
  obtain ⟨G4, e4⟩ : ∃ G4, G4 = upd (upd (upd (upd (upd (upd (upd (upd (upd (upd G3 d1 (.tup [.str ""])) d2 (.tup [])) d3 (.tup [.ref d1, .ref d2])) d4 (.tup [.str "href", .ref d3])) d5 (.tup [.ref d4])) d6 (.tup [])) d7 (.tup [.str "element", .str "href", .ref d5, .ref d6])) d8 (.tup [.ref d7])) d9 (.lst [.ref d8, .str "<href href=\"/\"></href>"])) g (.lst (xs3 ++ [.ref d9])) := ⟨_, rfl⟩
  have at4 : G4 g = some (.lst (xs3 ++ [.ref d9])) := by rw [e4]; exact upd_same
  rw [← e4] at R4 sH4 ⊢
  obtain ⟨xs4, ex4⟩ : ∃ xs4, xs4 = xs3 ++ [V.ref d9] := ⟨_, rfl⟩
  have xl4 : xs4.length = 5 := by rw [ex4, List.length_append, xl3]; rfl
  rw [← ex4] at R4 at4
  clear row e4 ex4 R3 sH3 at3
  -- one more
  refine ⟨_, rfl, .inl ⟨rfl, _, SqL.of at4⟩, ?_⟩
  refine ⟨(by show 2 ≤ sizeLine; decide), fun e1 h_e1 => ⟨(by show 2 ≤ sizeLine; decide), fun e2 h_e2 => ⟨(by show 2 ≤ sizeLine; decide), fun e3 h_e3 => ⟨(by show 2 ≤ sizeLine; decide), fun e4 h_e4 => ⟨(by show 2 ≤ sizeLine; decide), fun e5 h_e5 => ⟨(by show 2 ≤ sizeLine; decide), fun e6 h_e6 => ⟨(by show 1 ≤ sizeLine; decide), fun e7 h_e7 => ⟨(by show 0 ≤ sizeLine; decide), fun e8 h_e8 => ⟨(by show 4 ≤ sizeLine; decide), fun e9 h_e9 => ⟨(by show 1 ≤ sizeLine; decide), fun e10 h_e10 => ⟨(by show 2 ≤ sizeLine; decide), fun e11 h_e11 => ?_⟩⟩⟩⟩⟩⟩⟩⟩⟩⟩⟩
  have s_e1 := same_new h_e1 (.tup [.str "", .str "a b/~"])
  have f_e1 : G4 e1 = none := h_e1
  have b_e1 := s_e1
  have s_e2 := same_new h_e2 (.tup [.str "k", .str ""])
  have f_e2 : G4 e2 = none := Same.free b_e1 h_e2
  have b_e2 := b_e1.trans s_e2
  have s_e3 := same_new h_e3 (.tup [.str "k", .str "A-_.9"])
  have f_e3 : G4 e3 = none := Same.free b_e2 h_e3
  have b_e3 := b_e2.trans s_e3
  have s_e4 := same_new h_e4 (.tup [.ref e2, .ref e3])
  have f_e4 : G4 e4 = none := Same.free b_e3 h_e4
  have b_e4 := b_e3.trans s_e4
  have s_e5 := same_new h_e5 (.tup [.ref e1, .ref e4])
  have f_e5 : G4 e5 = none := Same.free b_e4 h_e5
  have b_e5 := b_e4.trans s_e5
  have s_e6 := same_new h_e6 (.tup [.str "href", .ref e5])
  have f_e6 : G4 e6 = none := Same.free b_e5 h_e6
  have b_e6 := b_e5.trans s_e6
  have s_e7 := same_new h_e7 (.tup [.ref e6])
  have f_e7 : G4 e7 = none := Same.free b_e6 h_e7
  have b_e7 := b_e6.trans s_e7
  have s_e8 := same_new h_e8 (.tup [])
  have f_e8 : G4 e8 = none := Same.free b_e7 h_e8
  have b_e8 := b_e7.trans s_e8
  have s_e9 := same_new h_e9 (.tup [.str "element", .str "x", .ref e7, .ref e8])
  have f_e9 : G4 e9 = none := Same.free b_e8 h_e9
  have b_e9 := b_e8.trans s_e9
  have s_e10 := same_new h_e10 (.tup [.ref e9])
  have f_e10 : G4 e10 = none := Same.free b_e9 h_e10
  have b_e10 := b_e9.trans s_e10
  have s_e11 := same_new h_e11 (.lst [.ref e10, .str "<x href=\"//a~20b~2f~7e?k=;k=A-_.9\"></x>"])
  have f_e11 : G4 e11 = none := Same.free b_e10 h_e11
  have b_e11 := b_e10.trans s_e11
  have c_e11 : ∀ {S : Hp}, Same S S := fun {S} => Same.refl S
  have c_e10 := s_e11.trans c_e11
  have c_e9 := s_e10.trans c_e10
  have c_e8 := s_e9.trans c_e9
  have c_e7 := s_e8.trans c_e8
  have c_e6 := s_e7.trans c_e7
  have c_e5 := s_e6.trans c_e6
  have c_e4 := s_e5.trans c_e5
  have c_e3 := s_e4.trans c_e4
  have c_e2 := s_e3.trans c_e3
  have c_e1 := s_e2.trans c_e2
  have d_e11 : Dq K (sub G4 (upd (upd (upd (upd (upd (upd (upd (upd (upd (upd (upd G4 e1 (.tup [.str "", .str "a b/~"])) e2 (.tup [.str "k", .str ""])) e3 (.tup [.str "k", .str "A-_.9"])) e4 (.tup [.ref e2, .ref e3])) e5 (.tup [.ref e1, .ref e4])) e6 (.tup [.str "href", .ref e5])) e7 (.tup [.ref e6])) e8 (.tup [])) e9 (.tup [.str "element", .str "x", .ref e7, .ref e8])) e10 (.tup [.ref e9])) e11 (.lst [.ref e10, .str "<x href=\"//a~20b~2f~7e?k=;k=A-_.9\"></x>"]))) (.ref e10) (.tuple [.tuple [.str "element", .str "x", .tuple [.tuple [.str "href", .tuple [.tuple [.str "", .str "a b/~"], .tuple [.tuple [.str "k", .str ""], .tuple [.str "k", .str "A-_.9"]]]]], .tuple []]]) := (.tup (by rw [sub_new f_e10]; exact c_e10 _ _ upd_same) (.cons (.tup (by rw [sub_new f_e9]; exact c_e9 _ _ upd_same) (.cons (.str "element") (.cons (.str "x") (.cons (.tup (by rw [sub_new f_e7]; exact c_e7 _ _ upd_same) (.cons (.tup (by rw [sub_new f_e6]; exact c_e6 _ _ upd_same) (.cons (.str "href") (.cons (.tup (by rw [sub_new f_e5]; exact c_e5 _ _ upd_same) (.cons (.tup (by rw [sub_new f_e1]; exact c_e1 _ _ upd_same) (.cons (.str "") (.cons (.str "a b/~") .nil))) (.cons (.tup (by rw [sub_new f_e4]; exact c_e4 _ _ upd_same) (.cons (.tup (by rw [sub_new f_e2]; exact c_e2 _ _ upd_same) (.cons (.str "k") (.cons (.str "") .nil))) (.cons (.tup (by rw [sub_new f_e3]; exact c_e3 _ _ upd_same) (.cons (.str "k") (.cons (.str "A-_.9") .nil))) .nil))) .nil))) .nil))) .nil)) (.cons (.tup (by rw [sub_new f_e8]; exact c_e8 _ _ upd_same) .nil) .nil))))) .nil))
  have row : RowAt K (sub G4 (upd (upd (upd (upd (upd (upd (upd (upd (upd (upd (upd G4 e1 (.tup [.str "", .str "a b/~"])) e2 (.tup [.str "k", .str ""])) e3 (.tup [.str "k", .str "A-_.9"])) e4 (.tup [.ref e2, .ref e3])) e5 (.tup [.ref e1, .ref e4])) e6 (.tup [.str "href", .ref e5])) e7 (.tup [.ref e6])) e8 (.tup [])) e9 (.tup [.str "element", .str "x", .ref e7, .ref e8])) e10 (.tup [.ref e9])) e11 (.lst [.ref e10, .str "<x href=\"//a~20b~2f~7e?k=;k=A-_.9\"></x>"]))) (.ref e11) := ⟨e11, .ref e10, "<x href=\"//a~20b~2f~7e?k=;k=A-_.9\"></x>", [.elem "x" [.adr ["", "a b/~"] [("k", ""), ("k", "A-_.9")]] []], rfl, (by rw [sub_new f_e11]; exact c_e11 _ _ upd_same), (by simp only [treeD, Node.ds, Node.d, Atr.d, adrD, pairD, List.map_cons, List.map_nil]; exact d_e11), ok_6, by decide +kernel⟩
  refine ⟨g, _, _, rfl, rfl, b_e11 _ _ at4, (by rw [xl4]; show 5 < sizeLine; decide), ?_⟩
  have R5 := row_put R4 ⟨_, at4⟩ b_e11 row
  have sH5 := Same.updNew (o := .lst (xs4 ++ [.ref e11])) (sH4.trans b_e11) hgH
  obtain ⟨G5, e5⟩ : ∃ G5, G5 = upd (upd (upd (upd (upd (upd (upd (upd (upd (upd (upd (upd G4 e1 (.tup [.str "", .str "a b/~"])) e2 (.tup [.str "k", .str ""])) e3 (.tup [.str "k", .str "A-_.9"])) e4 (.tup [.ref e2, .ref e3])) e5 (.tup [.ref e1, .ref e4])) e6 (.tup [.str "href", .ref e5])) e7 (.tup [.ref e6])) e8 (.tup [])) e9 (.tup [.str "element", .str "x", .ref e7, .ref e8])) e10 (.tup [.ref e9])) e11 (.lst [.ref e10, .str "<x href=\"//a~20b~2f~7e?k=;k=A-_.9\"></x>"])) g (.lst (xs4 ++ [.ref e11])) := ⟨_, rfl⟩
  have at5 : G5 g = some (.lst (xs4 ++ [.ref e11])) := by rw [e5]; exact upd_same
  rw [← e5] at R5 sH5 ⊢
  obtain ⟨xs5, ex5⟩ : ∃ xs5, xs5 = xs4 ++ [V.ref e11] := ⟨_, rfl⟩
  have xl5 : xs5.length = 6 := by rw [ex5, List.length_append, xl4]; rfl
  rw [← ex5] at R5 at5
  clear row e5 ex5 R4 sH4 at4
  -- one more
  refine ⟨_, rfl, .inl ⟨rfl, _, SqL.of at5⟩, fun p1 h_p1 => ⟨_, rfl, (by show 0 ≤ sizeLine; decide), fun t1 h_t1 => ⟨(by show 3 ≤ sizeLine; decide), fun t2 h_t2 => fun p2 h_p2 => ?_⟩⟩⟩
  have z1 := same_new h_p1 (.dK [])
  have z2 := same_new h_t1 (.tup [])
  have z3 := same_new h_t2 (.tup [.bl true, .int (-5), .ref t1])
  have z4 := same_new h_p2 (.dK [])
  have z14 := z1.trans (z2.trans (z3.trans z4))
  refine ⟨(z2.trans (z3.trans z4)) _ _ upd_same, [(.inr "b", .ref t2), (.inr "a", .str "\"\\\n<>"), (.inr "c", .ref p2)], rfl, (by show 3 ≤ 15; decide), (by show 2 ≤ sizeLine; decide), ?_⟩
  rw [show mergeK [] ([(.inr "b", .ref t2), (.inr "a", .str "\"\\\n<>"), (.inr "c", .ref p2)] : List (Key × V)) = [(.inr "b", .ref t2), (.inr "a", .str "\"\\\n<>"), (.inr "c", .ref p2)] from rfl]
  refine fun t3 h_t3 => ⟨(by show 1 ≤ sizeLine; decide), fun t4 h_t4 => ⟨(by show 2 ≤ sizeLine; decide), fun r h_r => ?_⟩⟩
  have y1 : t1 ≠ p1 := (ne_of_none upd_same h_t1).symm
  have y2 : t2 ≠ p1 := (ne_of_none (z2 _ _ upd_same) h_t2).symm
  have y3 : p2 ≠ p1 := (ne_of_none ((z2.trans z3) _ _ upd_same) h_p2).symm
  have b5 : Same G5 (upd (upd (upd (upd (upd G5 p1 (.dK [])) t1 (.tup [])) t2 (.tup [.bl true, .int (-5), .ref t1])) p2 (.dK [])) p1 (.dK [(.inr "b", .ref t2), (.inr "a", .str "\"\\\n<>"), (.inr "c", .ref p2)])) := Same.updNew z14 h_p1
  have s6 := same_new h_t3 (.tup [.str "data", .ref p1])
  have s7 := same_new h_t4 (.tup [.ref t3])
  have s8 := same_new h_r (.lst [.ref t4, .str "<data>{\"a\":\"\\\"\\\\\\n\\l>\",\"b\":[true,-5,[]],\"c\":{}}</data>"])
  have s68 := s6.trans (s7.trans s8)
  have b_r := b5.trans s68
  have f_t1 : G5 t1 = none := Same.free z1 h_t1
  have f_t2 : G5 t2 = none := Same.free (z1.trans z2) h_t2
  have f_p2 : G5 p2 = none := Same.free (z1.trans (z2.trans z3)) h_p2
  have f_t3 : G5 t3 = none := Same.free b5 h_t3
  have f_t4 : G5 t4 = none := Same.free (b5.trans s6) h_t4
  have f_r : G5 r = none := Same.free (b5.trans (s6.trans s7)) h_r
  have e_t1 : (upd (upd (upd (upd (upd (upd (upd (upd G5 p1 (.dK [])) t1 (.tup [])) t2 (.tup [.bl true, .int (-5), .ref t1])) p2 (.dK [])) p1 (.dK [(.inr "b", .ref t2), (.inr "a", .str "\"\\\n<>"), (.inr "c", .ref p2)])) t3 (.tup [.str "data", .ref p1])) t4 (.tup [.ref t3])) r (.lst [.ref t4, .str "<data>{\"a\":\"\\\"\\\\\\n\\l>\",\"b\":[true,-5,[]],\"c\":{}}</data>"])) t1 = some (.tup []) := s68 _ _ (by rw [upd_ne y1]; exact (z3.trans z4) _ _ upd_same)
  have e_t2 : (upd (upd (upd (upd (upd (upd (upd (upd G5 p1 (.dK [])) t1 (.tup [])) t2 (.tup [.bl true, .int (-5), .ref t1])) p2 (.dK [])) p1 (.dK [(.inr "b", .ref t2), (.inr "a", .str "\"\\\n<>"), (.inr "c", .ref p2)])) t3 (.tup [.str "data", .ref p1])) t4 (.tup [.ref t3])) r (.lst [.ref t4, .str "<data>{\"a\":\"\\\"\\\\\\n\\l>\",\"b\":[true,-5,[]],\"c\":{}}</data>"])) t2 = some (.tup [.bl true, .int (-5), .ref t1]) := s68 _ _ (by rw [upd_ne y2]; exact z4 _ _ upd_same)
  have e_p2 : (upd (upd (upd (upd (upd (upd (upd (upd G5 p1 (.dK [])) t1 (.tup [])) t2 (.tup [.bl true, .int (-5), .ref t1])) p2 (.dK [])) p1 (.dK [(.inr "b", .ref t2), (.inr "a", .str "\"\\\n<>"), (.inr "c", .ref p2)])) t3 (.tup [.str "data", .ref p1])) t4 (.tup [.ref t3])) r (.lst [.ref t4, .str "<data>{\"a\":\"\\\"\\\\\\n\\l>\",\"b\":[true,-5,[]],\"c\":{}}</data>"])) p2 = some (.dK []) := s68 _ _ (by rw [upd_ne y3]; exact upd_same)
  have e_p1 : (upd (upd (upd (upd (upd (upd (upd (upd G5 p1 (.dK [])) t1 (.tup [])) t2 (.tup [.bl true, .int (-5), .ref t1])) p2 (.dK [])) p1 (.dK [(.inr "b", .ref t2), (.inr "a", .str "\"\\\n<>"), (.inr "c", .ref p2)])) t3 (.tup [.str "data", .ref p1])) t4 (.tup [.ref t3])) r (.lst [.ref t4, .str "<data>{\"a\":\"\\\"\\\\\\n\\l>\",\"b\":[true,-5,[]],\"c\":{}}</data>"])) p1 = some (.dK [(.inr "b", .ref t2), (.inr "a", .str "\"\\\n<>"), (.inr "c", .ref p2)]) := s68 _ _ upd_same
  have e_t3 : (upd (upd (upd (upd (upd (upd (upd (upd G5 p1 (.dK [])) t1 (.tup [])) t2 (.tup [.bl true, .int (-5), .ref t1])) p2 (.dK [])) p1 (.dK [(.inr "b", .ref t2), (.inr "a", .str "\"\\\n<>"), (.inr "c", .ref p2)])) t3 (.tup [.str "data", .ref p1])) t4 (.tup [.ref t3])) r (.lst [.ref t4, .str "<data>{\"a\":\"\\\"\\\\\\n\\l>\",\"b\":[true,-5,[]],\"c\":{}}</data>"])) t3 = some (.tup [.str "data", .ref p1]) := (s7.trans s8) _ _ upd_same
  have e_t4 : (upd (upd (upd (upd (upd (upd (upd (upd G5 p1 (.dK [])) t1 (.tup [])) t2 (.tup [.bl true, .int (-5), .ref t1])) p2 (.dK [])) p1 (.dK [(.inr "b", .ref t2), (.inr "a", .str "\"\\\n<>"), (.inr "c", .ref p2)])) t3 (.tup [.str "data", .ref p1])) t4 (.tup [.ref t3])) r (.lst [.ref t4, .str "<data>{\"a\":\"\\\"\\\\\\n\\l>\",\"b\":[true,-5,[]],\"c\":{}}</data>"])) t4 = some (.tup [.ref t3]) := s8 _ _ upd_same
  have dd : Dq K (sub G5 (upd (upd (upd (upd (upd (upd (upd (upd G5 p1 (.dK [])) t1 (.tup [])) t2 (.tup [.bl true, .int (-5), .ref t1])) p2 (.dK [])) p1 (.dK [(.inr "b", .ref t2), (.inr "a", .str "\"\\\n<>"), (.inr "c", .ref p2)])) t3 (.tup [.str "data", .ref p1])) t4 (.tup [.ref t3])) r (.lst [.ref t4, .str "<data>{\"a\":\"\\\"\\\\\\n\\l>\",\"b\":[true,-5,[]],\"c\":{}}</data>"]))) (.ref p1) (.dict [(.str "b", .tuple [.bool true, .int (-5), .tuple []]), (.str "a", .str "\"\\\n<>"), (.str "c", .dict [])]) :=
    .dct (kvs := [(.inr "b", .ref t2), (.inr "a", .str "\"\\\n<>"), (.inr "c", .ref p2)]) (by rw [sub_new h_p1]; exact e_p1) (.cons (.tup (by rw [sub_new f_t2]; exact e_t2) (.cons (.bl true) (.cons (.int (-5)) (.cons (.tup (by rw [sub_new f_t1]; exact e_t1) .nil) .nil)))) (.cons (.str _) (.cons (.dct (by rw [sub_new f_p2]; exact e_p2) .nil) .nil)))
  have dt : Dq K (sub G5 (upd (upd (upd (upd (upd (upd (upd (upd G5 p1 (.dK [])) t1 (.tup [])) t2 (.tup [.bl true, .int (-5), .ref t1])) p2 (.dK [])) p1 (.dK [(.inr "b", .ref t2), (.inr "a", .str "\"\\\n<>"), (.inr "c", .ref p2)])) t3 (.tup [.str "data", .ref p1])) t4 (.tup [.ref t3])) r (.lst [.ref t4, .str "<data>{\"a\":\"\\\"\\\\\\n\\l>\",\"b\":[true,-5,[]],\"c\":{}}</data>"]))) (.ref t4) (.tuple [.tuple [.str "data", .dict [(.str "b", .tuple [.bool true, .int (-5), .tuple []]), (.str "a", .str "\"\\\n<>"), (.str "c", .dict [])]]]) :=
    .tup (by rw [sub_new f_t4]; exact e_t4) (.cons (.tup (by rw [sub_new f_t3]; exact e_t3) (.cons (.str _) (.cons dd .nil))) .nil)
  have row : RowAt K (sub G5 (upd (upd (upd (upd (upd (upd (upd (upd G5 p1 (.dK [])) t1 (.tup [])) t2 (.tup [.bl true, .int (-5), .ref t1])) p2 (.dK [])) p1 (.dK [(.inr "b", .ref t2), (.inr "a", .str "\"\\\n<>"), (.inr "c", .ref p2)])) t3 (.tup [.str "data", .ref p1])) t4 (.tup [.ref t3])) r (.lst [.ref t4, .str "<data>{\"a\":\"\\\"\\\\\\n\\l>\",\"b\":[true,-5,[]],\"c\":{}}</data>"]))) (.ref r) := ⟨r, .ref t4, "<data>{\"a\":\"\\\"\\\\\\n\\l>\",\"b\":[true,-5,[]],\"c\":{}}</data>", [.data (.dict [(.str "b", .tuple [.bool true, .int (-5), .tuple []]), (.str "a", .str "\"\\\n<>"), (.str "c", .dict [])])], rfl, (by rw [sub_new f_r]; exact upd_same), (by simp only [treeD, Node.ds, Node.d, Atr.d, adrD, pairD, List.map_cons, List.map_nil]; exact dt), (okt_one (okn_data vd_0)), by decide +kernel⟩
  clear z1 z2 z3 z4 z14 y1 y2 y3 b5 s6 s7 s8 s68 f_t1 f_t2 f_p2 f_t3 f_t4 f_r e_t1 e_t2 e_p2 e_p1 e_t3 e_t4 dd dt
  refine ⟨g, _, _, rfl, rfl, b_r _ _ at5, (by rw [xl5]; show 6 < sizeLine; decide), ?_⟩
  have R6 := row_put R5 ⟨_, at5⟩ b_r row
  have sH6 := Same.updNew (o := .lst (xs5 ++ [.ref r])) (sH5.trans b_r) hgH
  obtain ⟨G6, e6⟩ : ∃ G6, G6 = upd (upd (upd (upd (upd (upd (upd (upd (upd G5 p1 (.dK [])) t1 (.tup [])) t2 (.tup [.bl true, .int (-5), .ref t1])) p2 (.dK [])) p1 (.dK [(.inr "b", .ref t2), (.inr "a", .str "\"\\\n<>"), (.inr "c", .ref p2)])) t3 (.tup [.str "data", .ref p1])) t4 (.tup [.ref t3])) r (.lst [.ref t4, .str "<data>{\"a\":\"\\\"\\\\\\n\\l>\",\"b\":[true,-5,[]],\"c\":{}}</data>"])) g (.lst (xs5 ++ [.ref r])) := ⟨_, rfl⟩
  have at6 : G6 g = some (.lst (xs5 ++ [.ref r])) := by rw [e6]; exact upd_same
  rw [← e6] at R6 sH6 ⊢
  obtain ⟨xs6, ex6⟩ : ∃ xs6, xs6 = xs5 ++ [V.ref r] := ⟨_, rfl⟩
  have xl6 : xs6.length = 7 := by rw [ex6, List.length_append, xl5]; rfl
  rw [← ex6] at R6 at6
  clear row e6 ex6 R5 sH5 at5
  -- one more
  refine ⟨_, rfl, .inl ⟨rfl, _, SqL.of at6⟩, ?_⟩
  refine ⟨(by show 3 ≤ sizeLine; decide), fun m1 h_m1 => ⟨(by show 2 ≤ sizeLine; decide), fun m2 h_m2 => ⟨(by show 1 ≤ sizeLine; decide), fun m3 h_m3 => ⟨(by show 2 ≤ sizeLine; decide), fun m4 h_m4 => ?_⟩⟩⟩⟩
  have s_m1 := same_new h_m1 (.tup [.str "C:\\new\\lib", .str "\\\\n\\\\l", .str "\\<\\\n"])
  have f_m1 : G6 m1 = none := h_m1
  have b_m1 := s_m1
  have s_m2 := same_new h_m2 (.tup [.str "data", .ref m1])
  have f_m2 : G6 m2 = none := Same.free b_m1 h_m2
  have b_m2 := b_m1.trans s_m2
  have s_m3 := same_new h_m3 (.tup [.ref m2])
  have f_m3 : G6 m3 = none := Same.free b_m2 h_m3
  have b_m3 := b_m2.trans s_m3
  have s_m4 := same_new h_m4 (.lst [.ref m3, .str "<data>[\"C:\\\\new\\\\lib\",\"\\\\\\\\n\\\\\\\\l\",\"\\\\\\l\\\\\\n\"]</data>"])
  have f_m4 : G6 m4 = none := Same.free b_m3 h_m4
  have b_m4 := b_m3.trans s_m4
  have c_m4 : ∀ {S : Hp}, Same S S := fun {S} => Same.refl S
  have c_m3 := s_m4.trans c_m4
  have c_m2 := s_m3.trans c_m3
  have c_m1 := s_m2.trans c_m2
  have d_m4 : Dq K (sub G6 (upd (upd (upd (upd G6 m1 (.tup [.str "C:\\new\\lib", .str "\\\\n\\\\l", .str "\\<\\\n"])) m2 (.tup [.str "data", .ref m1])) m3 (.tup [.ref m2])) m4 (.lst [.ref m3, .str "<data>[\"C:\\\\new\\\\lib\",\"\\\\\\\\n\\\\\\\\l\",\"\\\\\\l\\\\\\n\"]</data>"]))) (.ref m3) (.tuple [.tuple [.str "data", .tuple [.str "C:\\new\\lib", .str "\\\\n\\\\l", .str "\\<\\\n"]]]) := (.tup (by rw [sub_new f_m3]; exact c_m3 _ _ upd_same) (.cons (.tup (by rw [sub_new f_m2]; exact c_m2 _ _ upd_same) (.cons (.str "data") (.cons (.tup (by rw [sub_new f_m1]; exact c_m1 _ _ upd_same) (.cons (.str "C:\\new\\lib") (.cons (.str "\\\\n\\\\l") (.cons (.str "\\<\\\n") .nil)))) .nil))) .nil))
  have row : RowAt K (sub G6 (upd (upd (upd (upd G6 m1 (.tup [.str "C:\\new\\lib", .str "\\\\n\\\\l", .str "\\<\\\n"])) m2 (.tup [.str "data", .ref m1])) m3 (.tup [.ref m2])) m4 (.lst [.ref m3, .str "<data>[\"C:\\\\new\\\\lib\",\"\\\\\\\\n\\\\\\\\l\",\"\\\\\\l\\\\\\n\"]</data>"]))) (.ref m4) := ⟨m4, .ref m3, "<data>[\"C:\\\\new\\\\lib\",\"\\\\\\\\n\\\\\\\\l\",\"\\\\\\l\\\\\\n\"]</data>", [.data (.tuple [.str "C:\\new\\lib", .str "\\\\n\\\\l", .str "\\<\\\n"])], rfl, (by rw [sub_new f_m4]; exact c_m4 _ _ upd_same), (by simp only [treeD, Node.ds, Node.d, Atr.d, adrD, pairD, List.map_cons, List.map_nil]; exact d_m4), (okt_one (okn_data vd_1)), by decide +kernel⟩
  refine ⟨g, _, _, rfl, rfl, b_m4 _ _ at6, (by rw [xl6]; show 7 < sizeLine; decide), ?_⟩
  have R7 := row_put R6 ⟨_, at6⟩ b_m4 row
  have sH7 := Same.updNew (o := .lst (xs6 ++ [.ref m4])) (sH6.trans b_m4) hgH
  obtain ⟨G7, e7⟩ : ∃ G7, G7 = upd (upd (upd (upd (upd G6 m1 (.tup [.str "C:\\new\\lib", .str "\\\\n\\\\l", .str "\\<\\\n"])) m2 (.tup [.str "data", .ref m1])) m3 (.tup [.ref m2])) m4 (.lst [.ref m3, .str "<data>[\"C:\\\\new\\\\lib\",\"\\\\\\\\n\\\\\\\\l\",\"\\\\\\l\\\\\\n\"]</data>"])) g (.lst (xs6 ++ [.ref m4])) := ⟨_, rfl⟩
  have at7 : G7 g = some (.lst (xs6 ++ [.ref m4])) := by rw [e7]; exact upd_same
  rw [← e7] at R7 sH7 ⊢
  obtain ⟨xs7, ex7⟩ : ∃ xs7, xs7 = xs6 ++ [V.ref m4] := ⟨_, rfl⟩
  have xl7 : xs7.length = 8 := by rw [ex7, List.length_append, xl6]; rfl
  rw [← ex7] at R7 at7
  clear row e7 ex7 R6 sH6 at6
  -- one more
  refine ⟨_, rfl, .inl ⟨rfl, _, SqL.of at7⟩, ?_⟩
  refine ⟨(by show 2 ≤ sizeLine; decide), fun n1 h_n1 => ⟨(by show 0 ≤ sizeLine; decide), fun n2 h_n2 => ⟨(by show 2 ≤ sizeLine; decide), fun n3 h_n3 => ⟨(by show 1 ≤ sizeLine; decide), fun n4 h_n4 => ⟨(by show 4 ≤ sizeLine; decide), fun n5 h_n5 => ⟨(by show 2 ≤ sizeLine; decide), fun n6 h_n6 => ⟨(by show 3 ≤ sizeLine; decide), fun n7 h_n7 => ⟨(by show 2 ≤ sizeLine; decide), fun n8 h_n8 => ?_⟩⟩⟩⟩⟩⟩⟩⟩
  have s_n1 := same_new h_n1 (.tup [.str "text", .str "a"])
  have f_n1 : G7 n1 = none := h_n1
  have b_n1 := s_n1
  have s_n2 := same_new h_n2 (.tup [])
  have f_n2 : G7 n2 = none := Same.free b_n1 h_n2
  have b_n2 := b_n1.trans s_n2
  have s_n3 := same_new h_n3 (.tup [.str "text", .str "c"])
  have f_n3 : G7 n3 = none := Same.free b_n2 h_n3
  have b_n3 := b_n2.trans s_n3
  have s_n4 := same_new h_n4 (.tup [.ref n3])
  have f_n4 : G7 n4 = none := Same.free b_n3 h_n4
  have b_n4 := b_n3.trans s_n4
  have s_n5 := same_new h_n5 (.tup [.str "element", .str "b", .ref n2, .ref n4])
  have f_n5 : G7 n5 = none := Same.free b_n4 h_n5
  have b_n5 := b_n4.trans s_n5
  have s_n6 := same_new h_n6 (.tup [.str "text", .str "d"])
  have f_n6 : G7 n6 = none := Same.free b_n5 h_n6
  have b_n6 := b_n5.trans s_n6
  have s_n7 := same_new h_n7 (.tup [.ref n1, .ref n5, .ref n6])
  have f_n7 : G7 n7 = none := Same.free b_n6 h_n7
  have b_n7 := b_n6.trans s_n7
  have s_n8 := same_new h_n8 (.lst [.ref n7, .str "a<b>c</b>d"])
  have f_n8 : G7 n8 = none := Same.free b_n7 h_n8
  have b_n8 := b_n7.trans s_n8
  have c_n8 : ∀ {S : Hp}, Same S S := fun {S} => Same.refl S
  have c_n7 := s_n8.trans c_n8
  have c_n6 := s_n7.trans c_n7
  have c_n5 := s_n6.trans c_n6
  have c_n4 := s_n5.trans c_n5
  have c_n3 := s_n4.trans c_n4
  have c_n2 := s_n3.trans c_n3
  have c_n1 := s_n2.trans c_n2
  have d_n8 : Dq K (sub G7 (upd (upd (upd (upd (upd (upd (upd (upd G7 n1 (.tup [.str "text", .str "a"])) n2 (.tup [])) n3 (.tup [.str "text", .str "c"])) n4 (.tup [.ref n3])) n5 (.tup [.str "element", .str "b", .ref n2, .ref n4])) n6 (.tup [.str "text", .str "d"])) n7 (.tup [.ref n1, .ref n5, .ref n6])) n8 (.lst [.ref n7, .str "a<b>c</b>d"]))) (.ref n7) (.tuple [.tuple [.str "text", .str "a"], .tuple [.str "element", .str "b", .tuple [], .tuple [.tuple [.str "text", .str "c"]]], .tuple [.str "text", .str "d"]]) := (.tup (by rw [sub_new f_n7]; exact c_n7 _ _ upd_same) (.cons (.tup (by rw [sub_new f_n1]; exact c_n1 _ _ upd_same) (.cons (.str "text") (.cons (.str "a") .nil))) (.cons (.tup (by rw [sub_new f_n5]; exact c_n5 _ _ upd_same) (.cons (.str "element") (.cons (.str "b") (.cons (.tup (by rw [sub_new f_n2]; exact c_n2 _ _ upd_same) .nil) (.cons (.tup (by rw [sub_new f_n4]; exact c_n4 _ _ upd_same) (.cons (.tup (by rw [sub_new f_n3]; exact c_n3 _ _ upd_same) (.cons (.str "text") (.cons (.str "c") .nil))) .nil)) .nil))))) (.cons (.tup (by rw [sub_new f_n6]; exact c_n6 _ _ upd_same) (.cons (.str "text") (.cons (.str "d") .nil))) .nil))))
  have row : RowAt K (sub G7 (upd (upd (upd (upd (upd (upd (upd (upd G7 n1 (.tup [.str "text", .str "a"])) n2 (.tup [])) n3 (.tup [.str "text", .str "c"])) n4 (.tup [.ref n3])) n5 (.tup [.str "element", .str "b", .ref n2, .ref n4])) n6 (.tup [.str "text", .str "d"])) n7 (.tup [.ref n1, .ref n5, .ref n6])) n8 (.lst [.ref n7, .str "a<b>c</b>d"]))) (.ref n8) := ⟨n8, .ref n7, "a<b>c</b>d", [.text "a", .elem "b" [] [.text "c"], .text "d"], rfl, (by rw [sub_new f_n8]; exact c_n8 _ _ upd_same), (by simp only [treeD, Node.ds, Node.d, Atr.d, adrD, pairD, List.map_cons, List.map_nil]; exact d_n8), ok_9, by decide +kernel⟩
  refine ⟨g, _, _, rfl, rfl, b_n8 _ _ at7, (by rw [xl7]; show 8 < sizeLine; decide), ?_⟩
  have R8 := row_put R7 ⟨_, at7⟩ b_n8 row
  have sH8 := Same.updNew (o := .lst (xs7 ++ [.ref n8])) (sH7.trans b_n8) hgH
  obtain ⟨G8, e8⟩ : ∃ G8, G8 = upd (upd (upd (upd (upd (upd (upd (upd (upd G7 n1 (.tup [.str "text", .str "a"])) n2 (.tup [])) n3 (.tup [.str "text", .str "c"])) n4 (.tup [.ref n3])) n5 (.tup [.str "element", .str "b", .ref n2, .ref n4])) n6 (.tup [.str "text", .str "d"])) n7 (.tup [.ref n1, .ref n5, .ref n6])) n8 (.lst [.ref n7, .str "a<b>c</b>d"])) g (.lst (xs7 ++ [.ref n8])) := ⟨_, rfl⟩
  have at8 : G8 g = some (.lst (xs7 ++ [.ref n8])) := by rw [e8]; exact upd_same
  rw [← e8] at R8 sH8 ⊢
  obtain ⟨xs8, ex8⟩ : ∃ xs8, xs8 = xs7 ++ [V.ref n8] := ⟨_, rfl⟩
  have xl8 : xs8.length = 9 := by rw [ex8, List.length_append, xl7]; rfl
  rw [← ex8] at R8 at8
  clear row e8 ex8 R7 sH7 at7
  -- the odd ones
  refine ⟨(by show 2 ≤ sizeLine; decide), fun o1 h_o1 => ⟨(by show 2 ≤ sizeLine; decide), fun o2 h_o2 => ⟨(by show 2 ≤ sizeLine; decide), fun o3 h_o3 => ⟨(by show 2 ≤ sizeLine; decide), fun o4 h_o4 => ⟨(by show 2 ≤ sizeLine; decide), fun o5 h_o5 => ⟨(by show 2 ≤ sizeLine; decide), fun o6 h_o6 => ⟨(by show 5 ≤ sizeLine; decide), fun o7 h_o7 => ?_⟩⟩⟩⟩⟩⟩⟩
  refine ⟨_, rfl, ?_⟩
  refine ⟨(by show 2 ≤ sizeLine; decide), fun o8 h_o8 => ⟨(by show 2 ≤ sizeLine; decide), fun o9 h_o9 => ⟨(by show 1 ≤ sizeLine; decide), fun o10 h_o10 => ?_⟩⟩⟩
  have s_o1 := same_new h_o1 (.lst [.int (1), .str "1"])
  have f_o1 : G8 o1 = none := h_o1
  have b_o1 := s_o1
  have s_o2 := same_new h_o2 (.lst [.bl true, .str "true"])
  have f_o2 : G8 o2 = none := Same.free b_o1 h_o2
  have b_o2 := b_o1.trans s_o2
  have s_o3 := same_new h_o3 (.lst [.int (0), .str "0"])
  have f_o3 : G8 o3 = none := Same.free b_o2 h_o3
  have b_o3 := b_o2.trans s_o3
  have s_o4 := same_new h_o4 (.lst [.bl false, .str "false"])
  have f_o4 : G8 o4 = none := Same.free b_o3 h_o4
  have b_o4 := b_o3.trans s_o4
  have s_o5 := same_new h_o5 (.tup [.int (1), .int (0)])
  have f_o5 : G8 o5 = none := Same.free b_o4 h_o5
  have b_o5 := b_o4.trans s_o5
  have s_o6 := same_new h_o6 (.lst [.ref o5, .str "[1,0]"])
  have f_o6 : G8 o6 = none := Same.free b_o5 h_o6
  have b_o6 := b_o5.trans s_o6
  have s_o7 := same_new h_o7 (.lst [.ref o1, .ref o2, .ref o3, .ref o4, .ref o6])
  have f_o7 : G8 o7 = none := Same.free b_o6 h_o7
  have b_o7 := b_o6.trans s_o7
  have s_o8 := same_new h_o8 (.tup [.bl true, .bl false])
  have f_o8 : G8 o8 = none := Same.free b_o7 h_o8
  have b_o8 := b_o7.trans s_o8
  have s_o9 := same_new h_o9 (.lst [.ref o8, .str "[true,false]"])
  have f_o9 : G8 o9 = none := Same.free b_o8 h_o9
  have b_o9 := b_o8.trans s_o9
  have s_o10 := same_new h_o10 (.lst [.ref o9])
  have f_o10 : G8 o10 = none := Same.free b_o9 h_o10
  have b_o10 := b_o9.trans s_o10
  have c_o10 : ∀ {S : Hp}, Same S S := fun {S} => Same.refl S
  have c_o9 := s_o10.trans c_o10
  have c_o8 := s_o9.trans c_o9
  have c_o7 := s_o8.trans c_o8
  have c_o6 := s_o7.trans c_o7
  have c_o5 := s_o6.trans c_o6
  have c_o4 := s_o5.trans c_o5
  have c_o3 := s_o4.trans c_o4
  have c_o2 := s_o3.trans c_o3
  have c_o1 := s_o2.trans c_o2
  refine ⟨o7, o10, _, _, rfl, rfl, c_o7 _ _ upd_same, upd_same, (by show 6 ≤ sizeLine; decide), fun oo h_oo => ?_⟩
  have q_o1 : OddAt K (sub G8 (upd (upd (upd (upd (upd (upd (upd (upd (upd (upd G8 o1 (.lst [.int (1), .str "1"])) o2 (.lst [.bl true, .str "true"])) o3 (.lst [.int (0), .str "0"])) o4 (.lst [.bl false, .str "false"])) o5 (.tup [.int (1), .int (0)])) o6 (.lst [.ref o5, .str "[1,0]"])) o7 (.lst [.ref o1, .ref o2, .ref o3, .ref o4, .ref o6])) o8 (.tup [.bl true, .bl false])) o9 (.lst [.ref o8, .str "[true,false]"])) o10 (.lst [.ref o9]))) (.ref o1) := ⟨o1, .int (1), "1", .int (1), rfl, (by rw [sub_new f_o1]; exact c_o1 _ _ upd_same), (.int (1)), (by simp [Vd]), by decide +kernel, by decide⟩
  have q_o2 : OddAt K (sub G8 (upd (upd (upd (upd (upd (upd (upd (upd (upd (upd G8 o1 (.lst [.int (1), .str "1"])) o2 (.lst [.bl true, .str "true"])) o3 (.lst [.int (0), .str "0"])) o4 (.lst [.bl false, .str "false"])) o5 (.tup [.int (1), .int (0)])) o6 (.lst [.ref o5, .str "[1,0]"])) o7 (.lst [.ref o1, .ref o2, .ref o3, .ref o4, .ref o6])) o8 (.tup [.bl true, .bl false])) o9 (.lst [.ref o8, .str "[true,false]"])) o10 (.lst [.ref o9]))) (.ref o2) := ⟨o2, .bl true, "true", .bool true, rfl, (by rw [sub_new f_o2]; exact c_o2 _ _ upd_same), (.bl true), (by simp [Vd]), by decide +kernel, by decide⟩
  have q_o3 : OddAt K (sub G8 (upd (upd (upd (upd (upd (upd (upd (upd (upd (upd G8 o1 (.lst [.int (1), .str "1"])) o2 (.lst [.bl true, .str "true"])) o3 (.lst [.int (0), .str "0"])) o4 (.lst [.bl false, .str "false"])) o5 (.tup [.int (1), .int (0)])) o6 (.lst [.ref o5, .str "[1,0]"])) o7 (.lst [.ref o1, .ref o2, .ref o3, .ref o4, .ref o6])) o8 (.tup [.bl true, .bl false])) o9 (.lst [.ref o8, .str "[true,false]"])) o10 (.lst [.ref o9]))) (.ref o3) := ⟨o3, .int (0), "0", .int (0), rfl, (by rw [sub_new f_o3]; exact c_o3 _ _ upd_same), (.int (0)), (by simp [Vd]), by decide +kernel, by decide⟩
  have q_o4 : OddAt K (sub G8 (upd (upd (upd (upd (upd (upd (upd (upd (upd (upd G8 o1 (.lst [.int (1), .str "1"])) o2 (.lst [.bl true, .str "true"])) o3 (.lst [.int (0), .str "0"])) o4 (.lst [.bl false, .str "false"])) o5 (.tup [.int (1), .int (0)])) o6 (.lst [.ref o5, .str "[1,0]"])) o7 (.lst [.ref o1, .ref o2, .ref o3, .ref o4, .ref o6])) o8 (.tup [.bl true, .bl false])) o9 (.lst [.ref o8, .str "[true,false]"])) o10 (.lst [.ref o9]))) (.ref o4) := ⟨o4, .bl false, "false", .bool false, rfl, (by rw [sub_new f_o4]; exact c_o4 _ _ upd_same), (.bl false), (by simp [Vd]), by decide +kernel, by decide⟩
  have q_o6 : OddAt K (sub G8 (upd (upd (upd (upd (upd (upd (upd (upd (upd (upd G8 o1 (.lst [.int (1), .str "1"])) o2 (.lst [.bl true, .str "true"])) o3 (.lst [.int (0), .str "0"])) o4 (.lst [.bl false, .str "false"])) o5 (.tup [.int (1), .int (0)])) o6 (.lst [.ref o5, .str "[1,0]"])) o7 (.lst [.ref o1, .ref o2, .ref o3, .ref o4, .ref o6])) o8 (.tup [.bl true, .bl false])) o9 (.lst [.ref o8, .str "[true,false]"])) o10 (.lst [.ref o9]))) (.ref o6) := ⟨o6, .ref o5, "[1,0]", .tuple [.int (1), .int (0)], rfl, (by rw [sub_new f_o6]; exact c_o6 _ _ upd_same), (.tup (by rw [sub_new f_o5]; exact c_o5 _ _ upd_same) (.cons (.int (1)) (.cons (.int (0)) .nil))), (by simp [Vd]), by decide +kernel, by decide⟩
  have q_o9 : OddAt K (sub G8 (upd (upd (upd (upd (upd (upd (upd (upd (upd (upd G8 o1 (.lst [.int (1), .str "1"])) o2 (.lst [.bl true, .str "true"])) o3 (.lst [.int (0), .str "0"])) o4 (.lst [.bl false, .str "false"])) o5 (.tup [.int (1), .int (0)])) o6 (.lst [.ref o5, .str "[1,0]"])) o7 (.lst [.ref o1, .ref o2, .ref o3, .ref o4, .ref o6])) o8 (.tup [.bl true, .bl false])) o9 (.lst [.ref o8, .str "[true,false]"])) o10 (.lst [.ref o9]))) (.ref o9) := ⟨o9, .ref o8, "[true,false]", .tuple [.bool true, .bool false], rfl, (by rw [sub_new f_o9]; exact c_o9 _ _ upd_same), (.tup (by rw [sub_new f_o8]; exact c_o8 _ _ upd_same) (.cons (.bl true) (.cons (.bl false) .nil))), (by simp [Vd]), by decide +kernel, by decide⟩
  have s_oo := same_new h_oo (.lst ([.ref o1, .ref o2, .ref o3, .ref o4, .ref o6] ++ [.ref o9]))
  have odd0 : ∀ x ∈ ([V.ref o1, V.ref o2, V.ref o3, V.ref o4, V.ref o6, V.ref o9] : List V), OddAt K (sub G8 (upd (upd (upd (upd (upd (upd (upd (upd (upd (upd G8 o1 (.lst [.int (1), .str "1"])) o2 (.lst [.bl true, .str "true"])) o3 (.lst [.int (0), .str "0"])) o4 (.lst [.bl false, .str "false"])) o5 (.tup [.int (1), .int (0)])) o6 (.lst [.ref o5, .str "[1,0]"])) o7 (.lst [.ref o1, .ref o2, .ref o3, .ref o4, .ref o6])) o8 (.tup [.bl true, .bl false])) o9 (.lst [.ref o8, .str "[true,false]"])) o10 (.lst [.ref o9]))) x := fun x hx => by
    rcases List.mem_cons.mp hx with rfl | hx
    · exact q_o1
    rcases List.mem_cons.mp hx with rfl | hx
    · exact q_o2
    rcases List.mem_cons.mp hx with rfl | hx
    · exact q_o3
    rcases List.mem_cons.mp hx with rfl | hx
    · exact q_o4
    rcases List.mem_cons.mp hx with rfl | hx
    · exact q_o6
    rw [List.mem_singleton.mp hx]
    exact q_o9
  have b_oo := b_o10.trans s_oo
  have ne_oo : oo ≠ g := (ne_of_none (b_o10 _ _ at8) h_oo).symm
  have odd1 : ∀ x ∈ ([V.ref o1, V.ref o2, V.ref o3, V.ref o4, V.ref o6, V.ref o9] : List V), OddAt K (hide g (upd (upd (upd (upd (upd (upd (upd (upd (upd (upd (upd G8 o1 (.lst [.int (1), .str "1"])) o2 (.lst [.bl true, .str "true"])) o3 (.lst [.int (0), .str "0"])) o4 (.lst [.bl false, .str "false"])) o5 (.tup [.int (1), .int (0)])) o6 (.lst [.ref o5, .str "[1,0]"])) o7 (.lst [.ref o1, .ref o2, .ref o3, .ref o4, .ref o6])) o8 (.tup [.bl true, .bl false])) o9 (.lst [.ref o8, .str "[true,false]"])) o10 (.lst [.ref o9])) oo (.lst ([.ref o1, .ref o2, .ref o3, .ref o4, .ref o6] ++ [.ref o9])))) x := fun x hx => (odd0 x hx).same ((sub_hide ⟨_, at8⟩).trans (hide_keep s_oo))
  have R9 := R8.same (hide_keep b_oo)
  have sH9 := sH8.trans b_oo
  have at9 := b_oo _ _ at8
  obtain ⟨os, eos⟩ : ∃ os : List V, os = [V.ref o1, V.ref o2, V.ref o3, V.ref o4, V.ref o6, V.ref o9] := ⟨_, rfl⟩
  have osl : os.length = 6 := by rw [eos]; rfl
  rw [← eos] at odd1
  obtain ⟨G9, e9⟩ : ∃ G9, G9 = upd (upd (upd (upd (upd (upd (upd (upd (upd (upd (upd G8 o1 (.lst [.int (1), .str "1"])) o2 (.lst [.bl true, .str "true"])) o3 (.lst [.int (0), .str "0"])) o4 (.lst [.bl false, .str "false"])) o5 (.tup [.int (1), .int (0)])) o6 (.lst [.ref o5, .str "[1,0]"])) o7 (.lst [.ref o1, .ref o2, .ref o3, .ref o4, .ref o6])) o8 (.tup [.bl true, .bl false])) o9 (.lst [.ref o8, .str "[true,false]"])) o10 (.lst [.ref o9])) oo (.lst ([.ref o1, .ref o2, .ref o3, .ref o4, .ref o6] ++ [.ref o9])) := ⟨_, rfl⟩
  have ato : G9 oo = some (.lst os) := by rw [e9, eos]; exact upd_same
  rw [← e9] at R9 sH9 at9 odd1 ⊢
  clear odd0 eos e9 q_o1 q_o2 q_o3 q_o4 q_o6 q_o9 R8 sH8 at8 s_oo b_oo
  -- a row for each
  refine ⟨_, rfl, oo, rfl, ⟨_, SqL.of ato⟩, ?_⟩
  refine for_it (walk_list (K := K) (a := oo) (xs := os)) (fun i σ S => (∃ v3 v4 : Option V, σ = [some (.ref a), some (.ref g), some (.ref oo), v3, v4, none, none]) ∧ Same H S ∧ Same (hide g G9) (hide g S) ∧ ∃ xs, S g = some (.lst xs) ∧ xs.length = 9 + i ∧ RowsAt' K (hide g S) xs)
    ⟨⟨none, none, rfl⟩, sH9, Same.refl _, xs8, at9, xl8, R9⟩ (fun i σ S _ h => SqL.of (hide_sub g S _ _ (h.2.2.1 _ _ (by rw [hide_ne ne_oo]; exact ato)))) ?_ ?_
  · rintro i x σ S2 S hi ⟨⟨v3, v4, rfl⟩, sS, hh, xs, Sg, xl, RS⟩ ⟨rfl, hx⟩
    obtain ⟨l, v, due, d, rfl, el, dv, vd, ld, dl⟩ := (odd1 x (List.mem_of_getElem? hx)).same hh
    have el' : S l = some (.lst [v, .str due]) := hide_sub g S _ _ el
    refine ⟨l, _, rfl, SqL.of el', rfl, _, _, rfl, _, _, rfl, rfl, ?_⟩
    refine ⟨_, rfl, .inl ⟨rfl, _, SqL.of Sg⟩, _, rfl, (by show 2 ≤ sizeLine; decide), fun t1 h1 => ⟨(by show 1 ≤ sizeLine; decide), fun t2 h2 => ?_⟩⟩
    have pl : ("<data>" ++ due).length ≤ 26 := by rw [len_app]; show 6 + due.length ≤ 26; omega
    have pl2 : ("<data>" ++ due ++ "</data>").length ≤ 33 := by rw [len_app]; show _ + 7 ≤ 33; omega
    refine ⟨_, rfl, _, _, rfl, rfl, (by show 6 + due.length ≤ 16777216; omega), _, _, rfl, rfl, (by show ("<data>" ++ due).length + 7 ≤ 16777216; omega), (by show 2 ≤ sizeLine; decide), fun r h3 => ?_⟩
    have z1 := same_new h1 (.tup [.str "data", v])
    have z2 := same_new h2 (.tup [.ref t1])
    have z3 := same_new h3 (.lst [.ref t2, .str ("<data>" ++ due ++ "</data>")])
    have zA := z1.trans (z2.trans z3)
    refine ⟨g, _, _, rfl, rfl, zA _ _ Sg, (by rw [xl]; exact less_line (by omega)), ?_⟩
    have y1 : t1 ≠ g := (ne_of_none Sg h1).symm
    have y2 : t2 ≠ g := (ne_of_none (z1 _ _ Sg) h2).symm
    have y3 : r ≠ g := (ne_of_none ((z1.trans z2) _ _ Sg) h3).symm
    have hA := hide_keep (l := g) zA
    have row : RowAt K (hide g (upd (upd (upd S t1 (.tup [.str "data", v])) t2 (.tup [.ref t1])) r (.lst [.ref t2, .str ("<data>" ++ due ++ "</data>")]))) (.ref r) := by
      refine ⟨r, .ref t2, _, [.data d], rfl, (by rw [hide_ne y3]; exact upd_same), ?_, okt_one (okn_data vd), ?_⟩
      · simp only [treeD, Node.ds, Node.d, Atr.d, adrD, pairD, List.map_cons, List.map_nil]
        exact .tup (by rw [hide_ne y2]; exact z3 _ _ upd_same) (.cons (.tup (by rw [hide_ne y1]; exact (z2.trans z3) _ _ upd_same) (.cons (.str _) (.cons (Dq.same hA _ _ dv) .nil))) .nil)
      · unfold pageS
        simp only [Node.pages, Node.page]
        rw [ld]
        exact ql_ext (by rw [ql_page]; simp)
    refine ⟨⟨_, _, rfl⟩, Same.updNew (sS.trans zA) hgH, hh.trans (hA.trans hide_upd), xs ++ [.ref r], upd_same, by rw [List.length_append, xl]; show 9 + i + 1 = 9 + (i + 1); omega, ?_⟩
    exact ((RS.same hA).app (rows1 row)).same hide_upd
  · rintro σ S ⟨⟨v3, v4, rfl⟩, sS, hh, xs, Sg, xl, RS⟩
    have RS := RS.same (hide_sub g S)
    clear odd1 R9 hh
    -- each row is asked
    refine ⟨_, rfl, g, rfl, ⟨_, SqL.of Sg⟩, fun D new => ?_⟩
    refine lc_it (walk_list (K := K) (a := g) (xs := xs)) (fun i U => Same S U ∧ U D = some (.lst (trues i))) ⟨same_new new _, upd_same⟩ (fun i U _ p => SqL.of (p.1 _ _ Sg)) ?_ ?_
    · rintro i x S2 U hi ⟨kept, made⟩ ⟨rfl, hx⟩
      obtain ⟨l, v, due, ns2, rfl, el, dq, ok, pg⟩ := (RS x (List.mem_of_getElem? hx)).same kept
      refine ⟨l, _, rfl, SqL.of el, rfl, _, _, rfl, _, _, rfl, rfl, rfl, yesT ?_⟩
      refine ⟨_, rfl, v, ns2, rfl, dq, ok, fun U3 same => ⟨_, rfl, rfl, _, same _ _ made, ?_, Same.updNew (kept.trans same) new, ?_⟩⟩
      · rw [trues_len]
        exact less_line (by rw [osl] at xl; omega)
      · rw [upd_same, pg, decide_eq_true (rfl : V.str due = V.str due), trues_more]
    rintro U ⟨kept, made⟩
    refine ⟨D, _, rfl, SqL.of made, ?_⟩
    rw [trues_all]
    refine ⟨_, rfl, if_ff rfl ?_⟩
    have hSU := (sS.trans kept).seq hS
    obtain ⟨m, em, m8⟩ := minmax (ns.map V.int).length
    refine ⟨_, rfl, _, _, rfl, .inl ⟨_, hSU, rfl⟩, _, _, rfl, _, _, rfl, _, rfl, ?_⟩
    rw [em]
    refine ⟨by omega, by omega, fun D2 new2 => ?_⟩
    rw [show ((m : Int).toNat) = m from rfl]
    refine lc_range (lo := 0) (n := m) (fun i Z => Same U Z ∧ Z D2 = some (.lst (trues i))) ⟨same_new new2 _, upd_same⟩ ?_ ?_
    · rintro i Z hi ⟨kept2, made2⟩
      refine ⟨rfl, yesT ⟨_, rfl, _, rfl, a, ns, _, rfl, kept2.seq hSU, h63, by omega, by omega, fun T1 j sT1 => ⟨j, rfl, fun T2 p np sT2 pool => ⟨p, rfl, pool, fun T3 k3 => ?_⟩⟩⟩⟩
      have u3 : Same T1 T3 := Same.pool sT2 np k3
      have ST : Same Z T3 := sT1.trans u3
      refine ⟨_, ST _ _ made2, ?_, Same.updNew (kept2.trans ST) new2, ?_⟩
      · rw [trues_len]
        exact less_line (by omega)
      · rw [upd_same, trues_more]
    · rintro Z ⟨kept2, made2⟩
      refine ⟨D2, _, rfl, SqL.of made2, ?_⟩
      rw [trues_all]
      exact q _
end
end KX

namespace KX
open PySem PySem.Spec L2 PyProof.Rows
/-! the head -/
def dd0 : He.DefD := ⟨("is_sign", none), "is_sign", "is_sign", defArgs (top 5), defBody (top 5), defScope (top 5), [], []⟩
def dd1 : He.DefD := ⟨("is_text", none), "is_text", "is_text", defArgs (top 6), defBody (top 6), defScope (top 6), [], []⟩
def dd2 : He.DefD := ⟨("is_letter", none), "is_letter", "is_letter", defArgs (top 7), defBody (top 7), defScope (top 7), [], []⟩
def dd3 : He.DefD := ⟨("is_digit", none), "is_digit", "is_digit", defArgs (top 8), defBody (top 8), defScope (top 8), [], []⟩
def dd4 : He.DefD := ⟨("stands_for_itself", none), "stands_for_itself", "stands_for_itself", defArgs (top 10), defBody (top 10), defScope (top 10), [], []⟩
def dd5 : He.DefD := ⟨("write_text", none), "write_text", "write_text", defArgs (top 11), defBody (top 11), defScope (top 11), [], []⟩
def dd6 : He.DefD := ⟨("write_attribute", none), "write_attribute", "write_attribute", defArgs (top 12), defBody (top 12), defScope (top 12), [], []⟩
def dd7 : He.DefD := ⟨("write_code", none), "write_code", "write_code", defArgs (top 13), defBody (top 13), defScope (top 13), [], []⟩
def dd8 : He.DefD := ⟨("is_name", none), "is_name", "is_name", defArgs (top 22), defBody (top 22), defScope (top 22), [], []⟩
def dd9 : He.DefD := ⟨("is_value", none), "is_value", "is_value", defArgs (top 24), defBody (top 24), defScope (top 24), [], []⟩
def dd10 : He.DefD := ⟨("kind_of", none), "kind_of", "kind_of", defArgs (top 25), defBody (top 25), defScope (top 25), [], []⟩
def dd11 : He.DefD := ⟨("_is_value_within", none), "_is_value_within", "_is_value_within", defArgs (top 26), defBody (top 26), defScope (top 26), [], []⟩
def dd12 : He.DefD := ⟨("write_literal", none), "write_literal", "write_literal", defArgs (top 29), defBody (top 29), defScope (top 29), [], []⟩
def dd13 : He.DefD := ⟨("_write_text", none), "_write_text", "_write_text", defArgs (top 30), defBody (top 30), defScope (top 30), [], []⟩
def dd14 : He.DefD := ⟨("are_apart", none), "are_apart", "are_apart", defArgs (top 34), defBody (top 34), defScope (top 34), [], []⟩
def dd15 : He.DefD := ⟨("is_tree", none), "is_tree", "is_tree", defArgs (top 36), defBody (top 36), defScope (top 36), [], []⟩
def dd16 : He.DefD := ⟨("write", none), "write", "write", defArgs (top 37), defBody (top 37), defScope (top 37), [], []⟩
def dd17 : He.DefD := ⟨("_are_nodes", none), "_are_nodes", "_are_nodes", defArgs (top 38), defBody (top 38), defScope (top 38), [], []⟩
def dd18 : He.DefD := ⟨("_is_node", none), "_is_node", "_is_node", defArgs (top 39), defBody (top 39), defScope (top 39), [], []⟩
def dd19 : He.DefD := ⟨("_is_attribute", none), "_is_attribute", "_is_attribute", defArgs (top 40), defBody (top 40), defScope (top 40), [], []⟩
def dd20 : He.DefD := ⟨("_is_address", none), "_is_address", "_is_address", defArgs (top 41), defBody (top 41), defScope (top 41), [], []⟩
def dd21 : He.DefD := ⟨("_is_pair", none), "_is_pair", "_is_pair", defArgs (top 42), defBody (top 42), defScope (top 42), [], []⟩
def dd22 : He.DefD := ⟨("_write_nodes", none), "_write_nodes", "_write_nodes", defArgs (top 43), defBody (top 43), defScope (top 43), [], []⟩
def dd23 : He.DefD := ⟨("_write_node", none), "_write_node", "_write_node", defArgs (top 44), defBody (top 44), defScope (top 44), [], []⟩
def dd24 : He.DefD := ⟨("_write_attribute", none), "_write_attribute", "_write_attribute", defArgs (top 45), defBody (top 45), defScope (top 45), [], []⟩
def dd25 : He.DefD := ⟨("_write_address", none), "_write_address", "_write_address", defArgs (top 46), defBody (top 46), defScope (top 46), [], []⟩
def dd26 : He.DefD := ⟨("_law_cell", none), "_law_cell", "_law_cell", defArgs (top 48), defBody (top 48), defScope (top 48), [], []⟩
def dd27 : He.DefD := ⟨("_law_pool", none), "_law_pool", "_law_pool", defArgs (top 49), defBody (top 49), defScope (top 49), [], []⟩
def dd28 : He.DefD := ⟨("_law_draw", none), "_law_draw", "_law_draw", defArgs (top 50), defBody (top 50), defScope (top 50), [], []⟩
def dd29 : He.DefD := ⟨("_law_words", none), "_law_words", "_law_words", defArgs (top 51), defBody (top 51), defScope (top 51), [], []⟩
def dd30 : He.DefD := ⟨("_law_chars", none), "_law_chars", "_law_chars", defArgs (top 52), defBody (top 52), defScope (top 52), [], []⟩
def dd31 : He.DefD := ⟨("_law_form", none), "_law_form", "_law_form", defArgs (top 53), defBody (top 53), defScope (top 53), [], []⟩
def dd32 : He.DefD := ⟨("_law_thing_of", none), "_law_thing_of", "_law_thing_of", defArgs (top 54), defBody (top 54), defScope (top 54), [], []⟩
def dd33 : He.DefD := ⟨("_law_code", none), "_law_code", "_law_code", defArgs (top 55), defBody (top 55), defScope (top 55), [], []⟩
def dd34 : He.DefD := ⟨("_law_literal", none), "_law_literal", "_law_literal", defArgs (top 56), defBody (top 56), defScope (top 56), [], []⟩
def dd35 : He.DefD := ⟨("_law_escaped", none), "_law_escaped", "_law_escaped", defArgs (top 57), defBody (top 57), defScope (top 57), [], []⟩
def dd36 : He.DefD := ⟨("_law_attribute", none), "_law_attribute", "_law_attribute", defArgs (top 58), defBody (top 58), defScope (top 58), [], []⟩
def dd37 : He.DefD := ⟨("_law_trunk", none), "_law_trunk", "_law_trunk", defArgs (top 59), defBody (top 59), defScope (top 59), [], []⟩
def dd38 : He.DefD := ⟨("_law_sheet", none), "_law_sheet", "_law_sheet", defArgs (top 60), defBody (top 60), defScope (top 60), [], []⟩
def dd39 : He.DefD := ⟨("_law_attribute_text", none), "_law_attribute_text", "_law_attribute_text", defArgs (top 61), defBody (top 61), defScope (top 61), [], []⟩
def dd40 : He.DefD := ⟨("_law_right", none), "_law_right", "_law_right", defArgs (top 62), defBody (top 62), defScope (top 62), [], []⟩
def dd41 : He.DefD := ⟨("law", none), "law", "law", defArgs (top 63), defBody (top 63), defScope (top 63), [], []⟩
def fn0 : List He.DefD := [dd0, dd1, dd2, dd3, dd4, dd5, dd6, dd7, dd8, dd9, dd10, dd11, dd12, dd13, dd14, dd15, dd16, dd17, dd18, dd19]
def fn1 : List He.DefD := [dd20, dd21, dd22, dd23, dd24, dd25, dd26, dd27, dd28, dd29, dd30, dd31, dd32, dd33, dd34, dd35, dd36, dd37, dd38, dd39]
def fn2 : List He.DefD := [dd40, dd41]
def fn : List He.DefD := fn0 ++ fn1 ++ fn2
def fa0 : List He.Fa := [.glo "is_sign", .glo "is_text", .glo "is_letter", .glo "is_digit", .glo "stands_for_itself", .glo "write_text", .glo "write_attribute", .glo "write_code", .glo "is_name", .glo "is_value", .glo "kind_of", .glo "_is_value_within", .glo "write_literal", .glo "_write_text", .glo "are_apart", .glo "is_tree", .glo "write", .glo "_are_nodes", .glo "_is_node", .glo "_is_attribute"]
def fa1 : List He.Fa := [.glo "_is_address", .glo "_is_pair", .glo "_write_nodes", .glo "_write_node", .glo "_write_attribute", .glo "_write_address", .glo "_law_cell", .glo "_law_pool", .glo "_law_draw", .glo "_law_words", .glo "_law_chars", .glo "_law_form", .glo "_law_thing_of", .glo "_law_code", .glo "_law_literal", .glo "_law_escaped", .glo "_law_attribute", .glo "_law_trunk", .glo "_law_sheet", .glo "_law_attribute_text"]
def fa2 : List He.Fa := [.glo "_law_right", .glo "law", .glo "ESCAPES", .str "ADDRESS" "href", .str "LITERAL" "data", .free "len", .free "abs", .free "divmod", .free "min", .free "max", .free "all", .free "sorted", .free "isinstance", .free "repr", .free "ord", .free "range", .free "zip", .free "tuple", .free "list", .free "str"]
def fa3 : List He.Fa := [.free "int", .free "bool", .free "dict", .int "NEWLINE" 10, .int "SPACE" 32, .int "PERCENT" 37, .int "TILDE" 126, .int "MAX_ELEMENTS" 60, .int "MAX_LEVELS" 6, .int "MAX_NESTED" 30, .int "MAX_LETTERS" 12]
def fa : List He.Fa := fa0 ++ fa1 ++ fa2 ++ fa3
def loose0 : List PySem.Str := ["NEWLINE", "SPACE", "PERCENT", "TILDE", "is_sign", "is_text", "is_letter", "is_digit", "stands_for_itself", "write_text", "write_attribute", "write_code", "ShapeError", "InvalidTree", "MAX_ELEMENTS", "MAX_LEVELS", "MAX_NESTED", "MAX_LETTERS", "is_name", "is_value"]
def loose1 : List PySem.Str := ["kind_of", "_is_value_within", "ESCAPES", "write_literal", "_write_text", "ADDRESS", "LITERAL", "are_apart", "is_tree", "write", "_are_nodes", "_is_node", "_is_attribute", "_is_address", "_is_pair", "_write_nodes", "_write_node", "_write_attribute", "_write_address", "_law_cell"]
def loose2 : List PySem.Str := ["_law_pool", "_law_draw", "_law_words", "_law_chars", "_law_form", "_law_thing_of", "_law_code", "_law_literal", "_law_escaped", "_law_attribute", "_law_trunk", "_law_sheet", "_law_attribute_text", "_law_right"]
def loose : List PySem.Str := loose0 ++ loose1 ++ loose2
/-- the i-th pair of the written signs -/
def pairAt (i : Nat) (K : PySem.W.Frag) : Addr := match K.lookup (He.ga K "ESCAPES") with
  | some ⟨_, _, .seq its _, _⟩ => (match its.toList[i]? with
    | some (.ref a) => a
    | _ => 0)
  | _ => 0
def pairB (K : PySem.W.Frag) (a : Addr) (y z : Str) : Bool := match K.lookup a with
  | some ⟨.type c, _, .seq its _, _⟩ => decide (c = "tuple") && (match its.toList with
    | [.str y2 t, .str z2 u] => (decide (y2 = y) && decide (z2 = z)) && (decide (t ≠ 0) && (decide (u ≠ 0) && decide (t ≠ u)))
    | _ => false)
  | _ => false
def ex (K : PySem.W.Frag) : Bool := He.tupB K "ESCAPES" [.adr (pairAt 0), .adr (pairAt 1), .adr (pairAt 2), .adr (pairAt 3)] &&
  ((pairB K (pairAt 0 K) "\\" "\\\\" && pairB K (pairAt 1 K) "\"" "\\\"") && (pairB K (pairAt 2 K) "\n" "\\n" && pairB K (pairAt 3 K) "<" "\\l"))
abbrev R : PySem.W.OpenRow := PySem.W.OpenLaw.row PySem.Challenge.rw_shapekeep_k17_pages_of_trees
abbrev hk : PySem.W.Hook := He.hookX 4 fa fn [] [] ex
def ob (s : PySem.W.SharedT) : He.AlX := He.obsX 4 fa fn [] [] ex (HandSHeadRun.getT s)
theorem ob_eq (s : PySem.W.SharedT) : ob s = hk.obs s.abs := He.obsX_eq (HandSHeadRun.getT_eq s)
theorem run (w : World) : HandSHeadRun.RunEq R (PySem.W.view R.prog [63]) hk ob 4000 loose w := by
  intro os
  kernel_rfl
end KX

namespace KX
open PySem PySem.Spec L2 PyProof.Rows
/-- a def without defaults -/
theorem fun_plain {K : PySem.W.Frag} {x q : Str} {st : Stmt} {f : Addr} {fd : FuncData} (F : FunD K x q (defArgs st) (defBody st) (defScope st) [] [] f fd) : Fun K x q st f fd := by
  obtain ⟨⟨oc, od, dV, kV, doc, pm, an, cdv, ct, osl, e, lk, cd, none | some, _⟩, kp⟩ := F
  · obtain ⟨_, rfl⟩ := none
    exact ⟨⟨oc, od, kV, doc, pm, an, cdv, ct, osl, e, lk, cd⟩, kp⟩
  · exact absurd rfl some.1
theorem pair_of {K : PySem.W.Frag} {a : Addr} {y z : Str} (ne : (y == z) = false) (h : pairB K a y z = true) : WPair K a y z := by
  unfold pairB at h
  split at h
  · rename_i c od its n sl lk
    obtain ⟨h1, h2⟩ := He.ba h
    split at h2
    · rename_i y2 t z2 u e
      obtain ⟨h3, h4⟩ := He.ba h2
      obtain ⟨h5, h6⟩ := He.ba h3
      obtain ⟨h7, h8⟩ := He.ba h4
      obtain ⟨h9, h10⟩ := He.ba h8
      have ey := of_decide_eq_true h5
      have ez := of_decide_eq_true h6
      subst ey ez
      have ei : its = #[.str y2 t, .str z2 u] := Array.toList_inj.mp e
      exact ⟨⟨_, n, t, u, lk, congrArg Value.type (of_decide_eq_true h1), by rw [ei], of_decide_eq_true h7, of_decide_eq_true h9, of_decide_eq_true h10⟩, ne⟩
    · cases h2
  · cases h
theorem tup_of {K : PySem.W.Frag} {x : Str} {vs : List He.Dv} (h : He.tupB K x vs = true) : WTup K (He.ga K x) (vs.map (He.Dv.v K)) := by
  rcases He.tupB_ok h (fun _ => none) with (e | ⟨_, e⟩) | e
  · cases e
  · cases e
  · exact e
/-- the tokens of the module's numbers -/
def tkOf (mg : Str → Option Value) (x : Str) : Tok := match mg x with
  | some (.int _ t) => t
  | _ => 0
def tksOf (mg : Str → Option Value) (x : Str) : Tok := match mg x with
  | some (.str _ t) => t
  | _ => 0
theorem tk_of {mg : Str → Option Value} {x : Str} {i : Int} (h : ∃ t, mg x = some (.int i t)) : mg x = some (.int i (tkOf mg x)) := by
  obtain ⟨t, e⟩ := h
  unfold tkOf
  rw [e]
theorem tks_of {mg : Str → Option Value} {x z : Str} (h : ∃ t, mg x = some (.str z t)) : mg x = some (.str z (tksOf mg x)) := by
  obtain ⟨t, e⟩ := h
  unfold tksOf
  rw [e]
theorem facts {P : Program} {w : World} {K : PySem.W.Frag} {h : Heap} {mg : Str → Option Value} {f : Addr} (X : K.In h) (G : h.Ns mainGlobals mg) (hfa : mg ("law" : Str) = some (.ref f)) (c : He.SaysX fa fn [] [] ex w h K) :
    ∃ fd : FuncData, (∀ (s : Shared) (v : Value), BindsTo s fd ⟨[v], []⟩ [("_law_script", v)]) ∧ ∀ base : Heap, K.In base → base.Ns mainGlobals mg → FnG P w K mg base 25 f fd P_law (spLaw K) := by
  have d := c.t.d
  have T : Bl mg := by
    constructor
    · exact He.free_ok X G (d.fact 45 (f := .free "len") rfl)
    · exact He.free_ok X G (d.fact 46 (f := .free "abs") rfl)
    · exact He.free_ok X G (d.fact 47 (f := .free "divmod") rfl)
    · exact He.free_ok X G (d.fact 48 (f := .free "min") rfl)
    · exact He.free_ok X G (d.fact 49 (f := .free "max") rfl)
    · exact He.free_ok X G (d.fact 50 (f := .free "all") rfl)
    · exact He.free_ok X G (d.fact 51 (f := .free "sorted") rfl)
    · exact He.free_ok X G (d.fact 52 (f := .free "isinstance") rfl)
    · exact He.free_ok X G (d.fact 53 (f := .free "repr") rfl)
    · exact He.free_ok X G (d.fact 54 (f := .free "ord") rfl)
    · exact He.free_ok X G (d.fact 55 (f := .free "range") rfl)
    · exact He.free_ok X G (d.fact 56 (f := .free "zip") rfl)
    · exact He.free_ok X G (d.fact 57 (f := .free "tuple") rfl)
    · exact He.free_ok X G (d.fact 58 (f := .free "list") rfl)
    · exact He.free_ok X G (d.fact 59 (f := .free "str") rfl)
    · exact He.free_ok X G (d.fact 60 (f := .free "int") rfl)
    · exact He.free_ok X G (d.fact 61 (f := .free "bool") rfl)
    · exact He.free_ok X G (d.fact 62 (f := .free "dict") rfl)
  have L : Lm mg (tkOf mg) := by
    constructor
    · exact tk_of (He.int_ok X G (d.fact 63 (f := .int "NEWLINE" 10) rfl))
    · exact tk_of (He.int_ok X G (d.fact 64 (f := .int "SPACE" 32) rfl))
    · exact tk_of (He.int_ok X G (d.fact 65 (f := .int "PERCENT" 37) rfl))
    · exact tk_of (He.int_ok X G (d.fact 66 (f := .int "TILDE" 126) rfl))
    · exact tk_of (He.int_ok X G (d.fact 67 (f := .int "MAX_ELEMENTS" 60) rfl))
    · exact tk_of (He.int_ok X G (d.fact 68 (f := .int "MAX_LEVELS" 6) rfl))
    · exact tk_of (He.int_ok X G (d.fact 70 (f := .int "MAX_LETTERS" 12) rfl))
  have e_NESTED := tk_of (He.int_ok X G (d.fact 69 (f := .int "MAX_NESTED" 30) rfl))
  obtain ⟨e1, e2⟩ := He.ba c.more
  obtain ⟨e5, e6⟩ := He.ba e2
  obtain ⟨p0, p1⟩ := He.ba e5
  obtain ⟨p2, p3⟩ := He.ba e6
  have e_ADDRESS := He.str_ok X G (d.fact 43 (f := .str "ADDRESS" "href") rfl)
  have e_LITERAL := He.str_ok X G (d.fact 44 (f := .str "LITERAL" "data") rfl)
  have W : Wr K mg (He.ga K "ESCAPES") (pairAt 0 K) (pairAt 1 K) (pairAt 2 K) (pairAt 3 K) := ⟨He.glo_ok X G (d.fact 42 (f := .glo "ESCAPES") rfl), tup_of e1,
    pair_of (by decide) p0, pair_of (by decide) p1, pair_of (by decide) p2, pair_of (by decide) p3⟩
  obtain ⟨f_is_sign, U_is_sign⟩ := d.def_ 0 (d := dd0) rfl
  have F_is_sign : Fun K "is_sign" "is_sign" s_is_sign (He.ga K "is_sign") f_is_sign := fun_plain U_is_sign
  have G_is_sign : mg "is_sign" = some (.ref (He.ga K "is_sign")) := He.glo_ok X G (d.fact 0 (f := .glo "is_sign") rfl)
  have B_is_sign : Binds K f_is_sign P_is_sign [] := F_is_sign.binds fun _ _ _ _ _ _ us hl => match us, hl with | [_], _ => rfl
  obtain ⟨f_is_text, U_is_text⟩ := d.def_ 1 (d := dd1) rfl
  have F_is_text : Fun K "is_text" "is_text" s_is_text (He.ga K "is_text") f_is_text := fun_plain U_is_text
  have G_is_text : mg "is_text" = some (.ref (He.ga K "is_text")) := He.glo_ok X G (d.fact 1 (f := .glo "is_text") rfl)
  have B_is_text : Binds K f_is_text P_is_text [] := F_is_text.binds fun _ _ _ _ _ _ us hl => match us, hl with | [_], _ => rfl
  obtain ⟨f_is_letter, U_is_letter⟩ := d.def_ 2 (d := dd2) rfl
  have F_is_letter : Fun K "is_letter" "is_letter" s_is_letter (He.ga K "is_letter") f_is_letter := fun_plain U_is_letter
  have G_is_letter : mg "is_letter" = some (.ref (He.ga K "is_letter")) := He.glo_ok X G (d.fact 2 (f := .glo "is_letter") rfl)
  have B_is_letter : Binds K f_is_letter P_is_letter [] := F_is_letter.binds fun _ _ _ _ _ _ us hl => match us, hl with | [_], _ => rfl
  obtain ⟨f_is_digit, U_is_digit⟩ := d.def_ 3 (d := dd3) rfl
  have F_is_digit : Fun K "is_digit" "is_digit" s_is_digit (He.ga K "is_digit") f_is_digit := fun_plain U_is_digit
  have G_is_digit : mg "is_digit" = some (.ref (He.ga K "is_digit")) := He.glo_ok X G (d.fact 3 (f := .glo "is_digit") rfl)
  have B_is_digit : Binds K f_is_digit P_is_digit [] := F_is_digit.binds fun _ _ _ _ _ _ us hl => match us, hl with | [_], _ => rfl
  obtain ⟨f_stands_for_itself, U_stands_for_itself⟩ := d.def_ 4 (d := dd4) rfl
  have F_stands_for_itself : Fun K "stands_for_itself" "stands_for_itself" s_stands (He.ga K "stands_for_itself") f_stands_for_itself := fun_plain U_stands_for_itself
  have G_stands_for_itself : mg "stands_for_itself" = some (.ref (He.ga K "stands_for_itself")) := He.glo_ok X G (d.fact 4 (f := .glo "stands_for_itself") rfl)
  have B_stands_for_itself : Binds K f_stands_for_itself P_stands [] := F_stands_for_itself.binds fun _ _ _ _ _ _ us hl => match us, hl with | [_], _ => rfl
  obtain ⟨f_write_text, U_write_text⟩ := d.def_ 5 (d := dd5) rfl
  have F_write_text : Fun K "write_text" "write_text" s_write_text (He.ga K "write_text") f_write_text := fun_plain U_write_text
  have G_write_text : mg "write_text" = some (.ref (He.ga K "write_text")) := He.glo_ok X G (d.fact 5 (f := .glo "write_text") rfl)
  have B_write_text : Binds K f_write_text P_write_text [] := F_write_text.binds fun _ _ _ _ _ _ us hl => match us, hl with | [_], _ => rfl
  obtain ⟨f_write_attribute, U_write_attribute⟩ := d.def_ 6 (d := dd6) rfl
  have F_write_attribute : Fun K "write_attribute" "write_attribute" s_write_attribute (He.ga K "write_attribute") f_write_attribute := fun_plain U_write_attribute
  have G_write_attribute : mg "write_attribute" = some (.ref (He.ga K "write_attribute")) := He.glo_ok X G (d.fact 6 (f := .glo "write_attribute") rfl)
  have B_write_attribute : Binds K f_write_attribute P_write_attribute [] := F_write_attribute.binds fun _ _ _ _ _ _ us hl => match us, hl with | [_], _ => rfl
  obtain ⟨f_write_code, U_write_code⟩ := d.def_ 7 (d := dd7) rfl
  have F_write_code : Fun K "write_code" "write_code" s_write_code (He.ga K "write_code") f_write_code := fun_plain U_write_code
  have G_write_code : mg "write_code" = some (.ref (He.ga K "write_code")) := He.glo_ok X G (d.fact 7 (f := .glo "write_code") rfl)
  have B_write_code : Binds K f_write_code P_write_code [] := F_write_code.binds fun _ _ _ _ _ _ us hl => match us, hl with | [_], _ => rfl
  obtain ⟨f_is_name, U_is_name⟩ := d.def_ 8 (d := dd8) rfl
  have F_is_name : Fun K "is_name" "is_name" s_is_name (He.ga K "is_name") f_is_name := fun_plain U_is_name
  have G_is_name : mg "is_name" = some (.ref (He.ga K "is_name")) := He.glo_ok X G (d.fact 8 (f := .glo "is_name") rfl)
  have B_is_name : Binds K f_is_name P_is_name [] := F_is_name.binds fun _ _ _ _ _ _ us hl => match us, hl with | [_], _ => rfl
  obtain ⟨f_kind_of, U_kind_of⟩ := d.def_ 10 (d := dd10) rfl
  have F_kind_of : Fun K "kind_of" "kind_of" s_kind_of (He.ga K "kind_of") f_kind_of := fun_plain U_kind_of
  have G_kind_of : mg "kind_of" = some (.ref (He.ga K "kind_of")) := He.glo_ok X G (d.fact 10 (f := .glo "kind_of") rfl)
  have B_kind_of : Binds K f_kind_of P_kind_of [] := F_kind_of.binds fun _ _ _ _ _ _ us hl => match us, hl with | [_], _ => rfl
  obtain ⟨f__is_value_within, U__is_value_within⟩ := d.def_ 11 (d := dd11) rfl
  have F__is_value_within : Fun K "_is_value_within" "_is_value_within" s_within (He.ga K "_is_value_within") f__is_value_within := fun_plain U__is_value_within
  have G__is_value_within : mg "_is_value_within" = some (.ref (He.ga K "_is_value_within")) := He.glo_ok X G (d.fact 11 (f := .glo "_is_value_within") rfl)
  have B__is_value_within : Binds K f__is_value_within P_within [] := F__is_value_within.binds fun _ _ _ _ _ _ us hl => match us, hl with | [_, _], _ => rfl
  obtain ⟨f_is_value, U_is_value⟩ := d.def_ 9 (d := dd9) rfl
  have F_is_value : Fun K "is_value" "is_value" s_is_value (He.ga K "is_value") f_is_value := fun_plain U_is_value
  have G_is_value : mg "is_value" = some (.ref (He.ga K "is_value")) := He.glo_ok X G (d.fact 9 (f := .glo "is_value") rfl)
  have B_is_value : Binds K f_is_value P_is_value [] := F_is_value.binds fun _ _ _ _ _ _ us hl => match us, hl with | [_], _ => rfl
  obtain ⟨f__write_text, U__write_text⟩ := d.def_ 13 (d := dd13) rfl
  have F__write_text : Fun K "_write_text" "_write_text" s_wtext (He.ga K "_write_text") f__write_text := fun_plain U__write_text
  have G__write_text : mg "_write_text" = some (.ref (He.ga K "_write_text")) := He.glo_ok X G (d.fact 13 (f := .glo "_write_text") rfl)
  have B__write_text : Binds K f__write_text P_wtext [] := F__write_text.binds fun _ _ _ _ _ _ us hl => match us, hl with | [_], _ => rfl
  obtain ⟨f_write_literal, U_write_literal⟩ := d.def_ 12 (d := dd12) rfl
  have F_write_literal : Fun K "write_literal" "write_literal" s_wlit (He.ga K "write_literal") f_write_literal := fun_plain U_write_literal
  have G_write_literal : mg "write_literal" = some (.ref (He.ga K "write_literal")) := He.glo_ok X G (d.fact 12 (f := .glo "write_literal") rfl)
  have B_write_literal : Binds K f_write_literal P_wlit [] := F_write_literal.binds fun _ _ _ _ _ _ us hl => match us, hl with | [_], _ => rfl
  obtain ⟨f_are_apart, U_are_apart⟩ := d.def_ 14 (d := dd14) rfl
  have F_are_apart : Fun K "are_apart" "are_apart" s_apart (He.ga K "are_apart") f_are_apart := fun_plain U_are_apart
  have G_are_apart : mg "are_apart" = some (.ref (He.ga K "are_apart")) := He.glo_ok X G (d.fact 14 (f := .glo "are_apart") rfl)
  have B_are_apart : Binds K f_are_apart P_apart [] := F_are_apart.binds fun _ _ _ _ _ _ us hl => match us, hl with | [_, _], _ => rfl
  obtain ⟨f__is_pair, U__is_pair⟩ := d.def_ 21 (d := dd21) rfl
  have F__is_pair : Fun K "_is_pair" "_is_pair" s_is_pair (He.ga K "_is_pair") f__is_pair := fun_plain U__is_pair
  have G__is_pair : mg "_is_pair" = some (.ref (He.ga K "_is_pair")) := He.glo_ok X G (d.fact 21 (f := .glo "_is_pair") rfl)
  have B__is_pair : Binds K f__is_pair P_is_pair [] := F__is_pair.binds fun _ _ _ _ _ _ us hl => match us, hl with | [_], _ => rfl
  obtain ⟨f__is_address, U__is_address⟩ := d.def_ 20 (d := dd20) rfl
  have F__is_address : Fun K "_is_address" "_is_address" s_is_address (He.ga K "_is_address") f__is_address := fun_plain U__is_address
  have G__is_address : mg "_is_address" = some (.ref (He.ga K "_is_address")) := He.glo_ok X G (d.fact 20 (f := .glo "_is_address") rfl)
  have B__is_address : Binds K f__is_address P_is_address [] := F__is_address.binds fun _ _ _ _ _ _ us hl => match us, hl with | [_], _ => rfl
  obtain ⟨f__is_attribute, U__is_attribute⟩ := d.def_ 19 (d := dd19) rfl
  have F__is_attribute : Fun K "_is_attribute" "_is_attribute" s_is_attribute (He.ga K "_is_attribute") f__is_attribute := fun_plain U__is_attribute
  have G__is_attribute : mg "_is_attribute" = some (.ref (He.ga K "_is_attribute")) := He.glo_ok X G (d.fact 19 (f := .glo "_is_attribute") rfl)
  have B__is_attribute : Binds K f__is_attribute P_is_attribute [] := F__is_attribute.binds fun _ _ _ _ _ _ us hl => match us, hl with | [_], _ => rfl
  obtain ⟨f__is_node, U__is_node⟩ := d.def_ 18 (d := dd18) rfl
  have F__is_node : Fun K "_is_node" "_is_node" s_is_node (He.ga K "_is_node") f__is_node := fun_plain U__is_node
  have G__is_node : mg "_is_node" = some (.ref (He.ga K "_is_node")) := He.glo_ok X G (d.fact 18 (f := .glo "_is_node") rfl)
  have B__is_node : Binds K f__is_node P_is_node [] := F__is_node.binds fun _ _ _ _ _ _ us hl => match us, hl with | [_, _], _ => rfl
  obtain ⟨f__are_nodes, U__are_nodes⟩ := d.def_ 17 (d := dd17) rfl
  have F__are_nodes : Fun K "_are_nodes" "_are_nodes" s_are_nodes (He.ga K "_are_nodes") f__are_nodes := fun_plain U__are_nodes
  have G__are_nodes : mg "_are_nodes" = some (.ref (He.ga K "_are_nodes")) := He.glo_ok X G (d.fact 17 (f := .glo "_are_nodes") rfl)
  have B__are_nodes : Binds K f__are_nodes P_are_nodes [] := F__are_nodes.binds fun _ _ _ _ _ _ us hl => match us, hl with | [_, _], _ => rfl
  obtain ⟨f_is_tree, U_is_tree⟩ := d.def_ 15 (d := dd15) rfl
  have F_is_tree : Fun K "is_tree" "is_tree" s_is_tree (He.ga K "is_tree") f_is_tree := fun_plain U_is_tree
  have G_is_tree : mg "is_tree" = some (.ref (He.ga K "is_tree")) := He.glo_ok X G (d.fact 15 (f := .glo "is_tree") rfl)
  have B_is_tree : Binds K f_is_tree P_is_tree [] := F_is_tree.binds fun _ _ _ _ _ _ us hl => match us, hl with | [_], _ => rfl
  obtain ⟨f__write_address, U__write_address⟩ := d.def_ 25 (d := dd25) rfl
  have F__write_address : Fun K "_write_address" "_write_address" s_waddr (He.ga K "_write_address") f__write_address := fun_plain U__write_address
  have G__write_address : mg "_write_address" = some (.ref (He.ga K "_write_address")) := He.glo_ok X G (d.fact 25 (f := .glo "_write_address") rfl)
  have B__write_address : Binds K f__write_address P_waddr [] := F__write_address.binds fun _ _ _ _ _ _ us hl => match us, hl with | [_], _ => rfl
  obtain ⟨f__write_attribute, U__write_attribute⟩ := d.def_ 24 (d := dd24) rfl
  have F__write_attribute : Fun K "_write_attribute" "_write_attribute" s_wattr (He.ga K "_write_attribute") f__write_attribute := fun_plain U__write_attribute
  have G__write_attribute : mg "_write_attribute" = some (.ref (He.ga K "_write_attribute")) := He.glo_ok X G (d.fact 24 (f := .glo "_write_attribute") rfl)
  have B__write_attribute : Binds K f__write_attribute P_wattr [] := F__write_attribute.binds fun _ _ _ _ _ _ us hl => match us, hl with | [_, _], _ => rfl
  obtain ⟨f__write_node, U__write_node⟩ := d.def_ 23 (d := dd23) rfl
  have F__write_node : Fun K "_write_node" "_write_node" s_wnode (He.ga K "_write_node") f__write_node := fun_plain U__write_node
  have G__write_node : mg "_write_node" = some (.ref (He.ga K "_write_node")) := He.glo_ok X G (d.fact 23 (f := .glo "_write_node") rfl)
  have B__write_node : Binds K f__write_node P_wnode [] := F__write_node.binds fun _ _ _ _ _ _ us hl => match us, hl with | [_], _ => rfl
  obtain ⟨f__write_nodes, U__write_nodes⟩ := d.def_ 22 (d := dd22) rfl
  have F__write_nodes : Fun K "_write_nodes" "_write_nodes" s_wnodes (He.ga K "_write_nodes") f__write_nodes := fun_plain U__write_nodes
  have G__write_nodes : mg "_write_nodes" = some (.ref (He.ga K "_write_nodes")) := He.glo_ok X G (d.fact 22 (f := .glo "_write_nodes") rfl)
  have B__write_nodes : Binds K f__write_nodes P_wnodes [] := F__write_nodes.binds fun _ _ _ _ _ _ us hl => match us, hl with | [_], _ => rfl
  obtain ⟨f_write, U_write⟩ := d.def_ 16 (d := dd16) rfl
  have F_write : Fun K "write" "write" s_write (He.ga K "write") f_write := fun_plain U_write
  have G_write : mg "write" = some (.ref (He.ga K "write")) := He.glo_ok X G (d.fact 16 (f := .glo "write") rfl)
  have B_write : Binds K f_write P_write [] := F_write.binds fun _ _ _ _ _ _ us hl => match us, hl with | [_], _ => rfl
  obtain ⟨f__law_cell, U__law_cell⟩ := d.def_ 26 (d := dd26) rfl
  have F__law_cell : Fun K "_law_cell" "_law_cell" s_cell (He.ga K "_law_cell") f__law_cell := fun_plain U__law_cell
  have G__law_cell : mg "_law_cell" = some (.ref (He.ga K "_law_cell")) := He.glo_ok X G (d.fact 26 (f := .glo "_law_cell") rfl)
  have B__law_cell : Binds K f__law_cell P_cell [] := F__law_cell.binds fun _ _ _ _ _ _ us hl => match us, hl with | [_, _], _ => rfl
  obtain ⟨f__law_pool, U__law_pool⟩ := d.def_ 27 (d := dd27) rfl
  have F__law_pool : Fun K "_law_pool" "_law_pool" s_pool (He.ga K "_law_pool") f__law_pool := fun_plain U__law_pool
  have G__law_pool : mg "_law_pool" = some (.ref (He.ga K "_law_pool")) := He.glo_ok X G (d.fact 27 (f := .glo "_law_pool") rfl)
  have B__law_pool : Binds K f__law_pool P_pool [] := F__law_pool.binds fun _ _ _ _ _ _ us hl => match us, hl with | [_], _ => rfl
  obtain ⟨f__law_draw, U__law_draw⟩ := d.def_ 28 (d := dd28) rfl
  have F__law_draw : Fun K "_law_draw" "_law_draw" s_draw (He.ga K "_law_draw") f__law_draw := fun_plain U__law_draw
  have G__law_draw : mg "_law_draw" = some (.ref (He.ga K "_law_draw")) := He.glo_ok X G (d.fact 28 (f := .glo "_law_draw") rfl)
  have B__law_draw : Binds K f__law_draw P_draw [] := F__law_draw.binds fun _ _ _ _ _ _ us hl => match us, hl with | [_, _], _ => rfl
  obtain ⟨f__law_words, U__law_words⟩ := d.def_ 29 (d := dd29) rfl
  have F__law_words : Fun K "_law_words" "_law_words" s_words (He.ga K "_law_words") f__law_words := fun_plain U__law_words
  have G__law_words : mg "_law_words" = some (.ref (He.ga K "_law_words")) := He.glo_ok X G (d.fact 29 (f := .glo "_law_words") rfl)
  have B__law_words : Binds K f__law_words P_words [] := F__law_words.binds fun _ _ _ _ _ _ us hl => match us, hl with | [_, _], _ => rfl
  obtain ⟨f__law_chars, U__law_chars⟩ := d.def_ 30 (d := dd30) rfl
  have F__law_chars : Fun K "_law_chars" "_law_chars" s_chars (He.ga K "_law_chars") f__law_chars := fun_plain U__law_chars
  have G__law_chars : mg "_law_chars" = some (.ref (He.ga K "_law_chars")) := He.glo_ok X G (d.fact 30 (f := .glo "_law_chars") rfl)
  have B__law_chars : Binds K f__law_chars P_chars [] := F__law_chars.binds fun _ _ _ _ _ _ us hl => match us, hl with | [_], _ => rfl
  obtain ⟨f__law_form, U__law_form⟩ := d.def_ 31 (d := dd31) rfl
  have F__law_form : Fun K "_law_form" "_law_form" s_form (He.ga K "_law_form") f__law_form := fun_plain U__law_form
  have G__law_form : mg "_law_form" = some (.ref (He.ga K "_law_form")) := He.glo_ok X G (d.fact 31 (f := .glo "_law_form") rfl)
  have B__law_form : Binds K f__law_form P_form [] := F__law_form.binds fun _ _ _ _ _ _ us hl => match us, hl with | [_, _], _ => rfl
  obtain ⟨f__law_thing_of, U__law_thing_of⟩ := d.def_ 32 (d := dd32) rfl
  have F__law_thing_of : Fun K "_law_thing_of" "_law_thing_of" s_thing (He.ga K "_law_thing_of") f__law_thing_of := fun_plain U__law_thing_of
  have G__law_thing_of : mg "_law_thing_of" = some (.ref (He.ga K "_law_thing_of")) := He.glo_ok X G (d.fact 32 (f := .glo "_law_thing_of") rfl)
  have B__law_thing_of : Binds K f__law_thing_of P_thing [] := F__law_thing_of.binds fun _ _ _ _ _ _ us hl => match us, hl with | [_, _], _ => rfl
  obtain ⟨f__law_code, U__law_code⟩ := d.def_ 33 (d := dd33) rfl
  have F__law_code : Fun K "_law_code" "_law_code" s_lcode (He.ga K "_law_code") f__law_code := fun_plain U__law_code
  have G__law_code : mg "_law_code" = some (.ref (He.ga K "_law_code")) := He.glo_ok X G (d.fact 33 (f := .glo "_law_code") rfl)
  have B__law_code : Binds K f__law_code P_lcode [] := F__law_code.binds fun _ _ _ _ _ _ us hl => match us, hl with | [_], _ => rfl
  obtain ⟨f__law_literal, U__law_literal⟩ := d.def_ 34 (d := dd34) rfl
  have F__law_literal : Fun K "_law_literal" "_law_literal" s_llit (He.ga K "_law_literal") f__law_literal := fun_plain U__law_literal
  have G__law_literal : mg "_law_literal" = some (.ref (He.ga K "_law_literal")) := He.glo_ok X G (d.fact 34 (f := .glo "_law_literal") rfl)
  have B__law_literal : Binds K f__law_literal P_llit [] := F__law_literal.binds fun _ _ _ _ _ _ us hl => match us, hl with | [_], _ => rfl
  obtain ⟨f__law_escaped, U__law_escaped⟩ := d.def_ 35 (d := dd35) rfl
  have F__law_escaped : Fun K "_law_escaped" "_law_escaped" s_lesc (He.ga K "_law_escaped") f__law_escaped := fun_plain U__law_escaped
  have G__law_escaped : mg "_law_escaped" = some (.ref (He.ga K "_law_escaped")) := He.glo_ok X G (d.fact 35 (f := .glo "_law_escaped") rfl)
  have B__law_escaped : Binds K f__law_escaped P_lesc [] := F__law_escaped.binds fun _ _ _ _ _ _ us hl => match us, hl with | [_, _], _ => rfl
  obtain ⟨f__law_attribute, U__law_attribute⟩ := d.def_ 36 (d := dd36) rfl
  have F__law_attribute : Fun K "_law_attribute" "_law_attribute" s_lattr (He.ga K "_law_attribute") f__law_attribute := fun_plain U__law_attribute
  have G__law_attribute : mg "_law_attribute" = some (.ref (He.ga K "_law_attribute")) := He.glo_ok X G (d.fact 36 (f := .glo "_law_attribute") rfl)
  have B__law_attribute : Binds K f__law_attribute P_lattr [] := F__law_attribute.binds fun _ _ _ _ _ _ us hl => match us, hl with | [_, _], _ => rfl
  obtain ⟨f__law_attribute_text, U__law_attribute_text⟩ := d.def_ 39 (d := dd39) rfl
  have F__law_attribute_text : Fun K "_law_attribute_text" "_law_attribute_text" s_atext (He.ga K "_law_attribute_text") f__law_attribute_text := fun_plain U__law_attribute_text
  have G__law_attribute_text : mg "_law_attribute_text" = some (.ref (He.ga K "_law_attribute_text")) := He.glo_ok X G (d.fact 39 (f := .glo "_law_attribute_text") rfl)
  have B__law_attribute_text : Binds K f__law_attribute_text P_atext [] := F__law_attribute_text.binds fun _ _ _ _ _ _ us hl => match us, hl with | [_], _ => rfl
  obtain ⟨f__law_sheet, U__law_sheet⟩ := d.def_ 38 (d := dd38) rfl
  have F__law_sheet : Fun K "_law_sheet" "_law_sheet" s_sheetL (He.ga K "_law_sheet") f__law_sheet := fun_plain U__law_sheet
  have G__law_sheet : mg "_law_sheet" = some (.ref (He.ga K "_law_sheet")) := He.glo_ok X G (d.fact 38 (f := .glo "_law_sheet") rfl)
  have B__law_sheet : Binds K f__law_sheet P_sheetL [] := F__law_sheet.binds fun _ _ _ _ _ _ us hl => match us, hl with | [_], _ => rfl
  obtain ⟨f__law_trunk, U__law_trunk⟩ := d.def_ 37 (d := dd37) rfl
  have F__law_trunk : Fun K "_law_trunk" "_law_trunk" s_trunk (He.ga K "_law_trunk") f__law_trunk := fun_plain U__law_trunk
  have G__law_trunk : mg "_law_trunk" = some (.ref (He.ga K "_law_trunk")) := He.glo_ok X G (d.fact 37 (f := .glo "_law_trunk") rfl)
  have B__law_trunk : Binds K f__law_trunk P_trunk [] := F__law_trunk.binds fun _ _ _ _ _ _ us hl => match us, hl with | [_, _], _ => rfl
  obtain ⟨f__law_right, U__law_right⟩ := d.def_ 40 (d := dd40) rfl
  have F__law_right : Fun K "_law_right" "_law_right" s_right (He.ga K "_law_right") f__law_right := fun_plain U__law_right
  have G__law_right : mg "_law_right" = some (.ref (He.ga K "_law_right")) := He.glo_ok X G (d.fact 40 (f := .glo "_law_right") rfl)
  have B__law_right : Binds K f__law_right P_right [] := F__law_right.binds fun _ _ _ _ _ _ us hl => match us, hl with | [_], _ => rfl
  obtain ⟨f_law, U_law⟩ := d.def_ 41 (d := dd41) rfl
  have F_law : Fun K "law" "law" s_law (He.ga K "law") f_law := fun_plain U_law
  have el := hfa.symm.trans (He.glo_ok X G (d.fact 41 (f := .glo "law") rfl))
  cases el
  refine ⟨f_law, fun s v => U_law.bindsA (ps := ["_law_script"]) (fun _ _ _ _ _ _ us hl => match us, hl with | [_], _ => rfl) s [v] rfl, fun base _ _ => ?_⟩
  have D_is_sign : Def P w K mg base "is_sign" 1 P_is_sign spSign (He.ga K "is_sign") f_is_sign := ⟨G_is_sign, F_is_sign.kp, B_is_sign, ok_is_sign F_is_sign T L⟩
  have D_is_text : Def P w K mg base "is_text" 2 P_is_text spText (He.ga K "is_text") f_is_text := ⟨G_is_text, F_is_text.kp, B_is_text, ok_is_text F_is_text T D_is_sign⟩
  have D_is_letter : Def P w K mg base "is_letter" 1 P_is_letter (spBetween 97 122) (He.ga K "is_letter") f_is_letter := ⟨G_is_letter, F_is_letter.kp, B_is_letter, ok_is_letter F_is_letter⟩
  have D_is_digit : Def P w K mg base "is_digit" 1 P_is_digit (spBetween 48 57) (He.ga K "is_digit") f_is_digit := ⟨G_is_digit, F_is_digit.kp, B_is_digit, ok_is_digit F_is_digit⟩
  have D_stands_for_itself : Def P w K mg base "stands_for_itself" 2 P_stands spStands (He.ga K "stands_for_itself") f_stands_for_itself := ⟨G_stands_for_itself, F_stands_for_itself.kp, B_stands_for_itself, ok_stands F_stands_for_itself D_is_letter D_is_digit⟩
  have D_write_text : Def P w K mg base "write_text" 1 P_write_text (spStr wText) (He.ga K "write_text") f_write_text := ⟨G_write_text, F_write_text.kp, B_write_text, ok_write_text F_write_text⟩
  have D_write_attribute : Def P w K mg base "write_attribute" 2 P_write_attribute (spStr wAttr) (He.ga K "write_attribute") f_write_attribute := ⟨G_write_attribute, F_write_attribute.kp, B_write_attribute, ok_write_attribute F_write_attribute D_write_text⟩
  have D_write_code : Def P w K mg base "write_code" 3 P_write_code spCode (He.ga K "write_code") f_write_code := ⟨G_write_code, F_write_code.kp, B_write_code, ok_write_code F_write_code T D_stands_for_itself⟩
  have D_is_name : Def P w K mg base "is_name" 2 P_is_name spIsName (He.ga K "is_name") f_is_name := ⟨G_is_name, F_is_name.kp, B_is_name, ok_is_name F_is_name T L D_is_letter⟩
  have D_kind_of : Def P w K mg base "kind_of" 3 P_kind_of (spKind K) (He.ga K "kind_of") f_kind_of := ⟨G_kind_of, F_kind_of.kp, B_kind_of, ok_kind_of F_kind_of T L D_is_text D_is_name⟩
  have D__is_value_within : Def P w K mg base "_is_value_within" 10 P_within (spWithin K 7) (He.ga K "_is_value_within") f__is_value_within := ⟨G__is_value_within, F__is_value_within.kp, B__is_value_within, ok_within F__is_value_within T G__is_value_within B__is_value_within D_kind_of 7⟩
  have D_is_value : Def P w K mg base "is_value" 11 P_is_value (spIsValue K) (He.ga K "is_value") f_is_value := ⟨G_is_value, F_is_value.kp, B_is_value, ok_is_value F_is_value L D__is_value_within⟩
  have D__write_text : Def P w K mg base "_write_text" 1 P_wtext (spStr fun z => "\"" ++ litT z ++ "\"") (He.ga K "_write_text") f__write_text := ⟨G__write_text, F__write_text.kp, B__write_text, ok_wtext F__write_text W⟩
  have D_write_literal : Def P w K mg base "write_literal" 10 P_wlit (spLit K 7) (He.ga K "write_literal") f_write_literal := ⟨G_write_literal, F_write_literal.kp, B_write_literal, ok_wlit F_write_literal T G_write_literal B_write_literal D_kind_of D__write_text 7⟩
  have D_are_apart : Def P w K mg base "are_apart" 1 P_apart (spApart K) (He.ga K "are_apart") f_are_apart := ⟨G_are_apart, F_are_apart.kp, B_are_apart, ok_apart F_are_apart T⟩
  have D__is_pair : Def P w K mg base "_is_pair" 3 P_is_pair (spPair K) (He.ga K "_is_pair") f__is_pair := ⟨G__is_pair, F__is_pair.kp, B__is_pair, ok_is_pair F__is_pair T D_is_name D_is_text⟩
  have D__is_address : Def P w K mg base "_is_address" 4 P_is_address (spAddress K) (He.ga K "_is_address") f__is_address := ⟨G__is_address, F__is_address.kp, B__is_address, ok_is_address F__is_address T D__is_pair D_is_text⟩
  have D__is_attribute : Def P w K mg base "_is_attribute" 5 P_is_attribute (spAttr K) (He.ga K "_is_attribute") f__is_attribute := ⟨G__is_attribute, F__is_attribute.kp, B__is_attribute, ok_is_attribute F__is_attribute T (tks_of e_ADDRESS) D_is_name D_is_text D__is_address⟩
  have D__are_nodes : Def P w K mg base "_are_nodes" 21 P_are_nodes (spNodes K 5) (He.ga K "_are_nodes") f__are_nodes := ⟨G__are_nodes, F__are_nodes.kp, B__are_nodes, (ok_nodes F__is_node F__are_nodes T G__is_node G__are_nodes B__is_node B__are_nodes (tks_of e_LITERAL) D_is_text D_is_value D_is_name D__is_attribute D_are_apart 5).2⟩
  have D_is_tree : Def P w K mg base "is_tree" 22 P_is_tree (spTree K) (He.ga K "is_tree") f_is_tree := ⟨G_is_tree, F_is_tree.kp, B_is_tree, ok_is_tree F_is_tree e_NESTED D__are_nodes⟩
  have D__write_address : Def P w K mg base "_write_address" 4 P_waddr (spWAddr K) (He.ga K "_write_address") f__write_address := ⟨G__write_address, F__write_address.kp, B__write_address, ok_waddr F__write_address D_write_code⟩
  have D__write_attribute : Def P w K mg base "_write_attribute" 5 P_wattr (spWAttr K) (He.ga K "_write_attribute") f__write_attribute := ⟨G__write_attribute, F__write_attribute.kp, B__write_attribute, ok_wattr F__write_attribute (tks_of e_ADDRESS) D__write_address D_write_attribute⟩
  have D__write_nodes : Def P w K mg base "_write_nodes" 20 P_wnodes (spWNodes K 5) (He.ga K "_write_nodes") f__write_nodes := ⟨G__write_nodes, F__write_nodes.kp, B__write_nodes, (ok_wnodes F__write_node F__write_nodes G__write_node G__write_nodes B__write_node B__write_nodes D_write_text D_write_literal D__write_attribute 5).2⟩
  have D_write : Def P w K mg base "write" 23 P_write (spWrite K) (He.ga K "write") f_write := ⟨G_write, F_write.kp, B_write, ok_write F_write D_is_tree D__write_nodes⟩
  have D__law_cell : Def P w K mg base "_law_cell" 1 P_cell (spCell K) (He.ga K "_law_cell") f__law_cell := ⟨G__law_cell, F__law_cell.kp, B__law_cell, ok_cell F__law_cell T⟩
  have D__law_pool : Def P w K mg base "_law_pool" 1 P_pool spPool (He.ga K "_law_pool") f__law_pool := ⟨G__law_pool, F__law_pool.kp, B__law_pool, ok_pool F__law_pool T⟩
  have D__law_draw : Def P w K mg base "_law_draw" 1 P_draw spDraw (He.ga K "_law_draw") f__law_draw := ⟨G__law_draw, F__law_draw.kp, B__law_draw, ok_draw F__law_draw T⟩
  have D__law_words : Def P w K mg base "_law_words" 2 P_words spWords (He.ga K "_law_words") f__law_words := ⟨G__law_words, F__law_words.kp, B__law_words, ok_words F__law_words T D__law_draw⟩
  have D__law_chars : Def P w K mg base "_law_chars" 2 P_chars spChars (He.ga K "_law_chars") f__law_chars := ⟨G__law_chars, F__law_chars.kp, B__law_chars, ok_chars F__law_chars T D__law_draw⟩
  have D__law_form : Def P w K mg base "_law_form" 5 P_form (spFormL K 3) (He.ga K "_law_form") f__law_form := ⟨G__law_form, F__law_form.kp, B__law_form, ok_form F__law_form T G__law_form B__law_form D__law_draw D__law_words 3⟩
  have D__law_thing_of : Def P w K mg base "_law_thing_of" 7 P_thing (spThingL K 5) (He.ga K "_law_thing_of") f__law_thing_of := ⟨G__law_thing_of, F__law_thing_of.kp, B__law_thing_of, ok_thing F__law_thing_of T G__law_thing_of B__law_thing_of D__law_draw D__law_chars 5⟩
  have D__law_code : Def P w K mg base "_law_code" 1 P_lcode spCode (He.ga K "_law_code") f__law_code := ⟨G__law_code, F__law_code.kp, B__law_code, ok_lcode F__law_code T⟩
  have D__law_literal : DefT P w K mg base "_law_literal" 7 P_llit (spLit K 7) (He.ga K "_law_literal") f__law_literal := ⟨G__law_literal, F__law_literal.kp, B__law_literal, ok_llit F__law_literal T G__law_literal B__law_literal 7⟩
  have D__law_escaped : Def P w K mg base "_law_escaped" 8 P_lesc (spEsc K) (He.ga K "_law_escaped") f__law_escaped := ⟨G__law_escaped, F__law_escaped.kp, B__law_escaped, ok_lesc F__law_escaped T D__law_literal D__law_code⟩
  have D__law_attribute : Def P w K mg base "_law_attribute" 3 P_lattr (spLAttr K) (He.ga K "_law_attribute") f__law_attribute := ⟨G__law_attribute, F__law_attribute.kp, B__law_attribute, ok_lattr F__law_attribute T D__law_draw D__law_chars D__law_words⟩
  have D__law_attribute_text : Def P w K mg base "_law_attribute_text" 9 P_atext (spAText K) (He.ga K "_law_attribute_text") f__law_attribute_text := ⟨G__law_attribute_text, F__law_attribute_text.kp, B__law_attribute_text, ok_atext F__law_attribute_text D__law_escaped D__law_code⟩
  have D__law_sheet : Def P w K mg base "_law_sheet" 15 P_sheetL (spSheet K 5) (He.ga K "_law_sheet") f__law_sheet := ⟨G__law_sheet, F__law_sheet.kp, B__law_sheet, ok_sheet F__law_sheet T G__law_sheet B__law_sheet D__law_escaped D__law_literal D__law_attribute_text 5⟩
  have D__law_trunk : Def P w K mg base "_law_trunk" 19 P_trunk (spTrunk K 4) (He.ga K "_law_trunk") f__law_trunk := ⟨G__law_trunk, F__law_trunk.kp, B__law_trunk, ok_trunk F__law_trunk T G__law_trunk B__law_trunk D__law_draw D__law_words D__law_chars D__law_form D__law_thing_of D__law_attribute D__law_sheet 4⟩
  have D__law_right : DefG P w K mg base "_law_right" 24 P_right spRight (He.ga K "_law_right") f__law_right := ⟨G__law_right, F__law_right.kp, B__law_right, ok_right F__law_right T D__law_trunk D__law_sheet D_write (kb_write F_write)⟩
  exact ok_law F_law T D_write D__law_right D__law_pool D__law_cell
end KX
open PySem PySem.W PySem.Calls PyProof.Rows
theorem PySem.Challenge.cw_shapekeep_k17_pages_of_trees_holds : PySem.Challenge.rw_shapekeep_k17_pages_of_trees.Holds := by
  w_on; o_law
  refine HandSHeadRun.head_any (r := KX.R) (q := view KX.R.prog [63]) (H := KX.hk) (ob := KX.ob) (M := 4000) (loose := KX.loose) (d := HandSHeadRun.topDef KX.R.prog 63) (kwd := []) KX.ob_eq
    (by kernel_rfl) (fun s => by kernel_rfl) KX.run (by kernel_rfl) (by kernel_rfl) (by kernel_rfl) (by rfl) (by first | assumption | decide +kernel) (by decide +kernel) ⟨rfl, rfl, rfl, rfl, rfl, by decide +kernel⟩ ?hw ?hc
  case hw => w_witness2
  case hc =>
    refine KX.walk_g (l := PySem.Challenge.rw_shapekeep_k17_pages_of_trees) (n := 63) (k := 25) (x := "_law_script") rfl (by decide) (by kernel_rfl) ⟨rfl, by decide, by decide⟩ ?_
    intro w mg fa h Y G hmg0
    obtain ⟨K, KI, c⟩ := Y
    have hmg : mg ("law" : PySem.Str) = some (.ref fa) := by
      have e : (HandSHeadRun.topDef KX.R.prog 63).name = ("law" : PySem.Str) := by kernel_rfl
      rw [← e]
      exact hmg0
    obtain ⟨fd, hb, hF⟩ := KX.facts (P := PySem.Challenge.rw_shapekeep_k17_pages_of_trees.prog) (w := w) KI G hmg c
    exact ⟨K, fd, KX.spLaw K, KI, hb, fun H a ns hl hS => ⟨a, ns, rfl, hS, hl, fun _ => rfl⟩, hF⟩

